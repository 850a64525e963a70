/-
  GridFills walked: true of any rectangle and any cells. No conditions.
-/
import Derived.Test.YtmpmdlbhiogelaaE6
import Derived.Test.YtmpmdlbhiogelaaE2
namespace Go.Proofs.Ytmpmdlbhiogelaa
open Go.RowKit

theorem cntRow_split (p : Nat → Bool) (w : Nat) : ∀ n m, cntRow p (n * w + m) = cntAll (fun X Y => p (Y * w + X)) w n + cntRow (fun X => p (n * w + X)) m
  | 0, m => by
    simp only [Nat.zero_mul, Nat.zero_add, cntAll]
  | n + 1, 0 => by
    have h := cntRow_split p w n w
    rw [Nat.add_zero, Nat.succ_mul, h]
    rfl
  | n + 1, m + 1 => by
    have h := cntRow_split p w (n + 1) m
    show cntRow p ((n + 1) * w + m) + (if p ((n + 1) * w + m) = true then 1 else 0) = cntAll (fun X Y => p (Y * w + X)) w (n + 1) + (cntRow (fun X => p ((n + 1) * w + X)) m + if p ((n + 1) * w + m) = true then 1 else 0)
    rw [h]
    omega

theorem tmod_nat (i : Nat) : Int.tmod (i : Int) 12 = ((i % 12 : Nat) : Int) := by rw [Int.tmod_eq_emod_of_nonneg (by omega)]; rfl

theorem tdiv_nat (i : Nat) : Int.tdiv (i : Int) 12 = ((i / 12 : Nat) : Int) := by rw [Int.tdiv_eq_ediv_of_nonneg (by omega)]; rfl

theorem not_zero {c : Cl} (h : c ≠ Cl.zero) : ¬ (c.r = 0 ∧ c.fg = 0 ∧ c.bg = 0 ∧ c.fl = 0) := fun ⟨h0, h1, h2, h3⟩ => h (by obtain ⟨a, b, d, e⟩ := c; simp only at h0 h1 h2 h3; subst h0 h1 h2 h3; rfl)

set_option maxRecDepth 100000 in
set_option maxHeartbeats 1000000 in
theorem fills6 (r : R) (c d : Cl) (x y : Nat) (w : World) (hx : x < 256) (hy : y < 256) : Calls Try.prog 6 #[.agg #[.int .i64 r.x, .int .i64 r.y, .int .i64 r.w, .int .i64 r.h], .agg #[.int .i32 c.r, .int .i64 c.fg, .int .i64 c.bg, .int .i64 c.fl], .agg #[.int .i32 d.r, .int .i64 d.fg, .int .i64 d.bg, .int .i64 d.fl], .int .u8 (x : Nat), .int .u8 (y : Nat)] w (LawTrue w) := by
  have hs0 : Stay (fun _ => False) w (((w.alloc (.cells #[.int .i64 r.x, .int .i64 r.y, .int .i64 r.w, .int .i64 r.h] 31)).alloc (.cells #[.int .i32 c.r, .int .i64 c.fg, .int .i64 c.bg, .int .i64 c.fl] 35)).alloc (.cells #[.int .i32 d.r, .int .i64 d.fg, .int .i64 d.bg, .int .i64 d.fl] 35)) := (((Stay.refl _ _).alloc _).alloc _).alloc _
  have HS := hide' hs0
  have HBR := hide' (((Box.new (w := w) r rfl).alloc (.cells #[.int .i32 c.r, .int .i64 c.fg, .int .i64 c.bg, .int .i64 c.fl] 35)).alloc (.cells #[.int .i32 d.r, .int .i64 d.fg, .int .i64 d.bg, .int .i64 d.fl] 35))
  have HBC := hide' ((BoxC.new (w := w.alloc (.cells #[.int .i64 r.x, .int .i64 r.y, .int .i64 r.w, .int .i64 r.h] 31)) c (by simp) : BoxC _ (w.heap.size + 1) c).alloc (.cells #[.int .i32 d.r, .int .i64 d.fg, .int .i64 d.bg, .int .i64 d.fl] 35))
  have HBD := hide' (BoxC.new (w := (w.alloc (.cells #[.int .i64 r.x, .int .i64 r.y, .int .i64 r.w, .int .i64 r.h] 31)).alloc (.cells #[.int .i32 c.r, .int .i64 c.fg, .int .i64 c.bg, .int .i64 c.fl] 35)) d (by simp) : BoxC _ (w.heap.size + 2) d)
  have HSZ : Hid (w.heap.size + 3 = ((((w.alloc (.cells #[.int .i64 r.x, .int .i64 r.y, .int .i64 r.w, .int .i64 r.h] 31)).alloc (.cells #[.int .i32 c.r, .int .i64 c.fg, .int .i64 c.bg, .int .i64 c.fl] 35)).alloc (.cells #[.int .i32 d.r, .int .i64 d.fg, .int .i64 d.bg, .int .i64 d.fl] 35))).heap.size) := show _ = _ by simp
  have HN := hide' (new8 12 12 (((w.alloc (.cells #[.int .i64 r.x, .int .i64 r.y, .int .i64 r.w, .int .i64 r.h] 31)).alloc (.cells #[.int .i32 c.r, .int .i64 c.fg, .int .i64 c.bg, .int .i64 c.fl] 35)).alloc (.cells #[.int .i32 d.r, .int .i64 d.fg, .int .i64 d.bg, .int .i64 d.fl] 35)) (by decide) (by decide) (by decide) (by decide))
  obtain ⟨x0, y0, a0, b0, hq, hx0, hy0, hm⟩ := both_whole r 12 12 (by decide) (by decide)
  have hA : areaI (bothR r (⟨0, 0, 12, 12⟩ : R)) = ((a0 * b0 : Nat) : Int) := by rw [show (⟨0, 0, 12, 12⟩ : R) = (⟨0, 0, (12 : Nat), (12 : Nat)⟩ : R) from rfl, hq]; exact area_nat _ _ _ _ (by omega)
  have hN : a0 * b0 ≤ 144 := Nat.mul_le_mul (show a0 ≤ 12 by omega) (show b0 ≤ 12 by omega)
  obtain ⟨N, hNN⟩ : ∃ n, n = a0 * b0 := ⟨_, rfl⟩
  rw [← hNN] at hA hN
  have HA := hide' hA
  have HM := hide' hm
  have HNN := hide' (show x0 + a0 ≤ 12 ∧ y0 + b0 ≤ 12 ∧ N = a0 * b0 from ⟨hx0, hy0, hNN⟩)
  have n1 : (N : Int) ≤ 144 := by omega
  have n2 : ¬ (N : Int) < 0 := by omega
  have n3 : ¬ (144 : Int) < (N : Int) := by omega
  have xw : IntKind.i64.wrap (x : Int) = x := by rw [IntKind.wrap_i64]; omega
  have yw : IntKind.i64.wrap (y : Int) = y := by rw [IntKind.wrap_i64]; omega
  have xt := tmod_nat x
  have yt := tmod_nat y
  clear hs0 hq hx0 hy0 hm hA hNN hN
  go_enter Try.func6, Try.ntmps6
  go_upto_region 1 with fail
  obtain ⟨W, hW⟩ : ∃ W, W = (((w.alloc (.cells #[.int .i64 r.x, .int .i64 r.y, .int .i64 r.w, .int .i64 r.h] 31)).alloc (.cells #[.int .i32 c.r, .int .i64 c.fg, .int .i64 c.bg, .int .i64 c.fl] 35)).alloc (.cells #[.int .i32 d.r, .int .i64 d.fg, .int .i64 d.bg, .int .i64 d.fl] 35)) := ⟨_, rfl⟩
  rw [← hW] at HS HBR HBC HBD HSZ HN
  rw [← hW]
  clear hW
  go_wp2_with fail
  refine HN.out.mono ?_
  rintro e w1 ⟨G, rfl, hs, hG, hw, hh, hab⟩
  have HWH := hide' (show G.w = 12 ∧ G.h = 12 ∧ w.heap.size + 3 ≤ G.bc from ⟨hw, hh, by have := hab.2.2; have := HSZ.out; omega⟩)
  have HS1 := hide' (HS.out.trans hs)
  have HBR1 := hide' (HBR.out.keep hs)
  have HBC1 := hide' (HBC.out.keep hs)
  have HBD1 := hide' (HBD.out.keep hs)
  have HF1 := hide' (fill14 G _ r d w1 hG)
  clear hs hG hw hh hab HS HBR HBC HBD HSZ HN
  obtain ⟨r0, r1, r2, r3, r4, r5, r6, r7⟩ := HBR1.out
  obtain ⟨d0, d1, d2, d3, d4, d5, d6, d7⟩ := HBD1.out
  go_wp2_with fail
  refine HF1.out.mono ?_
  rintro e w2 ⟨F1, ⟨rfl, hst, hG⟩, hf1⟩
  clear r0 r1 r2 r3 r4 r5 r6 r7 d0 d1 d2 d3 d4 d5 d6 d7
  have HS2 : Hid (Stay (fun _ => False) w w2) := HS1.out.trans' hst (by have := HWH.out; omega)
  have HBR2 := hide' (HBR1.out.stay hst (by have := HWH.out; omega))
  have HBC2 := hide' (HBC1.out.stay hst (by have := HWH.out; omega))
  have HFF1 := hide' hf1
  have HF2 := hide' (fill14 G _ r c w2 hG)
  have hE : areaI (bothR r ⟨0, 0, (G.w : Nat), (G.h : Nat)⟩) = (N : Int) := by rw [HWH.out.1, HWH.out.2.1]; exact HA.out
  rw [hE] at HF2
  have HE := hide' hE
  rw [hE]
  clear hst hG hf1 HS1 HBR1 HBC1 HBD1 HF1 hE
  obtain ⟨r0, r1, r2, r3, r4, r5, r6, r7⟩ := HBR2.out
  obtain ⟨d0, d1, d2, d3, d4, d5, d6, d7⟩ := HBC2.out
  go_wp2_with fail
  refine HF2.out.mono ?_
  rintro e w3 ⟨F, ⟨rfl, hst, hG⟩, hf2⟩
  clear r0 r1 r2 r3 r4 r5 r6 r7 d0 d1 d2 d3 d4 d5 d6 d7
  have HS3 : Hid (Stay (fun _ => False) w w3) := HS2.out.trans' hst (by have := HWH.out; omega)
  have HBC3 := hide' (HBC2.out.stay hst (by have := HWH.out; omega))
  have HG3 := hide' hG
  have HCELL : Hid (∀ X Y : Nat, X < 12 → Y < 12 → F (Y * 12 + X) = if (x0 ≤ X ∧ X < x0 + a0 ∧ y0 ≤ Y ∧ Y < y0 + b0) then c else Cl.zero) := fun X Y hX hY => by
    have h1 := hf2 X Y (by have := HWH.out; omega) (by have := HWH.out; omega)
    have h2 := HFF1.out X Y (by have := HWH.out; omega) (by have := HWH.out; omega)
    rw [HWH.out.1] at h1 h2
    rw [h1]
    by_cases hr : rightB r = true ∧ inB r X Y = true
    · rw [if_pos hr, if_pos ((HM.out X Y hX hY).1 hr)]
    · rw [if_neg hr, if_neg (mt (HM.out X Y hX hY).2 hr), h2, if_neg hr]
  clear hst hG hf2 HS2 HBR2 HBC2 HF2 HFF1 HM HA HE
  obtain ⟨wq, hwq⟩ : ∃ W, W = w3 := ⟨_, rfl⟩
  have HQ0 : Hid (Stay (fun _ => False) wq w3) := by rw [hwq]; exact Stay.refl _ _
  have HSQ : Hid (Stay (fun _ => False) w wq) := by rw [hwq]; exact HS3.out
  clear hwq
  go_wp2_with fail
  go_loopg [13, 14] 144 (fun g v13 v14 wr => ∃ k : Nat, k ≤ 144 ∧ g = 144 - k ∧ v13 = .int .i64 (cntRow (fun i => decide (F i = c)) k : Nat) ∧ v14 = .int .i64 (k : Int) ∧ Hid (Stay (fun _ => False) wq wr ∧ BoxC wr (w.heap.size + 1) c ∧ GridAt wr G F))
  case atStart => exact ⟨0, Nat.zero_le _, rfl, rfl, rfl, HQ0.out, HBC3.out, HG3.out⟩
  case round =>
    obtain ⟨k, hk, rfl, rfl, rfl, HI⟩ := hrel
    by_cases hlt : k < 144
    · have kn : (k : Int) < 144 := by omega
      have k0 : (0 : Int) ≤ k := by omega
      have e1 := tmod_nat k
      have e2 := tdiv_nat k
      obtain ⟨X, hX⟩ : ∃ X, X = k % 12 := ⟨_, rfl⟩
      obtain ⟨Y, hY⟩ : ∃ Y, Y = k / 12 := ⟨_, rfl⟩
      rw [← hX] at e1
      rw [← hY] at e2
      have e3 : IntKind.i64.wrap (X : Int) = X := by rw [IntKind.wrap_i64]; omega
      have e4 : IntKind.i64.wrap (Y : Int) = Y := by rw [IntKind.wrap_i64]; omega
      have HAT : Hid (∀ W, GridAt W G F → Calls Try.prog 20 #[.pointer (some ⟨G.g, 0, none⟩), .int .i64 (X : Nat), .int .i64 (Y : Nat)] W (Gives (.agg #[.int .i32 (F k).r, .int .i64 (F k).fg, .int .i64 (F k).bg, .int .i64 (F k).fl]) W)) := fun W h => by
        have := at20 G F X Y W h (by unfold I64; omega) (by unfold I64; omega)
        rw [atF_nat F (by have := HWH.out; omega) (by have := HWH.out; omega), HWH.out.1, show Y * 12 + X = k by omega] at this
        exact this
      obtain ⟨m, hm⟩ : ∃ m, m = cntRow (fun i => decide (F i = c)) k := ⟨_, rfl⟩
      have hmb : m ≤ 144 := by have := cntRow_bd (fun i => decide (F i = c)) k; omega
      have HM : Hid (∀ b, decide (F k = c) = b → cntRow (fun i => decide (F i = c)) (k + 1) = m + if b = true then 1 else 0) := fun b hb => by
        rw [← hb, hm]
        rfl
      rw [← hm]
      obtain ⟨cb, hcb⟩ : ∃ b, decide (F k = c) = b := ⟨_, rfl⟩
      have HCB := hide' hcb
      have HM2 := hide' (HM.out cb hcb)
      clear hm hcb hX hY HM
      go_upto_region 11 with fail
      have hS : (fun w' => Stay (fun _ => False) wq w' ∧ BoxC w' (w.heap.size + 1) c ∧ GridAt w' G F) wr.drew := ⟨HI.out.1.drew, HI.out.2.1.keep (Stay.refl _ _).drew, HI.out.2.2.keep (Stay.refl _ _).drew⟩
      refine wp_region_mix (fun w' => Stay (fun _ => False) wq w' ∧ BoxC w' (w.heap.size + 1) c ∧ GridAt w' G F) [(0, true), (1, true), (2, true), (3, true), (4, true), (6, true), (5, false), (7, true)] (by kernel_rfl) (by kernel_rfl) (fun _ d _ _ _ h => by cases d <;> exact h) hS ?_
      refine mix_begin (fun K0 hK0 => ?_)
      refine mix_take hK0 (some 41) (.move (.tmp 11)) 24 _ (by kernel_rfl) (by kernel_rfl) (fun w' hS' => by simp only [opr]; go_simp; try with_reducible rfl) (fun K1 hK1 => ?_)
      clear hK0 K0
      simp only [Act.put, List.setIfInBounds_toArray, List.set_cons_zero, List.set_cons_succ]
      refine mix_take hK1 (some 42) (.move (.tmp 14)) 3 _ (by kernel_rfl) (by kernel_rfl) (fun w' hS' => by simp only [opr]; go_simp; try with_reducible rfl) (fun K2 hK2 => ?_)
      clear hK1 K1
      simp only [Act.put, List.setIfInBounds_toArray, List.set_cons_zero, List.set_cons_succ]
      refine mix_take hK2 (some 43) (.binOp BinOp.rem 3 (.tmp 42) (.const (Value.int IntKind.i64 12)) 3) 3 _ (by kernel_rfl) (by kernel_rfl) (fun w' hS' => by simp only [opr]; go_simp; try with_reducible rfl) (fun K3 hK3 => ?_)
      clear hK2 K2
      simp only [Act.put, List.setIfInBounds_toArray, List.set_cons_zero, List.set_cons_succ]
      refine mix_take hK3 (some 44) (.move (.tmp 14)) 3 _ (by kernel_rfl) (by kernel_rfl) (fun w' hS' => by simp only [opr]; go_simp; try with_reducible rfl) (fun K4 hK4 => ?_)
      clear hK3 K3
      simp only [Act.put, List.setIfInBounds_toArray, List.set_cons_zero, List.set_cons_succ]
      refine mix_take hK4 (some 45) (.binOp BinOp.quo 3 (.tmp 44) (.const (Value.int IntKind.i64 12)) 3) 3 _ (by kernel_rfl) (by kernel_rfl) (fun w' hS' => by simp only [opr]; go_simp; try with_reducible rfl) (fun K5 hK5 => ?_)
      clear hK4 K4
      simp only [Act.put, List.setIfInBounds_toArray, List.set_cons_zero, List.set_cons_succ]
      refine mix_take hK5 (some 47) (.load 35 (.tmp 6)) 35 _ (by kernel_rfl) (by kernel_rfl) (fun w' hS' => by first | exact run_load_BoxC rfl rfl hS'.2.1) (fun K6 hK6 => ?_)
      clear hK5 K5
      simp only [Act.put, List.setIfInBounds_toArray, List.set_cons_zero, List.set_cons_succ]
      refine mix_call hK6 (some 46) 20 #[.tmp 41, .tmp 43, .tmp 45] #[24, 3, 3] 35 _ (by kernel_rfl) (by kernel_rfl) (enters Try.func20 (by kernel_rfl) (by kernel_rfl)) (by go_simp; try with_reducible rfl) (fun K7 hK7 => ?_)
      clear hK6 K6
      refine (HAT.out _ hS.2.2).mono ?_
      rintro e wm1 ⟨rfl, hs1⟩
      have hS1 : _ := (⟨hS.1.trans hs1, hS.2.1.keep hs1, hS.2.2.keep hs1⟩ : (fun w' => Stay (fun _ => False) wq w' ∧ BoxC w' (w.heap.size + 1) c ∧ GridAt w' G F) wm1)
      refine ⟨_, rfl, hS1, ?_⟩
      clear hs1
      simp only [Act.put, List.setIfInBounds_toArray, List.set_cons_zero, List.set_cons_succ]
      refine mix_take hK7 (some 48) (.binOp BinOp.eql 35 (.tmp 46) (.tmp 47) 35) 4 _ (by kernel_rfl) (by kernel_rfl) (fun w' hS' => by exact eqlC_op cb _ _ rfl rfl HCB.out) (fun K8 hK8 => ?_)
      clear hK7 K7
      simp only [Act.put, List.setIfInBounds_toArray, List.set_cons_zero, List.set_cons_succ]
      refine hK8 _ _ (mix_nil ?_)
      clear hK8 K8
      have HI2 := hide' hS1
      clear hS hS1 HI HAT
      cases cb
      · go_wp2
        go_roundg (144 - (k + 1))
        case measure => omega
        case rel => exact ⟨k + 1, by omega, rfl, by rw [HM2.out]; simp, by go_num, HI2⟩
      · go_wp2
        go_roundg (144 - (k + 1))
        case measure => omega
        case rel => exact ⟨k + 1, by omega, rfl, by rw [HM2.out]; go_num, by go_num, HI2⟩
    · have hk3 : k = 144 := by omega
      subst hk3
      have d1 : decide (((144 : Nat) : Int) < 144) = false := by decide
      obtain ⟨X, hX⟩ : ∃ X, X = x % 12 := ⟨_, rfl⟩
      obtain ⟨Y, hY⟩ : ∃ Y, Y = y % 12 := ⟨_, rfl⟩
      rw [← hX] at xt
      rw [← hY] at yt
      have e3 : IntKind.i64.wrap (X : Int) = X := by rw [IntKind.wrap_i64]; omega
      have e4 : IntKind.i64.wrap (Y : Int) = Y := by rw [IntKind.wrap_i64]; omega
      obtain ⟨p, hp⟩ : ∃ p, p = F (Y * 12 + X) := ⟨_, rfl⟩
      have HAT : Hid (∀ W, GridAt W G F → Calls Try.prog 20 #[.pointer (some ⟨G.g, 0, none⟩), .int .i64 (X : Nat), .int .i64 (Y : Nat)] W (Gives (.agg #[.int .i32 p.r, .int .i64 p.fg, .int .i64 p.bg, .int .i64 p.fl]) W)) := fun W h => by
        have := at20 G F X Y W h (by unfold I64; omega) (by unfold I64; omega)
        rw [atF_nat F (by have := HWH.out; omega) (by have := HWH.out; omega), HWH.out.1, ← hp] at this
        exact this
      have HP : Hid (p = c ∨ p = Cl.zero) := by
        rw [hp, HCELL.out X Y (by omega) (by omega)]
        show (if _ then c else Cl.zero) = c ∨ (if _ then c else Cl.zero) = Cl.zero
        split
        · exact .inl rfl
        · exact .inr rfl
      have HCN : Hid (c ≠ Cl.zero → cntRow (fun i => decide (F i = c)) 144 = N) := fun hc => by
        have h1 := cntRow_split (fun i => decide (F i = c)) 12 12 0
        rw [show 12 * 12 + 0 = 144 from rfl] at h1
        rw [h1, HNN.out.2.2]
        show cntAll _ 12 12 + 0 = _
        rw [Nat.add_zero]
        refine cntAll_rect HNN.out.1 HNN.out.2.1 (fun X Y hX hY => ?_)
        rw [decide_eq_true_eq, HCELL.out X Y hX hY]
        split
        · rename_i h; exact ⟨fun _ => h, fun _ => rfl⟩
        · rename_i h; exact ⟨fun h2 => absurd h2.symm hc, fun h2 => absurd h2 h⟩
      obtain ⟨M, hM⟩ : ∃ M, M = cntRow (fun i => decide (F i = c)) 144 := ⟨_, rfl⟩
      rw [← hM] at HCN
      rw [← hM]
      have HG4 := hide' HI.out.2.2
      have HB4 := hide' HI.out.2.1
      have HS4 := hide' (HSQ.out.trans HI.out.1)
      have HAW := hide' awake7
      clear HI hX hY hp hM
      go_wp2_with fail
      refine (HAT.out _ HG4.out).mono ?_
      rintro e w5 ⟨rfl, hs⟩
      have HS5 := hide' (HS4.out.trans hs)
      have HB5 := hide' (HB4.out.keep hs)
      clear hs HS4 HB4 HG4 HAT
      have HS6 := hide' (HS5.out.alloc (.cells #[.int .i32 p.r, .int .i64 p.fg, .int .i64 p.bg, .int .i64 p.fl] 35))
      have HB6 := hide' ((HB5.out).alloc (.cells #[.int .i32 p.r, .int .i64 p.fg, .int .i64 p.bg, .int .i64 p.fl] 35))
      have HP6 := hide' (BoxC.new (w := w5) p rfl)
      go_upto_region 14 with fail
      obtain ⟨W6, hW6⟩ : ∃ W, W = (w5.alloc (.cells #[.int .i32 p.r, .int .i64 p.fg, .int .i64 p.bg, .int .i64 p.fl] 35)) := ⟨_, rfl⟩
      rw [← hW6] at HS6 HB6 HP6
      rw [← hW6]
      clear hW6
      by_cases hpc : p = c
      · rw [hpc] at HP6
        by_cases hcz : c = Cl.zero
        · rw [hcz] at HP6 HB6
          obtain ⟨d0, d1, d2, d3, d4, d5, d6, d7⟩ := HB6.out
          obtain ⟨f0, f1, f2, f3, f4, f5, f6, f7⟩ := HP6.out
          simp only [Cl.zero] at d0 d1 d2 d3 f0 f1 f2 f3
          clear hpc hcz
          go_wp2_with fail
          all_goals first
            | (exfalso; omega)
            | (refine (HAW.out _).mono ?_
               rintro e w9 ⟨rfl, hs⟩
               have HE := hide' (HS6.out.trans hs)
               clear hs
               go_wp2
               go_ret
               exact ⟨by simp, HE.out⟩)
        · have hz := not_zero hcz
          obtain rfl := HCN.out hcz
          obtain ⟨d0, d1, d2, d3, d4, d5, d6, d7⟩ := HB6.out
          obtain ⟨f0, f1, f2, f3, f4, f5, f6, f7⟩ := HP6.out
          clear hpc hcz
          go_wp2_with fail
          all_goals first
            | (exfalso; omega)
            | (refine (HAW.out _).mono ?_
               rintro e w9 ⟨rfl, hs⟩
               have HE := hide' (HS6.out.trans hs)
               clear hs
               go_wp2
               go_ret
               exact ⟨by simp, HE.out⟩)
      · have hpz : p = Cl.zero := HP.out.resolve_left hpc
        have hcz : c ≠ Cl.zero := fun h => hpc (hpz.trans h.symm)
        have hz := not_zero hcz
        obtain rfl := HCN.out hcz
        rw [hpz] at HP6
        obtain ⟨d0, d1, d2, d3, d4, d5, d6, d7⟩ := HB6.out
        obtain ⟨f0, f1, f2, f3, f4, f5, f6, f7⟩ := HP6.out
        simp only [Cl.zero] at f0 f1 f2 f3
        clear hpc hcz hpz
        go_wp2_with fail
        all_goals first
          | (exfalso; omega)
          | (refine (HAW.out _).mono ?_
             rintro e w9 ⟨rfl, hs⟩
             have HE := hide' (HS6.out.trans hs)
             clear hs
             go_wp2
             go_ret
             exact ⟨by simp, HE.out⟩)

end Go.Proofs.Ytmpmdlbhiogelaa
