/-
  FrameOthers walked: true of any arguments. No conditions.
-/
import Derived.Test.YtcealbdinbfegaaF4
import Derived.Test.YtcealbdinbfegaaA3
namespace Go.Proofs.Ytcealbdinbfegaa
open Go.RowKit

/-- Writes that came in, one by one. -/
def Ws (w : World) (ad : Option Addr) (n : Nat) (A : Nat → Wr) : Prop :=
  ∀ i, i < n → ∃ g o, ad = some ⟨g, o, none⟩ ∧ WBoxAt w g (o + i * 6) (A i) ∧ I64 (A i).x ∧ I64 (A i).y

/-- A write among others, to be read by its parts. -/
theorem WBoxAt.read {w W : World} {g o : Nat} {p : Wr} (h : WBoxAt w g o p) (hs : Stay (fun _ => False) w W) : W.cell? ⟨g, o, none⟩ = some (.int .i64 p.x) ∧ W.cell? ⟨g, o + 1, none⟩ = some (.int .i64 p.y) ∧ BoxCAt W g (o + 2) p.cl := by
  have k := h.keep hs
  exact ⟨k.c0, k.c1, ⟨k.c2, k.c3, k.c4, k.c5⟩⟩

theorem setF_other {a h X Y : Nat} {x y : Int} (f : Nat → Cl) (c : Cl) (hX : X < a) (hY : Y < h) (hn : ¬ (insB a h x y = true ∧ x = X ∧ y = Y)) : atF a h (setF a h f x y c) X Y = atF a h f X Y := by
  rw [atF_nat _ hX hY, atF_nat _ hX hY]
  cases hi : insB a h x y with
  | false => rw [setF_out f c hi]
  | true =>
    obtain ⟨U, V, rfl, rfl, hU, hV⟩ := ins_true hi
    rw [setF_nat f c hU hV]
    show (if Y * a + X = V * a + U then c else f (Y * a + X)) = _
    refine if_neg fun e => hn ⟨hi, ?_⟩
    obtain ⟨h1, h2⟩ := idx_inj hX hU e
    exact ⟨by rw [h1], by rw [h2]⟩

/-- What holds while the cells are looked at. -/
structure OIn (w : World) (b : Nat) (G : Gr) (q : Fm) (f f2 : Nat → Cl) (L : List Wr) (v : Value) (wr : World) : Prop where
  fin : FIn w wr b 12 12 q f2 []
  gr : GridAt wr G f
  gw : G.w = 12
  gh : G.h = 12
  win : Win wr 6 v L.length (wrs L)

theorem OIn.keep {w wr w1 : World} {b : Nat} {G : Gr} {q : Fm} {f f2 : Nat → Cl} {L : List Wr} {v : Value} (h : OIn w b G q f f2 L v wr) (hs : Stay (fun _ => False) wr w1) : OIn w b G q f f2 L v w1 :=
  ⟨h.fin.keep hs, h.gr.keep hs, h.gw, h.gh, h.win.stay hs (fun _ _ h => h)⟩

theorem GridAt.apart2 {T : Nat → Prop} {W W1 : World} {G : Gr} {f : Nat → Cl} {B S : Nat} (h : GridAt W G f) (hs : Stay T W W1) (ha : G.above B) (hl : G.g < S ∧ G.br < S ∧ G.bc < S) (hT : ∀ j, T j → j < B ∨ S ≤ j) : GridAt W1 G f := by
  have key : ∀ j, B ≤ j → j < S → ¬ T j := fun j h1 h2 e => by
    rcases hT j e with h3 | h3 <;> omega
  exact h.stay hs (key _ ha.1 hl.1) (key _ ha.2.1 hl.2.1) (key _ ha.2.2 hl.2.2)

set_option maxRecDepth 100000 in
theorem fothers_long (ad : Option Addr) (n cap : Nat) (w : World) (hle : (n : Int) ≤ 9223372036854775807) (hn : 60 < n) : Calls Try.prog 4 #[.slice ad n cap] w (LawTrue w) := by
  have n1 : (60 : Int) < (n : Nat) := by omega
  have HAW := hide' awake5
  go_enter Try.func4, Try.ntmps4
  go_wp2_with fail
  refine (HAW.out _).mono ?_
  rintro e w9 ⟨rfl, hs⟩
  have HE := hide' hs
  clear hs
  go_wp2
  go_ret
  exact ⟨rfl, HE.out⟩

set_option maxRecDepth 100000 in
set_option maxHeartbeats 4000000 in
theorem fothers_go (ad : Option Addr) (n cap : Nat) (A : Nat → Wr) (w : World) (hA : Ws w ad n A) (hn : n ≤ 60) : Calls Try.prog 4 #[.slice ad n cap] w (LawTrue w) := by
  have HA := hide' hA
  have HAW := hide' awake5
  have n1 : ¬ (60 : Int) < (n : Nat) := by omega
  have HN := hide' (new_in (w0 := w) (a := 12) (h := 12) (Stay.refl _ w) (by decide) (by decide) (by decide) (by decide))
  clear hA
  go_enter Try.func4, Try.ntmps4
  go_wp2_with fail
  refine HN.out.mono ?_
  rintro e w1 ⟨q0, rfl, hi, hs⟩
  obtain ⟨b, hb⟩ : ∃ b, b = q0.b := ⟨_, rfl⟩
  rw [← hb] at hi
  rw [← hb]
  have HI := hide' hi
  clear hb hi hs HN
  go_wp2
  go_loopg [4] n (fun gg v4 wr => ∃ i : Nat, i ≤ n ∧ gg = n - i ∧ v4 = .int .i64 (i : Int) ∧ ∃ q f, Hid (FIn w wr b 12 12 q f []))
  case atStart => exact ⟨0, Nat.zero_le _, rfl, rfl, _, _, HI⟩
  case round =>
    clear HI
    obtain ⟨i, hi, rfl, rfl, q, f, HI⟩ := hrel
    by_cases hlt : i < n
    · have kn : (i : Int) < (n : Nat) := by omega
      obtain ⟨lb, lo, rfl, hbx, hx, hy⟩ := HA.out i hlt
      obtain ⟨p, hp⟩ : ∃ p, p = A i := ⟨_, rfl⟩
      rw [← hp] at hbx hx hy
      have HROW : Hid (∀ W, Stay (fun _ => False) w W → W.cell? ⟨lb, lo + i * 6, none⟩ = some (.int .i64 p.x) ∧ W.cell? ⟨lb, lo + i * 6 + 1, none⟩ = some (.int .i64 p.y) ∧ BoxCAt W lb (lo + i * 6 + 2) p.cl) := fun W hs => hbx.read hs
      have HXY : Hid (I64 p.x ∧ I64 p.y) := ⟨hx, hy⟩
      have HG := hide' (grid_in HI.out)
      clear hbx hp hx hy
      go_wp2_with fail
      refine HG.out.mono ?_
      rintro e w2 ⟨G, rfl, hs, hg, hgw, hgh, hab⟩
      obtain ⟨ok, hok⟩ : ∃ k, k = insB 12 12 p.x p.y := ⟨_, rfl⟩
      have hst2 : Stay (fun _ => False) w2 w2.drew := (Stay.refl _ _).drew
      have HF1 := hide' ((HI.out.keep hs).keep hst2)
      have HGR := hide' (hg.keep hst2)
      have HPU := hide' (put_in p.x p.y p.cl ok HF1.out hok.symm HXY.out.1 HXY.out.2 (by decide))
      have HGX : Hid (G.w = 12 ∧ G.h = 12 ∧ G.above wr.heap.size ∧ ∀ j, q.own j → j < wr.heap.size) := ⟨hgw, hgh, hab, HI.out.at'.lt⟩
      have HOK := hide' hok.symm
      clear hs hg hgw hgh hab hst2 HI HG hok
      go_upto_region 10 with fail
      have hS : (fun w' => Stay (fun _ => False) w w') w2.drew := HF1.out.stay
      refine wp_region_mix (fun w' => Stay (fun _ => False) w w') [(0, true), (1, true), (2, true), (3, true), (4, true), (5, true), (6, true), (7, true), (8, true), (9, true), (10, true), (11, true), (12, true), (13, true), (14, true), (15, true), (16, false)] (by kernel_rfl) (by kernel_rfl) (fun _ d _ _ _ h => by cases d <;> exact h) hS ?_
      refine mix_begin (fun K0 hK0 => ?_)
      refine mix_take hK0 (some 24) (.move (.tmp 3)) 24 _ (by kernel_rfl) (by kernel_rfl) (fun w' hS' => by (obtain ⟨s0, s1, _⟩ := HROW.out _ hS'; simp only [opr]; go_simp; try with_reducible rfl)) (fun K1 hK1 => ?_)
      clear hK0 K0
      simp only [Act.put, List.setIfInBounds_toArray, List.set_cons_zero, List.set_cons_succ]
      refine mix_take hK1 (some 25) (.move (.tmp 0)) 22 _ (by kernel_rfl) (by kernel_rfl) (fun w' hS' => by (obtain ⟨s0, s1, _⟩ := HROW.out _ hS'; simp only [opr]; go_simp; try with_reducible rfl)) (fun K2 hK2 => ?_)
      clear hK1 K1
      simp only [Act.put, List.setIfInBounds_toArray, List.set_cons_zero, List.set_cons_succ]
      refine mix_take hK2 (some 26) (.move (.tmp 4)) 3 _ (by kernel_rfl) (by kernel_rfl) (fun w' hS' => by (obtain ⟨s0, s1, _⟩ := HROW.out _ hS'; simp only [opr]; go_simp; try with_reducible rfl)) (fun K3 hK3 => ?_)
      clear hK2 K2
      simp only [Act.put, List.setIfInBounds_toArray, List.set_cons_zero, List.set_cons_succ]
      refine mix_take hK3 (some 27) (.indexAddr 22 (.tmp 25) (.tmp 26)) 0 _ (by kernel_rfl) (by kernel_rfl) (fun w' hS' => by (obtain ⟨s0, s1, _⟩ := HROW.out _ hS'; simp only [opr]; go_simp; try with_reducible rfl)) (fun K4 hK4 => ?_)
      clear hK3 K3
      simp only [Act.put, List.setIfInBounds_toArray, List.set_cons_zero, List.set_cons_succ]
      refine mix_take hK4 (some 28) (.fieldAddr 36 (.tmp 27) 0) 0 _ (by kernel_rfl) (by kernel_rfl) (fun w' hS' => by (obtain ⟨s0, s1, _⟩ := HROW.out _ hS'; simp only [opr]; go_simp; try with_reducible rfl)) (fun K5 hK5 => ?_)
      clear hK4 K4
      simp only [Act.put, List.setIfInBounds_toArray, List.set_cons_zero, List.set_cons_succ]
      refine mix_take hK5 (some 29) (.load 3 (.tmp 28)) 3 _ (by kernel_rfl) (by kernel_rfl) (fun w' hS' => by (obtain ⟨s0, s1, _⟩ := HROW.out _ hS'; simp only [opr]; go_simp; try with_reducible rfl)) (fun K6 hK6 => ?_)
      clear hK5 K5
      simp only [Act.put, List.setIfInBounds_toArray, List.set_cons_zero, List.set_cons_succ]
      refine mix_take hK6 (some 30) (.move (.tmp 0)) 22 _ (by kernel_rfl) (by kernel_rfl) (fun w' hS' => by (obtain ⟨s0, s1, _⟩ := HROW.out _ hS'; simp only [opr]; go_simp; try with_reducible rfl)) (fun K7 hK7 => ?_)
      clear hK6 K6
      simp only [Act.put, List.setIfInBounds_toArray, List.set_cons_zero, List.set_cons_succ]
      refine mix_take hK7 (some 31) (.move (.tmp 4)) 3 _ (by kernel_rfl) (by kernel_rfl) (fun w' hS' => by (obtain ⟨s0, s1, _⟩ := HROW.out _ hS'; simp only [opr]; go_simp; try with_reducible rfl)) (fun K8 hK8 => ?_)
      clear hK7 K7
      simp only [Act.put, List.setIfInBounds_toArray, List.set_cons_zero, List.set_cons_succ]
      refine mix_take hK8 (some 32) (.indexAddr 22 (.tmp 30) (.tmp 31)) 0 _ (by kernel_rfl) (by kernel_rfl) (fun w' hS' => by (obtain ⟨s0, s1, _⟩ := HROW.out _ hS'; simp only [opr]; go_simp; try with_reducible rfl)) (fun K9 hK9 => ?_)
      clear hK8 K8
      simp only [Act.put, List.setIfInBounds_toArray, List.set_cons_zero, List.set_cons_succ]
      refine mix_take hK9 (some 33) (.fieldAddr 36 (.tmp 32) 1) 0 _ (by kernel_rfl) (by kernel_rfl) (fun w' hS' => by (obtain ⟨s0, s1, _⟩ := HROW.out _ hS'; simp only [opr]; go_simp; try with_reducible rfl)) (fun K10 hK10 => ?_)
      clear hK9 K9
      simp only [Act.put, List.setIfInBounds_toArray, List.set_cons_zero, List.set_cons_succ]
      refine mix_take hK10 (some 34) (.load 3 (.tmp 33)) 3 _ (by kernel_rfl) (by kernel_rfl) (fun w' hS' => by (obtain ⟨s0, s1, _⟩ := HROW.out _ hS'; simp only [opr]; go_simp; try with_reducible rfl)) (fun K11 hK11 => ?_)
      clear hK10 K10
      simp only [Act.put, List.setIfInBounds_toArray, List.set_cons_zero, List.set_cons_succ]
      refine mix_take hK11 (some 35) (.move (.tmp 0)) 22 _ (by kernel_rfl) (by kernel_rfl) (fun w' hS' => by (obtain ⟨s0, s1, _⟩ := HROW.out _ hS'; simp only [opr]; go_simp; try with_reducible rfl)) (fun K12 hK12 => ?_)
      clear hK11 K11
      simp only [Act.put, List.setIfInBounds_toArray, List.set_cons_zero, List.set_cons_succ]
      refine mix_take hK12 (some 36) (.move (.tmp 4)) 3 _ (by kernel_rfl) (by kernel_rfl) (fun w' hS' => by (obtain ⟨s0, s1, _⟩ := HROW.out _ hS'; simp only [opr]; go_simp; try with_reducible rfl)) (fun K13 hK13 => ?_)
      clear hK12 K12
      simp only [Act.put, List.setIfInBounds_toArray, List.set_cons_zero, List.set_cons_succ]
      refine mix_take hK13 (some 37) (.indexAddr 22 (.tmp 35) (.tmp 36)) 0 _ (by kernel_rfl) (by kernel_rfl) (fun w' hS' => by (obtain ⟨s0, s1, _⟩ := HROW.out _ hS'; simp only [opr]; go_simp; try with_reducible rfl)) (fun K14 hK14 => ?_)
      clear hK13 K13
      simp only [Act.put, List.setIfInBounds_toArray, List.set_cons_zero, List.set_cons_succ]
      refine mix_take hK14 (some 38) (.fieldAddr 36 (.tmp 37) 2) 0 _ (by kernel_rfl) (by kernel_rfl) (fun w' hS' => by (obtain ⟨s0, s1, _⟩ := HROW.out _ hS'; simp only [opr]; go_simp; try with_reducible rfl)) (fun K15 hK15 => ?_)
      clear hK14 K14
      simp only [Act.put, List.setIfInBounds_toArray, List.set_cons_zero, List.set_cons_succ]
      refine mix_take hK15 (some 39) (.load 34 (.tmp 38)) 34 _ (by kernel_rfl) (by kernel_rfl) (fun w' hS' => by exact run_load_BoxCAt rfl rfl (HROW.out _ hS').2.2) (fun K16 hK16 => ?_)
      clear hK15 K15
      simp only [Act.put, List.setIfInBounds_toArray, List.set_cons_zero, List.set_cons_succ]
      refine mix_call hK16 (some 40) 9 #[.tmp 24, .tmp 29, .tmp 34, .tmp 39] #[24, 3, 3, 34] 4 _ (by kernel_rfl) (by kernel_rfl) (enters Try.func9 (by kernel_rfl) (by kernel_rfl)) (by go_simp; try with_reducible rfl) (fun K17 hK17 => ?_)
      clear hK16 K16
      refine (HPU.out).mono ?_
      rintro e wm1 ⟨q2, rfl, hf1, hs1⟩
      have hS1 : _ := (show (fun w' => Stay (fun _ => False) w w') wm1 from hf1.stay)
      refine ⟨_, rfl, hS1, ?_⟩
      have HF2 := hide' hf1
      have HM2 := hide' hs1
      clear hf1
      clear hs1
      simp only [Act.put, List.setIfInBounds_toArray, List.set_cons_zero, List.set_cons_succ]
      refine hK17 _ _ (mix_nil ?_)
      clear hK17 K17
      clear hS hS1
      obtain ⟨f2, hf2⟩ : ∃ f2, f2 = setF 12 12 f p.x p.y p.cl := ⟨_, rfl⟩
      rw [← hf2] at HF2
      have HF2E := hide' hf2
      have HGR2 := hide' (HGR.out.apart2 HM2.out.1 HGX.out.2.2.1 HGR.out.lt (fun j hj => .inl (HGX.out.2.2.2 j hj)))
      obtain ⟨L1, hL1⟩ : ∃ L, L = (if ok then ([] : List Wr) ++ [Wr.of p.x p.y p.cl] else []) := ⟨_, rfl⟩
      rw [← hL1] at HF2
      obtain ⟨n2, hn2⟩ : ∃ n, n = L1.length := ⟨_, rfl⟩
      have HT := hide' (take_in HF2.out hn2.symm)
      have HL1 := hide' hL1
      have HN2 := hide' hn2
      have HGL := hide' HGR.out.lt
      clear hf2 HGR HPU hL1 hn2
      go_wp2_with fail
      refine HT.out.mono ?_
      rintro e w4 ⟨q3, na, ncap, rfl, hf3, hw3, hm3, _⟩
      have hgr : GridAt w4 G f := HGR2.out.apart2 hm3.1 HGX.out.2.2.1 HGL.out (fun j hj => by
        rcases HM2.out.2 j hj with h1 | h1
        · exact .inl (HGX.out.2.2.2 j h1)
        · exact .inr h1)
      have HO : Hid (OIn w b G q3 f f2 L1 (.slice na n2 ncap) w4) := ⟨hf3, hgr, HGX.out.1, HGX.out.2.1, by rw [← HN2.out]; exact hw3⟩
      clear hf3 hw3 hm3 hgr HT HF2 HM2 HGR2 HF1 HGX HGL
      cases ok
      · have hL : L1 = [] := HL1.out
        have hz : n2 = 0 := by rw [HN2.out, hL]; rfl
        clear HL1 HN2
        subst hz hL
        go_wp2
        go_loopg [7] 144 (fun gg v7 wr => ∃ k : Int, 0 ≤ k ∧ k ≤ 144 ∧ gg = 144 - k.toNat ∧ v7 = .int .i64 k ∧ Hid (OIn w b G q3 f f2 [] (.slice na 0 ncap) wr))
        case atStart => exact ⟨0, by decide, by decide, rfl, rfl, HO⟩
        case round =>
          clear HO
          obtain ⟨k, hk0, hk, rfl, rfl, HO⟩ := hrel
          by_cases hkl : k < 144
          · obtain ⟨X, hX⟩ : ∃ X, X = k.toNat % 12 := ⟨_, rfl⟩
            obtain ⟨Y, hY⟩ : ∃ Y, Y = k.toNat / 12 := ⟨_, rfl⟩
            have hX12 : X < 12 := by omega
            have hY12 : Y < 12 := by omega
            have e1 : k.tmod 12 = (X : Nat) := by rw [Int.tmod_eq_emod_of_nonneg hk0]; omega
            have e2 : k.tdiv 12 = (Y : Nat) := by rw [Int.tdiv_eq_ediv_of_nonneg hk0]; omega
            have e3 : wrap64 (k.tdiv 12) = (Y : Nat) := by rw [e2]; unfold wrap64; omega
            clear hX hY
            have hce : atF 12 12 f2 X Y = atF 12 12 f X Y := by rw [HF2E.out]; exact setF_other f p.cl hX12 hY12 (by rintro ⟨h, _⟩; rw [HOK.out] at h; cases h)
            obtain ⟨c, hc⟩ : ∃ c, c = atF 12 12 f X Y := ⟨_, rfl⟩
            have HA1 := hide' (at_in X Y c HO.out.fin (hce.trans hc.symm) (by unfold I64; omega) (by unfold I64; omega))
            have HA2 : Hid (∀ W, Stay (fun _ => False) wr W → Calls Try.prog 18 #[.pointer (some ⟨G.g, 0, none⟩), .int .i64 (X : Nat), .int .i64 (Y : Nat)] W (Gives (.agg #[.int .i32 c.r, .int .i64 c.fg, .int .i64 c.bg, .int .i64 c.fl]) W)) := fun W hs => by
              have h1 := at18 G f X Y W (HO.out.gr.keep hs) (by unfold I64; omega) (by unfold I64; omega)
              rw [HO.out.gw, HO.out.gh, ← hc] at h1
              exact h1
            clear hce hc
            go_wp2_with fail
            refine HA1.out.mono ?_
            rintro e w6 ⟨rfl, hs⟩
            have HO6 := hide' (HO.out.keep hs)
            have HA3 := hide' (HA2.out _ hs)
            clear hs HA1 HA2 HO
            go_wp2_with fail
            refine HA3.out.mono ?_
            rintro e w7 ⟨rfl, hs⟩
            have HO7 := hide' (HO6.out.keep hs)
            clear hs HA3 HO6
            go_wp2
            go_roundg (144 - (k + 1).toNat)
            case measure => omega
            case rel => exact ⟨k + 1, by omega, by omega, rfl, by go_num, HO7⟩
          · have k0 : k = 144 := by omega
            subst k0
            have HFN := hide' HO.out.fin
            clear HO
            go_wp2
            go_roundg (n - (i + 1))
            case measure => omega
            case rel => exact ⟨i + 1, by omega, rfl, by go_num, _, _, HFN⟩
      · have hL : L1 = [p] := HL1.out
        have hz : n2 = 1 := by rw [HN2.out, hL]; rfl
        clear HL1 HN2
        subst hz hL
        obtain ⟨ng, no, rfl⟩ : ∃ g o, na = some ⟨g, o, none⟩ := by
          rcases HO.out.win.2 with ⟨h, _⟩ | ⟨g, o, cap, h, _⟩
          · cases h
          · cases h
            exact ⟨g, o, rfl⟩
        go_wp2
        go_loopg [7] 144 (fun gg v7 wr => ∃ k : Int, 0 ≤ k ∧ k ≤ 144 ∧ gg = 144 - k.toNat ∧ v7 = .int .i64 k ∧ Hid (OIn w b G q3 f f2 [p] (.slice (some ⟨ng, no, none⟩) 1 ncap) wr))
        case atStart => exact ⟨0, by decide, by decide, rfl, rfl, HO⟩
        case round =>
          clear HO
          obtain ⟨k, hk0, hk, rfl, rfl, HO⟩ := hrel
          by_cases hkl : k < 144
          · obtain ⟨X, hX⟩ : ∃ X, X = k.toNat % 12 := ⟨_, rfl⟩
            obtain ⟨Y, hY⟩ : ∃ Y, Y = k.toNat / 12 := ⟨_, rfl⟩
            have hX12 : X < 12 := by omega
            have hY12 : Y < 12 := by omega
            have e1 : k.tmod 12 = (X : Nat) := by rw [Int.tmod_eq_emod_of_nonneg hk0]; omega
            have e2 : k.tdiv 12 = (Y : Nat) := by rw [Int.tdiv_eq_ediv_of_nonneg hk0]; omega
            have e3 : wrap64 (k.tdiv 12) = (Y : Nat) := by rw [e2]; unfold wrap64; omega
            clear hX hY
            obtain ⟨p0, p1, _⟩ : WBoxAt wr ng no p := by
              have h := HO.out.win.front (k := 1) (Nat.le_refl 1)
              have h2 := wr_at (L := [p]) h 0 p rfl
              simpa using h2
            obtain ⟨bx, hbx⟩ : ∃ k, k = (p.x == (X : Nat)) := ⟨_, rfl⟩
            obtain ⟨bY, hby⟩ : ∃ k, k = (p.y == (Y : Nat)) := ⟨_, rfl⟩
            have HBX := hide' hbx
            have HBY := hide' hby
            have hbx' := hbx.symm
            have hby' := hby.symm
            clear hbx hby
            cases bx
            · have hce : atF 12 12 f2 X Y = atF 12 12 f X Y := by rw [HF2E.out]; exact setF_other f p.cl hX12 hY12 (by rintro ⟨_, h, _⟩; have h2 := HBX.out; rw [h] at h2; simp at h2)
              obtain ⟨c, hc⟩ : ∃ c, c = atF 12 12 f X Y := ⟨_, rfl⟩
              have HA1 := hide' (at_in X Y c HO.out.fin (hce.trans hc.symm) (by unfold I64; omega) (by unfold I64; omega))
              have HA2 : Hid (∀ W, Stay (fun _ => False) wr W → Calls Try.prog 18 #[.pointer (some ⟨G.g, 0, none⟩), .int .i64 (X : Nat), .int .i64 (Y : Nat)] W (Gives (.agg #[.int .i32 c.r, .int .i64 c.fg, .int .i64 c.bg, .int .i64 c.fl]) W)) := fun W hs => by
                have h1 := at18 G f X Y W (HO.out.gr.keep hs) (by unfold I64; omega) (by unfold I64; omega)
                rw [HO.out.gw, HO.out.gh, ← hc] at h1
                exact h1
              clear hce hc
              go_wp2_with fail
              refine HA1.out.mono ?_
              rintro e w6 ⟨rfl, hs⟩
              have HO6 := hide' (HO.out.keep hs)
              have HA3 := hide' (HA2.out _ hs)
              clear hs HA1 HA2 HO
              go_wp2_with fail
              refine HA3.out.mono ?_
              rintro e w7 ⟨rfl, hs⟩
              have HO7 := hide' (HO6.out.keep hs)
              clear hs HA3 HO6
              go_wp2
              go_roundg (144 - (k + 1).toNat)
              case measure => omega
              case rel => exact ⟨k + 1, by omega, by omega, rfl, by go_num, HO7⟩
            · cases bY
              · have hce : atF 12 12 f2 X Y = atF 12 12 f X Y := by rw [HF2E.out]; exact setF_other f p.cl hX12 hY12 (by rintro ⟨_, _, h⟩; have h2 := HBY.out; rw [h] at h2; simp at h2)
                obtain ⟨c, hc⟩ : ∃ c, c = atF 12 12 f X Y := ⟨_, rfl⟩
                have HA1 := hide' (at_in X Y c HO.out.fin (hce.trans hc.symm) (by unfold I64; omega) (by unfold I64; omega))
                have HA2 : Hid (∀ W, Stay (fun _ => False) wr W → Calls Try.prog 18 #[.pointer (some ⟨G.g, 0, none⟩), .int .i64 (X : Nat), .int .i64 (Y : Nat)] W (Gives (.agg #[.int .i32 c.r, .int .i64 c.fg, .int .i64 c.bg, .int .i64 c.fl]) W)) := fun W hs => by
                  have h1 := at18 G f X Y W (HO.out.gr.keep hs) (by unfold I64; omega) (by unfold I64; omega)
                  rw [HO.out.gw, HO.out.gh, ← hc] at h1
                  exact h1
                clear hce hc
                go_wp2_with fail
                refine HA1.out.mono ?_
                rintro e w6 ⟨rfl, hs⟩
                have HO6 := hide' (HO.out.keep hs)
                have HA3 := hide' (HA2.out _ hs)
                clear hs HA1 HA2 HO
                go_wp2_with fail
                refine HA3.out.mono ?_
                rintro e w7 ⟨rfl, hs⟩
                have HO7 := hide' (HO6.out.keep hs)
                clear hs HA3 HO6
                go_wp2
                go_roundg (144 - (k + 1).toNat)
                case measure => omega
                case rel => exact ⟨k + 1, by omega, by omega, rfl, by go_num, HO7⟩
              · go_wp2
                go_roundg (144 - (k + 1).toNat)
                case measure => omega
                case rel => exact ⟨k + 1, by omega, by omega, rfl, by go_num, HO⟩
          · have k0 : k = 144 := by omega
            subst k0
            have HFN := hide' HO.out.fin
            clear HO
            go_wp2
            go_roundg (n - (i + 1))
            case measure => omega
            case rel => exact ⟨i + 1, by omega, rfl, by go_num, _, _, HFN⟩
    · have hin : i = n := by omega
      subst hin
      have HSW := hide' HI.out.stay
      clear HI
      go_wp2_with fail
      refine (HAW.out _).mono ?_
      rintro e w9 ⟨rfl, hs⟩
      have HE := hide' (HSW.out.trans hs)
      clear hs
      go_wp2
      go_ret
      exact ⟨rfl, HE.out⟩

end Go.Proofs.Ytcealbdinbfegaa
