/-
  LdiscQuiet walked: true of any bytes. No conditions.
-/
import Derived.Test.YtkggmjjjopfdbaaP5
import Derived.Test.YtkggmjjjopfdbaaM5
namespace Go.Proofs.Ytkggmjjjopfdbaa
open Go.RowKit
open L17

section
variable {At : World → Nat → (Nat → Prop) → DS → Prop}

theorem quiet_long (HI : Impl At) (aa : Option Addr) (na ca : Nat) (w : World) (ha : (na : Int) ≤ 9223372036854775807) (h : 200 < na) : Calls Try.prog 7 #[.slice aa na ca] w (LawTrue w) := by
  have HAW := hide' (fun w => awake_walk HI w)
  have HS := hide' (Stay.refl (fun _ => False) w)
  have k1 : decide ((200 : Int) < na) = true := by simp; omega
  clear HI
  go_enter Try.func7, Try.ntmps7
  go_wp2_with fail
  refine (HAW.out _).mono ?_
  rintro e w1 ⟨rfl, hs⟩
  have HS1 := hide' (HS.out.trans hs)
  clear hs
  go_wp2
  go_ret
  exact ⟨by simp, HS1.out⟩

/-- Two disciplines beside each other, in memory. -/
def Both (At : World → Nat → (Nat → Prop) → DS → Prop) (w : World) (p1 p2 : Nat) (O1 O2 : Nat → Prop) (j : Nat) (a : DS) : Prop :=
  At w p1 O1 a ∧ (∃ e, At w p2 O2 (qt a e)) ∧ a.t = pl 623 ∧ Ok j a ∧ ∀ k, O1 k → ¬ O2 k

attribute [local go_sem] eqlP_nil

set_option maxRecDepth 100000 in
set_option maxHeartbeats 2000000 in
theorem quiet_walk (HI : Impl At) (A : List Int) (aa : Option Addr) (na ca : Nat) (w : World) (hA : IArg .u8 w (.slice aa na ca) A aa ca) (ha : na ≤ 200) : Calls Try.prog 7 #[.slice aa na ca] w (LawTrue w) := by
  have HIM := hide' HI
  have HAW := hide' (fun w => awake_walk HI w)
  have HPL := hide' L17.plain26
  have HA := hide' hA
  have k1 : decide ((200 : Int) < na) = false := by simp; omega
  obtain ⟨t, ht⟩ : ∃ t, t = plainT := ⟨_, rfl⟩
  have HT := hide' ht
  rw [← ht] at HPL
  have HBX := hide' (fun (w : World) => L17.TBox.new (w := w) t rfl)
  have HNL := hide' (fun w => HI.new (pl 623) w right_623)
  have HNQ := hide' (fun w => HI.new (pl 621) w right_621)
  clear ht hA HI
  go_enter Try.func7, Try.ntmps7
  go_wp2_with fail
  refine (HPL.out _).mono ?_
  rintro e w1 ⟨rfl, hs⟩
  have HS1 := hide' hs
  clear hs
  go_upto_region 4 with fail
  have HB2 := hide' (HBX.out w1)
  have HS2 := hide' (HS1.out.alloc (.cells #[.int .i64 t.fi, .int .i64 t.fo, .int .i64 t.fl, .int .i64 t.k0, .int .i64 t.k1, .int .i64 t.k2, .int .i64 t.k3, .int .i64 t.k4, .int .i64 t.k5, .int .i64 t.k6, .int .i64 t.k7, .int .i64 t.k8, .int .i64 t.k9, .int .i64 t.k10, .int .i64 t.k11, .int .i64 t.mn, .int .i64 t.ti] 24))
  obtain ⟨b3, hb3⟩ : ∃ b, b = w1.heap.size := ⟨_, rfl⟩
  obtain ⟨w2, hw2⟩ : ∃ W, W = w1.alloc (.cells #[.int .i64 t.fi, .int .i64 t.fo, .int .i64 t.fl, .int .i64 t.k0, .int .i64 t.k1, .int .i64 t.k2, .int .i64 t.k3, .int .i64 t.k4, .int .i64 t.k5, .int .i64 t.k6, .int .i64 t.k7, .int .i64 t.k8, .int .i64 t.k9, .int .i64 t.k10, .int .i64 t.k11, .int .i64 t.mn, .int .i64 t.ti] 24) := ⟨_, rfl⟩
  rw [← hw2] at HB2 HS2 ⊢
  rw [← hb3] at HB2 ⊢
  clear hw2 hb3 HS1
  go_upto_region 5 with (refine wpList_exec rfl (L17.run_load_TBox rfl rfl HB2.out) ?_)
  have HB3 := hide' (HBX.out w2)
  have HS3 := hide' ((Stay.refl (fun _ => False) w2).alloc (.cells #[.int .i64 t.fi, .int .i64 t.fo, .int .i64 t.fl, .int .i64 t.k0, .int .i64 t.k1, .int .i64 t.k2, .int .i64 t.k3, .int .i64 t.k4, .int .i64 t.k5, .int .i64 t.k6, .int .i64 t.k7, .int .i64 t.k8, .int .i64 t.k9, .int .i64 t.k10, .int .i64 t.k11, .int .i64 t.mn, .int .i64 t.ti] 24))
  have HLB : Hid (w2.heap.size ≤ w2.heap.size) := Nat.le_refl _
  obtain ⟨b4, hb4⟩ : ∃ b, b = w2.heap.size := ⟨_, rfl⟩
  obtain ⟨w3, hw3⟩ : ∃ W, W = w2.alloc (.cells #[.int .i64 t.fi, .int .i64 t.fo, .int .i64 t.fl, .int .i64 t.k0, .int .i64 t.k1, .int .i64 t.k2, .int .i64 t.k3, .int .i64 t.k4, .int .i64 t.k5, .int .i64 t.k6, .int .i64 t.k7, .int .i64 t.k8, .int .i64 t.k9, .int .i64 t.k10, .int .i64 t.k11, .int .i64 t.mn, .int .i64 t.ti] 24) := ⟨_, rfl⟩
  rw [← hw3] at HB3 HS3 ⊢
  have HLB : Hid (w2.heap.size ≤ b4) := by show _ ≤ _; omega
  rw [← hb4] at HB3 ⊢
  clear hw3 hb4 HBX
  obtain ⟨c0, c1, c2, c3, c4, c5, c6, c7, c8, c9, c10, c11, c12, c13, c14, c15, c16, f0, f1, f2, f3, f4, f5, f6, f7, f8, f9, f10, f11, f12, f13, f14, f15, f16⟩ := HB3.out
  go_upto_region 6 with fail
  have HBQ0 : Hid (L17.TBox (w3.setCell ⟨b4, 2, none⟩ (.int .i64 (bits .andNot .i64 t.fl 18))) b4 (pl 621)) := HB3.out.put2 (by rw [HT.out]; rfl)
  have HS4 : Hid (Stay (fun _ => False) w2 (w3.setCell ⟨b4, 2, none⟩ (.int .i64 (bits .andNot .i64 t.fl 18)))) := HS3.out.setNew HLB.out _
  obtain ⟨w4, hw4⟩ : ∃ W, W = w3.setCell ⟨b4, 2, none⟩ (.int .i64 (bits .andNot .i64 t.fl 18)) := ⟨_, rfl⟩
  rw [← hw4] at HBQ0 HS4 ⊢
  clear hw4 c0 c1 c2 c3 c4 c5 c6 c7 c8 c9 c10 c11 c12 c13 c14 c15 c16 f0 f1 f2 f3 f4 f5 f6 f7 f8 f9 f10 f11 f12 f13 f14 f15 f16 HB3 HS3 HLB
  obtain ⟨tl, htl⟩ : ∃ t : Tm, t = pl 623 := ⟨_, rfl⟩
  obtain ⟨tq, htq⟩ : ∃ t : Tm, t = pl 621 := ⟨_, rfl⟩
  have HTL := hide' htl
  have HTQ := hide' htq
  have HBL : Hid (L17.TBox w4 b3 tl) := by have h := HB2.out.keep HS4.out; rw [HT.out] at h; rw [htl]; exact h
  have HBQ := hide' HBQ0.out
  rw [← htq] at HBQ HNQ
  rw [← htl] at HNL
  have HS5 := hide' (HS2.out.trans HS4.out)
  clear htl htq HB2 HBQ0 HS4 HS2
  have hs6 : Stay (fun _ => False) w4 w4.drew := (Stay.refl _ _).drew
  go_wp2_with fail
  have hS : (Stay (fun _ => False) w4) w4.drew := hs6
  clear hs6
  refine wp_region_mix (Stay (fun _ => False) w4) [(0, true), (2, true), (1, false), (3, false), (4, true), (5, true)] (by kernel_rfl) (by kernel_rfl) (fun _ d _ _ _ h => by cases d <;> exact h) hS ?_
  refine mix_begin (fun K0 hK0 => ?_)
  refine mix_take hK0 (some 22) (.load 24 (.tmp 3)) 24 _ (by kernel_rfl) (by kernel_rfl) (fun w' hS' => by first | exact L17.run_load_TBox rfl rfl (HBL.out.keep hS') | exact L17.run_load_TBox rfl rfl (HBQ.out.keep hS')) (fun K1 hK1 => ?_)
  clear hK0 K0
  simp only [Act.put, List.setIfInBounds_toArray, List.set_cons_zero, List.set_cons_succ]
  refine mix_take hK1 (some 24) (.load 24 (.tmp 4)) 24 _ (by kernel_rfl) (by kernel_rfl) (fun w' hS' => by first | exact L17.run_load_TBox rfl rfl (HBL.out.keep hS') | exact L17.run_load_TBox rfl rfl (HBQ.out.keep hS')) (fun K2 hK2 => ?_)
  clear hK1 K1
  simp only [Act.put, List.setIfInBounds_toArray, List.set_cons_zero, List.set_cons_succ]
  refine mix_call hK2 (some 23) 10 #[.tmp 22] #[24] 27 _ (by kernel_rfl) (by kernel_rfl) (enters Try.func10 (by kernel_rfl) (by kernel_rfl)) (by go_simp; try with_reducible rfl) (fun K3 hK3 => ?_)
  clear hK2 K2
  refine (HNL.out _).mono ?_
  rintro e wm1 ⟨p1, O1, rfl, hat1, hO1, hs1⟩
  have hS1 : _ := hS.trans hs1
  refine ⟨_, rfl, hS1, ?_⟩
  have HAT1 := hide' hat1
  have HOO1 : Hid (∀ k, O1 k → w4.heap.size ≤ k) := fun k hk => Nat.le_trans hS.size (hO1 k hk)
  clear hat1 hO1
  clear hs1
  simp only [Act.put, List.setIfInBounds_toArray, List.set_cons_zero, List.set_cons_succ]
  refine mix_call hK3 (some 25) 10 #[.tmp 24] #[24] 27 _ (by kernel_rfl) (by kernel_rfl) (enters Try.func10 (by kernel_rfl) (by kernel_rfl)) (by go_simp; try with_reducible rfl) (fun K4 hK4 => ?_)
  clear hK3 K3
  refine (HNQ.out _).mono ?_
  rintro e wm2 ⟨p2, O2, rfl, hat2, hO2, hs2⟩
  have hS2 : _ := hS1.trans hs2
  refine ⟨_, rfl, hS2, ?_⟩
  have HAT2 := hide' hat2
  have HAK := hide' (HIM.out.keep HAT1.out hs2 (fun _ h => h.elim))
  have HOO2 : Hid (∀ k, O2 k → w4.heap.size ≤ k) := fun k hk => Nat.le_trans hS1.size (hO2 k hk)
  have HDJ : Hid (∀ k, O1 k → ¬ O2 k) := fun k hk hk2 => by have h1 := HIM.out.lt HAT1.out k hk; have h2 := hO2 k hk2; omega
  clear hat2 hO2 HAT1
  clear hs2
  simp only [Act.put, List.setIfInBounds_toArray, List.set_cons_zero, List.set_cons_succ]
  refine mix_take hK4 (some 5) (.assign (.tmp 23)) 27 _ (by kernel_rfl) (by kernel_rfl) (fun w' hS' => by (simp only [opr]; go_simp; try with_reducible rfl)) (fun K5 hK5 => ?_)
  clear hK4 K4
  simp only [Act.put, List.setIfInBounds_toArray, List.set_cons_zero, List.set_cons_succ]
  refine mix_take hK5 (some 6) (.assign (.tmp 25)) 27 _ (by kernel_rfl) (by kernel_rfl) (fun w' hS' => by (simp only [opr]; go_simp; try with_reducible rfl)) (fun K6 hK6 => ?_)
  clear hK5 K5
  simp only [Act.put, List.setIfInBounds_toArray, List.set_cons_zero, List.set_cons_succ]
  refine hK6 _ _ (mix_nil ?_)
  clear hK6 K6
  have HSE := hide' hS2
  obtain ⟨w5, hw5⟩ : ∃ W, W = wm2 := ⟨_, rfl⟩
  have HA5 : Hid (Both At w5 p1 p2 O1 O2 0 (pd 623 [] [] false [])) := by
    rw [hw5]
    have h1 := HAK.out
    have h2 := HAT2.out
    rw [HTL.out] at h1
    rw [HTQ.out] at h2
    exact ⟨h1, ⟨[], h2⟩, rfl, ok_pd 623 fl_623 right_623 [] [] false [] 0 (by decide) (by decide) (by decide), HDJ.out⟩
  have HF5 : Hid (From w (fun _ => False) w5 O1 ∧ From w (fun _ => False) w5 O2) := by
    rw [hw5]
    exact ⟨From.made (HS5.out.trans HSE.out) (fun k hk => Nat.le_trans HS5.out.size (HOO1.out k hk)), From.made (HS5.out.trans HSE.out) (fun k hk => Nat.le_trans HS5.out.size (HOO2.out k hk))⟩
  obtain ⟨d0, hd0⟩ : ∃ d, d = pd 623 [] [] false [] := ⟨_, rfl⟩
  obtain ⟨A1, hA1⟩ : ∃ A, A = Value.agg #[.int .i64 t.fi, .int .i64 t.fo, .int .i64 t.fl, .int .i64 t.k0, .int .i64 t.k1, .int .i64 t.k2, .int .i64 t.k3, .int .i64 t.k4, .int .i64 t.k5, .int .i64 t.k6, .int .i64 t.k7, .int .i64 t.k8, .int .i64 t.k9, .int .i64 t.k10, .int .i64 t.k11, .int .i64 t.mn, .int .i64 t.ti] := ⟨_, rfl⟩
  obtain ⟨A2, hA2⟩ : ∃ A, A = Value.agg #[.int .i64 tl.fi, .int .i64 tl.fo, .int .i64 tl.fl, .int .i64 tl.k0, .int .i64 tl.k1, .int .i64 tl.k2, .int .i64 tl.k3, .int .i64 tl.k4, .int .i64 tl.k5, .int .i64 tl.k6, .int .i64 tl.k7, .int .i64 tl.k8, .int .i64 tl.k9, .int .i64 tl.k10, .int .i64 tl.k11, .int .i64 tl.mn, .int .i64 tl.ti] := ⟨_, rfl⟩
  obtain ⟨A3, hA3⟩ : ∃ A, A = Value.agg #[.int .i64 tq.fi, .int .i64 tq.fo, .int .i64 tq.fl, .int .i64 tq.k0, .int .i64 tq.k1, .int .i64 tq.k2, .int .i64 tq.k3, .int .i64 tq.k4, .int .i64 tq.k5, .int .i64 tq.k6, .int .i64 tq.k7, .int .i64 tq.k8, .int .i64 tq.k9, .int .i64 tq.k10, .int .i64 tq.k11, .int .i64 tq.mn, .int .i64 tq.ti] := ⟨_, rfl⟩
  rw [← hd0] at HA5
  rw [← hw5]
  try rw [← hA1]
  try rw [← hA2]
  try rw [← hA3]
  clear hS hS1 hS2 hw5 hd0 hA1 hA2 hA3 HSE HAK HAT2 HOO1 HOO2 HDJ HTL HTQ HT HPL HNL HNQ HBL HBQ HS5
  go_wp2
  go_loopg [7] na (fun gg v7 wr => ∃ j : Nat, j ≤ na ∧ gg = na - j ∧ v7 = .int .i64 (j : Int) ∧ ∃ (a : DS) (O1 O2 : Nat → Prop), Hid (Both At wr p1 p2 O1 O2 j a ∧ From w (fun _ => False) wr O1 ∧ From w (fun _ => False) wr O2))
  case atStart => exact ⟨0, Nat.zero_le _, rfl, rfl, d0, O1, O2, HA5.out, HF5.out.1, HF5.out.2⟩
  case round =>
    clear HA5 HF5
    obtain ⟨j, hj, rfl, rfl, a, X1, X2, HRL⟩ := hrel
    obtain ⟨w6, hw6⟩ : ∃ W, W = wr := ⟨_, rfl⟩
    rw [← hw6] at HRL ⊢
    clear hw6
    by_cases hlt : j < na
    · have kn : decide ((j : Int) < na) = true := by simp; omega
      have kn2 : (j : Int) < na := by omega
      have hj50 : j ≤ 50000 := by omega
      have hj51 : j + 1 ≤ 50000 := by omega
      obtain ⟨g9, o9, ea, hcell, hy0, hy1⟩ := iarg_byte HA.out HRL.out.2.1.stay j hlt
      subst ea
      obtain ⟨y, hy⟩ : ∃ y, y = A.getD j 0 := ⟨_, rfl⟩
      rw [← hy] at hcell hy0 hy1
      have HY := hide' hy
      clear hy
      obtain ⟨⟨hb1, ⟨e0, hb2⟩, hbt, hbk, hbd⟩, hf1, hf2⟩ := HRL.out
      have HQ := hide' (quiet_one hbt e0 y)
      obtain ⟨n6, hn6⟩ : ∃ n, n = (a.input y).2 := ⟨_, rfl⟩
      obtain ⟨D, hD⟩ : ∃ D, D = (a.input y).1 := ⟨_, rfl⟩
      rw [← hD, ← hn6] at HQ
      have HOK : Hid (Ok (j + 1) D) := by rw [hD]; exact hbk.input y
      have HB1 := hide' hb1
      have HB2 := hide' hb2
      have HBK := hide' (And.intro hbt hbk)
      have HBD := hide' hbd
      have HF := hide' (And.intro hf1 hf2)
      have HDN := hide' (And.intro hD hn6)
      clear hb1 hb2 hbt hbk hbd hf1 hf2 hD hn6 HRL
      have hyr0 := hy0
      have hyr1 := hy1
      go_wp2_with fail
      refine (HIM.out.input y HB1.out HBK.out.2 hj50 hyr0 hyr1).mono ?_
      rintro e w7 ⟨v7, Y1, rfl, hbe, hat, hs, hg⟩
      rw [← HDN.out.1] at hat
      rw [← HDN.out.2]
      have HA7 := hide' hat
      have HQ7 := hide' (HIM.out.keep HB2.out hs HBD.out)
      have HF7 := hide' (HF.out.1.step hs hg)
      have HG7 : Hid (From w (fun _ => False) w7 X2) := ⟨HF7.out.stay, HF.out.2.own⟩
      have HD7 : Hid (∀ k, Y1 k → ¬ X2 k) := fun k hk hk2 => by
        rcases hg k hk with h | h
        · exact HBD.out k h hk2
        · have := HIM.out.lt HB2.out k hk2; omega
      obtain ⟨_, _, ea, hcell7, _, _⟩ := iarg_byte HA.out HF7.out.stay j hlt
      cases ea
      rw [← HY.out] at hcell7
      clear hbe hat hs hg hcell HB1 HB2 HF HBD
      go_wp2_with fail
      refine (HIM.out.input y HQ7.out (ok_qt HBK.out.2 HBK.out.1 e0) hj50 hyr0 hyr1).mono ?_
      rintro e w8 ⟨v8, Y2, rfl, hbe, hat, hs, hg⟩
      obtain ⟨htD, E, hE, hq⟩ := HQ.out
      rw [hq] at hat hbe
      rw [hq]
      have HA8 := hide' (HIM.out.keep HA7.out hs (fun k h2 h1 => HD7.out k h1 h2))
      have HQ8 : Hid (At w8 p2 Y2 (qt D [])) := HIM.out.noEc [] hat
      have HG8 := hide' (HG7.out.step hs hg)
      have HF8 : Hid (From w (fun _ => False) w8 Y1) := ⟨HG8.out.stay, HF7.out.own⟩
      have HD8 : Hid (∀ k, Y1 k → ¬ Y2 k) := fun k hk hk2 => by
        rcases hg k hk2 with h | h
        · exact HD7.out k hk h
        · have := HIM.out.lt HA7.out k hk; omega
      have HTD := hide' htD
      obtain ⟨a8, c8, hI0⟩ := hbe
      have hI : IArg .u8 w8 v8 E a8 c8 := hI0
      clear hI0
      clear hat hs hg hq htD HQ HA7 HQ7 HF7 HG7 HD7 hcell7 HDN HBK
      rcases hE with rfl | rfl
      · have hsh : v8 = .slice a8 0 c8 := hI.shape
        subst hsh
        clear hI
        obtain ⟨ln, hln⟩ : ∃ n : Nat, n = D.line.length := ⟨_, rfl⟩
        have HLN := hide' hln
        clear hln
        go_wp2_with fail
        refine (HIM.out.line HA8.out HOK.out hj51).mono ?_
        rintro e w9 ⟨v9, a9, c9, rfl, hl9, _, hs⟩
        have hsh : v9 = .slice a9 D.line.length c9 := hl9.shape
        rw [← HLN.out] at hsh
        have HA9 := hide' (HIM.out.keep HA8.out hs (fun _ h => h.elim))
        have HQ9 := hide' (HIM.out.keep HQ8.out hs (fun _ h => h.elim))
        have HF9 := hide' (HF8.out.calm hs)
        have HG9 := hide' (HG8.out.calm hs)
        have HL9 := hide' hl9
        subst hsh
        clear hl9 hs HA8 HQ8 HF8 HG8
        go_wp2_with fail
        refine (HIM.out.line HQ9.out (ok_qt HOK.out HTD.out []) hj51).mono ?_
        rintro e w10 ⟨v10, a10, c10, rfl, hl10, _, hs⟩
        have hsh : v10 = .slice a10 D.line.length c10 := hl10.shape
        rw [← HLN.out] at hsh
        have HA10 := hide' (HIM.out.keep HA9.out hs (fun _ h => h.elim))
        have HQ10 := hide' (HIM.out.keep HQ9.out hs (fun _ h => h.elim))
        have HF10 := hide' (HF9.out.calm hs)
        have HG10 := hide' (HG9.out.calm hs)
        have HL10 : Hid (Bs w10 v10 D.line) := bs_arg hl10
        have HM10 := hide' (bs_arg (HL9.out.stay0 hs))
        subst hsh
        clear hl10 hs HA9 HQ9 HF9 HG9 HL9
        go_wp2_with fail
        refine (sameB _ _ D.line _ HM10.out HL10.out (by have := HOK.out.line; omega)).mono ?_
        rintro e w11 ⟨rfl, hs⟩
        have HA11 := hide' (HIM.out.keep HA10.out hs (fun _ h => h.elim))
        have HQ11 := hide' (HIM.out.keep HQ10.out hs (fun _ h => h.elim))
        have HF11 := hide' (HF10.out.calm hs)
        have HG11 := hide' (HG10.out.calm hs)
        clear hs HA10 HQ10 HF10 HG10 HL10 HM10
        go_wp2_with fail
        refine (HIM.out.ready HA11.out HOK.out hj51).mono ?_
        rintro e w12 ⟨rfl, hs⟩
        have HA12 := hide' (HIM.out.keep HA11.out hs (fun _ h => h.elim))
        have HQ12 := hide' (HIM.out.keep HQ11.out hs (fun _ h => h.elim))
        have HF12 := hide' (HF11.out.calm hs)
        have HG12 := hide' (HG11.out.calm hs)
        obtain ⟨cn, hcn⟩ : ∃ n : Nat, n = D.cnt := ⟨_, rfl⟩
        rw [← hcn]
        have HCN := hide' hcn
        clear hcn hs HA11 HQ11 HF11 HG11
        go_wp2_with fail
        refine (HIM.out.ready HQ12.out (ok_qt HOK.out HTD.out []) hj51).mono ?_
        rintro e w13 ⟨rfl, hs⟩
        rw [show ((qt D []).cnt : Nat) = cn from HCN.out.symm]
        have HN : Hid (Both At w13 p1 p2 Y1 Y2 (j + 1) D ∧ From w (fun _ => False) w13 Y1 ∧ From w (fun _ => False) w13 Y2) := ⟨⟨HIM.out.keep HA12.out hs (fun _ h => h.elim), ⟨[], HIM.out.keep HQ12.out hs (fun _ h => h.elim)⟩, HTD.out, HOK.out, HD8.out⟩, HF12.out.calm hs, HG12.out.calm hs⟩
        clear hs HA12 HQ12 HF12 HG12 HCN HLN HD8 HTD HOK HY
        go_wp2
        go_roundg (na - (j + 1))
        case measure => omega
        case rel => exact ⟨j + 1, by omega, rfl, by go_num, D, Y1, Y2, HN⟩
      · obtain ⟨g7, o7, rfl, _, hin⟩ := hI.cells (by simp)
        have hcell : w8.cell? ⟨g7, o7, none⟩ = some (.int .u8 7) := hin 0 (by simp)
        have hsh : v8 = .slice (some ⟨g7, o7, none⟩) 1 c8 := hI.shape
        subst hsh
        clear hI hin
        obtain ⟨ln, hln⟩ : ∃ n : Nat, n = D.line.length := ⟨_, rfl⟩
        have HLN := hide' hln
        clear hln
        go_wp2_with fail
        refine (HIM.out.line HA8.out HOK.out hj51).mono ?_
        rintro e w9 ⟨v9, a9, c9, rfl, hl9, _, hs⟩
        have hsh : v9 = .slice a9 D.line.length c9 := hl9.shape
        rw [← HLN.out] at hsh
        have HA9 := hide' (HIM.out.keep HA8.out hs (fun _ h => h.elim))
        have HQ9 := hide' (HIM.out.keep HQ8.out hs (fun _ h => h.elim))
        have HF9 := hide' (HF8.out.calm hs)
        have HG9 := hide' (HG8.out.calm hs)
        have HL9 := hide' hl9
        subst hsh
        clear hl9 hs HA8 HQ8 HF8 HG8
        go_wp2_with fail
        refine (HIM.out.line HQ9.out (ok_qt HOK.out HTD.out []) hj51).mono ?_
        rintro e w10 ⟨v10, a10, c10, rfl, hl10, _, hs⟩
        have hsh : v10 = .slice a10 D.line.length c10 := hl10.shape
        rw [← HLN.out] at hsh
        have HA10 := hide' (HIM.out.keep HA9.out hs (fun _ h => h.elim))
        have HQ10 := hide' (HIM.out.keep HQ9.out hs (fun _ h => h.elim))
        have HF10 := hide' (HF9.out.calm hs)
        have HG10 := hide' (HG9.out.calm hs)
        have HL10 : Hid (Bs w10 v10 D.line) := bs_arg hl10
        have HM10 := hide' (bs_arg (HL9.out.stay0 hs))
        subst hsh
        clear hl10 hs HA9 HQ9 HF9 HG9 HL9
        go_wp2_with fail
        refine (sameB _ _ D.line _ HM10.out HL10.out (by have := HOK.out.line; omega)).mono ?_
        rintro e w11 ⟨rfl, hs⟩
        have HA11 := hide' (HIM.out.keep HA10.out hs (fun _ h => h.elim))
        have HQ11 := hide' (HIM.out.keep HQ10.out hs (fun _ h => h.elim))
        have HF11 := hide' (HF10.out.calm hs)
        have HG11 := hide' (HG10.out.calm hs)
        clear hs HA10 HQ10 HF10 HG10 HL10 HM10
        go_wp2_with fail
        refine (HIM.out.ready HA11.out HOK.out hj51).mono ?_
        rintro e w12 ⟨rfl, hs⟩
        have HA12 := hide' (HIM.out.keep HA11.out hs (fun _ h => h.elim))
        have HQ12 := hide' (HIM.out.keep HQ11.out hs (fun _ h => h.elim))
        have HF12 := hide' (HF11.out.calm hs)
        have HG12 := hide' (HG11.out.calm hs)
        obtain ⟨cn, hcn⟩ : ∃ n : Nat, n = D.cnt := ⟨_, rfl⟩
        rw [← hcn]
        have HCN := hide' hcn
        clear hcn hs HA11 HQ11 HF11 HG11
        go_wp2_with fail
        refine (HIM.out.ready HQ12.out (ok_qt HOK.out HTD.out []) hj51).mono ?_
        rintro e w13 ⟨rfl, hs⟩
        rw [show ((qt D []).cnt : Nat) = cn from HCN.out.symm]
        have HN : Hid (Both At w13 p1 p2 Y1 Y2 (j + 1) D ∧ From w (fun _ => False) w13 Y1 ∧ From w (fun _ => False) w13 Y2) := ⟨⟨HIM.out.keep HA12.out hs (fun _ h => h.elim), ⟨[], HIM.out.keep HQ12.out hs (fun _ h => h.elim)⟩, HTD.out, HOK.out, HD8.out⟩, HF12.out.calm hs, HG12.out.calm hs⟩
        clear hs HA12 HQ12 HF12 HG12 HCN HLN HD8 HTD HOK HY
        go_wp2
        go_roundg (na - (j + 1))
        case measure => omega
        case rel => exact ⟨j + 1, by omega, rfl, by go_num, D, Y1, Y2, HN⟩
    · have kn : decide ((j : Int) < na) = false := by simp; omega
      go_wp2_with fail
      refine (HAW.out _).mono ?_
      rintro e w8 ⟨rfl, hs⟩
      have HS8 := hide' (HRL.out.2.1.stay.trans hs)
      clear hs
      go_wp2
      go_ret
      exact ⟨by simp, HS8.out⟩
end

end Go.Proofs.Ytkggmjjjopfdbaa
