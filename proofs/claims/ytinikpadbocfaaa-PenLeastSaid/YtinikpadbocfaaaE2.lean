/-
  PenLeast walked: true of any two pens. No conditions.
-/
import Derived.Test.YtinikpadbocfaaaE0
namespace Go.Proofs.Ytinikpadbocfaaa
open Go.RowKit

set_option maxHeartbeats 4000000 in
theorem least_any (p o : Pn) (w : World) : Calls Try.prog 4 #[.agg #[.int .i64 p.fg, .int .i64 p.bg, .int .i64 p.fl], .agg #[.int .i64 o.fg, .int .i64 o.bg, .int .i64 o.fl]] w (LawTrue w) := by
  have HST : Hid (TwoB w w.heap.size p (w.heap.size + 1) o ((w.alloc (.cells #[.int .i64 p.fg, .int .i64 p.bg, .int .i64 p.fl] 23)).alloc (.cells #[.int .i64 o.fg, .int .i64 o.bg, .int .i64 o.fl] 23))) := ⟨((Stay.refl _ _).alloc _).alloc _, (Box.new p rfl).alloc _, Box.new o (by simp)⟩
  have H15 := hide' (least15 p)
  have H16 := hide' (least16 p)
  have H10 := hide' (right10 p)
  have HN := hide' (leastL_len p)
  have HM := hide' (least_makes p o)
  have HE : Hid (rightB p = false → leastL p = []) := fun h => by unfold leastL; rw [h]; rfl
  obtain ⟨L, hL⟩ : ∃ L, L = leastL p := ⟨_, rfl⟩
  rw [← hL] at H15 H16 HN HM HE
  obtain ⟨cr, hcr⟩ : ∃ c, c = rightB p := ⟨_, rfl⟩
  rw [← hcr] at H10 HM HE
  clear hL hcr
  go_enter Try.func4, Try.ntmps4
  go_upto_region 1 with fail
  obtain ⟨W, hW⟩ : ∃ W, W = ((w.alloc (.cells #[.int .i64 p.fg, .int .i64 p.bg, .int .i64 p.fl] 23)).alloc (.cells #[.int .i64 o.fg, .int .i64 o.bg, .int .i64 o.fl] 23)) := ⟨_, rfl⟩
  rw [← hW] at HST
  rw [← hW]
  clear hW
  obtain ⟨_, ⟨c0, c1, c2, f0, f1, f2⟩, e0, e1, e2, g0, g1, g2⟩ := HST.out
  go_wp2_with fail
  refine (H15.out _).mono ?_
  rintro e w1 ⟨t, rfl, hr, hs⟩
  have HST2 := hide' (HST.out.keep hs)
  clear HST c0 c1 c2 f0 f1 f2 e0 e1 e2 g0 g1 g2
  have HST := HST2
  clear HST2
  obtain ⟨_, ⟨c0, c1, c2, f0, f1, f2⟩, e0, e1, e2, g0, g1, g2⟩ := HST.out
  have HR1 := hide' hr
  clear hr hs
  go_wp2_with fail
  refine (H16.out _).mono ?_
  rintro e w2 ⟨t2, rfl, hr, hs⟩
  have HST2 := hide' (HST.out.keep hs)
  clear HST c0 c1 c2 f0 f1 f2 e0 e1 e2 g0 g1 g2
  have HST := HST2
  clear HST2
  obtain ⟨_, ⟨c0, c1, c2, f0, f1, f2⟩, e0, e1, e2, g0, g1, g2⟩ := HST.out
  have HR2 := hide' (HR1.out.keep hs)
  have HSM := hide' (same13 _ _ _ _ HR2.out hr (Nat.le_trans HN.out (by omega)))
  clear hr hs HR1
  go_wp2_with fail
  refine HSM.out.mono ?_
  rintro e w3 ⟨rfl, hs⟩
  have HST2 := hide' (HST.out.keep hs)
  clear HST c0 c1 c2 f0 f1 f2 e0 e1 e2 g0 g1 g2
  have HST := HST2
  clear HST2
  obtain ⟨_, ⟨c0, c1, c2, f0, f1, f2⟩, e0, e1, e2, g0, g1, g2⟩ := HST.out
  have HR3 := hide' (HR2.out.keep hs)
  clear hs HR2 HSM
  go_wp2_with fail
  refine (H10.out _).mono ?_
  rintro e w4 ⟨rfl, hs⟩
  have HST2 := hide' (HST.out.keep hs)
  clear HST c0 c1 c2 f0 f1 f2 e0 e1 e2 g0 g1 g2
  have HST := HST2
  clear HST2
  obtain ⟨_, ⟨c0, c1, c2, f0, f1, f2⟩, e0, e1, e2, g0, g1, g2⟩ := HST.out
  have HR4 := hide' (HR3.out.keep hs)
  clear hs HR3
  obtain ⟨a, cap, hA⟩ := HR4.out
  have HA := hide' hA
  have hsh := hA.shape
  obtain ⟨m, hm⟩ : ∃ m, m = L.length := ⟨_, rfl⟩
  rw [← hm] at hsh
  subst hsh
  cases cr
  · have hl := HE.out rfl
    have hm0 : m = 0 := by rw [hm, hl]; rfl
    clear hm hA
    subst hm0
    go_wp2_with fail
    refine (awake7 _).mono ?_
    rintro e w5 ⟨rfl, hs⟩
    have HS5 := hide' (HST.out.keep hs)
    clear hs
    go_wp2
    go_ret
    exact ⟨by simp, HS5.out.1⟩
  · have HAP : Hid (∀ W, Stay (fun _ => False) w4 W → Calls Try.prog 11 #[.agg #[.int .i64 o.fg, .int .i64 o.bg, .int .i64 o.fl], .slice a m cap] W (Gives (.agg #[.int .i64 p.fg, .int .i64 p.bg, .int .i64 p.fl]) W)) := fun W hs => by
      have := apply11 o _ L a cap W (HA.out.stay0 hs) (Nat.le_trans HN.out (by omega))
      rwa [HM.out rfl] at this
    clear hm hA
    go_wp2_with fail
    have hS : TwoB w4 w.heap.size p (w.heap.size + 1) o w4.drew := ⟨(Stay.refl _ _).drew, HST.out.2.1.keep (Stay.refl _ _).drew, HST.out.2.2.keep (Stay.refl _ _).drew⟩
    refine wp_region_mix (TwoB w4 w.heap.size p (w.heap.size + 1) o) [(0, true), (1, true), (3, true), (2, false), (4, true), (5, true), (6, false), (7, true), (8, true)] (by kernel_rfl) (by kernel_rfl) (fun _ d _ _ _ h => by cases d <;> exact h) hS ?_
    refine mix_begin (fun K0 hK0 => ?_)
    refine mix_take hK0 (some 22) (.load 23 (.tmp 3)) 23 _ (by kernel_rfl) (by kernel_rfl) (fun w' hS' => by first | exact run_load_box rfl rfl hS'.2.1 | exact run_load_box rfl rfl hS'.2.2) (fun K1 hK1 => ?_)
    clear hK0 K0
    simp only [Act.put, List.setIfInBounds_toArray, List.set_cons_zero, List.set_cons_succ]
    refine mix_take hK1 (some 23) (.move (.tmp 5)) 24 _ (by kernel_rfl) (by kernel_rfl) (fun w' hS' => by simp only [opr]; go_simp; try with_reducible rfl) (fun K2 hK2 => ?_)
    clear hK1 K1
    simp only [Act.put, List.setIfInBounds_toArray, List.set_cons_zero, List.set_cons_succ]
    refine mix_take hK2 (some 25) (.load 23 (.tmp 2)) 23 _ (by kernel_rfl) (by kernel_rfl) (fun w' hS' => by first | exact run_load_box rfl rfl hS'.2.1 | exact run_load_box rfl rfl hS'.2.2) (fun K3 hK3 => ?_)
    clear hK2 K2
    simp only [Act.put, List.setIfInBounds_toArray, List.set_cons_zero, List.set_cons_succ]
    refine mix_call hK3 (some 24) 11 #[.tmp 22, .tmp 23] #[23, 24] 23 _ (by kernel_rfl) (by kernel_rfl) (enters Try.func11 (by kernel_rfl) (by kernel_rfl)) (by go_simp; try with_reducible rfl) (fun K4 hK4 => ?_)
    clear hK3 K3
    refine (HAP.out _ hS.1).mono ?_
    rintro e wm1 ⟨rfl, hs1⟩
    have hS1 : _ := hS.keep hs1
    refine ⟨_, rfl, hS1, ?_⟩
    clear hs1
    simp only [Act.put, List.setIfInBounds_toArray, List.set_cons_zero, List.set_cons_succ]
    refine mix_take hK4 (some 26) (.binOp BinOp.eql 23 (.tmp 24) (.tmp 25) 23) 4 _ (by kernel_rfl) (by kernel_rfl) (fun w' hS' => by exact eql_same _ rfl rfl) (fun K5 hK5 => ?_)
    clear hK4 K4
    simp only [Act.put, List.setIfInBounds_toArray, List.set_cons_zero, List.set_cons_succ]
    refine mix_take hK5 (some 27) (.move (.tmp 26)) 4 _ (by kernel_rfl) (by kernel_rfl) (fun w' hS' => by simp only [opr]; go_simp; try with_reducible rfl) (fun K6 hK6 => ?_)
    clear hK5 K5
    simp only [Act.put, List.setIfInBounds_toArray, List.set_cons_zero, List.set_cons_succ]
    refine mix_call hK6 (some 28) 7 #[] #[] 4 _ (by kernel_rfl) (by kernel_rfl) (enters Try.func7 (by kernel_rfl) (by kernel_rfl)) (by go_simp; try with_reducible rfl) (fun K7 hK7 => ?_)
    clear hK6 K6
    refine (awake7 _).mono ?_
    rintro e wm2 ⟨rfl, hs2⟩
    have hS2 : _ := hS1.keep hs2
    refine ⟨_, rfl, hS2, ?_⟩
    clear hs2
    simp only [Act.put, List.setIfInBounds_toArray, List.set_cons_zero, List.set_cons_succ]
    refine mix_take hK7 (some 29) (.pick (.tmp 27) (.tmp 28) (.const (Value.bool false))) 4 _ (by kernel_rfl) (by kernel_rfl) (fun w' hS' => by simp only [opr]; go_simp; try with_reducible rfl) (fun K8 hK8 => ?_)
    clear hK7 K7
    simp only [Act.put, List.setIfInBounds_toArray, List.set_cons_zero, List.set_cons_succ]
    refine mix_take hK8 (some 4) (.assign (.tmp 29)) 4 _ (by kernel_rfl) (by kernel_rfl) (fun w' hS' => by simp only [opr]; go_simp; try with_reducible rfl) (fun K9 hK9 => ?_)
    clear hK8 K8
    simp only [Act.put, List.setIfInBounds_toArray, List.set_cons_zero, List.set_cons_succ]
    refine hK9 _ _ (mix_nil ?_)
    clear hK9 K9
    go_wp2
    go_ret
    exact ⟨by simp, HST.out.1.trans hS2.1⟩

end Go.Proofs.Ytinikpadbocfaaa
