/-
  ScanBytes: walked. No conditions.
-/
import Derived.Test.YtjficpcfdpbegaaF1
namespace Go.Proofs.Ytjficpcfdpbegaa
open Go.RowKit

set_option maxHeartbeats 1000000 in
theorem bytes_run4 (c m : Int) (app : Bool) (w : World) : Calls Try.prog 4 #[.agg #[.int .i64 c, .int .i64 m], .bool app] w (LawTrue w) := by
  have H13 := hide' (bytes13 c m app)
  have H14 := hide' (rbytes14 c m app)
  have hS : (fun w' => Newer w w' ∧ KBox w' w.heap.size ⟨c, m⟩) (w.alloc (.cells #[.int .i64 c, .int .i64 m] 27)).drew := ⟨((Newer.refl w).alloc _).keep ((Stay.refl _ _).drew), (KBox.new (w := w) ⟨c, m⟩ rfl).keep ((Stay.refl _ _).drew)⟩
  go_enter Try.func4, Try.ntmps4
  go_upto_region 1 with fail
  refine wp_region_mix (fun w' => Newer w w' ∧ KBox w' w.heap.size ⟨c, m⟩) [(0, true), (1, true), (3, true), (4, true), (2, false), (5, false), (6, false), (7, true), (8, false), (9, true), (10, true)] (by kernel_rfl) (by kernel_rfl) (fun _ d _ _ _ h => by cases d <;> exact h) hS ?_
  refine mix_begin (fun K0 hK0 => ?_)
  refine mix_take hK0 (some 5) (.load 27 (.tmp 2)) 27 _ (by kernel_rfl) (by kernel_rfl) (fun w' hS' => by first | exact run_load_KBox rfl rfl hS'.2) (fun K1 hK1 => ?_)
  clear hK0 K0
  simp only [Act.put, List.setIfInBounds_toArray, List.set_cons_zero, List.set_cons_succ]
  refine mix_take hK1 (some 6) (.move (.tmp 1)) 4 _ (by kernel_rfl) (by kernel_rfl) (fun w' hS' => by simp only [opr]; go_simp; try with_reducible rfl) (fun K2 hK2 => ?_)
  clear hK1 K1
  simp only [Act.put, List.setIfInBounds_toArray, List.set_cons_zero, List.set_cons_succ]
  refine mix_take hK2 (some 8) (.load 27 (.tmp 2)) 27 _ (by kernel_rfl) (by kernel_rfl) (fun w' hS' => by first | exact run_load_KBox rfl rfl hS'.2) (fun K3 hK3 => ?_)
  clear hK2 K2
  simp only [Act.put, List.setIfInBounds_toArray, List.set_cons_zero, List.set_cons_succ]
  refine mix_take hK3 (some 9) (.move (.tmp 1)) 4 _ (by kernel_rfl) (by kernel_rfl) (fun w' hS' => by simp only [opr]; go_simp; try with_reducible rfl) (fun K4 hK4 => ?_)
  clear hK3 K3
  simp only [Act.put, List.setIfInBounds_toArray, List.set_cons_zero, List.set_cons_succ]
  refine mix_call hK4 (some 7) 13 #[.tmp 5, .tmp 6] #[27, 4] 22 _ (by kernel_rfl) (by kernel_rfl) (enters Try.func13 (by kernel_rfl) (by kernel_rfl)) (by go_simp; try with_reducible rfl) (fun K5 hK5 => ?_)
  clear hK4 K4
  refine (H13.out _).mono ?_
  rintro e wm1 ⟨v1, rfl, hb1, hs1⟩
  have HV1 := hide' hb1
  clear hb1
  have hS1 : _ := (show (fun w' => Newer w w' ∧ KBox w' w.heap.size ⟨c, m⟩) wm1 from ⟨hS.1.keep hs1, hS.2.keep hs1⟩)
  refine ⟨_, rfl, hS1, ?_⟩
  clear hs1
  simp only [Act.put, List.setIfInBounds_toArray, List.set_cons_zero, List.set_cons_succ]
  refine mix_call hK5 (some 10) 14 #[.tmp 8, .tmp 9] #[27, 4] 22 _ (by kernel_rfl) (by kernel_rfl) (enters Try.func14 (by kernel_rfl) (by kernel_rfl)) (by go_simp; try with_reducible rfl) (fun K6 hK6 => ?_)
  clear hK5 K5
  refine (H14.out _).mono ?_
  rintro e wm2 ⟨v2, rfl, hb2, hs2⟩
  have HV2 := hide' hb2
  have HW1 := hide' (HV1.out.keep hs2)
  clear hb2 HV1
  have hS2 : _ := (show (fun w' => Newer w w' ∧ KBox w' w.heap.size ⟨c, m⟩) wm2 from ⟨hS1.1.keep hs2, hS1.2.keep hs2⟩)
  refine ⟨_, rfl, hS2, ?_⟩
  clear hs2
  simp only [Act.put, List.setIfInBounds_toArray, List.set_cons_zero, List.set_cons_succ]
  refine mix_call hK6 (some 11) 12 #[.tmp 7, .tmp 10] #[22, 22] 4 _ (by kernel_rfl) (by kernel_rfl) (enters Try.func12 (by kernel_rfl) (by kernel_rfl)) (by go_simp; try with_reducible rfl) (fun K7 hK7 => ?_)
  clear hK6 K6
  refine (same12 _ _ _ _ HW1.out HV2.out (Nat.le_trans (kb_len c m app) (by omega))).mono ?_
  rintro e wm3 ⟨rfl, hs3⟩
  clear HW1 HV2
  have hS3 : _ := (show (fun w' => Newer w w' ∧ KBox w' w.heap.size ⟨c, m⟩) wm3 from ⟨hS2.1.keep hs3, hS2.2.keep hs3⟩)
  refine ⟨_, rfl, hS3, ?_⟩
  clear hs3
  simp only [Act.put, List.setIfInBounds_toArray, List.set_cons_zero, List.set_cons_succ]
  refine mix_take hK7 (some 12) (.move (.tmp 11)) 4 _ (by kernel_rfl) (by kernel_rfl) (fun w' hS' => by simp only [opr]; go_simp; try with_reducible rfl) (fun K8 hK8 => ?_)
  clear hK7 K7
  simp only [Act.put, List.setIfInBounds_toArray, List.set_cons_zero, List.set_cons_succ]
  refine mix_call hK8 (some 13) 8 #[] #[] 4 _ (by kernel_rfl) (by kernel_rfl) (enters Try.func8 (by kernel_rfl) (by kernel_rfl)) (by go_simp; try with_reducible rfl) (fun K9 hK9 => ?_)
  clear hK8 K8
  refine (awake8 _).mono ?_
  rintro e wm4 ⟨rfl, hs4⟩
  have hS4 : _ := (show (fun w' => Newer w w' ∧ KBox w' w.heap.size ⟨c, m⟩) wm4 from ⟨hS3.1.keep hs4, hS3.2.keep hs4⟩)
  refine ⟨_, rfl, hS4, ?_⟩
  clear hs4
  simp only [Act.put, List.setIfInBounds_toArray, List.set_cons_zero, List.set_cons_succ]
  refine mix_take hK9 (some 14) (.pick (.tmp 12) (.tmp 13) (.const (Value.bool false))) 4 _ (by kernel_rfl) (by kernel_rfl) (fun w' hS' => by simp only [opr]; go_simp; try with_reducible rfl) (fun K10 hK10 => ?_)
  clear hK9 K9
  simp only [Act.put, List.setIfInBounds_toArray, List.set_cons_zero, List.set_cons_succ]
  refine mix_take hK10 (some 4) (.assign (.tmp 14)) 4 _ (by kernel_rfl) (by kernel_rfl) (fun w' hS' => by simp only [opr]; go_simp; try with_reducible rfl) (fun K11 hK11 => ?_)
  clear hK10 K10
  simp only [Act.put, List.setIfInBounds_toArray, List.set_cons_zero, List.set_cons_succ]
  refine hK11 _ _ (mix_nil ?_)
  clear hK11 K11
  go_wp2
  go_ret
  exact ⟨by simp, hS4.1.out⟩

end Go.Proofs.Ytjficpcfdpbegaa
