/-
  A timer is set: walked. No conditions.
-/
import Derived.Test.YtihciknbmhadjaaE1
namespace Go.Proofs.Ytihciknbmhadjaa
open Go.RowKit

theorem out_lt {p : Tm → Bool} {L : List Tm} (h : L.any p = true) : (outL p L).length < L.length := by
  unfold outL
  obtain ⟨a, ha, hp⟩ := List.any_eq_true.1 h
  exact List.length_filter_lt_length_iff_exists.2 ⟨a, ha, by simp [hp]⟩

theorem set10_env (q : Cq) (e k x : Int) (w : World) (h : e < 0) : Calls Try.prog 10 #[.pointer (some ⟨q.b, 0, none⟩), .int .i64 e, .int .i64 k, .int .i64 x] w (Gives (.int .i64 1) w) := by
  have HS := hide' (Stay.refl (fun _ => False) w)
  go_enter Try.func10, Try.ntmps10
  go_wp2
  go_ret
  exact ⟨rfl, HS.out⟩

theorem set10_id (q : Cq) (e k x : Int) (w : World) (h0 : 0 ≤ e) (h : k < 0) : Calls Try.prog 10 #[.pointer (some ⟨q.b, 0, none⟩), .int .i64 e, .int .i64 k, .int .i64 x] w (Gives (.int .i64 1) w) := by
  have HS := hide' (Stay.refl (fun _ => False) w)
  go_enter Try.func10, Try.ntmps10
  go_wp2
  go_ret
  exact ⟨rfl, HS.out⟩

theorem set10_low (q : Cq) (e k x : Int) (w : World) (h0 : 0 ≤ e) (h1 : 0 ≤ k) (h : x < 1) : Calls Try.prog 10 #[.pointer (some ⟨q.b, 0, none⟩), .int .i64 e, .int .i64 k, .int .i64 x] w (Gives (.int .i64 2) w) := by
  have HS := hide' (Stay.refl (fun _ => False) w)
  go_enter Try.func10, Try.ntmps10
  go_wp2
  go_ret
  exact ⟨rfl, HS.out⟩

theorem set10_high (q : Cq) (e k x : Int) (w : World) (h0 : 0 ≤ e) (h1 : 0 ≤ k) (h2 : 1 ≤ x) (h : 1073741824 < x) : Calls Try.prog 10 #[.pointer (some ⟨q.b, 0, none⟩), .int .i64 e, .int .i64 k, .int .i64 x] w (Gives (.int .i64 2) w) := by
  have HS := hide' (Stay.refl (fun _ => False) w)
  go_enter Try.func10, Try.ntmps10
  go_wp2
  go_ret
  exact ⟨rfl, HS.out⟩

set_option maxHeartbeats 2000000 in
theorem set10_full (q : Cq) (now e k x : Int) (L : List Tm) (w : World) (h : CAt w q now L) (h0 : 0 ≤ e) (h1 : 0 ≤ k) (h2 : 1 ≤ x) (h3 : x ≤ 1073741824) (hl : L.length = 1024) (ha : L.any (isB e k) = false) : Calls Try.prog 10 #[.pointer (some ⟨q.b, 0, none⟩), .int .i64 e, .int .i64 k, .int .i64 x] w (Gives (.int .i64 3) w) := by
  obtain ⟨b, v⟩ := q
  obtain ⟨a, cap, hv, hw, h00⟩ := h.row
  simp only at hv
  subst hv
  obtain ⟨n, hnn⟩ : ∃ n, n = L.length := ⟨_, rfl⟩
  have hq : CAt w ⟨b, .slice a n cap⟩ now L := by rw [hnn]; exact h
  have HQ := hide' hq
  have HRD := hide' hw.rd
  have HN : Hid (L.length = n) := hnn.symm
  have HNM : Hid (n ≤ 2048) := by have := h.len; show n ≤ 2048; omega
  have HM := hide' (makes20 e k)
  obtain ⟨g0, g1, k0, k1⟩ := hq.box
  simp only at g0 g1 k0 k1
  have hS : (fun w' => Stay (fun _ => False) w w' ∧ KBox w' b ⟨now, .slice a n cap⟩) w.drew := ⟨(Stay.refl _ _).drew, hq.box.keep (Stay.refl _ _).drew⟩
  obtain ⟨bv, hbv⟩ : ∃ c, c = L.any (isB e k) := ⟨_, rfl⟩
  have HA := hide' hbv
  rw [ha] at hbv
  subst hbv
  have z1 : (1024 : Int) ≤ (n : Nat) := by omega
  have z2 : decide ((1024 : Int) ≤ (n : Nat)) = true := decide_eq_true z1
  clear h hw h00 hnn hq hl ha
  go_enter Try.func10, Try.ntmps10
  go_upto_region 5 with fail
  refine wp_region_mix (fun w' => Stay (fun _ => False) w w' ∧ KBox w' b ⟨now, .slice a n cap⟩) [(0, true), (1, true), (2, true), (3, true), (4, true), (5, true), (6, true), (7, true), (8, true), (9, true), (10, true), (11, true), (12, true), (13, false), (14, false), (15, true), (16, true), (17, true)] (by kernel_rfl) (by kernel_rfl) (fun _ d _ _ _ h => by cases d <;> exact h) hS ?_
  refine mix_begin (fun K0 hK0 => ?_)
  refine mix_take hK0 (some 24) (.move (.tmp 0)) 24 _ (by kernel_rfl) (by kernel_rfl) (fun w' hS' => by (obtain ⟨_, s1⟩ := hS'; obtain ⟨g0, g1, _, _⟩ := s1; simp only at g0 g1; simp only [opr]; go_simp; try with_reducible rfl)) (fun K1 hK1 => ?_)
  clear hK0 K0
  simp only [Act.put, List.setIfInBounds_toArray, List.set_cons_zero, List.set_cons_succ]
  refine mix_take hK1 (some 25) (.nilCheck (.tmp 24)) 0 _ (by kernel_rfl) (by kernel_rfl) (fun w' hS' => by (obtain ⟨_, s1⟩ := hS'; obtain ⟨g0, g1, _, _⟩ := s1; simp only at g0 g1; simp only [opr]; go_simp; try with_reducible rfl)) (fun K2 hK2 => ?_)
  clear hK1 K1
  simp only [Act.put, List.setIfInBounds_toArray, List.set_cons_zero, List.set_cons_succ]
  refine mix_take hK2 (some 26) (.fieldAddr 47 (.tmp 25) 1) 0 _ (by kernel_rfl) (by kernel_rfl) (fun w' hS' => by (obtain ⟨_, s1⟩ := hS'; obtain ⟨g0, g1, _, _⟩ := s1; simp only at g0 g1; simp only [opr]; go_simp; try with_reducible rfl)) (fun K3 hK3 => ?_)
  clear hK2 K2
  simp only [Act.put, List.setIfInBounds_toArray, List.set_cons_zero, List.set_cons_succ]
  refine mix_take hK3 (some 27) (.load 26 (.tmp 26)) 26 _ (by kernel_rfl) (by kernel_rfl) (fun w' hS' => by (obtain ⟨_, s1⟩ := hS'; obtain ⟨g0, g1, _, _⟩ := s1; simp only at g0 g1; simp only [opr]; go_simp; try with_reducible rfl)) (fun K4 hK4 => ?_)
  clear hK3 K3
  simp only [Act.put, List.setIfInBounds_toArray, List.set_cons_zero, List.set_cons_succ]
  refine mix_take hK4 (some 28) (.call { callee := Callee.builtin Builtin.len, args := #[.tmp 27], argTypes := #[26] }) 3 _ (by kernel_rfl) (by kernel_rfl) (fun w' hS' => by (obtain ⟨_, s1⟩ := hS'; obtain ⟨g0, g1, _, _⟩ := s1; simp only at g0 g1; simp only [opr]; go_simp; try with_reducible rfl)) (fun K5 hK5 => ?_)
  clear hK4 K4
  simp only [Act.put, List.setIfInBounds_toArray, List.set_cons_zero, List.set_cons_succ]
  refine mix_take hK5 (some 29) (.binOp BinOp.geq 3 (.tmp 28) (.const (Value.int IntKind.i64 1024)) 3) 4 _ (by kernel_rfl) (by kernel_rfl) (fun w' hS' => by (obtain ⟨_, s1⟩ := hS'; obtain ⟨g0, g1, _, _⟩ := s1; simp only at g0 g1; simp only [opr]; go_simp; try with_reducible rfl)) (fun K6 hK6 => ?_)
  clear hK5 K5
  simp only [Act.put, List.setIfInBounds_toArray, List.set_cons_zero, List.set_cons_succ]
  refine mix_take hK6 (some 30) (.move (.tmp 29)) 4 _ (by kernel_rfl) (by kernel_rfl) (fun w' hS' => by (obtain ⟨_, s1⟩ := hS'; obtain ⟨g0, g1, _, _⟩ := s1; simp only at g0 g1; simp only [opr]; go_simp; try with_reducible rfl)) (fun K7 hK7 => ?_)
  clear hK6 K6
  simp only [Act.put, List.setIfInBounds_toArray, List.set_cons_zero, List.set_cons_succ]
  refine mix_take hK7 (some 31) (.move (.tmp 0)) 24 _ (by kernel_rfl) (by kernel_rfl) (fun w' hS' => by (obtain ⟨_, s1⟩ := hS'; obtain ⟨g0, g1, _, _⟩ := s1; simp only at g0 g1; simp only [opr]; go_simp; try with_reducible rfl)) (fun K8 hK8 => ?_)
  clear hK7 K7
  simp only [Act.put, List.setIfInBounds_toArray, List.set_cons_zero, List.set_cons_succ]
  refine mix_take hK8 (some 32) (.nilCheck (.tmp 31)) 0 _ (by kernel_rfl) (by kernel_rfl) (fun w' hS' => by (obtain ⟨_, s1⟩ := hS'; obtain ⟨g0, g1, _, _⟩ := s1; simp only at g0 g1; simp only [opr]; go_simp; try with_reducible rfl)) (fun K9 hK9 => ?_)
  clear hK8 K8
  simp only [Act.put, List.setIfInBounds_toArray, List.set_cons_zero, List.set_cons_succ]
  refine mix_take hK9 (some 33) (.fieldAddr 47 (.tmp 32) 1) 0 _ (by kernel_rfl) (by kernel_rfl) (fun w' hS' => by (obtain ⟨_, s1⟩ := hS'; obtain ⟨g0, g1, _, _⟩ := s1; simp only at g0 g1; simp only [opr]; go_simp; try with_reducible rfl)) (fun K10 hK10 => ?_)
  clear hK9 K9
  simp only [Act.put, List.setIfInBounds_toArray, List.set_cons_zero, List.set_cons_succ]
  refine mix_take hK10 (some 34) (.load 26 (.tmp 33)) 26 _ (by kernel_rfl) (by kernel_rfl) (fun w' hS' => by (obtain ⟨_, s1⟩ := hS'; obtain ⟨g0, g1, _, _⟩ := s1; simp only at g0 g1; simp only [opr]; go_simp; try with_reducible rfl)) (fun K11 hK11 => ?_)
  clear hK10 K10
  simp only [Act.put, List.setIfInBounds_toArray, List.set_cons_zero, List.set_cons_succ]
  refine mix_take hK11 (some 35) (.move (.tmp 1)) 3 _ (by kernel_rfl) (by kernel_rfl) (fun w' hS' => by (obtain ⟨_, s1⟩ := hS'; obtain ⟨g0, g1, _, _⟩ := s1; simp only at g0 g1; simp only [opr]; go_simp; try with_reducible rfl)) (fun K12 hK12 => ?_)
  clear hK11 K11
  simp only [Act.put, List.setIfInBounds_toArray, List.set_cons_zero, List.set_cons_succ]
  refine mix_take hK12 (some 36) (.move (.tmp 2)) 3 _ (by kernel_rfl) (by kernel_rfl) (fun w' hS' => by (obtain ⟨_, s1⟩ := hS'; obtain ⟨g0, g1, _, _⟩ := s1; simp only at g0 g1; simp only [opr]; go_simp; try with_reducible rfl)) (fun K13 hK13 => ?_)
  clear hK12 K12
  simp only [Act.put, List.setIfInBounds_toArray, List.set_cons_zero, List.set_cons_succ]
  refine mix_call hK13 (some 37) 20 #[.tmp 35, .tmp 36] #[3, 3] 49 _ (by kernel_rfl) (by kernel_rfl) (enters Try.func20 (by kernel_rfl) (by kernel_rfl)) (by go_simp; try with_reducible rfl) (fun K14 hK14 => ?_)
  clear hK13 K13
  refine ((HM.out _)).mono ?_
  rintro _ wm1 ⟨bx, bz, rfl, hs1, c0, c1, _, _⟩
  have hS1 : _ := (show (fun w' => Stay (fun _ => False) w w' ∧ KBox w' b ⟨now, .slice a n cap⟩) wm1 from ⟨hS.1.trans hs1, hS.2.keep hs1⟩)
  refine ⟨_, rfl, hS1, ?_⟩
  have HCN := hide' (contains19 a n cap L (isB e k) bx bz wm1 (HRD.out.keep hS1.1) HN.out HNM.out (fun w' hs t => is28 t bx bz e k w' (keep_cell hs c0) (keep_cell hs c1)))
  rw [← HA.out] at HCN
  clear c0 c1
  clear hs1
  simp only [Act.put, List.setIfInBounds_toArray, List.set_cons_zero, List.set_cons_succ]
  refine mix_call hK14 (some 38) 19 #[.tmp 34, .tmp 37] #[26, 49] 4 _ (by kernel_rfl) (by kernel_rfl) (enters Try.func19 (by kernel_rfl) (by kernel_rfl)) (by go_simp; try with_reducible rfl) (fun K15 hK15 => ?_)
  clear hK14 K14
  refine (HCN.out).mono ?_
  rintro _ wm2 ⟨rfl, hs2⟩
  have hS2 : _ := (show (fun w' => Stay (fun _ => False) w w' ∧ KBox w' b ⟨now, .slice a n cap⟩) wm2 from ⟨hS1.1.trans hs2, hS1.2.keep hs2⟩)
  refine ⟨_, rfl, hS2, ?_⟩
  clear HCN
  clear hs2
  simp only [Act.put, List.setIfInBounds_toArray, List.set_cons_zero, List.set_cons_succ]
  refine mix_take hK15 (some 39) (.unOp UnOp.not 4 (.tmp 38)) 4 _ (by kernel_rfl) (by kernel_rfl) (fun w' hS' => by (obtain ⟨_, s1⟩ := hS'; obtain ⟨g0, g1, _, _⟩ := s1; simp only at g0 g1; simp only [opr]; go_simp; try with_reducible rfl)) (fun K16 hK16 => ?_)
  clear hK15 K15
  simp only [Act.put, List.setIfInBounds_toArray, List.set_cons_zero, List.set_cons_succ]
  refine mix_take hK16 (some 40) (.pick (.tmp 30) (.tmp 39) (.const (Value.bool false))) 4 _ (by kernel_rfl) (by kernel_rfl) (fun w' hS' => by (obtain ⟨_, s1⟩ := hS'; obtain ⟨g0, g1, _, _⟩ := s1; simp only at g0 g1; simp only [opr]; go_simp; try with_reducible rfl)) (fun K17 hK17 => ?_)
  clear hK16 K16
  simp only [Act.put, List.setIfInBounds_toArray, List.set_cons_zero, List.set_cons_succ]
  refine mix_take hK17 (some 23) (.assign (.tmp 40)) 4 _ (by kernel_rfl) (by kernel_rfl) (fun w' hS' => by (obtain ⟨_, s1⟩ := hS'; obtain ⟨g0, g1, _, _⟩ := s1; simp only at g0 g1; simp only [opr]; go_simp; try with_reducible rfl)) (fun K18 hK18 => ?_)
  clear hK17 K17
  simp only [Act.put, List.setIfInBounds_toArray, List.set_cons_zero, List.set_cons_succ]
  refine hK18 _ _ (mix_nil ?_)
  clear hK18 K18
  have HS := hide' hS2.1
  clear hS hS2
  go_wp2
  go_ret
  exact ⟨rfl, HS.out⟩

set_option maxHeartbeats 2000000 in
theorem set10_room (q : Cq) (now e k x : Int) (L : List Tm) (w : World) (h : CAt w q now L) (h0 : 0 ≤ e) (h1 : 0 ≤ k) (h2 : 1 ≤ x) (h3 : x ≤ 1073741824) (hl : L.length < 1024) : Calls Try.prog 10 #[.pointer (some ⟨q.b, 0, none⟩), .int .i64 e, .int .i64 k, .int .i64 x] w (TurnC q now (insT ⟨e, k, now + x⟩ (outL (isB e k) L)) (.int .i64 0) w) := by
  obtain ⟨b, v⟩ := q
  obtain ⟨a, cap, hv, hw, h00⟩ := h.row
  simp only at hv
  subst hv
  obtain ⟨n, hnn⟩ : ∃ n, n = L.length := ⟨_, rfl⟩
  have hq : CAt w ⟨b, .slice a n cap⟩ now L := by rw [hnn]; exact h
  have HQ := hide' hq
  have HRD := hide' hw.rd
  have HN : Hid (L.length = n) := hnn.symm
  have HNM : Hid (n ≤ 2048) := by have := h.len; show n ≤ 2048; omega
  have HM := hide' (makes20 e k)
  obtain ⟨g0, g1, k0, k1⟩ := hq.box
  simp only at g0 g1 k0 k1
  have hS : (fun w' => Stay (fun _ => False) w w' ∧ KBox w' b ⟨now, .slice a n cap⟩) w.drew := ⟨(Stay.refl _ _).drew, hq.box.keep (Stay.refl _ _).drew⟩
  obtain ⟨bv, hbv⟩ : ∃ c, c = L.any (isB e k) := ⟨_, rfl⟩
  have HA := hide' hbv
  rw [← hnn]
  have z1 : ¬ (1024 : Int) ≤ (n : Nat) := by omega
  have z2 : decide ((1024 : Int) ≤ (n : Nat)) = false := decide_eq_false z1
  have HLT : Hid ((outL (isB e k) L).length < 1024) := by have := outL_len (isB e k) L; show _ < _; omega
  clear h hw h00 hnn hq hl hbv
  go_enter Try.func10, Try.ntmps10
  go_upto_region 5 with fail
  refine wp_region_mix (fun w' => Stay (fun _ => False) w w' ∧ KBox w' b ⟨now, .slice a n cap⟩) [(0, true), (1, true), (2, true), (3, true), (4, true), (5, true), (6, true), (7, true), (8, true), (9, true), (10, true), (11, true), (12, true), (13, false), (14, false), (15, true), (16, true), (17, true)] (by kernel_rfl) (by kernel_rfl) (fun _ d _ _ _ h => by cases d <;> exact h) hS ?_
  refine mix_begin (fun K0 hK0 => ?_)
  refine mix_take hK0 (some 24) (.move (.tmp 0)) 24 _ (by kernel_rfl) (by kernel_rfl) (fun w' hS' => by (obtain ⟨_, s1⟩ := hS'; obtain ⟨g0, g1, _, _⟩ := s1; simp only at g0 g1; simp only [opr]; go_simp; try with_reducible rfl)) (fun K1 hK1 => ?_)
  clear hK0 K0
  simp only [Act.put, List.setIfInBounds_toArray, List.set_cons_zero, List.set_cons_succ]
  refine mix_take hK1 (some 25) (.nilCheck (.tmp 24)) 0 _ (by kernel_rfl) (by kernel_rfl) (fun w' hS' => by (obtain ⟨_, s1⟩ := hS'; obtain ⟨g0, g1, _, _⟩ := s1; simp only at g0 g1; simp only [opr]; go_simp; try with_reducible rfl)) (fun K2 hK2 => ?_)
  clear hK1 K1
  simp only [Act.put, List.setIfInBounds_toArray, List.set_cons_zero, List.set_cons_succ]
  refine mix_take hK2 (some 26) (.fieldAddr 47 (.tmp 25) 1) 0 _ (by kernel_rfl) (by kernel_rfl) (fun w' hS' => by (obtain ⟨_, s1⟩ := hS'; obtain ⟨g0, g1, _, _⟩ := s1; simp only at g0 g1; simp only [opr]; go_simp; try with_reducible rfl)) (fun K3 hK3 => ?_)
  clear hK2 K2
  simp only [Act.put, List.setIfInBounds_toArray, List.set_cons_zero, List.set_cons_succ]
  refine mix_take hK3 (some 27) (.load 26 (.tmp 26)) 26 _ (by kernel_rfl) (by kernel_rfl) (fun w' hS' => by (obtain ⟨_, s1⟩ := hS'; obtain ⟨g0, g1, _, _⟩ := s1; simp only at g0 g1; simp only [opr]; go_simp; try with_reducible rfl)) (fun K4 hK4 => ?_)
  clear hK3 K3
  simp only [Act.put, List.setIfInBounds_toArray, List.set_cons_zero, List.set_cons_succ]
  refine mix_take hK4 (some 28) (.call { callee := Callee.builtin Builtin.len, args := #[.tmp 27], argTypes := #[26] }) 3 _ (by kernel_rfl) (by kernel_rfl) (fun w' hS' => by (obtain ⟨_, s1⟩ := hS'; obtain ⟨g0, g1, _, _⟩ := s1; simp only at g0 g1; simp only [opr]; go_simp; try with_reducible rfl)) (fun K5 hK5 => ?_)
  clear hK4 K4
  simp only [Act.put, List.setIfInBounds_toArray, List.set_cons_zero, List.set_cons_succ]
  refine mix_take hK5 (some 29) (.binOp BinOp.geq 3 (.tmp 28) (.const (Value.int IntKind.i64 1024)) 3) 4 _ (by kernel_rfl) (by kernel_rfl) (fun w' hS' => by (obtain ⟨_, s1⟩ := hS'; obtain ⟨g0, g1, _, _⟩ := s1; simp only at g0 g1; simp only [opr]; go_simp; try with_reducible rfl)) (fun K6 hK6 => ?_)
  clear hK5 K5
  simp only [Act.put, List.setIfInBounds_toArray, List.set_cons_zero, List.set_cons_succ]
  refine mix_take hK6 (some 30) (.move (.tmp 29)) 4 _ (by kernel_rfl) (by kernel_rfl) (fun w' hS' => by (obtain ⟨_, s1⟩ := hS'; obtain ⟨g0, g1, _, _⟩ := s1; simp only at g0 g1; simp only [opr]; go_simp; try with_reducible rfl)) (fun K7 hK7 => ?_)
  clear hK6 K6
  simp only [Act.put, List.setIfInBounds_toArray, List.set_cons_zero, List.set_cons_succ]
  refine mix_skip hK7 (some 31) (by kernel_rfl) (by kernel_rfl) hS (fun K8 hK8 => ?_)
  clear hK7 K7
  simp only [Act.put, List.setIfInBounds_toArray, List.set_cons_zero, List.set_cons_succ]
  refine mix_skip hK8 (some 32) (by kernel_rfl) (by kernel_rfl) hS (fun K9 hK9 => ?_)
  clear hK8 K8
  simp only [Act.put, List.setIfInBounds_toArray, List.set_cons_zero, List.set_cons_succ]
  refine mix_skip hK9 (some 33) (by kernel_rfl) (by kernel_rfl) hS (fun K10 hK10 => ?_)
  clear hK9 K9
  simp only [Act.put, List.setIfInBounds_toArray, List.set_cons_zero, List.set_cons_succ]
  refine mix_skip hK10 (some 34) (by kernel_rfl) (by kernel_rfl) hS (fun K11 hK11 => ?_)
  clear hK10 K10
  simp only [Act.put, List.setIfInBounds_toArray, List.set_cons_zero, List.set_cons_succ]
  refine mix_skip hK11 (some 35) (by kernel_rfl) (by kernel_rfl) hS (fun K12 hK12 => ?_)
  clear hK11 K11
  simp only [Act.put, List.setIfInBounds_toArray, List.set_cons_zero, List.set_cons_succ]
  refine mix_skip hK12 (some 36) (by kernel_rfl) (by kernel_rfl) hS (fun K13 hK13 => ?_)
  clear hK12 K12
  simp only [Act.put, List.setIfInBounds_toArray, List.set_cons_zero, List.set_cons_succ]
  refine mix_skip hK13 (some 37) (by kernel_rfl) (by kernel_rfl) hS (fun K14 hK14 => ?_)
  clear hK13 K13
  simp only [Act.put, List.setIfInBounds_toArray, List.set_cons_zero, List.set_cons_succ]
  refine mix_skip hK14 (some 38) (by kernel_rfl) (by kernel_rfl) hS (fun K15 hK15 => ?_)
  clear hK14 K14
  simp only [Act.put, List.setIfInBounds_toArray, List.set_cons_zero, List.set_cons_succ]
  refine mix_skip hK15 (some 39) (by kernel_rfl) (by kernel_rfl) hS (fun K16 hK16 => ?_)
  clear hK15 K15
  simp only [Act.put, List.setIfInBounds_toArray, List.set_cons_zero, List.set_cons_succ]
  refine mix_take hK16 (some 40) (.pick (.tmp 30) (.tmp 39) (.const (Value.bool false))) 4 _ (by kernel_rfl) (by kernel_rfl) (fun w' hS' => by (obtain ⟨_, s1⟩ := hS'; obtain ⟨g0, g1, _, _⟩ := s1; simp only at g0 g1; simp only [opr]; go_simp; try with_reducible rfl)) (fun K17 hK17 => ?_)
  clear hK16 K16
  simp only [Act.put, List.setIfInBounds_toArray, List.set_cons_zero, List.set_cons_succ]
  refine mix_take hK17 (some 23) (.assign (.tmp 40)) 4 _ (by kernel_rfl) (by kernel_rfl) (fun w' hS' => by (obtain ⟨_, s1⟩ := hS'; obtain ⟨g0, g1, _, _⟩ := s1; simp only at g0 g1; simp only [opr]; go_simp; try with_reducible rfl)) (fun K18 hK18 => ?_)
  clear hK17 K17
  simp only [Act.put, List.setIfInBounds_toArray, List.set_cons_zero, List.set_cons_succ]
  refine hK18 _ _ (mix_nil ?_)
  clear hK18 K18
  clear g0 g1 k0 k1
  obtain ⟨WD, hWD⟩ : ∃ W, W = w.drew := ⟨_, rfl⟩
  rw [← hWD] at hS
  rw [← hWD]
  have HS := hide' hS.1
  clear hWD
  clear hS 
  have HQ1 := hide' (HQ.out.keep HS.out)
  have HC := hide' (cancel13 ⟨b, .slice a n cap⟩ now e k L WD HQ1.out)
  obtain ⟨z, hz⟩ : ∃ z, z = (decide (0 < goneI (isB e k) L)) := ⟨_, rfl⟩
  rw [← hz] at HC
  obtain ⟨M, hM⟩ : ∃ M, M = outL (isB e k) L := ⟨_, rfl⟩
  have HMM := hide' hM
  have HC2 : Hid (Calls Try.prog 13 #[.pointer (some ⟨b, 0, none⟩), .int .i64 e, .int .i64 k] WD (TurnC ⟨b, .slice a n cap⟩ now M (.bool z) WD)) := by rw [hM]; exact HC.out
  obtain ⟨y, hy⟩ : ∃ y, y = insT ⟨e, k, now + x⟩ M := ⟨_, rfl⟩
  rw [← hM, ← hy]
  have HY := hide' hy
  have HP : Hid (∀ W v, CAt W ⟨b, v⟩ now M → Calls Try.prog 21 #[.pointer (some ⟨b, 0, none⟩), .agg #[.int .i64 e, .int .i64 k, .int .i64 (now + x)]] W (TurnC ⟨b, v⟩ now y (.tuple #[]) W)) := fun W v hW => by
    have hp := put21 ⟨b, v⟩ now M ⟨e, k, now + x⟩ W hW (by rw [HMM.out]; exact HLT.out) (by rw [HMM.out]; exact outL_ne)
    rw [← HY.out] at hp
    exact hp
  have ew : IntKind.i64.wrap (now + x) = now + x := by rw [IntKind.wrap_i64]; have := HQ.out.n0; have := HQ.out.n1; omega
  clear hz hM hy HC
  go_wp2_with fail
  refine HC2.out.mono ?_
  rintro _ w5 ⟨v5, rfl, hc5, hm5⟩
  have HMV := hide' hm5
  have HP5 := hide' (HP.out w5 v5 hc5)
  obtain ⟨g0, g1, _, _⟩ := hc5.box
  simp only at g0 g1
  clear hc5 hm5 HC2 HP
  go_wp2_with fail
  refine HP5.out.mono ?_
  rintro _ w6 ⟨v6, rfl, hc6, hm6⟩
  have HF : Hid (CAt w6 ⟨b, v6⟩ now y ∧ Moved ⟨b, .slice a n cap⟩ ⟨b, v6⟩ w w6) := ⟨hc6, ((Moved.of_stay HS.out).trans HMV.out).trans hm6⟩
  clear hc6 hm6 HP5 g0 g1
  go_wp2
  go_ret
  exact ⟨v6, rfl, by have h := HF.out; rw [HY.out, HMM.out] at h; exact h⟩

set_option maxHeartbeats 2000000 in
theorem set10_there (q : Cq) (now e k x : Int) (L : List Tm) (w : World) (h : CAt w q now L) (h0 : 0 ≤ e) (h1 : 0 ≤ k) (h2 : 1 ≤ x) (h3 : x ≤ 1073741824) (hl : L.length = 1024) (ha : L.any (isB e k) = true) : Calls Try.prog 10 #[.pointer (some ⟨q.b, 0, none⟩), .int .i64 e, .int .i64 k, .int .i64 x] w (TurnC q now (insT ⟨e, k, now + x⟩ (outL (isB e k) L)) (.int .i64 0) w) := by
  obtain ⟨b, v⟩ := q
  obtain ⟨a, cap, hv, hw, h00⟩ := h.row
  simp only at hv
  subst hv
  obtain ⟨n, hnn⟩ : ∃ n, n = L.length := ⟨_, rfl⟩
  have hq : CAt w ⟨b, .slice a n cap⟩ now L := by rw [hnn]; exact h
  have HQ := hide' hq
  have HRD := hide' hw.rd
  have HN : Hid (L.length = n) := hnn.symm
  have HNM : Hid (n ≤ 2048) := by have := h.len; show n ≤ 2048; omega
  have HM := hide' (makes20 e k)
  obtain ⟨g0, g1, k0, k1⟩ := hq.box
  simp only at g0 g1 k0 k1
  have hS : (fun w' => Stay (fun _ => False) w w' ∧ KBox w' b ⟨now, .slice a n cap⟩) w.drew := ⟨(Stay.refl _ _).drew, hq.box.keep (Stay.refl _ _).drew⟩
  obtain ⟨bv, hbv⟩ : ∃ c, c = L.any (isB e k) := ⟨_, rfl⟩
  have HA := hide' hbv
  rw [← hnn]
  have HLT : Hid ((outL (isB e k) L).length < 1024) := by have := out_lt ha; show _ < _; omega
  rw [ha] at hbv
  subst hbv
  have z1 : (1024 : Int) ≤ (n : Nat) := by omega
  have z2 : decide ((1024 : Int) ≤ (n : Nat)) = true := decide_eq_true z1
  clear h hw h00 hnn hq hl ha
  go_enter Try.func10, Try.ntmps10
  go_upto_region 5 with fail
  refine wp_region_mix (fun w' => Stay (fun _ => False) w w' ∧ KBox w' b ⟨now, .slice a n cap⟩) [(0, true), (1, true), (2, true), (3, true), (4, true), (5, true), (6, true), (7, true), (8, true), (9, true), (10, true), (11, true), (12, true), (13, false), (14, false), (15, true), (16, true), (17, true)] (by kernel_rfl) (by kernel_rfl) (fun _ d _ _ _ h => by cases d <;> exact h) hS ?_
  refine mix_begin (fun K0 hK0 => ?_)
  refine mix_take hK0 (some 24) (.move (.tmp 0)) 24 _ (by kernel_rfl) (by kernel_rfl) (fun w' hS' => by (obtain ⟨_, s1⟩ := hS'; obtain ⟨g0, g1, _, _⟩ := s1; simp only at g0 g1; simp only [opr]; go_simp; try with_reducible rfl)) (fun K1 hK1 => ?_)
  clear hK0 K0
  simp only [Act.put, List.setIfInBounds_toArray, List.set_cons_zero, List.set_cons_succ]
  refine mix_take hK1 (some 25) (.nilCheck (.tmp 24)) 0 _ (by kernel_rfl) (by kernel_rfl) (fun w' hS' => by (obtain ⟨_, s1⟩ := hS'; obtain ⟨g0, g1, _, _⟩ := s1; simp only at g0 g1; simp only [opr]; go_simp; try with_reducible rfl)) (fun K2 hK2 => ?_)
  clear hK1 K1
  simp only [Act.put, List.setIfInBounds_toArray, List.set_cons_zero, List.set_cons_succ]
  refine mix_take hK2 (some 26) (.fieldAddr 47 (.tmp 25) 1) 0 _ (by kernel_rfl) (by kernel_rfl) (fun w' hS' => by (obtain ⟨_, s1⟩ := hS'; obtain ⟨g0, g1, _, _⟩ := s1; simp only at g0 g1; simp only [opr]; go_simp; try with_reducible rfl)) (fun K3 hK3 => ?_)
  clear hK2 K2
  simp only [Act.put, List.setIfInBounds_toArray, List.set_cons_zero, List.set_cons_succ]
  refine mix_take hK3 (some 27) (.load 26 (.tmp 26)) 26 _ (by kernel_rfl) (by kernel_rfl) (fun w' hS' => by (obtain ⟨_, s1⟩ := hS'; obtain ⟨g0, g1, _, _⟩ := s1; simp only at g0 g1; simp only [opr]; go_simp; try with_reducible rfl)) (fun K4 hK4 => ?_)
  clear hK3 K3
  simp only [Act.put, List.setIfInBounds_toArray, List.set_cons_zero, List.set_cons_succ]
  refine mix_take hK4 (some 28) (.call { callee := Callee.builtin Builtin.len, args := #[.tmp 27], argTypes := #[26] }) 3 _ (by kernel_rfl) (by kernel_rfl) (fun w' hS' => by (obtain ⟨_, s1⟩ := hS'; obtain ⟨g0, g1, _, _⟩ := s1; simp only at g0 g1; simp only [opr]; go_simp; try with_reducible rfl)) (fun K5 hK5 => ?_)
  clear hK4 K4
  simp only [Act.put, List.setIfInBounds_toArray, List.set_cons_zero, List.set_cons_succ]
  refine mix_take hK5 (some 29) (.binOp BinOp.geq 3 (.tmp 28) (.const (Value.int IntKind.i64 1024)) 3) 4 _ (by kernel_rfl) (by kernel_rfl) (fun w' hS' => by (obtain ⟨_, s1⟩ := hS'; obtain ⟨g0, g1, _, _⟩ := s1; simp only at g0 g1; simp only [opr]; go_simp; try with_reducible rfl)) (fun K6 hK6 => ?_)
  clear hK5 K5
  simp only [Act.put, List.setIfInBounds_toArray, List.set_cons_zero, List.set_cons_succ]
  refine mix_take hK6 (some 30) (.move (.tmp 29)) 4 _ (by kernel_rfl) (by kernel_rfl) (fun w' hS' => by (obtain ⟨_, s1⟩ := hS'; obtain ⟨g0, g1, _, _⟩ := s1; simp only at g0 g1; simp only [opr]; go_simp; try with_reducible rfl)) (fun K7 hK7 => ?_)
  clear hK6 K6
  simp only [Act.put, List.setIfInBounds_toArray, List.set_cons_zero, List.set_cons_succ]
  refine mix_take hK7 (some 31) (.move (.tmp 0)) 24 _ (by kernel_rfl) (by kernel_rfl) (fun w' hS' => by (obtain ⟨_, s1⟩ := hS'; obtain ⟨g0, g1, _, _⟩ := s1; simp only at g0 g1; simp only [opr]; go_simp; try with_reducible rfl)) (fun K8 hK8 => ?_)
  clear hK7 K7
  simp only [Act.put, List.setIfInBounds_toArray, List.set_cons_zero, List.set_cons_succ]
  refine mix_take hK8 (some 32) (.nilCheck (.tmp 31)) 0 _ (by kernel_rfl) (by kernel_rfl) (fun w' hS' => by (obtain ⟨_, s1⟩ := hS'; obtain ⟨g0, g1, _, _⟩ := s1; simp only at g0 g1; simp only [opr]; go_simp; try with_reducible rfl)) (fun K9 hK9 => ?_)
  clear hK8 K8
  simp only [Act.put, List.setIfInBounds_toArray, List.set_cons_zero, List.set_cons_succ]
  refine mix_take hK9 (some 33) (.fieldAddr 47 (.tmp 32) 1) 0 _ (by kernel_rfl) (by kernel_rfl) (fun w' hS' => by (obtain ⟨_, s1⟩ := hS'; obtain ⟨g0, g1, _, _⟩ := s1; simp only at g0 g1; simp only [opr]; go_simp; try with_reducible rfl)) (fun K10 hK10 => ?_)
  clear hK9 K9
  simp only [Act.put, List.setIfInBounds_toArray, List.set_cons_zero, List.set_cons_succ]
  refine mix_take hK10 (some 34) (.load 26 (.tmp 33)) 26 _ (by kernel_rfl) (by kernel_rfl) (fun w' hS' => by (obtain ⟨_, s1⟩ := hS'; obtain ⟨g0, g1, _, _⟩ := s1; simp only at g0 g1; simp only [opr]; go_simp; try with_reducible rfl)) (fun K11 hK11 => ?_)
  clear hK10 K10
  simp only [Act.put, List.setIfInBounds_toArray, List.set_cons_zero, List.set_cons_succ]
  refine mix_take hK11 (some 35) (.move (.tmp 1)) 3 _ (by kernel_rfl) (by kernel_rfl) (fun w' hS' => by (obtain ⟨_, s1⟩ := hS'; obtain ⟨g0, g1, _, _⟩ := s1; simp only at g0 g1; simp only [opr]; go_simp; try with_reducible rfl)) (fun K12 hK12 => ?_)
  clear hK11 K11
  simp only [Act.put, List.setIfInBounds_toArray, List.set_cons_zero, List.set_cons_succ]
  refine mix_take hK12 (some 36) (.move (.tmp 2)) 3 _ (by kernel_rfl) (by kernel_rfl) (fun w' hS' => by (obtain ⟨_, s1⟩ := hS'; obtain ⟨g0, g1, _, _⟩ := s1; simp only at g0 g1; simp only [opr]; go_simp; try with_reducible rfl)) (fun K13 hK13 => ?_)
  clear hK12 K12
  simp only [Act.put, List.setIfInBounds_toArray, List.set_cons_zero, List.set_cons_succ]
  refine mix_call hK13 (some 37) 20 #[.tmp 35, .tmp 36] #[3, 3] 49 _ (by kernel_rfl) (by kernel_rfl) (enters Try.func20 (by kernel_rfl) (by kernel_rfl)) (by go_simp; try with_reducible rfl) (fun K14 hK14 => ?_)
  clear hK13 K13
  refine ((HM.out _)).mono ?_
  rintro _ wm1 ⟨bx, bz, rfl, hs1, c0, c1, _, _⟩
  have hS1 : _ := (show (fun w' => Stay (fun _ => False) w w' ∧ KBox w' b ⟨now, .slice a n cap⟩) wm1 from ⟨hS.1.trans hs1, hS.2.keep hs1⟩)
  refine ⟨_, rfl, hS1, ?_⟩
  have HCN := hide' (contains19 a n cap L (isB e k) bx bz wm1 (HRD.out.keep hS1.1) HN.out HNM.out (fun w' hs t => is28 t bx bz e k w' (keep_cell hs c0) (keep_cell hs c1)))
  rw [← HA.out] at HCN
  clear c0 c1
  clear hs1
  simp only [Act.put, List.setIfInBounds_toArray, List.set_cons_zero, List.set_cons_succ]
  refine mix_call hK14 (some 38) 19 #[.tmp 34, .tmp 37] #[26, 49] 4 _ (by kernel_rfl) (by kernel_rfl) (enters Try.func19 (by kernel_rfl) (by kernel_rfl)) (by go_simp; try with_reducible rfl) (fun K15 hK15 => ?_)
  clear hK14 K14
  refine (HCN.out).mono ?_
  rintro _ wm2 ⟨rfl, hs2⟩
  have hS2 : _ := (show (fun w' => Stay (fun _ => False) w w' ∧ KBox w' b ⟨now, .slice a n cap⟩) wm2 from ⟨hS1.1.trans hs2, hS1.2.keep hs2⟩)
  refine ⟨_, rfl, hS2, ?_⟩
  clear HCN
  clear hs2
  simp only [Act.put, List.setIfInBounds_toArray, List.set_cons_zero, List.set_cons_succ]
  refine mix_take hK15 (some 39) (.unOp UnOp.not 4 (.tmp 38)) 4 _ (by kernel_rfl) (by kernel_rfl) (fun w' hS' => by (obtain ⟨_, s1⟩ := hS'; obtain ⟨g0, g1, _, _⟩ := s1; simp only at g0 g1; simp only [opr]; go_simp; try with_reducible rfl)) (fun K16 hK16 => ?_)
  clear hK15 K15
  simp only [Act.put, List.setIfInBounds_toArray, List.set_cons_zero, List.set_cons_succ]
  refine mix_take hK16 (some 40) (.pick (.tmp 30) (.tmp 39) (.const (Value.bool false))) 4 _ (by kernel_rfl) (by kernel_rfl) (fun w' hS' => by (obtain ⟨_, s1⟩ := hS'; obtain ⟨g0, g1, _, _⟩ := s1; simp only at g0 g1; simp only [opr]; go_simp; try with_reducible rfl)) (fun K17 hK17 => ?_)
  clear hK16 K16
  simp only [Act.put, List.setIfInBounds_toArray, List.set_cons_zero, List.set_cons_succ]
  refine mix_take hK17 (some 23) (.assign (.tmp 40)) 4 _ (by kernel_rfl) (by kernel_rfl) (fun w' hS' => by (obtain ⟨_, s1⟩ := hS'; obtain ⟨g0, g1, _, _⟩ := s1; simp only at g0 g1; simp only [opr]; go_simp; try with_reducible rfl)) (fun K18 hK18 => ?_)
  clear hK17 K17
  simp only [Act.put, List.setIfInBounds_toArray, List.set_cons_zero, List.set_cons_succ]
  refine hK18 _ _ (mix_nil ?_)
  clear hK18 K18
  clear g0 g1 k0 k1
  have HS := hide' hS2.1
  clear hS hS2
  have HQ1 := hide' (HQ.out.keep HS.out)
  have HC := hide' (cancel13 ⟨b, .slice a n cap⟩ now e k L wm2 HQ1.out)
  obtain ⟨z, hz⟩ : ∃ z, z = (decide (0 < goneI (isB e k) L)) := ⟨_, rfl⟩
  rw [← hz] at HC
  obtain ⟨M, hM⟩ : ∃ M, M = outL (isB e k) L := ⟨_, rfl⟩
  have HMM := hide' hM
  have HC2 : Hid (Calls Try.prog 13 #[.pointer (some ⟨b, 0, none⟩), .int .i64 e, .int .i64 k] wm2 (TurnC ⟨b, .slice a n cap⟩ now M (.bool z) wm2)) := by rw [hM]; exact HC.out
  obtain ⟨y, hy⟩ : ∃ y, y = insT ⟨e, k, now + x⟩ M := ⟨_, rfl⟩
  rw [← hM, ← hy]
  have HY := hide' hy
  have HP : Hid (∀ W v, CAt W ⟨b, v⟩ now M → Calls Try.prog 21 #[.pointer (some ⟨b, 0, none⟩), .agg #[.int .i64 e, .int .i64 k, .int .i64 (now + x)]] W (TurnC ⟨b, v⟩ now y (.tuple #[]) W)) := fun W v hW => by
    have hp := put21 ⟨b, v⟩ now M ⟨e, k, now + x⟩ W hW (by rw [HMM.out]; exact HLT.out) (by rw [HMM.out]; exact outL_ne)
    rw [← HY.out] at hp
    exact hp
  have ew : IntKind.i64.wrap (now + x) = now + x := by rw [IntKind.wrap_i64]; have := HQ.out.n0; have := HQ.out.n1; omega
  clear hz hM hy HC
  go_wp2_with fail
  refine HC2.out.mono ?_
  rintro _ w5 ⟨v5, rfl, hc5, hm5⟩
  have HMV := hide' hm5
  have HP5 := hide' (HP.out w5 v5 hc5)
  obtain ⟨g0, g1, _, _⟩ := hc5.box
  simp only at g0 g1
  clear hc5 hm5 HC2 HP
  go_wp2_with fail
  refine HP5.out.mono ?_
  rintro _ w6 ⟨v6, rfl, hc6, hm6⟩
  have HF : Hid (CAt w6 ⟨b, v6⟩ now y ∧ Moved ⟨b, .slice a n cap⟩ ⟨b, v6⟩ w w6) := ⟨hc6, ((Moved.of_stay HS.out).trans HMV.out).trans hm6⟩
  clear hc6 hm6 HP5 g0 g1
  go_wp2
  go_ret
  exact ⟨v6, rfl, by have h := HF.out; rw [HY.out, HMM.out] at h; exact h⟩

theorem set10 (q : Cq) (now e k x : Int) (L : List Tm) (w : World) (h : CAt w q now L) (h0 : 0 ≤ e) (h1 : 0 ≤ k) (h2 : 1 ≤ x) (h3 : x ≤ 1073741824) (hl : L.length < 1024 ∨ L.any (isB e k) = true) : Calls Try.prog 10 #[.pointer (some ⟨q.b, 0, none⟩), .int .i64 e, .int .i64 k, .int .i64 x] w (TurnC q now (insT ⟨e, k, now + x⟩ (outL (isB e k) L)) (.int .i64 0) w) := by
  by_cases hn : L.length < 1024
  · exact set10_room q now e k x L w h h0 h1 h2 h3 hn
  · rcases hl with hl | hl
    · exact absurd hl hn
    · exact set10_there q now e k x L w h h0 h1 h2 h3 (by have := h.len; omega) hl

end Go.Proofs.Ytihciknbmhadjaa
