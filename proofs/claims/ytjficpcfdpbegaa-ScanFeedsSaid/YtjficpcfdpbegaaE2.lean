/-
  The document's bytes of a key, walked class by class. Conditions: the class, the modifiers.
-/
import Derived.Test.YtjficpcfdpbegaaE0
namespace Go.Proofs.Ytjficpcfdpbegaa
open Go.RowKit

set_option maxHeartbeats 1000000 in
set_option maxRecDepth 100000 in
theorem rb_A2a (c : Int) (m : Int) (app : Bool) (w : World) (g1 : 1 ≤ c) (g2 : c ≤ 26) (h2 : bitB m 2 = true) (h4 : bitB m 4 = true) : Calls Try.prog 14 #[.agg #[.int .i64 c, .int .i64 m], .bool app] w (GivesBs [27, c] w) := by
  have HB := hide' (KBox.new (w := w) ⟨c, m⟩ rfl)
  obtain ⟨c0, c1, _⟩ := HB.out
  have HS := hide' ((Stay.refl (fun _ => False) w).alloc (.cells #[.int .i64 c, .int .i64 m] 27))
  have H2 := hide' (bit18 m 2)
  rw [h2] at H2
  clear h2
  have H4 := hide' (bit18 m 4)
  rw [h4] at H4
  clear h4
  go_enter Try.func14, Try.ntmps14
  go_wp2_with fail
  refine (H2.out _).mono ?_
  rintro e w' ⟨rfl, rfl⟩
  go_upto_region 33 with fail
  obtain ⟨W, hW⟩ : ∃ W, W = ((w.alloc (.cells #[.int .i64 c, .int .i64 m] 27)).alloc (.cells #[.int .u8 c] 5)) := ⟨_, rfl⟩
  have HS2 : Hid (Stay (fun _ => False) w W) := by show _; rw [hW]; exact (HS.out.alloc (.cells #[.int .u8 c] 5))
  have HB2 : Hid (KBox W w.heap.size ⟨c, m⟩) := by show _; rw [hW]; exact (HB.out).alloc _
  have HV : Hid (Bs W (.slice (some ⟨w.heap.size + 1, 0, none⟩) 1 1) [c]) := by show _; rw [hW]; exact bs_new' _ _ _ _ 1 (by simp) rfl rfl
  rw [← hW]
  clear hW HS HB c0 c1
  obtain ⟨c0, c1, _⟩ := HB2.out
  go_wp2_with fail
  refine (H4.out _).mono ?_
  rintro e w' ⟨rfl, rfl⟩
  have HN := hide' HS2.out.size
  have HO : Hid ((W.alloc (.cells #[.int .u8 27] 5)).ownsRow W.heap.size 5 1 (.slice (some ⟨W.heap.size, 0, none⟩) 1 1) 1 [.int .u8 27]) := hide' (owns_new W #[.int .u8 27] 5 (by unfold maxLen; simp))
  have HR := hide' (isRow_keep (HV.out.isRow (by simp)) ((Stay.refl (fun _ => False) W).alloc (.cells #[.int .u8 27] 5)))
  have HT := hide' ((Stay.refl (fun k => W.heap.size ≤ k) W).alloc (.cells #[.int .u8 27] 5))
  clear HV c0 c1
  go_wp2_with (at_builtin; go_loud (refine appL (fun k => W.heap.size ≤ k) rfl _ _ 22 rfl Try.underlying22 Try.info5 rfl (by decide) HO.out rfl HR.out rfl (one_ints _ _) (by simp) (by simp) (fun k hk => by simp [Value.ownBlock] at hk; omega) ?_); intro v1 W1 ho hst; have HO1 := hide' ho; have HT1 := hide' hst; clear ho hst)
  go_ret
  exact ⟨_, rfl, bs_owned HO1.out rfl, stay_made HS2.out HN.out (HT.out.trans HT1.out)⟩

set_option maxHeartbeats 1000000 in
set_option maxRecDepth 100000 in
theorem rb_A0a (c : Int) (m : Int) (app : Bool) (w : World) (g1 : 1 ≤ c) (g2 : c ≤ 26) (h2 : bitB m 2 = false) (h1 : bitB m 1 = false) (h4 : bitB m 4 = true) : Calls Try.prog 14 #[.agg #[.int .i64 c, .int .i64 m], .bool app] w (GivesBs [27, 96 + c] w) := by
  have HB := hide' (KBox.new (w := w) ⟨c, m⟩ rfl)
  obtain ⟨c0, c1, _⟩ := HB.out
  have HS := hide' ((Stay.refl (fun _ => False) w).alloc (.cells #[.int .i64 c, .int .i64 m] 27))
  have H2 := hide' (bit18 m 2)
  rw [h2] at H2
  clear h2
  have H1 := hide' (bit18 m 1)
  rw [h1] at H1
  clear h1
  have H4 := hide' (bit18 m 4)
  rw [h4] at H4
  clear h4
  go_enter Try.func14, Try.ntmps14
  go_wp2_with fail
  refine (H2.out _).mono ?_
  rintro e w' ⟨rfl, rfl⟩
  go_wp2_with fail
  refine (H1.out _).mono ?_
  rintro e w' ⟨rfl, rfl⟩
  go_upto_region 33 with fail
  obtain ⟨W, hW⟩ : ∃ W, W = ((w.alloc (.cells #[.int .i64 c, .int .i64 m] 27)).alloc (.cells #[.int .u8 (96 + c)] 5)) := ⟨_, rfl⟩
  have HS2 : Hid (Stay (fun _ => False) w W) := by show _; rw [hW]; exact (HS.out.alloc (.cells #[.int .u8 (96 + c)] 5))
  have HB2 : Hid (KBox W w.heap.size ⟨c, m⟩) := by show _; rw [hW]; exact (HB.out).alloc _
  have HV : Hid (Bs W (.slice (some ⟨w.heap.size + 1, 0, none⟩) 1 1) [96 + c]) := by show _; rw [hW]; exact bs_new' _ _ _ _ 1 (by simp) rfl rfl
  rw [← hW]
  clear hW HS HB c0 c1
  obtain ⟨c0, c1, _⟩ := HB2.out
  go_wp2_with fail
  refine (H4.out _).mono ?_
  rintro e w' ⟨rfl, rfl⟩
  have HN := hide' HS2.out.size
  have HO : Hid ((W.alloc (.cells #[.int .u8 27] 5)).ownsRow W.heap.size 5 1 (.slice (some ⟨W.heap.size, 0, none⟩) 1 1) 1 [.int .u8 27]) := hide' (owns_new W #[.int .u8 27] 5 (by unfold maxLen; simp))
  have HR := hide' (isRow_keep (HV.out.isRow (by simp)) ((Stay.refl (fun _ => False) W).alloc (.cells #[.int .u8 27] 5)))
  have HT := hide' ((Stay.refl (fun k => W.heap.size ≤ k) W).alloc (.cells #[.int .u8 27] 5))
  clear HV c0 c1
  go_wp2_with (at_builtin; go_loud (refine appL (fun k => W.heap.size ≤ k) rfl _ _ 22 rfl Try.underlying22 Try.info5 rfl (by decide) HO.out rfl HR.out rfl (one_ints _ _) (by simp) (by simp) (fun k hk => by simp [Value.ownBlock] at hk; omega) ?_); intro v1 W1 ho hst; have HO1 := hide' ho; have HT1 := hide' hst; clear ho hst)
  go_ret
  exact ⟨_, rfl, bs_owned HO1.out rfl, stay_made HS2.out HN.out (HT.out.trans HT1.out)⟩

set_option maxHeartbeats 1000000 in
set_option maxRecDepth 100000 in
theorem rb_B0a (c : Int) (m : Int) (app : Bool) (w : World) (g1 : 27 ≤ c) (g2 : c ≤ 35) (h1 : bitB m 1 = false) (h4 : bitB m 4 = true) : Calls Try.prog 14 #[.agg #[.int .i64 c, .int .i64 m], .bool app] w (GivesBs [27, typedT.getD (c - 1).toNat 0] w) := by
  have HB := hide' (KBox.new (w := w) ⟨c, m⟩ rfl)
  obtain ⟨c0, c1, _⟩ := HB.out
  have HS := hide' ((Stay.refl (fun _ => False) w).alloc (.cells #[.int .i64 c, .int .i64 m] 27))
  have H1 := hide' (bit18 m 1)
  rw [h1] at H1
  clear h1
  have H4 := hide' (bit18 m 4)
  rw [h4] at H4
  clear h4
  go_enter Try.func14, Try.ntmps14
  go_wp2_with fail
  refine (H1.out _).mono ?_
  rintro e w' ⟨rfl, rfl⟩
  go_upto_region 33 with fail
  obtain ⟨W, hW⟩ : ∃ W, W = ((w.alloc (.cells #[.int .i64 c, .int .i64 m] 27)).alloc (.cells #[.int .u8 (49 + c - 27)] 5)) := ⟨_, rfl⟩
  have HS2 : Hid (Stay (fun _ => False) w W) := by show _; rw [hW]; exact (HS.out.alloc (.cells #[.int .u8 (49 + c - 27)] 5))
  have HB2 : Hid (KBox W w.heap.size ⟨c, m⟩) := by show _; rw [hW]; exact (HB.out).alloc _
  have HV : Hid (Bs W (.slice (some ⟨w.heap.size + 1, 0, none⟩) 1 1) [typedT.getD (c - 1).toNat 0]) := by show _; rw [hW]; exact by rw [← b0 c (by omega) (by omega)]; exact bs_new' _ _ _ _ 1 (by simp) rfl rfl
  rw [← hW]
  clear hW HS HB c0 c1
  obtain ⟨c0, c1, _⟩ := HB2.out
  go_wp2_with fail
  refine (H4.out _).mono ?_
  rintro e w' ⟨rfl, rfl⟩
  have HN := hide' HS2.out.size
  have HO : Hid ((W.alloc (.cells #[.int .u8 27] 5)).ownsRow W.heap.size 5 1 (.slice (some ⟨W.heap.size, 0, none⟩) 1 1) 1 [.int .u8 27]) := hide' (owns_new W #[.int .u8 27] 5 (by unfold maxLen; simp))
  have HR := hide' (isRow_keep (HV.out.isRow (by simp)) ((Stay.refl (fun _ => False) W).alloc (.cells #[.int .u8 27] 5)))
  have HT := hide' ((Stay.refl (fun k => W.heap.size ≤ k) W).alloc (.cells #[.int .u8 27] 5))
  clear HV c0 c1
  go_wp2_with (at_builtin; go_loud (refine appL (fun k => W.heap.size ≤ k) rfl _ _ 22 rfl Try.underlying22 Try.info5 rfl (by decide) HO.out rfl HR.out rfl (one_ints _ _) (by simp) (by simp) (fun k hk => by simp [Value.ownBlock] at hk; omega) ?_); intro v1 W1 ho hst; have HO1 := hide' ho; have HT1 := hide' hst; clear ho hst)
  go_ret
  exact ⟨_, rfl, bs_owned HO1.out rfl, stay_made HS2.out HN.out (HT.out.trans HT1.out)⟩

set_option maxHeartbeats 1000000 in
set_option maxRecDepth 100000 in
theorem rb_K1a (m : Int) (app : Bool) (w : World) (h2 : bitB m 2 = true) (h4 : bitB m 4 = true) : Calls Try.prog 14 #[.agg #[.int .i64 37, .int .i64 m], .bool app] w (GivesBs [27, 0] w) := by
  have HB := hide' (KBox.new (w := w) ⟨37, m⟩ rfl)
  obtain ⟨c0, c1, _⟩ := HB.out
  have HS := hide' ((Stay.refl (fun _ => False) w).alloc (.cells #[.int .i64 37, .int .i64 m] 27))
  have H2 := hide' (bit18 m 2)
  rw [h2] at H2
  clear h2
  have H4 := hide' (bit18 m 4)
  rw [h4] at H4
  clear h4
  go_enter Try.func14, Try.ntmps14
  go_wp2_with fail
  refine (H2.out _).mono ?_
  rintro e w' ⟨rfl, rfl⟩
  go_upto_region 33 with fail
  obtain ⟨W, hW⟩ : ∃ W, W = ((w.alloc (.cells #[.int .i64 37, .int .i64 m] 27)).alloc (.cells #[.int .u8 0] 5)) := ⟨_, rfl⟩
  have HS2 : Hid (Stay (fun _ => False) w W) := by show _; rw [hW]; exact (HS.out.alloc (.cells #[.int .u8 0] 5))
  have HB2 : Hid (KBox W w.heap.size ⟨37, m⟩) := by show _; rw [hW]; exact (HB.out).alloc _
  have HV : Hid (Bs W (.slice (some ⟨w.heap.size + 1, 0, none⟩) 1 1) [0]) := by show _; rw [hW]; exact bs_new' _ _ _ _ 1 (by simp) rfl rfl
  rw [← hW]
  clear hW HS HB c0 c1
  obtain ⟨c0, c1, _⟩ := HB2.out
  go_wp2_with fail
  refine (H4.out _).mono ?_
  rintro e w' ⟨rfl, rfl⟩
  have HN := hide' HS2.out.size
  have HO : Hid ((W.alloc (.cells #[.int .u8 27] 5)).ownsRow W.heap.size 5 1 (.slice (some ⟨W.heap.size, 0, none⟩) 1 1) 1 [.int .u8 27]) := hide' (owns_new W #[.int .u8 27] 5 (by unfold maxLen; simp))
  have HR := hide' (isRow_keep (HV.out.isRow (by simp)) ((Stay.refl (fun _ => False) W).alloc (.cells #[.int .u8 27] 5)))
  have HT := hide' ((Stay.refl (fun k => W.heap.size ≤ k) W).alloc (.cells #[.int .u8 27] 5))
  clear HV c0 c1
  go_wp2_with (at_builtin; go_loud (refine appL (fun k => W.heap.size ≤ k) rfl _ _ 22 rfl Try.underlying22 Try.info5 rfl (by decide) HO.out rfl HR.out rfl (one_ints _ _) (by simp) (by simp) (fun k hk => by simp [Value.ownBlock] at hk; omega) ?_); intro v1 W1 ho hst; have HO1 := hide' ho; have HT1 := hide' hst; clear ho hst)
  go_ret
  exact ⟨_, rfl, bs_owned HO1.out rfl, stay_made HS2.out HN.out (HT.out.trans HT1.out)⟩

set_option maxHeartbeats 1000000 in
set_option maxRecDepth 100000 in
theorem rb_T1a (m : Int) (app : Bool) (w : World) (h1 : bitB m 1 = true) (h4 : bitB m 4 = true) : Calls Try.prog 14 #[.agg #[.int .i64 40, .int .i64 m], .bool app] w (GivesBs [27, 27, 91, 90] w) := by
  have HB := hide' (KBox.new (w := w) ⟨40, m⟩ rfl)
  obtain ⟨c0, c1, _⟩ := HB.out
  have HS := hide' ((Stay.refl (fun _ => False) w).alloc (.cells #[.int .i64 40, .int .i64 m] 27))
  have H1 := hide' (bit18 m 1)
  rw [h1] at H1
  clear h1
  have H4 := hide' (bit18 m 4)
  rw [h4] at H4
  clear h4
  go_enter Try.func14, Try.ntmps14
  go_wp2_with fail
  refine (H1.out _).mono ?_
  rintro e w' ⟨rfl, rfl⟩
  go_upto_region 33 with fail
  obtain ⟨W, hW⟩ : ∃ W, W = ((w.alloc (.cells #[.int .i64 40, .int .i64 m] 27)).alloc (.cells #[.int .u8 27, .int .u8 91, .int .u8 90] 5)) := ⟨_, rfl⟩
  have HS2 : Hid (Stay (fun _ => False) w W) := by show _; rw [hW]; exact (HS.out.alloc (.cells #[.int .u8 27, .int .u8 91, .int .u8 90] 5))
  have HB2 : Hid (KBox W w.heap.size ⟨40, m⟩) := by show _; rw [hW]; exact (HB.out).alloc _
  have HV : Hid (Bs W (.slice (some ⟨w.heap.size + 1, 0, none⟩) 3 3) [27, 91, 90]) := by show _; rw [hW]; exact bs_new' _ _ _ _ 3 (by simp) rfl rfl
  rw [← hW]
  clear hW HS HB c0 c1
  obtain ⟨c0, c1, _⟩ := HB2.out
  go_wp2_with fail
  refine (H4.out _).mono ?_
  rintro e w' ⟨rfl, rfl⟩
  have HN := hide' HS2.out.size
  have HO : Hid ((W.alloc (.cells #[.int .u8 27] 5)).ownsRow W.heap.size 5 1 (.slice (some ⟨W.heap.size, 0, none⟩) 1 1) 1 [.int .u8 27]) := hide' (owns_new W #[.int .u8 27] 5 (by unfold maxLen; simp))
  have HR := hide' (isRow_keep (HV.out.isRow (by simp)) ((Stay.refl (fun _ => False) W).alloc (.cells #[.int .u8 27] 5)))
  have HT := hide' ((Stay.refl (fun k => W.heap.size ≤ k) W).alloc (.cells #[.int .u8 27] 5))
  clear HV c0 c1
  go_wp2_with (at_builtin; go_loud (refine appL (fun k => W.heap.size ≤ k) rfl _ _ 22 rfl Try.underlying22 Try.info5 rfl (by decide) HO.out rfl HR.out rfl (one_ints _ _) (by simp) (by simp) (fun k hk => by simp [Value.ownBlock] at hk; omega) ?_); intro v1 W1 ho hst; have HO1 := hide' ho; have HT1 := hide' hst; clear ho hst)
  go_ret
  exact ⟨_, rfl, bs_owned HO1.out rfl, stay_made HS2.out HN.out (HT.out.trans HT1.out)⟩

set_option maxHeartbeats 1000000 in
set_option maxRecDepth 100000 in
theorem rb_Ea (c : Int) (m : Int) (app : Bool) (w : World) (g1 : 38 ≤ c) (g2 : c ≤ 41) (g3 : c ≠ 40) (h4 : bitB m 4 = true) : Calls Try.prog 14 #[.agg #[.int .i64 c, .int .i64 m], .bool app] w (GivesBs [27, typedT.getD (c - 1).toNat 0] w) := by
  have HB := hide' (KBox.new (w := w) ⟨c, m⟩ rfl)
  obtain ⟨c0, c1, _⟩ := HB.out
  have HS := hide' ((Stay.refl (fun _ => False) w).alloc (.cells #[.int .i64 c, .int .i64 m] 27))
  have H4 := hide' (bit18 m 4)
  rw [h4] at H4
  clear h4
  have e40 : (c == 40) = false := beq_f g3
  clear g3
  have e5 : ¬ (5 = (c - 37).toNat) := by omega
  have en : (c - 36).toNat - (c - 37).toNat = 1 := by omega
  go_enter Try.func14, Try.ntmps14
  go_upto_region 33 with fail
  obtain ⟨W, hW⟩ : ∃ W, W = ((w.alloc (.cells #[.int .i64 c, .int .i64 m] 27)).alloc (.cells #[.int .u8 32, .int .u8 13, .int .u8 127, .int .u8 9, .int .u8 27] 5)) := ⟨_, rfl⟩
  have HS2 : Hid (Stay (fun _ => False) w W) := by show _; rw [hW]; exact (HS.out.alloc (.cells #[.int .u8 32, .int .u8 13, .int .u8 127, .int .u8 9, .int .u8 27] 5))
  have HB2 : Hid (KBox W w.heap.size ⟨c, m⟩) := by show _; rw [hW]; exact (HB.out).alloc _
  have HV : Hid (Bs W (.slice (some ⟨w.heap.size + 1, (c - 37).toNat, none⟩) 1 (5 - (c - 37).toNat)) [typedT.getD (c - 1).toNat 0]) := by show _; rw [hW]; exact bs_part _ _ _ _ _ _ _ (by simp) (k5 c (by omega) (by omega)) rfl (by omega)
  rw [← hW]
  clear hW HS HB c0 c1
  obtain ⟨c0, c1, _⟩ := HB2.out
  go_wp2_with fail
  refine (H4.out _).mono ?_
  rintro e w' ⟨rfl, rfl⟩
  have HN := hide' HS2.out.size
  have HO : Hid ((W.alloc (.cells #[.int .u8 27] 5)).ownsRow W.heap.size 5 1 (.slice (some ⟨W.heap.size, 0, none⟩) 1 1) 1 [.int .u8 27]) := hide' (owns_new W #[.int .u8 27] 5 (by unfold maxLen; simp))
  have HR := hide' (isRow_keep (HV.out.isRow (by simp)) ((Stay.refl (fun _ => False) W).alloc (.cells #[.int .u8 27] 5)))
  have HT := hide' ((Stay.refl (fun k => W.heap.size ≤ k) W).alloc (.cells #[.int .u8 27] 5))
  clear HV c0 c1
  go_wp2_with (at_builtin; go_loud (refine appL (fun k => W.heap.size ≤ k) rfl _ _ 22 rfl Try.underlying22 Try.info5 rfl (by decide) HO.out rfl HR.out rfl (one_ints _ _) (by simp) (by simp) (fun k hk => by simp [Value.ownBlock] at hk; omega) ?_); intro v1 W1 ho hst; have HO1 := hide' ho; have HT1 := hide' hst; clear ho hst)
  go_ret
  exact ⟨_, rfl, bs_owned HO1.out rfl, stay_made HS2.out HN.out (HT.out.trans HT1.out)⟩

set_option maxHeartbeats 1000000 in
set_option maxRecDepth 100000 in
theorem rb_S0a (c : Int) (m : Int) (app : Bool) (w : World) (g1 : 42 ≤ c) (g2 : c ≤ 52) (h1 : bitB m 1 = false) (h4 : bitB m 4 = true) : Calls Try.prog 14 #[.agg #[.int .i64 c, .int .i64 m], .bool app] w (GivesBs [27, typedT.getD (c - 1).toNat 0] w) := by
  have HB := hide' (KBox.new (w := w) ⟨c, m⟩ rfl)
  obtain ⟨c0, c1, _⟩ := HB.out
  have HS := hide' ((Stay.refl (fun _ => False) w).alloc (.cells #[.int .i64 c, .int .i64 m] 27))
  have H1 := hide' (bit18 m 1)
  rw [h1] at H1
  clear h1
  have H4 := hide' (bit18 m 4)
  rw [h4] at H4
  clear h4
  have e11 : ¬ (11 = (c - 42).toNat) := by omega
  have en : (c - 41).toNat - (c - 42).toNat = 1 := by omega
  go_enter Try.func14, Try.ntmps14
  go_wp2_with fail
  refine (H1.out _).mono ?_
  rintro e w' ⟨rfl, rfl⟩
  go_upto_region 33 with fail
  obtain ⟨W, hW⟩ : ∃ W, W = ((w.alloc (.cells #[.int .i64 c, .int .i64 m] 27)).alloc (.cells #[.int .u8 45, .int .u8 61, .int .u8 91, .int .u8 93, .int .u8 92, .int .u8 59, .int .u8 39, .int .u8 44, .int .u8 46, .int .u8 47, .int .u8 96] 5)) := ⟨_, rfl⟩
  have HS2 : Hid (Stay (fun _ => False) w W) := by show _; rw [hW]; exact (HS.out.alloc (.cells #[.int .u8 45, .int .u8 61, .int .u8 91, .int .u8 93, .int .u8 92, .int .u8 59, .int .u8 39, .int .u8 44, .int .u8 46, .int .u8 47, .int .u8 96] 5))
  have HB2 : Hid (KBox W w.heap.size ⟨c, m⟩) := by show _; rw [hW]; exact (HB.out).alloc _
  have HV : Hid (Bs W (.slice (some ⟨w.heap.size + 1, (c - 42).toNat, none⟩) 1 (11 - (c - 42).toNat)) [typedT.getD (c - 1).toNat 0]) := by show _; rw [hW]; exact bs_part _ _ _ _ _ _ _ (by simp) (k11t c (by omega) (by omega)) rfl (by omega)
  rw [← hW]
  clear hW HS HB c0 c1
  obtain ⟨c0, c1, _⟩ := HB2.out
  go_wp2_with fail
  refine (H4.out _).mono ?_
  rintro e w' ⟨rfl, rfl⟩
  have HN := hide' HS2.out.size
  have HO : Hid ((W.alloc (.cells #[.int .u8 27] 5)).ownsRow W.heap.size 5 1 (.slice (some ⟨W.heap.size, 0, none⟩) 1 1) 1 [.int .u8 27]) := hide' (owns_new W #[.int .u8 27] 5 (by unfold maxLen; simp))
  have HR := hide' (isRow_keep (HV.out.isRow (by simp)) ((Stay.refl (fun _ => False) W).alloc (.cells #[.int .u8 27] 5)))
  have HT := hide' ((Stay.refl (fun k => W.heap.size ≤ k) W).alloc (.cells #[.int .u8 27] 5))
  clear HV c0 c1
  go_wp2_with (at_builtin; go_loud (refine appL (fun k => W.heap.size ≤ k) rfl _ _ 22 rfl Try.underlying22 Try.info5 rfl (by decide) HO.out rfl HR.out rfl (one_ints _ _) (by simp) (by simp) (fun k hk => by simp [Value.ownBlock] at hk; omega) ?_); intro v1 W1 ho hst; have HO1 := hide' ho; have HT1 := hide' hst; clear ho hst)
  go_ret
  exact ⟨_, rfl, bs_owned HO1.out rfl, stay_made HS2.out HN.out (HT.out.trans HT1.out)⟩

set_option maxHeartbeats 1000000 in
set_option maxRecDepth 100000 in
theorem rb_M0aa (m : Int) (w : World) (h4 : bitB m 4 = true) : Calls Try.prog 14 #[.agg #[.int .i64 64, .int .i64 m], .bool true] w (GivesBs [27, 27, 79, 65] w) := by
  have HB := hide' (KBox.new (w := w) ⟨64, m⟩ rfl)
  obtain ⟨c0, c1, _⟩ := HB.out
  have HS := hide' ((Stay.refl (fun _ => False) w).alloc (.cells #[.int .i64 64, .int .i64 m] 27))
  have H4 := hide' (bit18 m 4)
  rw [h4] at H4
  clear h4
  go_enter Try.func14, Try.ntmps14
  go_upto_region 33 with fail
  obtain ⟨W, hW⟩ : ∃ W, W = (((w.alloc (.cells #[.int .i64 64, .int .i64 m] 27)).alloc (.cells #[.int .u8 65, .int .u8 66, .int .u8 67, .int .u8 68, .int .u8 72, .int .u8 70] 5)).alloc (.cells #[.int .u8 27, .int .u8 79, .int .u8 65] 5)) := ⟨_, rfl⟩
  have HS2 : Hid (Stay (fun _ => False) w W) := by show _; rw [hW]; exact ((HS.out.alloc (.cells #[.int .u8 65, .int .u8 66, .int .u8 67, .int .u8 68, .int .u8 72, .int .u8 70] 5)).alloc (.cells #[.int .u8 27, .int .u8 79, .int .u8 65] 5))
  have HB2 : Hid (KBox W w.heap.size ⟨64, m⟩) := by show _; rw [hW]; exact ((HB.out).alloc _).alloc _
  have HV : Hid (Bs W (.slice (some ⟨w.heap.size + 1 + 1, 0, none⟩) 3 3) [27, 79, 65]) := by show _; rw [hW]; exact bs_new' _ _ _ _ 3 (by simp) rfl rfl
  rw [← hW]
  clear hW HS HB c0 c1
  obtain ⟨c0, c1, _⟩ := HB2.out
  go_wp2_with fail
  refine (H4.out _).mono ?_
  rintro e w' ⟨rfl, rfl⟩
  have HN := hide' HS2.out.size
  have HO : Hid ((W.alloc (.cells #[.int .u8 27] 5)).ownsRow W.heap.size 5 1 (.slice (some ⟨W.heap.size, 0, none⟩) 1 1) 1 [.int .u8 27]) := hide' (owns_new W #[.int .u8 27] 5 (by unfold maxLen; simp))
  have HR := hide' (isRow_keep (HV.out.isRow (by simp)) ((Stay.refl (fun _ => False) W).alloc (.cells #[.int .u8 27] 5)))
  have HT := hide' ((Stay.refl (fun k => W.heap.size ≤ k) W).alloc (.cells #[.int .u8 27] 5))
  clear HV c0 c1
  go_wp2_with (at_builtin; go_loud (refine appL (fun k => W.heap.size ≤ k) rfl _ _ 22 rfl Try.underlying22 Try.info5 rfl (by decide) HO.out rfl HR.out rfl (one_ints _ _) (by simp) (by simp) (fun k hk => by simp [Value.ownBlock] at hk; omega) ?_); intro v1 W1 ho hst; have HO1 := hide' ho; have HT1 := hide' hst; clear ho hst)
  go_ret
  exact ⟨_, rfl, bs_owned HO1.out rfl, stay_made HS2.out HN.out (HT.out.trans HT1.out)⟩

set_option maxHeartbeats 1000000 in
set_option maxRecDepth 100000 in
theorem rb_M1aa (m : Int) (w : World) (h4 : bitB m 4 = true) : Calls Try.prog 14 #[.agg #[.int .i64 65, .int .i64 m], .bool true] w (GivesBs [27, 27, 79, 66] w) := by
  have HB := hide' (KBox.new (w := w) ⟨65, m⟩ rfl)
  obtain ⟨c0, c1, _⟩ := HB.out
  have HS := hide' ((Stay.refl (fun _ => False) w).alloc (.cells #[.int .i64 65, .int .i64 m] 27))
  have H4 := hide' (bit18 m 4)
  rw [h4] at H4
  clear h4
  go_enter Try.func14, Try.ntmps14
  go_upto_region 33 with fail
  obtain ⟨W, hW⟩ : ∃ W, W = (((w.alloc (.cells #[.int .i64 65, .int .i64 m] 27)).alloc (.cells #[.int .u8 65, .int .u8 66, .int .u8 67, .int .u8 68, .int .u8 72, .int .u8 70] 5)).alloc (.cells #[.int .u8 27, .int .u8 79, .int .u8 66] 5)) := ⟨_, rfl⟩
  have HS2 : Hid (Stay (fun _ => False) w W) := by show _; rw [hW]; exact ((HS.out.alloc (.cells #[.int .u8 65, .int .u8 66, .int .u8 67, .int .u8 68, .int .u8 72, .int .u8 70] 5)).alloc (.cells #[.int .u8 27, .int .u8 79, .int .u8 66] 5))
  have HB2 : Hid (KBox W w.heap.size ⟨65, m⟩) := by show _; rw [hW]; exact ((HB.out).alloc _).alloc _
  have HV : Hid (Bs W (.slice (some ⟨w.heap.size + 1 + 1, 0, none⟩) 3 3) [27, 79, 66]) := by show _; rw [hW]; exact bs_new' _ _ _ _ 3 (by simp) rfl rfl
  rw [← hW]
  clear hW HS HB c0 c1
  obtain ⟨c0, c1, _⟩ := HB2.out
  go_wp2_with fail
  refine (H4.out _).mono ?_
  rintro e w' ⟨rfl, rfl⟩
  have HN := hide' HS2.out.size
  have HO : Hid ((W.alloc (.cells #[.int .u8 27] 5)).ownsRow W.heap.size 5 1 (.slice (some ⟨W.heap.size, 0, none⟩) 1 1) 1 [.int .u8 27]) := hide' (owns_new W #[.int .u8 27] 5 (by unfold maxLen; simp))
  have HR := hide' (isRow_keep (HV.out.isRow (by simp)) ((Stay.refl (fun _ => False) W).alloc (.cells #[.int .u8 27] 5)))
  have HT := hide' ((Stay.refl (fun k => W.heap.size ≤ k) W).alloc (.cells #[.int .u8 27] 5))
  clear HV c0 c1
  go_wp2_with (at_builtin; go_loud (refine appL (fun k => W.heap.size ≤ k) rfl _ _ 22 rfl Try.underlying22 Try.info5 rfl (by decide) HO.out rfl HR.out rfl (one_ints _ _) (by simp) (by simp) (fun k hk => by simp [Value.ownBlock] at hk; omega) ?_); intro v1 W1 ho hst; have HO1 := hide' ho; have HT1 := hide' hst; clear ho hst)
  go_ret
  exact ⟨_, rfl, bs_owned HO1.out rfl, stay_made HS2.out HN.out (HT.out.trans HT1.out)⟩

set_option maxHeartbeats 1000000 in
set_option maxRecDepth 100000 in
theorem rb_M2aa (m : Int) (w : World) (h4 : bitB m 4 = true) : Calls Try.prog 14 #[.agg #[.int .i64 66, .int .i64 m], .bool true] w (GivesBs [27, 27, 79, 67] w) := by
  have HB := hide' (KBox.new (w := w) ⟨66, m⟩ rfl)
  obtain ⟨c0, c1, _⟩ := HB.out
  have HS := hide' ((Stay.refl (fun _ => False) w).alloc (.cells #[.int .i64 66, .int .i64 m] 27))
  have H4 := hide' (bit18 m 4)
  rw [h4] at H4
  clear h4
  go_enter Try.func14, Try.ntmps14
  go_upto_region 33 with fail
  obtain ⟨W, hW⟩ : ∃ W, W = (((w.alloc (.cells #[.int .i64 66, .int .i64 m] 27)).alloc (.cells #[.int .u8 65, .int .u8 66, .int .u8 67, .int .u8 68, .int .u8 72, .int .u8 70] 5)).alloc (.cells #[.int .u8 27, .int .u8 79, .int .u8 67] 5)) := ⟨_, rfl⟩
  have HS2 : Hid (Stay (fun _ => False) w W) := by show _; rw [hW]; exact ((HS.out.alloc (.cells #[.int .u8 65, .int .u8 66, .int .u8 67, .int .u8 68, .int .u8 72, .int .u8 70] 5)).alloc (.cells #[.int .u8 27, .int .u8 79, .int .u8 67] 5))
  have HB2 : Hid (KBox W w.heap.size ⟨66, m⟩) := by show _; rw [hW]; exact ((HB.out).alloc _).alloc _
  have HV : Hid (Bs W (.slice (some ⟨w.heap.size + 1 + 1, 0, none⟩) 3 3) [27, 79, 67]) := by show _; rw [hW]; exact bs_new' _ _ _ _ 3 (by simp) rfl rfl
  rw [← hW]
  clear hW HS HB c0 c1
  obtain ⟨c0, c1, _⟩ := HB2.out
  go_wp2_with fail
  refine (H4.out _).mono ?_
  rintro e w' ⟨rfl, rfl⟩
  have HN := hide' HS2.out.size
  have HO : Hid ((W.alloc (.cells #[.int .u8 27] 5)).ownsRow W.heap.size 5 1 (.slice (some ⟨W.heap.size, 0, none⟩) 1 1) 1 [.int .u8 27]) := hide' (owns_new W #[.int .u8 27] 5 (by unfold maxLen; simp))
  have HR := hide' (isRow_keep (HV.out.isRow (by simp)) ((Stay.refl (fun _ => False) W).alloc (.cells #[.int .u8 27] 5)))
  have HT := hide' ((Stay.refl (fun k => W.heap.size ≤ k) W).alloc (.cells #[.int .u8 27] 5))
  clear HV c0 c1
  go_wp2_with (at_builtin; go_loud (refine appL (fun k => W.heap.size ≤ k) rfl _ _ 22 rfl Try.underlying22 Try.info5 rfl (by decide) HO.out rfl HR.out rfl (one_ints _ _) (by simp) (by simp) (fun k hk => by simp [Value.ownBlock] at hk; omega) ?_); intro v1 W1 ho hst; have HO1 := hide' ho; have HT1 := hide' hst; clear ho hst)
  go_ret
  exact ⟨_, rfl, bs_owned HO1.out rfl, stay_made HS2.out HN.out (HT.out.trans HT1.out)⟩

set_option maxHeartbeats 1000000 in
set_option maxRecDepth 100000 in
theorem rb_M3aa (m : Int) (w : World) (h4 : bitB m 4 = true) : Calls Try.prog 14 #[.agg #[.int .i64 67, .int .i64 m], .bool true] w (GivesBs [27, 27, 79, 68] w) := by
  have HB := hide' (KBox.new (w := w) ⟨67, m⟩ rfl)
  obtain ⟨c0, c1, _⟩ := HB.out
  have HS := hide' ((Stay.refl (fun _ => False) w).alloc (.cells #[.int .i64 67, .int .i64 m] 27))
  have H4 := hide' (bit18 m 4)
  rw [h4] at H4
  clear h4
  go_enter Try.func14, Try.ntmps14
  go_upto_region 33 with fail
  obtain ⟨W, hW⟩ : ∃ W, W = (((w.alloc (.cells #[.int .i64 67, .int .i64 m] 27)).alloc (.cells #[.int .u8 65, .int .u8 66, .int .u8 67, .int .u8 68, .int .u8 72, .int .u8 70] 5)).alloc (.cells #[.int .u8 27, .int .u8 79, .int .u8 68] 5)) := ⟨_, rfl⟩
  have HS2 : Hid (Stay (fun _ => False) w W) := by show _; rw [hW]; exact ((HS.out.alloc (.cells #[.int .u8 65, .int .u8 66, .int .u8 67, .int .u8 68, .int .u8 72, .int .u8 70] 5)).alloc (.cells #[.int .u8 27, .int .u8 79, .int .u8 68] 5))
  have HB2 : Hid (KBox W w.heap.size ⟨67, m⟩) := by show _; rw [hW]; exact ((HB.out).alloc _).alloc _
  have HV : Hid (Bs W (.slice (some ⟨w.heap.size + 1 + 1, 0, none⟩) 3 3) [27, 79, 68]) := by show _; rw [hW]; exact bs_new' _ _ _ _ 3 (by simp) rfl rfl
  rw [← hW]
  clear hW HS HB c0 c1
  obtain ⟨c0, c1, _⟩ := HB2.out
  go_wp2_with fail
  refine (H4.out _).mono ?_
  rintro e w' ⟨rfl, rfl⟩
  have HN := hide' HS2.out.size
  have HO : Hid ((W.alloc (.cells #[.int .u8 27] 5)).ownsRow W.heap.size 5 1 (.slice (some ⟨W.heap.size, 0, none⟩) 1 1) 1 [.int .u8 27]) := hide' (owns_new W #[.int .u8 27] 5 (by unfold maxLen; simp))
  have HR := hide' (isRow_keep (HV.out.isRow (by simp)) ((Stay.refl (fun _ => False) W).alloc (.cells #[.int .u8 27] 5)))
  have HT := hide' ((Stay.refl (fun k => W.heap.size ≤ k) W).alloc (.cells #[.int .u8 27] 5))
  clear HV c0 c1
  go_wp2_with (at_builtin; go_loud (refine appL (fun k => W.heap.size ≤ k) rfl _ _ 22 rfl Try.underlying22 Try.info5 rfl (by decide) HO.out rfl HR.out rfl (one_ints _ _) (by simp) (by simp) (fun k hk => by simp [Value.ownBlock] at hk; omega) ?_); intro v1 W1 ho hst; have HO1 := hide' ho; have HT1 := hide' hst; clear ho hst)
  go_ret
  exact ⟨_, rfl, bs_owned HO1.out rfl, stay_made HS2.out HN.out (HT.out.trans HT1.out)⟩

set_option maxHeartbeats 1000000 in
set_option maxRecDepth 100000 in
theorem rb_M4aa (m : Int) (w : World) (h4 : bitB m 4 = true) : Calls Try.prog 14 #[.agg #[.int .i64 68, .int .i64 m], .bool true] w (GivesBs [27, 27, 79, 72] w) := by
  have HB := hide' (KBox.new (w := w) ⟨68, m⟩ rfl)
  obtain ⟨c0, c1, _⟩ := HB.out
  have HS := hide' ((Stay.refl (fun _ => False) w).alloc (.cells #[.int .i64 68, .int .i64 m] 27))
  have H4 := hide' (bit18 m 4)
  rw [h4] at H4
  clear h4
  go_enter Try.func14, Try.ntmps14
  go_upto_region 33 with fail
  obtain ⟨W, hW⟩ : ∃ W, W = (((w.alloc (.cells #[.int .i64 68, .int .i64 m] 27)).alloc (.cells #[.int .u8 65, .int .u8 66, .int .u8 67, .int .u8 68, .int .u8 72, .int .u8 70] 5)).alloc (.cells #[.int .u8 27, .int .u8 79, .int .u8 72] 5)) := ⟨_, rfl⟩
  have HS2 : Hid (Stay (fun _ => False) w W) := by show _; rw [hW]; exact ((HS.out.alloc (.cells #[.int .u8 65, .int .u8 66, .int .u8 67, .int .u8 68, .int .u8 72, .int .u8 70] 5)).alloc (.cells #[.int .u8 27, .int .u8 79, .int .u8 72] 5))
  have HB2 : Hid (KBox W w.heap.size ⟨68, m⟩) := by show _; rw [hW]; exact ((HB.out).alloc _).alloc _
  have HV : Hid (Bs W (.slice (some ⟨w.heap.size + 1 + 1, 0, none⟩) 3 3) [27, 79, 72]) := by show _; rw [hW]; exact bs_new' _ _ _ _ 3 (by simp) rfl rfl
  rw [← hW]
  clear hW HS HB c0 c1
  obtain ⟨c0, c1, _⟩ := HB2.out
  go_wp2_with fail
  refine (H4.out _).mono ?_
  rintro e w' ⟨rfl, rfl⟩
  have HN := hide' HS2.out.size
  have HO : Hid ((W.alloc (.cells #[.int .u8 27] 5)).ownsRow W.heap.size 5 1 (.slice (some ⟨W.heap.size, 0, none⟩) 1 1) 1 [.int .u8 27]) := hide' (owns_new W #[.int .u8 27] 5 (by unfold maxLen; simp))
  have HR := hide' (isRow_keep (HV.out.isRow (by simp)) ((Stay.refl (fun _ => False) W).alloc (.cells #[.int .u8 27] 5)))
  have HT := hide' ((Stay.refl (fun k => W.heap.size ≤ k) W).alloc (.cells #[.int .u8 27] 5))
  clear HV c0 c1
  go_wp2_with (at_builtin; go_loud (refine appL (fun k => W.heap.size ≤ k) rfl _ _ 22 rfl Try.underlying22 Try.info5 rfl (by decide) HO.out rfl HR.out rfl (one_ints _ _) (by simp) (by simp) (fun k hk => by simp [Value.ownBlock] at hk; omega) ?_); intro v1 W1 ho hst; have HO1 := hide' ho; have HT1 := hide' hst; clear ho hst)
  go_ret
  exact ⟨_, rfl, bs_owned HO1.out rfl, stay_made HS2.out HN.out (HT.out.trans HT1.out)⟩

set_option maxHeartbeats 1000000 in
set_option maxRecDepth 100000 in
theorem rb_M5aa (m : Int) (w : World) (h4 : bitB m 4 = true) : Calls Try.prog 14 #[.agg #[.int .i64 69, .int .i64 m], .bool true] w (GivesBs [27, 27, 79, 70] w) := by
  have HB := hide' (KBox.new (w := w) ⟨69, m⟩ rfl)
  obtain ⟨c0, c1, _⟩ := HB.out
  have HS := hide' ((Stay.refl (fun _ => False) w).alloc (.cells #[.int .i64 69, .int .i64 m] 27))
  have H4 := hide' (bit18 m 4)
  rw [h4] at H4
  clear h4
  go_enter Try.func14, Try.ntmps14
  go_upto_region 33 with fail
  obtain ⟨W, hW⟩ : ∃ W, W = (((w.alloc (.cells #[.int .i64 69, .int .i64 m] 27)).alloc (.cells #[.int .u8 65, .int .u8 66, .int .u8 67, .int .u8 68, .int .u8 72, .int .u8 70] 5)).alloc (.cells #[.int .u8 27, .int .u8 79, .int .u8 70] 5)) := ⟨_, rfl⟩
  have HS2 : Hid (Stay (fun _ => False) w W) := by show _; rw [hW]; exact ((HS.out.alloc (.cells #[.int .u8 65, .int .u8 66, .int .u8 67, .int .u8 68, .int .u8 72, .int .u8 70] 5)).alloc (.cells #[.int .u8 27, .int .u8 79, .int .u8 70] 5))
  have HB2 : Hid (KBox W w.heap.size ⟨69, m⟩) := by show _; rw [hW]; exact ((HB.out).alloc _).alloc _
  have HV : Hid (Bs W (.slice (some ⟨w.heap.size + 1 + 1, 0, none⟩) 3 3) [27, 79, 70]) := by show _; rw [hW]; exact bs_new' _ _ _ _ 3 (by simp) rfl rfl
  rw [← hW]
  clear hW HS HB c0 c1
  obtain ⟨c0, c1, _⟩ := HB2.out
  go_wp2_with fail
  refine (H4.out _).mono ?_
  rintro e w' ⟨rfl, rfl⟩
  have HN := hide' HS2.out.size
  have HO : Hid ((W.alloc (.cells #[.int .u8 27] 5)).ownsRow W.heap.size 5 1 (.slice (some ⟨W.heap.size, 0, none⟩) 1 1) 1 [.int .u8 27]) := hide' (owns_new W #[.int .u8 27] 5 (by unfold maxLen; simp))
  have HR := hide' (isRow_keep (HV.out.isRow (by simp)) ((Stay.refl (fun _ => False) W).alloc (.cells #[.int .u8 27] 5)))
  have HT := hide' ((Stay.refl (fun k => W.heap.size ≤ k) W).alloc (.cells #[.int .u8 27] 5))
  clear HV c0 c1
  go_wp2_with (at_builtin; go_loud (refine appL (fun k => W.heap.size ≤ k) rfl _ _ 22 rfl Try.underlying22 Try.info5 rfl (by decide) HO.out rfl HR.out rfl (one_ints _ _) (by simp) (by simp) (fun k hk => by simp [Value.ownBlock] at hk; omega) ?_); intro v1 W1 ho hst; have HO1 := hide' ho; have HT1 := hide' hst; clear ho hst)
  go_ret
  exact ⟨_, rfl, bs_owned HO1.out rfl, stay_made HS2.out HN.out (HT.out.trans HT1.out)⟩

set_option maxHeartbeats 1000000 in
set_option maxRecDepth 100000 in
theorem rb_P1a (m : Int) (app : Bool) (w : World) (h4 : bitB m 4 = true) : Calls Try.prog 14 #[.agg #[.int .i64 71, .int .i64 m], .bool app] w (GivesBs [27, 27, 91, 54, 126] w) := by
  have HB := hide' (KBox.new (w := w) ⟨71, m⟩ rfl)
  obtain ⟨c0, c1, _⟩ := HB.out
  have HS := hide' ((Stay.refl (fun _ => False) w).alloc (.cells #[.int .i64 71, .int .i64 m] 27))
  have H4 := hide' (bit18 m 4)
  rw [h4] at H4
  clear h4
  go_enter Try.func14, Try.ntmps14
  go_upto_region 33 with fail
  obtain ⟨W, hW⟩ : ∃ W, W = (((w.alloc (.cells #[.int .i64 71, .int .i64 m] 27)).alloc (.cells #[.int .u8 53, .int .u8 54, .int .u8 50, .int .u8 51] 5)).alloc (.cells #[.int .u8 27, .int .u8 91, .int .u8 54, .int .u8 126] 5)) := ⟨_, rfl⟩
  have HS2 : Hid (Stay (fun _ => False) w W) := by show _; rw [hW]; exact ((HS.out.alloc (.cells #[.int .u8 53, .int .u8 54, .int .u8 50, .int .u8 51] 5)).alloc (.cells #[.int .u8 27, .int .u8 91, .int .u8 54, .int .u8 126] 5))
  have HB2 : Hid (KBox W w.heap.size ⟨71, m⟩) := by show _; rw [hW]; exact ((HB.out).alloc _).alloc _
  have HV : Hid (Bs W (.slice (some ⟨w.heap.size + 1 + 1, 0, none⟩) 4 4) [27, 91, 54, 126]) := by show _; rw [hW]; exact bs_new' _ _ _ _ 4 (by simp) rfl rfl
  rw [← hW]
  clear hW HS HB c0 c1
  obtain ⟨c0, c1, _⟩ := HB2.out
  go_wp2_with fail
  refine (H4.out _).mono ?_
  rintro e w' ⟨rfl, rfl⟩
  have HN := hide' HS2.out.size
  have HO : Hid ((W.alloc (.cells #[.int .u8 27] 5)).ownsRow W.heap.size 5 1 (.slice (some ⟨W.heap.size, 0, none⟩) 1 1) 1 [.int .u8 27]) := hide' (owns_new W #[.int .u8 27] 5 (by unfold maxLen; simp))
  have HR := hide' (isRow_keep (HV.out.isRow (by simp)) ((Stay.refl (fun _ => False) W).alloc (.cells #[.int .u8 27] 5)))
  have HT := hide' ((Stay.refl (fun k => W.heap.size ≤ k) W).alloc (.cells #[.int .u8 27] 5))
  clear HV c0 c1
  go_wp2_with (at_builtin; go_loud (refine appL (fun k => W.heap.size ≤ k) rfl _ _ 22 rfl Try.underlying22 Try.info5 rfl (by decide) HO.out rfl HR.out rfl (one_ints _ _) (by simp) (by simp) (fun k hk => by simp [Value.ownBlock] at hk; omega) ?_); intro v1 W1 ho hst; have HO1 := hide' ho; have HT1 := hide' hst; clear ho hst)
  go_ret
  exact ⟨_, rfl, bs_owned HO1.out rfl, stay_made HS2.out HN.out (HT.out.trans HT1.out)⟩

set_option maxHeartbeats 1000000 in
set_option maxRecDepth 100000 in
theorem rb_P3a (m : Int) (app : Bool) (w : World) (h4 : bitB m 4 = true) : Calls Try.prog 14 #[.agg #[.int .i64 73, .int .i64 m], .bool app] w (GivesBs [27, 27, 91, 51, 126] w) := by
  have HB := hide' (KBox.new (w := w) ⟨73, m⟩ rfl)
  obtain ⟨c0, c1, _⟩ := HB.out
  have HS := hide' ((Stay.refl (fun _ => False) w).alloc (.cells #[.int .i64 73, .int .i64 m] 27))
  have H4 := hide' (bit18 m 4)
  rw [h4] at H4
  clear h4
  go_enter Try.func14, Try.ntmps14
  go_upto_region 33 with fail
  obtain ⟨W, hW⟩ : ∃ W, W = (((w.alloc (.cells #[.int .i64 73, .int .i64 m] 27)).alloc (.cells #[.int .u8 53, .int .u8 54, .int .u8 50, .int .u8 51] 5)).alloc (.cells #[.int .u8 27, .int .u8 91, .int .u8 51, .int .u8 126] 5)) := ⟨_, rfl⟩
  have HS2 : Hid (Stay (fun _ => False) w W) := by show _; rw [hW]; exact ((HS.out.alloc (.cells #[.int .u8 53, .int .u8 54, .int .u8 50, .int .u8 51] 5)).alloc (.cells #[.int .u8 27, .int .u8 91, .int .u8 51, .int .u8 126] 5))
  have HB2 : Hid (KBox W w.heap.size ⟨73, m⟩) := by show _; rw [hW]; exact ((HB.out).alloc _).alloc _
  have HV : Hid (Bs W (.slice (some ⟨w.heap.size + 1 + 1, 0, none⟩) 4 4) [27, 91, 51, 126]) := by show _; rw [hW]; exact bs_new' _ _ _ _ 4 (by simp) rfl rfl
  rw [← hW]
  clear hW HS HB c0 c1
  obtain ⟨c0, c1, _⟩ := HB2.out
  go_wp2_with fail
  refine (H4.out _).mono ?_
  rintro e w' ⟨rfl, rfl⟩
  have HN := hide' HS2.out.size
  have HO : Hid ((W.alloc (.cells #[.int .u8 27] 5)).ownsRow W.heap.size 5 1 (.slice (some ⟨W.heap.size, 0, none⟩) 1 1) 1 [.int .u8 27]) := hide' (owns_new W #[.int .u8 27] 5 (by unfold maxLen; simp))
  have HR := hide' (isRow_keep (HV.out.isRow (by simp)) ((Stay.refl (fun _ => False) W).alloc (.cells #[.int .u8 27] 5)))
  have HT := hide' ((Stay.refl (fun k => W.heap.size ≤ k) W).alloc (.cells #[.int .u8 27] 5))
  clear HV c0 c1
  go_wp2_with (at_builtin; go_loud (refine appL (fun k => W.heap.size ≤ k) rfl _ _ 22 rfl Try.underlying22 Try.info5 rfl (by decide) HO.out rfl HR.out rfl (one_ints _ _) (by simp) (by simp) (fun k hk => by simp [Value.ownBlock] at hk; omega) ?_); intro v1 W1 ho hst; have HO1 := hide' ho; have HT1 := hide' hst; clear ho hst)
  go_ret
  exact ⟨_, rfl, bs_owned HO1.out rfl, stay_made HS2.out HN.out (HT.out.trans HT1.out)⟩

set_option maxHeartbeats 1000000 in
set_option maxRecDepth 100000 in
theorem rb_H1 (c : Int) (m : Int) (app : Bool) (w : World) (g1 : 53 ≤ c) (g2 : c ≤ 63) : Calls Try.prog 14 #[.agg #[.int .i64 c, .int .i64 m], .bool app] w (GivesBs [] w) := by
  have HB := hide' (KBox.new (w := w) ⟨c, m⟩ rfl)
  obtain ⟨c0, c1, _⟩ := HB.out
  have HS := hide' ((Stay.refl (fun _ => False) w).alloc (.cells #[.int .i64 c, .int .i64 m] 27))
  go_enter Try.func14, Try.ntmps14
  go_wp2
  go_ret
  exact ⟨_, rfl, bs_nil _, HS.out⟩

end Go.Proofs.Ytjficpcfdpbegaa
