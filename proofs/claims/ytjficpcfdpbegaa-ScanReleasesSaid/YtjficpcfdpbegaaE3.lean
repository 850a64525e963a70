/-
  The document's bytes of a key, walked class by class. Conditions: the class, the modifiers.
-/
import Derived.Test.YtjficpcfdpbegaaE0
namespace Go.Proofs.Ytjficpcfdpbegaa
open Go.RowKit

set_option maxHeartbeats 1000000 in
set_option maxRecDepth 100000 in
theorem rb_A1n (c : Int) (m : Int) (app : Bool) (w : World) (g1 : 1 ≤ c) (g2 : c ≤ 26) (h2 : bitB m 2 = false) (h1 : bitB m 1 = true) (h4 : bitB m 4 = false) : Calls Try.prog 14 #[.agg #[.int .i64 c, .int .i64 m], .bool app] w (GivesBs [64 + c] w) := by
  have HB := hide' (KBox.new (w := w) ⟨c, m⟩ rfl)
  obtain ⟨c0, c1, _⟩ := HB.out
  have HS := hide' ((Stay.refl (fun _ => False) w).alloc (.cells #[.int .i64 c, .int .i64 m] 27))
  have H2 := hide' (bit18 m 2)
  rw [h2] at H2
  clear h2
  have H1 := hide' (bit18 m 1)
  rw [h1] at H1
  clear h1
  have H4 := hide' (bit18 m 4)
  rw [h4] at H4
  clear h4
  go_enter Try.func14, Try.ntmps14
  go_wp2_with fail
  refine (H2.out _).mono ?_
  rintro e w' ⟨rfl, rfl⟩
  go_wp2_with fail
  refine (H1.out _).mono ?_
  rintro e w' ⟨rfl, rfl⟩
  go_upto_region 33 with fail
  obtain ⟨W, hW⟩ : ∃ W, W = ((w.alloc (.cells #[.int .i64 c, .int .i64 m] 27)).alloc (.cells #[.int .u8 (64 + c)] 5)) := ⟨_, rfl⟩
  have HS2 : Hid (Stay (fun _ => False) w W) := by show _; rw [hW]; exact (HS.out.alloc (.cells #[.int .u8 (64 + c)] 5))
  have HB2 : Hid (KBox W w.heap.size ⟨c, m⟩) := by show _; rw [hW]; exact (HB.out).alloc _
  have HV : Hid (Bs W (.slice (some ⟨w.heap.size + 1, 0, none⟩) 1 1) [64 + c]) := by show _; rw [hW]; exact bs_new' _ _ _ _ 1 (by simp) rfl rfl
  rw [← hW]
  clear hW HS HB c0 c1
  obtain ⟨c0, c1, _⟩ := HB2.out
  go_wp2_with fail
  refine (H4.out _).mono ?_
  rintro e w' ⟨rfl, rfl⟩
  go_wp2
  go_ret
  exact ⟨_, rfl, HV.out, HS2.out⟩

set_option maxHeartbeats 1000000 in
set_option maxRecDepth 100000 in
theorem rb_B1n (c : Int) (m : Int) (app : Bool) (w : World) (g1 : 27 ≤ c) (g2 : c ≤ 36) (h1 : bitB m 1 = true) (h4 : bitB m 4 = false) : Calls Try.prog 14 #[.agg #[.int .i64 c, .int .i64 m], .bool app] w (GivesBs [shiftT.getD (c - 1).toNat 0] w) := by
  have HB := hide' (KBox.new (w := w) ⟨c, m⟩ rfl)
  obtain ⟨c0, c1, _⟩ := HB.out
  have HS := hide' ((Stay.refl (fun _ => False) w).alloc (.cells #[.int .i64 c, .int .i64 m] 27))
  have H1 := hide' (bit18 m 1)
  rw [h1] at H1
  clear h1
  have H4 := hide' (bit18 m 4)
  rw [h4] at H4
  clear h4
  have e10 : ¬ (10 = (c - 27).toNat) := by omega
  have en : (c - 26).toNat - (c - 27).toNat = 1 := by omega
  go_enter Try.func14, Try.ntmps14
  go_wp2_with fail
  refine (H1.out _).mono ?_
  rintro e w' ⟨rfl, rfl⟩
  go_upto_region 33 with fail
  obtain ⟨W, hW⟩ : ∃ W, W = ((w.alloc (.cells #[.int .i64 c, .int .i64 m] 27)).alloc (.cells #[.int .u8 33, .int .u8 64, .int .u8 35, .int .u8 36, .int .u8 37, .int .u8 94, .int .u8 38, .int .u8 42, .int .u8 40, .int .u8 41] 5)) := ⟨_, rfl⟩
  have HS2 : Hid (Stay (fun _ => False) w W) := by show _; rw [hW]; exact (HS.out.alloc (.cells #[.int .u8 33, .int .u8 64, .int .u8 35, .int .u8 36, .int .u8 37, .int .u8 94, .int .u8 38, .int .u8 42, .int .u8 40, .int .u8 41] 5))
  have HB2 : Hid (KBox W w.heap.size ⟨c, m⟩) := by show _; rw [hW]; exact (HB.out).alloc _
  have HV : Hid (Bs W (.slice (some ⟨w.heap.size + 1, (c - 27).toNat, none⟩) 1 (10 - (c - 27).toNat)) [shiftT.getD (c - 1).toNat 0]) := by show _; rw [hW]; exact bs_part _ _ _ _ _ _ _ (by simp) (k10 c (by omega) (by omega)) rfl (by omega)
  rw [← hW]
  clear hW HS HB c0 c1
  obtain ⟨c0, c1, _⟩ := HB2.out
  go_wp2_with fail
  refine (H4.out _).mono ?_
  rintro e w' ⟨rfl, rfl⟩
  go_wp2
  go_ret
  exact ⟨_, rfl, HV.out, HS2.out⟩

set_option maxHeartbeats 1000000 in
set_option maxRecDepth 100000 in
theorem rb_Z0n (m : Int) (app : Bool) (w : World) (h1 : bitB m 1 = false) (h4 : bitB m 4 = false) : Calls Try.prog 14 #[.agg #[.int .i64 36, .int .i64 m], .bool app] w (GivesBs [48] w) := by
  have HB := hide' (KBox.new (w := w) ⟨36, m⟩ rfl)
  obtain ⟨c0, c1, _⟩ := HB.out
  have HS := hide' ((Stay.refl (fun _ => False) w).alloc (.cells #[.int .i64 36, .int .i64 m] 27))
  have H1 := hide' (bit18 m 1)
  rw [h1] at H1
  clear h1
  have H4 := hide' (bit18 m 4)
  rw [h4] at H4
  clear h4
  go_enter Try.func14, Try.ntmps14
  go_wp2_with fail
  refine (H1.out _).mono ?_
  rintro e w' ⟨rfl, rfl⟩
  go_upto_region 33 with fail
  obtain ⟨W, hW⟩ : ∃ W, W = ((w.alloc (.cells #[.int .i64 36, .int .i64 m] 27)).alloc (.cells #[.int .u8 48] 5)) := ⟨_, rfl⟩
  have HS2 : Hid (Stay (fun _ => False) w W) := by show _; rw [hW]; exact (HS.out.alloc (.cells #[.int .u8 48] 5))
  have HB2 : Hid (KBox W w.heap.size ⟨36, m⟩) := by show _; rw [hW]; exact (HB.out).alloc _
  have HV : Hid (Bs W (.slice (some ⟨w.heap.size + 1, 0, none⟩) 1 1) [48]) := by show _; rw [hW]; exact bs_new' _ _ _ _ 1 (by simp) rfl rfl
  rw [← hW]
  clear hW HS HB c0 c1
  obtain ⟨c0, c1, _⟩ := HB2.out
  go_wp2_with fail
  refine (H4.out _).mono ?_
  rintro e w' ⟨rfl, rfl⟩
  go_wp2
  go_ret
  exact ⟨_, rfl, HV.out, HS2.out⟩

set_option maxHeartbeats 1000000 in
set_option maxRecDepth 100000 in
theorem rb_K0n (m : Int) (app : Bool) (w : World) (h2 : bitB m 2 = false) (h4 : bitB m 4 = false) : Calls Try.prog 14 #[.agg #[.int .i64 37, .int .i64 m], .bool app] w (GivesBs [32] w) := by
  have HB := hide' (KBox.new (w := w) ⟨37, m⟩ rfl)
  obtain ⟨c0, c1, _⟩ := HB.out
  have HS := hide' ((Stay.refl (fun _ => False) w).alloc (.cells #[.int .i64 37, .int .i64 m] 27))
  have H2 := hide' (bit18 m 2)
  rw [h2] at H2
  clear h2
  have H4 := hide' (bit18 m 4)
  rw [h4] at H4
  clear h4
  go_enter Try.func14, Try.ntmps14
  go_wp2_with fail
  refine (H2.out _).mono ?_
  rintro e w' ⟨rfl, rfl⟩
  go_upto_region 33 with fail
  obtain ⟨W, hW⟩ : ∃ W, W = ((w.alloc (.cells #[.int .i64 37, .int .i64 m] 27)).alloc (.cells #[.int .u8 32, .int .u8 13, .int .u8 127, .int .u8 9, .int .u8 27] 5)) := ⟨_, rfl⟩
  have HS2 : Hid (Stay (fun _ => False) w W) := by show _; rw [hW]; exact (HS.out.alloc (.cells #[.int .u8 32, .int .u8 13, .int .u8 127, .int .u8 9, .int .u8 27] 5))
  have HB2 : Hid (KBox W w.heap.size ⟨37, m⟩) := by show _; rw [hW]; exact (HB.out).alloc _
  have HV : Hid (Bs W (.slice (some ⟨w.heap.size + 1, 0, none⟩) 1 5) [32]) := by show _; rw [hW]; exact bs_part _ _ _ _ 0 _ _ (by simp) rfl rfl (by omega)
  rw [← hW]
  clear hW HS HB c0 c1
  obtain ⟨c0, c1, _⟩ := HB2.out
  go_wp2_with fail
  refine (H4.out _).mono ?_
  rintro e w' ⟨rfl, rfl⟩
  go_wp2
  go_ret
  exact ⟨_, rfl, HV.out, HS2.out⟩

set_option maxHeartbeats 1000000 in
set_option maxRecDepth 100000 in
theorem rb_T0n (m : Int) (app : Bool) (w : World) (h1 : bitB m 1 = false) (h4 : bitB m 4 = false) : Calls Try.prog 14 #[.agg #[.int .i64 40, .int .i64 m], .bool app] w (GivesBs [9] w) := by
  have HB := hide' (KBox.new (w := w) ⟨40, m⟩ rfl)
  obtain ⟨c0, c1, _⟩ := HB.out
  have HS := hide' ((Stay.refl (fun _ => False) w).alloc (.cells #[.int .i64 40, .int .i64 m] 27))
  have H1 := hide' (bit18 m 1)
  rw [h1] at H1
  clear h1
  have H4 := hide' (bit18 m 4)
  rw [h4] at H4
  clear h4
  go_enter Try.func14, Try.ntmps14
  go_wp2_with fail
  refine (H1.out _).mono ?_
  rintro e w' ⟨rfl, rfl⟩
  go_upto_region 33 with fail
  obtain ⟨W, hW⟩ : ∃ W, W = ((w.alloc (.cells #[.int .i64 40, .int .i64 m] 27)).alloc (.cells #[.int .u8 32, .int .u8 13, .int .u8 127, .int .u8 9, .int .u8 27] 5)) := ⟨_, rfl⟩
  have HS2 : Hid (Stay (fun _ => False) w W) := by show _; rw [hW]; exact (HS.out.alloc (.cells #[.int .u8 32, .int .u8 13, .int .u8 127, .int .u8 9, .int .u8 27] 5))
  have HB2 : Hid (KBox W w.heap.size ⟨40, m⟩) := by show _; rw [hW]; exact (HB.out).alloc _
  have HV : Hid (Bs W (.slice (some ⟨w.heap.size + 1, 3, none⟩) 1 2) [9]) := by show _; rw [hW]; exact bs_part _ _ _ _ 3 _ _ (by simp) rfl rfl (by omega)
  rw [← hW]
  clear hW HS HB c0 c1
  obtain ⟨c0, c1, _⟩ := HB2.out
  go_wp2_with fail
  refine (H4.out _).mono ?_
  rintro e w' ⟨rfl, rfl⟩
  go_wp2
  go_ret
  exact ⟨_, rfl, HV.out, HS2.out⟩

set_option maxHeartbeats 1000000 in
set_option maxRecDepth 100000 in
theorem rb_S1n (c : Int) (m : Int) (app : Bool) (w : World) (g1 : 42 ≤ c) (g2 : c ≤ 52) (h1 : bitB m 1 = true) (h4 : bitB m 4 = false) : Calls Try.prog 14 #[.agg #[.int .i64 c, .int .i64 m], .bool app] w (GivesBs [shiftT.getD (c - 1).toNat 0] w) := by
  have HB := hide' (KBox.new (w := w) ⟨c, m⟩ rfl)
  obtain ⟨c0, c1, _⟩ := HB.out
  have HS := hide' ((Stay.refl (fun _ => False) w).alloc (.cells #[.int .i64 c, .int .i64 m] 27))
  have H1 := hide' (bit18 m 1)
  rw [h1] at H1
  clear h1
  have H4 := hide' (bit18 m 4)
  rw [h4] at H4
  clear h4
  have e11 : ¬ (11 = (c - 42).toNat) := by omega
  have en : (c - 41).toNat - (c - 42).toNat = 1 := by omega
  go_enter Try.func14, Try.ntmps14
  go_wp2_with fail
  refine (H1.out _).mono ?_
  rintro e w' ⟨rfl, rfl⟩
  go_upto_region 33 with fail
  obtain ⟨W, hW⟩ : ∃ W, W = ((w.alloc (.cells #[.int .i64 c, .int .i64 m] 27)).alloc (.cells #[.int .u8 95, .int .u8 43, .int .u8 123, .int .u8 125, .int .u8 124, .int .u8 58, .int .u8 34, .int .u8 60, .int .u8 62, .int .u8 63, .int .u8 126] 5)) := ⟨_, rfl⟩
  have HS2 : Hid (Stay (fun _ => False) w W) := by show _; rw [hW]; exact (HS.out.alloc (.cells #[.int .u8 95, .int .u8 43, .int .u8 123, .int .u8 125, .int .u8 124, .int .u8 58, .int .u8 34, .int .u8 60, .int .u8 62, .int .u8 63, .int .u8 126] 5))
  have HB2 : Hid (KBox W w.heap.size ⟨c, m⟩) := by show _; rw [hW]; exact (HB.out).alloc _
  have HV : Hid (Bs W (.slice (some ⟨w.heap.size + 1, (c - 42).toNat, none⟩) 1 (11 - (c - 42).toNat)) [shiftT.getD (c - 1).toNat 0]) := by show _; rw [hW]; exact bs_part _ _ _ _ _ _ _ (by simp) (k11s c (by omega) (by omega)) rfl (by omega)
  rw [← hW]
  clear hW HS HB c0 c1
  obtain ⟨c0, c1, _⟩ := HB2.out
  go_wp2_with fail
  refine (H4.out _).mono ?_
  rintro e w' ⟨rfl, rfl⟩
  go_wp2
  go_ret
  exact ⟨_, rfl, HV.out, HS2.out⟩

set_option maxHeartbeats 1000000 in
set_option maxRecDepth 100000 in
theorem rb_M0nn (m : Int) (w : World) (h4 : bitB m 4 = false) : Calls Try.prog 14 #[.agg #[.int .i64 64, .int .i64 m], .bool false] w (GivesBs [27, 91, 65] w) := by
  have HB := hide' (KBox.new (w := w) ⟨64, m⟩ rfl)
  obtain ⟨c0, c1, _⟩ := HB.out
  have HS := hide' ((Stay.refl (fun _ => False) w).alloc (.cells #[.int .i64 64, .int .i64 m] 27))
  have H4 := hide' (bit18 m 4)
  rw [h4] at H4
  clear h4
  go_enter Try.func14, Try.ntmps14
  go_upto_region 33 with fail
  obtain ⟨W, hW⟩ : ∃ W, W = (((w.alloc (.cells #[.int .i64 64, .int .i64 m] 27)).alloc (.cells #[.int .u8 65, .int .u8 66, .int .u8 67, .int .u8 68, .int .u8 72, .int .u8 70] 5)).alloc (.cells #[.int .u8 27, .int .u8 91, .int .u8 65] 5)) := ⟨_, rfl⟩
  have HS2 : Hid (Stay (fun _ => False) w W) := by show _; rw [hW]; exact ((HS.out.alloc (.cells #[.int .u8 65, .int .u8 66, .int .u8 67, .int .u8 68, .int .u8 72, .int .u8 70] 5)).alloc (.cells #[.int .u8 27, .int .u8 91, .int .u8 65] 5))
  have HB2 : Hid (KBox W w.heap.size ⟨64, m⟩) := by show _; rw [hW]; exact ((HB.out).alloc _).alloc _
  have HV : Hid (Bs W (.slice (some ⟨w.heap.size + 1 + 1, 0, none⟩) 3 3) [27, 91, 65]) := by show _; rw [hW]; exact bs_new' _ _ _ _ 3 (by simp) rfl rfl
  rw [← hW]
  clear hW HS HB c0 c1
  obtain ⟨c0, c1, _⟩ := HB2.out
  go_wp2_with fail
  refine (H4.out _).mono ?_
  rintro e w' ⟨rfl, rfl⟩
  go_wp2
  go_ret
  exact ⟨_, rfl, HV.out, HS2.out⟩

set_option maxHeartbeats 1000000 in
set_option maxRecDepth 100000 in
theorem rb_M1nn (m : Int) (w : World) (h4 : bitB m 4 = false) : Calls Try.prog 14 #[.agg #[.int .i64 65, .int .i64 m], .bool false] w (GivesBs [27, 91, 66] w) := by
  have HB := hide' (KBox.new (w := w) ⟨65, m⟩ rfl)
  obtain ⟨c0, c1, _⟩ := HB.out
  have HS := hide' ((Stay.refl (fun _ => False) w).alloc (.cells #[.int .i64 65, .int .i64 m] 27))
  have H4 := hide' (bit18 m 4)
  rw [h4] at H4
  clear h4
  go_enter Try.func14, Try.ntmps14
  go_upto_region 33 with fail
  obtain ⟨W, hW⟩ : ∃ W, W = (((w.alloc (.cells #[.int .i64 65, .int .i64 m] 27)).alloc (.cells #[.int .u8 65, .int .u8 66, .int .u8 67, .int .u8 68, .int .u8 72, .int .u8 70] 5)).alloc (.cells #[.int .u8 27, .int .u8 91, .int .u8 66] 5)) := ⟨_, rfl⟩
  have HS2 : Hid (Stay (fun _ => False) w W) := by show _; rw [hW]; exact ((HS.out.alloc (.cells #[.int .u8 65, .int .u8 66, .int .u8 67, .int .u8 68, .int .u8 72, .int .u8 70] 5)).alloc (.cells #[.int .u8 27, .int .u8 91, .int .u8 66] 5))
  have HB2 : Hid (KBox W w.heap.size ⟨65, m⟩) := by show _; rw [hW]; exact ((HB.out).alloc _).alloc _
  have HV : Hid (Bs W (.slice (some ⟨w.heap.size + 1 + 1, 0, none⟩) 3 3) [27, 91, 66]) := by show _; rw [hW]; exact bs_new' _ _ _ _ 3 (by simp) rfl rfl
  rw [← hW]
  clear hW HS HB c0 c1
  obtain ⟨c0, c1, _⟩ := HB2.out
  go_wp2_with fail
  refine (H4.out _).mono ?_
  rintro e w' ⟨rfl, rfl⟩
  go_wp2
  go_ret
  exact ⟨_, rfl, HV.out, HS2.out⟩

set_option maxHeartbeats 1000000 in
set_option maxRecDepth 100000 in
theorem rb_M2nn (m : Int) (w : World) (h4 : bitB m 4 = false) : Calls Try.prog 14 #[.agg #[.int .i64 66, .int .i64 m], .bool false] w (GivesBs [27, 91, 67] w) := by
  have HB := hide' (KBox.new (w := w) ⟨66, m⟩ rfl)
  obtain ⟨c0, c1, _⟩ := HB.out
  have HS := hide' ((Stay.refl (fun _ => False) w).alloc (.cells #[.int .i64 66, .int .i64 m] 27))
  have H4 := hide' (bit18 m 4)
  rw [h4] at H4
  clear h4
  go_enter Try.func14, Try.ntmps14
  go_upto_region 33 with fail
  obtain ⟨W, hW⟩ : ∃ W, W = (((w.alloc (.cells #[.int .i64 66, .int .i64 m] 27)).alloc (.cells #[.int .u8 65, .int .u8 66, .int .u8 67, .int .u8 68, .int .u8 72, .int .u8 70] 5)).alloc (.cells #[.int .u8 27, .int .u8 91, .int .u8 67] 5)) := ⟨_, rfl⟩
  have HS2 : Hid (Stay (fun _ => False) w W) := by show _; rw [hW]; exact ((HS.out.alloc (.cells #[.int .u8 65, .int .u8 66, .int .u8 67, .int .u8 68, .int .u8 72, .int .u8 70] 5)).alloc (.cells #[.int .u8 27, .int .u8 91, .int .u8 67] 5))
  have HB2 : Hid (KBox W w.heap.size ⟨66, m⟩) := by show _; rw [hW]; exact ((HB.out).alloc _).alloc _
  have HV : Hid (Bs W (.slice (some ⟨w.heap.size + 1 + 1, 0, none⟩) 3 3) [27, 91, 67]) := by show _; rw [hW]; exact bs_new' _ _ _ _ 3 (by simp) rfl rfl
  rw [← hW]
  clear hW HS HB c0 c1
  obtain ⟨c0, c1, _⟩ := HB2.out
  go_wp2_with fail
  refine (H4.out _).mono ?_
  rintro e w' ⟨rfl, rfl⟩
  go_wp2
  go_ret
  exact ⟨_, rfl, HV.out, HS2.out⟩

set_option maxHeartbeats 1000000 in
set_option maxRecDepth 100000 in
theorem rb_M3nn (m : Int) (w : World) (h4 : bitB m 4 = false) : Calls Try.prog 14 #[.agg #[.int .i64 67, .int .i64 m], .bool false] w (GivesBs [27, 91, 68] w) := by
  have HB := hide' (KBox.new (w := w) ⟨67, m⟩ rfl)
  obtain ⟨c0, c1, _⟩ := HB.out
  have HS := hide' ((Stay.refl (fun _ => False) w).alloc (.cells #[.int .i64 67, .int .i64 m] 27))
  have H4 := hide' (bit18 m 4)
  rw [h4] at H4
  clear h4
  go_enter Try.func14, Try.ntmps14
  go_upto_region 33 with fail
  obtain ⟨W, hW⟩ : ∃ W, W = (((w.alloc (.cells #[.int .i64 67, .int .i64 m] 27)).alloc (.cells #[.int .u8 65, .int .u8 66, .int .u8 67, .int .u8 68, .int .u8 72, .int .u8 70] 5)).alloc (.cells #[.int .u8 27, .int .u8 91, .int .u8 68] 5)) := ⟨_, rfl⟩
  have HS2 : Hid (Stay (fun _ => False) w W) := by show _; rw [hW]; exact ((HS.out.alloc (.cells #[.int .u8 65, .int .u8 66, .int .u8 67, .int .u8 68, .int .u8 72, .int .u8 70] 5)).alloc (.cells #[.int .u8 27, .int .u8 91, .int .u8 68] 5))
  have HB2 : Hid (KBox W w.heap.size ⟨67, m⟩) := by show _; rw [hW]; exact ((HB.out).alloc _).alloc _
  have HV : Hid (Bs W (.slice (some ⟨w.heap.size + 1 + 1, 0, none⟩) 3 3) [27, 91, 68]) := by show _; rw [hW]; exact bs_new' _ _ _ _ 3 (by simp) rfl rfl
  rw [← hW]
  clear hW HS HB c0 c1
  obtain ⟨c0, c1, _⟩ := HB2.out
  go_wp2_with fail
  refine (H4.out _).mono ?_
  rintro e w' ⟨rfl, rfl⟩
  go_wp2
  go_ret
  exact ⟨_, rfl, HV.out, HS2.out⟩

set_option maxHeartbeats 1000000 in
set_option maxRecDepth 100000 in
theorem rb_M4nn (m : Int) (w : World) (h4 : bitB m 4 = false) : Calls Try.prog 14 #[.agg #[.int .i64 68, .int .i64 m], .bool false] w (GivesBs [27, 91, 72] w) := by
  have HB := hide' (KBox.new (w := w) ⟨68, m⟩ rfl)
  obtain ⟨c0, c1, _⟩ := HB.out
  have HS := hide' ((Stay.refl (fun _ => False) w).alloc (.cells #[.int .i64 68, .int .i64 m] 27))
  have H4 := hide' (bit18 m 4)
  rw [h4] at H4
  clear h4
  go_enter Try.func14, Try.ntmps14
  go_upto_region 33 with fail
  obtain ⟨W, hW⟩ : ∃ W, W = (((w.alloc (.cells #[.int .i64 68, .int .i64 m] 27)).alloc (.cells #[.int .u8 65, .int .u8 66, .int .u8 67, .int .u8 68, .int .u8 72, .int .u8 70] 5)).alloc (.cells #[.int .u8 27, .int .u8 91, .int .u8 72] 5)) := ⟨_, rfl⟩
  have HS2 : Hid (Stay (fun _ => False) w W) := by show _; rw [hW]; exact ((HS.out.alloc (.cells #[.int .u8 65, .int .u8 66, .int .u8 67, .int .u8 68, .int .u8 72, .int .u8 70] 5)).alloc (.cells #[.int .u8 27, .int .u8 91, .int .u8 72] 5))
  have HB2 : Hid (KBox W w.heap.size ⟨68, m⟩) := by show _; rw [hW]; exact ((HB.out).alloc _).alloc _
  have HV : Hid (Bs W (.slice (some ⟨w.heap.size + 1 + 1, 0, none⟩) 3 3) [27, 91, 72]) := by show _; rw [hW]; exact bs_new' _ _ _ _ 3 (by simp) rfl rfl
  rw [← hW]
  clear hW HS HB c0 c1
  obtain ⟨c0, c1, _⟩ := HB2.out
  go_wp2_with fail
  refine (H4.out _).mono ?_
  rintro e w' ⟨rfl, rfl⟩
  go_wp2
  go_ret
  exact ⟨_, rfl, HV.out, HS2.out⟩

set_option maxHeartbeats 1000000 in
set_option maxRecDepth 100000 in
theorem rb_M5nn (m : Int) (w : World) (h4 : bitB m 4 = false) : Calls Try.prog 14 #[.agg #[.int .i64 69, .int .i64 m], .bool false] w (GivesBs [27, 91, 70] w) := by
  have HB := hide' (KBox.new (w := w) ⟨69, m⟩ rfl)
  obtain ⟨c0, c1, _⟩ := HB.out
  have HS := hide' ((Stay.refl (fun _ => False) w).alloc (.cells #[.int .i64 69, .int .i64 m] 27))
  have H4 := hide' (bit18 m 4)
  rw [h4] at H4
  clear h4
  go_enter Try.func14, Try.ntmps14
  go_upto_region 33 with fail
  obtain ⟨W, hW⟩ : ∃ W, W = (((w.alloc (.cells #[.int .i64 69, .int .i64 m] 27)).alloc (.cells #[.int .u8 65, .int .u8 66, .int .u8 67, .int .u8 68, .int .u8 72, .int .u8 70] 5)).alloc (.cells #[.int .u8 27, .int .u8 91, .int .u8 70] 5)) := ⟨_, rfl⟩
  have HS2 : Hid (Stay (fun _ => False) w W) := by show _; rw [hW]; exact ((HS.out.alloc (.cells #[.int .u8 65, .int .u8 66, .int .u8 67, .int .u8 68, .int .u8 72, .int .u8 70] 5)).alloc (.cells #[.int .u8 27, .int .u8 91, .int .u8 70] 5))
  have HB2 : Hid (KBox W w.heap.size ⟨69, m⟩) := by show _; rw [hW]; exact ((HB.out).alloc _).alloc _
  have HV : Hid (Bs W (.slice (some ⟨w.heap.size + 1 + 1, 0, none⟩) 3 3) [27, 91, 70]) := by show _; rw [hW]; exact bs_new' _ _ _ _ 3 (by simp) rfl rfl
  rw [← hW]
  clear hW HS HB c0 c1
  obtain ⟨c0, c1, _⟩ := HB2.out
  go_wp2_with fail
  refine (H4.out _).mono ?_
  rintro e w' ⟨rfl, rfl⟩
  go_wp2
  go_ret
  exact ⟨_, rfl, HV.out, HS2.out⟩

set_option maxHeartbeats 1000000 in
set_option maxRecDepth 100000 in
theorem rb_P0n (m : Int) (app : Bool) (w : World) (h4 : bitB m 4 = false) : Calls Try.prog 14 #[.agg #[.int .i64 70, .int .i64 m], .bool app] w (GivesBs [27, 91, 53, 126] w) := by
  have HB := hide' (KBox.new (w := w) ⟨70, m⟩ rfl)
  obtain ⟨c0, c1, _⟩ := HB.out
  have HS := hide' ((Stay.refl (fun _ => False) w).alloc (.cells #[.int .i64 70, .int .i64 m] 27))
  have H4 := hide' (bit18 m 4)
  rw [h4] at H4
  clear h4
  go_enter Try.func14, Try.ntmps14
  go_upto_region 33 with fail
  obtain ⟨W, hW⟩ : ∃ W, W = (((w.alloc (.cells #[.int .i64 70, .int .i64 m] 27)).alloc (.cells #[.int .u8 53, .int .u8 54, .int .u8 50, .int .u8 51] 5)).alloc (.cells #[.int .u8 27, .int .u8 91, .int .u8 53, .int .u8 126] 5)) := ⟨_, rfl⟩
  have HS2 : Hid (Stay (fun _ => False) w W) := by show _; rw [hW]; exact ((HS.out.alloc (.cells #[.int .u8 53, .int .u8 54, .int .u8 50, .int .u8 51] 5)).alloc (.cells #[.int .u8 27, .int .u8 91, .int .u8 53, .int .u8 126] 5))
  have HB2 : Hid (KBox W w.heap.size ⟨70, m⟩) := by show _; rw [hW]; exact ((HB.out).alloc _).alloc _
  have HV : Hid (Bs W (.slice (some ⟨w.heap.size + 1 + 1, 0, none⟩) 4 4) [27, 91, 53, 126]) := by show _; rw [hW]; exact bs_new' _ _ _ _ 4 (by simp) rfl rfl
  rw [← hW]
  clear hW HS HB c0 c1
  obtain ⟨c0, c1, _⟩ := HB2.out
  go_wp2_with fail
  refine (H4.out _).mono ?_
  rintro e w' ⟨rfl, rfl⟩
  go_wp2
  go_ret
  exact ⟨_, rfl, HV.out, HS2.out⟩

set_option maxHeartbeats 1000000 in
set_option maxRecDepth 100000 in
theorem rb_P2n (m : Int) (app : Bool) (w : World) (h4 : bitB m 4 = false) : Calls Try.prog 14 #[.agg #[.int .i64 72, .int .i64 m], .bool app] w (GivesBs [27, 91, 50, 126] w) := by
  have HB := hide' (KBox.new (w := w) ⟨72, m⟩ rfl)
  obtain ⟨c0, c1, _⟩ := HB.out
  have HS := hide' ((Stay.refl (fun _ => False) w).alloc (.cells #[.int .i64 72, .int .i64 m] 27))
  have H4 := hide' (bit18 m 4)
  rw [h4] at H4
  clear h4
  go_enter Try.func14, Try.ntmps14
  go_upto_region 33 with fail
  obtain ⟨W, hW⟩ : ∃ W, W = (((w.alloc (.cells #[.int .i64 72, .int .i64 m] 27)).alloc (.cells #[.int .u8 53, .int .u8 54, .int .u8 50, .int .u8 51] 5)).alloc (.cells #[.int .u8 27, .int .u8 91, .int .u8 50, .int .u8 126] 5)) := ⟨_, rfl⟩
  have HS2 : Hid (Stay (fun _ => False) w W) := by show _; rw [hW]; exact ((HS.out.alloc (.cells #[.int .u8 53, .int .u8 54, .int .u8 50, .int .u8 51] 5)).alloc (.cells #[.int .u8 27, .int .u8 91, .int .u8 50, .int .u8 126] 5))
  have HB2 : Hid (KBox W w.heap.size ⟨72, m⟩) := by show _; rw [hW]; exact ((HB.out).alloc _).alloc _
  have HV : Hid (Bs W (.slice (some ⟨w.heap.size + 1 + 1, 0, none⟩) 4 4) [27, 91, 50, 126]) := by show _; rw [hW]; exact bs_new' _ _ _ _ 4 (by simp) rfl rfl
  rw [← hW]
  clear hW HS HB c0 c1
  obtain ⟨c0, c1, _⟩ := HB2.out
  go_wp2_with fail
  refine (H4.out _).mono ?_
  rintro e w' ⟨rfl, rfl⟩
  go_wp2
  go_ret
  exact ⟨_, rfl, HV.out, HS2.out⟩

set_option maxHeartbeats 1000000 in
set_option maxRecDepth 100000 in
theorem rb_Gn (c : Int) (m : Int) (app : Bool) (w : World) (g1 : 80 ≤ c) (g2 : c ≤ 83) (h4 : bitB m 4 = false) : Calls Try.prog 14 #[.agg #[.int .i64 c, .int .i64 m], .bool app] w (GivesBs [27, 79, c] w) := by
  have HB := hide' (KBox.new (w := w) ⟨c, m⟩ rfl)
  obtain ⟨c0, c1, _⟩ := HB.out
  have HS := hide' ((Stay.refl (fun _ => False) w).alloc (.cells #[.int .i64 c, .int .i64 m] 27))
  have H4 := hide' (bit18 m 4)
  rw [h4] at H4
  clear h4
  go_enter Try.func14, Try.ntmps14
  go_upto_region 33 with fail
  obtain ⟨W, hW⟩ : ∃ W, W = ((w.alloc (.cells #[.int .i64 c, .int .i64 m] 27)).alloc (.cells #[.int .u8 27, .int .u8 79, .int .u8 (80 + c - 80)] 5)) := ⟨_, rfl⟩
  have HS2 : Hid (Stay (fun _ => False) w W) := by show _; rw [hW]; exact (HS.out.alloc (.cells #[.int .u8 27, .int .u8 79, .int .u8 (80 + c - 80)] 5))
  have HB2 : Hid (KBox W w.heap.size ⟨c, m⟩) := by show _; rw [hW]; exact (HB.out).alloc _
  have HV : Hid (Bs W (.slice (some ⟨w.heap.size + 1, 0, none⟩) 3 3) [27, 79, c]) := by show _; rw [hW]; exact by rw [show [27, 79, c] = [27, 79, 80 + c - 80] by simp; omega]; exact bs_new' _ _ _ _ 3 (by simp) rfl rfl
  rw [← hW]
  clear hW HS HB c0 c1
  obtain ⟨c0, c1, _⟩ := HB2.out
  go_wp2_with fail
  refine (H4.out _).mono ?_
  rintro e w' ⟨rfl, rfl⟩
  go_wp2
  go_ret
  exact ⟨_, rfl, HV.out, HS2.out⟩

set_option maxHeartbeats 1000000 in
set_option maxRecDepth 100000 in
theorem rb_H2 (c : Int) (m : Int) (app : Bool) (w : World) (g1 : 74 ≤ c) (g2 : c ≤ 79) : Calls Try.prog 14 #[.agg #[.int .i64 c, .int .i64 m], .bool app] w (GivesBs [] w) := by
  have HB := hide' (KBox.new (w := w) ⟨c, m⟩ rfl)
  obtain ⟨c0, c1, _⟩ := HB.out
  have HS := hide' ((Stay.refl (fun _ => False) w).alloc (.cells #[.int .i64 c, .int .i64 m] 27))
  go_enter Try.func14, Try.ntmps14
  go_wp2
  go_ret
  exact ⟨_, rfl, bs_nil _, HS.out⟩

end Go.Proofs.Ytjficpcfdpbegaa
