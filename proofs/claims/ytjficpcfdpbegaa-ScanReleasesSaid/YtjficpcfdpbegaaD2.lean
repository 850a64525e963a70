/-
  The bytes of a key but Alt: keys of some classes, walked. Conditions: the class.
-/
import Derived.Test.YtjficpcfdpbegaaD1
namespace Go.Proofs.Ytjficpcfdpbegaa
open Go.RowKit

theorem wa17_A_nn (c : Int) (m : Int) (app : Bool) (w : World) (g1 : 1 ≤ c) (g2 : c ≤ 26) (h1 : bitB m 1 = false) (h2 : bitB m 2 = false) : Calls Try.prog 17 #[.agg #[.int .i64 c, .int .i64 m], .bool app] w (Gives (.string (bsOf (waL c false false app))) w) := by
  have HS := hide' ((Stay.refl (fun _ => False) w).alloc (.cells #[.int .i64 c, .int .i64 m] 27))
  have HB := hide' (KBox.new (w := w) ⟨c, m⟩ rfl)
  obtain ⟨c0, c1, _⟩ := HB.out
  unfold bitB at h1 h2
  obtain ⟨r, hr⟩ : ∃ r, r = (⟨#[97, 98, 99, 100, 101, 102, 103, 104, 105, 106, 107, 108, 109, 110, 111, 112, 113, 114, 115, 116, 117, 118, 119, 120, 121, 122, 49, 50, 51, 52, 53, 54, 55, 56, 57, 48, 32, 13, 127, 9, 27, 45, 61, 91, 93, 92, 59, 39, 44, 46, 47, 96]⟩ : ByteArray).extract ((c - 1)).toNat (((c - 1)).toNat + 1) := ⟨_, rfl⟩
  have HL : waL c false false app = [96 + c] := by
    unfold waL
    rw [if_pos (by omega)] <;> rfl
  have HE : Hid (r = bsOf (waL c false false app)) := by
    show _ = _
    rw [HL, hr]
    exact s_ty1 c (by omega) (by omega)
  clear HL
  have H0 := hide' (in_t c 1 52 (by omega))
  have H1 := hide' (sign_at (⟨#[97, 98, 99, 100, 101, 102, 103, 104, 105, 106, 107, 108, 109, 110, 111, 112, 113, 114, 115, 116, 117, 118, 119, 120, 121, 122, 49, 50, 51, 52, 53, 54, 55, 56, 57, 48, 32, 13, 127, 9, 27, 45, 61, 91, 93, 92, 59, 39, 44, 46, 47, 96]⟩ : ByteArray) (c - 1) (by omega) (by simp [ByteArray.size]; omega) (by simp [ByteArray.size]))
  rw [← hr] at H1
  clear hr
  go_enter Try.func17, Try.ntmps17
  go_wp2_with fail
  go_quiet (fail)
  go_wp2_with fail
  refine (H0.out _).mono ?_
  rintro e w' ⟨rfl, rfl⟩
  go_wp2_with fail
  refine (H1.out _).mono ?_
  rintro e w' ⟨rfl, rfl⟩
  go_wp2
  go_ret
  exact ⟨congrArg (fun s => Ending.returned (Value.string s)) HE.out, HS.out.drewN _⟩

theorem wa17_A_nc (c : Int) (m : Int) (app : Bool) (w : World) (g1 : 1 ≤ c) (g2 : c ≤ 26) (h1 : bitB m 1 = false) (h2 : bitB m 2 = true) : Calls Try.prog 17 #[.agg #[.int .i64 c, .int .i64 m], .bool app] w (Gives (.string (bsOf (waL c false true app))) w) := by
  have HS := hide' ((Stay.refl (fun _ => False) w).alloc (.cells #[.int .i64 c, .int .i64 m] 27))
  have HB := hide' (KBox.new (w := w) ⟨c, m⟩ rfl)
  obtain ⟨c0, c1, _⟩ := HB.out
  unfold bitB at h1 h2
  have HL : waL c false true app = [c] := by
    unfold waL
    rw [if_pos (by omega)] <;> rfl
  have HE : Hid (Utf8.encode (1 + c - 1) = bsOf (waL c false true app)) := by
    show _ = _
    rw [HL]
    exact (by rw [show (1 + c - 1 : Int) = c by omega]; exact s_ct c (by omega) (by omega))
  clear HL
  have H0 := hide' (in_t c 1 26 (by omega))
  go_enter Try.func17, Try.ntmps17
  go_wp2_with fail
  go_quiet (fail)
  go_wp2_with fail
  refine (H0.out _).mono ?_
  rintro e w' ⟨rfl, rfl⟩
  go_wp2
  go_ret
  exact ⟨congrArg (fun s => Ending.returned (Value.string s)) HE.out, HS.out.drewN _⟩

theorem wa17_A_sn (c : Int) (m : Int) (app : Bool) (w : World) (g1 : 1 ≤ c) (g2 : c ≤ 26) (h1 : bitB m 1 = true) (h2 : bitB m 2 = false) : Calls Try.prog 17 #[.agg #[.int .i64 c, .int .i64 m], .bool app] w (Gives (.string (bsOf (waL c true false app))) w) := by
  have HS := hide' ((Stay.refl (fun _ => False) w).alloc (.cells #[.int .i64 c, .int .i64 m] 27))
  have HB := hide' (KBox.new (w := w) ⟨c, m⟩ rfl)
  obtain ⟨c0, c1, _⟩ := HB.out
  unfold bitB at h1 h2
  obtain ⟨r, hr⟩ : ∃ r, r = (⟨#[65, 66, 67, 68, 69, 70, 71, 72, 73, 74, 75, 76, 77, 78, 79, 80, 81, 82, 83, 84, 85, 86, 87, 88, 89, 90, 33, 64, 35, 36, 37, 94, 38, 42, 40, 41, 32, 13, 127, 9, 27, 95, 43, 123, 125, 124, 58, 34, 60, 62, 63, 126]⟩ : ByteArray).extract ((c - 1)).toNat (((c - 1)).toNat + 1) := ⟨_, rfl⟩
  have HL : waL c true false app = [64 + c] := by
    unfold waL
    rw [if_pos (by omega)] <;> rfl
  have HE : Hid (r = bsOf (waL c true false app)) := by
    show _ = _
    rw [HL, hr]
    exact s_sh1 c (by omega) (by omega)
  clear HL
  have H0 := hide' (in_t c 1 52 (by omega))
  have H1 := hide' (sign_at (⟨#[65, 66, 67, 68, 69, 70, 71, 72, 73, 74, 75, 76, 77, 78, 79, 80, 81, 82, 83, 84, 85, 86, 87, 88, 89, 90, 33, 64, 35, 36, 37, 94, 38, 42, 40, 41, 32, 13, 127, 9, 27, 95, 43, 123, 125, 124, 58, 34, 60, 62, 63, 126]⟩ : ByteArray) (c - 1) (by omega) (by simp [ByteArray.size]; omega) (by simp [ByteArray.size]))
  rw [← hr] at H1
  clear hr
  go_enter Try.func17, Try.ntmps17
  go_wp2_with fail
  go_quiet (fail)
  go_wp2_with fail
  refine (H0.out _).mono ?_
  rintro e w' ⟨rfl, rfl⟩
  go_wp2_with fail
  refine (H1.out _).mono ?_
  rintro e w' ⟨rfl, rfl⟩
  go_wp2
  go_ret
  exact ⟨congrArg (fun s => Ending.returned (Value.string s)) HE.out, HS.out.drewN _⟩

theorem wa17_A_sc (c : Int) (m : Int) (app : Bool) (w : World) (g1 : 1 ≤ c) (g2 : c ≤ 26) (h1 : bitB m 1 = true) (h2 : bitB m 2 = true) : Calls Try.prog 17 #[.agg #[.int .i64 c, .int .i64 m], .bool app] w (Gives (.string (bsOf (waL c true true app))) w) := by
  have HS := hide' ((Stay.refl (fun _ => False) w).alloc (.cells #[.int .i64 c, .int .i64 m] 27))
  have HB := hide' (KBox.new (w := w) ⟨c, m⟩ rfl)
  obtain ⟨c0, c1, _⟩ := HB.out
  unfold bitB at h1 h2
  have HL : waL c true true app = [c] := by
    unfold waL
    rw [if_pos (by omega)] <;> rfl
  have HE : Hid (Utf8.encode (1 + c - 1) = bsOf (waL c true true app)) := by
    show _ = _
    rw [HL]
    exact (by rw [show (1 + c - 1 : Int) = c by omega]; exact s_ct c (by omega) (by omega))
  clear HL
  have H0 := hide' (in_t c 1 26 (by omega))
  go_enter Try.func17, Try.ntmps17
  go_wp2_with fail
  go_quiet (fail)
  go_wp2_with fail
  refine (H0.out _).mono ?_
  rintro e w' ⟨rfl, rfl⟩
  go_wp2
  go_ret
  exact ⟨congrArg (fun s => Ending.returned (Value.string s)) HE.out, HS.out.drewN _⟩

theorem wa17_B_nn (c : Int) (m : Int) (app : Bool) (w : World) (g1 : 27 ≤ c) (g2 : c ≤ 52) (g3 : c ≠ 37) (g4 : c ≠ 40) (h1 : bitB m 1 = false) (h2 : bitB m 2 = false) : Calls Try.prog 17 #[.agg #[.int .i64 c, .int .i64 m], .bool app] w (Gives (.string (bsOf (waL c false false app))) w) := by
  have HS := hide' ((Stay.refl (fun _ => False) w).alloc (.cells #[.int .i64 c, .int .i64 m] 27))
  have HB := hide' (KBox.new (w := w) ⟨c, m⟩ rfl)
  obtain ⟨c0, c1, _⟩ := HB.out
  unfold bitB at h1 h2
  obtain ⟨r, hr⟩ : ∃ r, r = (⟨#[97, 98, 99, 100, 101, 102, 103, 104, 105, 106, 107, 108, 109, 110, 111, 112, 113, 114, 115, 116, 117, 118, 119, 120, 121, 122, 49, 50, 51, 52, 53, 54, 55, 56, 57, 48, 32, 13, 127, 9, 27, 45, 61, 91, 93, 92, 59, 39, 44, 46, 47, 96]⟩ : ByteArray).extract ((c - 1)).toNat (((c - 1)).toNat + 1) := ⟨_, rfl⟩
  have HL : waL c false false app = [typedT.getD (c - 1).toNat 0] := by
    unfold waL
    rw [if_neg (by omega), if_neg (by omega), if_neg (by omega), if_pos (by omega)] <;> rfl
  have HE : Hid (r = bsOf (waL c false false app)) := by
    show _ = _
    rw [HL, hr]
    exact s_ty2 c (by omega) (by omega)
  clear HL
  have H0 := hide' (in_t c 1 52 (by omega))
  have H1 := hide' (sign_at (⟨#[97, 98, 99, 100, 101, 102, 103, 104, 105, 106, 107, 108, 109, 110, 111, 112, 113, 114, 115, 116, 117, 118, 119, 120, 121, 122, 49, 50, 51, 52, 53, 54, 55, 56, 57, 48, 32, 13, 127, 9, 27, 45, 61, 91, 93, 92, 59, 39, 44, 46, 47, 96]⟩ : ByteArray) (c - 1) (by omega) (by simp [ByteArray.size]; omega) (by simp [ByteArray.size]))
  rw [← hr] at H1
  clear hr
  have e37 : (c == 37) = false := beq_f g3
  have e40 : (c == 40) = false := beq_f g4
  clear g3 g4
  go_enter Try.func17, Try.ntmps17
  go_wp2_with fail
  go_quiet (fail)
  go_wp2_with fail
  refine (H0.out _).mono ?_
  rintro e w' ⟨rfl, rfl⟩
  go_wp2_with fail
  refine (H1.out _).mono ?_
  rintro e w' ⟨rfl, rfl⟩
  go_wp2
  go_ret
  exact ⟨congrArg (fun s => Ending.returned (Value.string s)) HE.out, HS.out.drewN _⟩

theorem wa17_B_nc (c : Int) (m : Int) (app : Bool) (w : World) (g1 : 27 ≤ c) (g2 : c ≤ 52) (g3 : c ≠ 37) (g4 : c ≠ 40) (h1 : bitB m 1 = false) (h2 : bitB m 2 = true) : Calls Try.prog 17 #[.agg #[.int .i64 c, .int .i64 m], .bool app] w (Gives (.string (bsOf (waL c false true app))) w) := by
  have HS := hide' ((Stay.refl (fun _ => False) w).alloc (.cells #[.int .i64 c, .int .i64 m] 27))
  have HB := hide' (KBox.new (w := w) ⟨c, m⟩ rfl)
  obtain ⟨c0, c1, _⟩ := HB.out
  unfold bitB at h1 h2
  obtain ⟨r, hr⟩ : ∃ r, r = (⟨#[97, 98, 99, 100, 101, 102, 103, 104, 105, 106, 107, 108, 109, 110, 111, 112, 113, 114, 115, 116, 117, 118, 119, 120, 121, 122, 49, 50, 51, 52, 53, 54, 55, 56, 57, 48, 32, 13, 127, 9, 27, 45, 61, 91, 93, 92, 59, 39, 44, 46, 47, 96]⟩ : ByteArray).extract ((c - 1)).toNat (((c - 1)).toNat + 1) := ⟨_, rfl⟩
  have HL : waL c false true app = [typedT.getD (c - 1).toNat 0] := by
    unfold waL
    rw [if_neg (by omega), if_neg (by omega), if_neg (by omega), if_pos (by omega)] <;> rfl
  have HE : Hid (r = bsOf (waL c false true app)) := by
    show _ = _
    rw [HL, hr]
    exact s_ty2 c (by omega) (by omega)
  clear HL
  have H0 := hide' (in_f c 1 26 (by omega))
  have H1 := hide' (in_t c 1 52 (by omega))
  have H2 := hide' (sign_at (⟨#[97, 98, 99, 100, 101, 102, 103, 104, 105, 106, 107, 108, 109, 110, 111, 112, 113, 114, 115, 116, 117, 118, 119, 120, 121, 122, 49, 50, 51, 52, 53, 54, 55, 56, 57, 48, 32, 13, 127, 9, 27, 45, 61, 91, 93, 92, 59, 39, 44, 46, 47, 96]⟩ : ByteArray) (c - 1) (by omega) (by simp [ByteArray.size]; omega) (by simp [ByteArray.size]))
  rw [← hr] at H2
  clear hr
  have e37 : (c == 37) = false := beq_f g3
  have e40 : (c == 40) = false := beq_f g4
  clear g3 g4
  go_enter Try.func17, Try.ntmps17
  go_wp2_with fail
  go_quiet (fail)
  go_wp2_with fail
  refine (H0.out _).mono ?_
  rintro e w' ⟨rfl, rfl⟩
  go_wp2_with fail
  refine (H1.out _).mono ?_
  rintro e w' ⟨rfl, rfl⟩
  go_wp2_with fail
  refine (H2.out _).mono ?_
  rintro e w' ⟨rfl, rfl⟩
  go_wp2
  go_ret
  exact ⟨congrArg (fun s => Ending.returned (Value.string s)) HE.out, HS.out.drewN _⟩

theorem wa17_B_sn (c : Int) (m : Int) (app : Bool) (w : World) (g1 : 27 ≤ c) (g2 : c ≤ 52) (g3 : c ≠ 37) (g4 : c ≠ 40) (h1 : bitB m 1 = true) (h2 : bitB m 2 = false) : Calls Try.prog 17 #[.agg #[.int .i64 c, .int .i64 m], .bool app] w (Gives (.string (bsOf (waL c true false app))) w) := by
  have HS := hide' ((Stay.refl (fun _ => False) w).alloc (.cells #[.int .i64 c, .int .i64 m] 27))
  have HB := hide' (KBox.new (w := w) ⟨c, m⟩ rfl)
  obtain ⟨c0, c1, _⟩ := HB.out
  unfold bitB at h1 h2
  obtain ⟨r, hr⟩ : ∃ r, r = (⟨#[65, 66, 67, 68, 69, 70, 71, 72, 73, 74, 75, 76, 77, 78, 79, 80, 81, 82, 83, 84, 85, 86, 87, 88, 89, 90, 33, 64, 35, 36, 37, 94, 38, 42, 40, 41, 32, 13, 127, 9, 27, 95, 43, 123, 125, 124, 58, 34, 60, 62, 63, 126]⟩ : ByteArray).extract ((c - 1)).toNat (((c - 1)).toNat + 1) := ⟨_, rfl⟩
  have HL : waL c true false app = [shiftT.getD (c - 1).toNat 0] := by
    unfold waL
    rw [if_neg (by omega), if_neg (by omega), if_neg (by omega), if_pos (by omega)] <;> rfl
  have HE : Hid (r = bsOf (waL c true false app)) := by
    show _ = _
    rw [HL, hr]
    exact s_sh2 c (by omega) (by omega)
  clear HL
  have H0 := hide' (in_t c 1 52 (by omega))
  have H1 := hide' (sign_at (⟨#[65, 66, 67, 68, 69, 70, 71, 72, 73, 74, 75, 76, 77, 78, 79, 80, 81, 82, 83, 84, 85, 86, 87, 88, 89, 90, 33, 64, 35, 36, 37, 94, 38, 42, 40, 41, 32, 13, 127, 9, 27, 95, 43, 123, 125, 124, 58, 34, 60, 62, 63, 126]⟩ : ByteArray) (c - 1) (by omega) (by simp [ByteArray.size]; omega) (by simp [ByteArray.size]))
  rw [← hr] at H1
  clear hr
  have e37 : (c == 37) = false := beq_f g3
  have e40 : (c == 40) = false := beq_f g4
  clear g3 g4
  go_enter Try.func17, Try.ntmps17
  go_wp2_with fail
  go_quiet (fail)
  go_wp2_with fail
  refine (H0.out _).mono ?_
  rintro e w' ⟨rfl, rfl⟩
  go_wp2_with fail
  refine (H1.out _).mono ?_
  rintro e w' ⟨rfl, rfl⟩
  go_wp2
  go_ret
  exact ⟨congrArg (fun s => Ending.returned (Value.string s)) HE.out, HS.out.drewN _⟩

theorem wa17_B_sc (c : Int) (m : Int) (app : Bool) (w : World) (g1 : 27 ≤ c) (g2 : c ≤ 52) (g3 : c ≠ 37) (g4 : c ≠ 40) (h1 : bitB m 1 = true) (h2 : bitB m 2 = true) : Calls Try.prog 17 #[.agg #[.int .i64 c, .int .i64 m], .bool app] w (Gives (.string (bsOf (waL c true true app))) w) := by
  have HS := hide' ((Stay.refl (fun _ => False) w).alloc (.cells #[.int .i64 c, .int .i64 m] 27))
  have HB := hide' (KBox.new (w := w) ⟨c, m⟩ rfl)
  obtain ⟨c0, c1, _⟩ := HB.out
  unfold bitB at h1 h2
  obtain ⟨r, hr⟩ : ∃ r, r = (⟨#[65, 66, 67, 68, 69, 70, 71, 72, 73, 74, 75, 76, 77, 78, 79, 80, 81, 82, 83, 84, 85, 86, 87, 88, 89, 90, 33, 64, 35, 36, 37, 94, 38, 42, 40, 41, 32, 13, 127, 9, 27, 95, 43, 123, 125, 124, 58, 34, 60, 62, 63, 126]⟩ : ByteArray).extract ((c - 1)).toNat (((c - 1)).toNat + 1) := ⟨_, rfl⟩
  have HL : waL c true true app = [shiftT.getD (c - 1).toNat 0] := by
    unfold waL
    rw [if_neg (by omega), if_neg (by omega), if_neg (by omega), if_pos (by omega)] <;> rfl
  have HE : Hid (r = bsOf (waL c true true app)) := by
    show _ = _
    rw [HL, hr]
    exact s_sh2 c (by omega) (by omega)
  clear HL
  have H0 := hide' (in_f c 1 26 (by omega))
  have H1 := hide' (in_t c 1 52 (by omega))
  have H2 := hide' (sign_at (⟨#[65, 66, 67, 68, 69, 70, 71, 72, 73, 74, 75, 76, 77, 78, 79, 80, 81, 82, 83, 84, 85, 86, 87, 88, 89, 90, 33, 64, 35, 36, 37, 94, 38, 42, 40, 41, 32, 13, 127, 9, 27, 95, 43, 123, 125, 124, 58, 34, 60, 62, 63, 126]⟩ : ByteArray) (c - 1) (by omega) (by simp [ByteArray.size]; omega) (by simp [ByteArray.size]))
  rw [← hr] at H2
  clear hr
  have e37 : (c == 37) = false := beq_f g3
  have e40 : (c == 40) = false := beq_f g4
  clear g3 g4
  go_enter Try.func17, Try.ntmps17
  go_wp2_with fail
  go_quiet (fail)
  go_wp2_with fail
  refine (H0.out _).mono ?_
  rintro e w' ⟨rfl, rfl⟩
  go_wp2_with fail
  refine (H1.out _).mono ?_
  rintro e w' ⟨rfl, rfl⟩
  go_wp2_with fail
  refine (H2.out _).mono ?_
  rintro e w' ⟨rfl, rfl⟩
  go_wp2
  go_ret
  exact ⟨congrArg (fun s => Ending.returned (Value.string s)) HE.out, HS.out.drewN _⟩

end Go.Proofs.Ytjficpcfdpbegaa
