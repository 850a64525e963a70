/-
  The bytes of a key but Alt: keys of some classes, walked. Conditions: the class.
-/
import Derived.Test.YtjficpcfdpbegaaD1
namespace Go.Proofs.Ytjficpcfdpbegaa
open Go.RowKit

theorem wa17_C_nn (m : Int) (app : Bool) (w : World) (h1 : bitB m 1 = false) (h2 : bitB m 2 = false) : Calls Try.prog 17 #[.agg #[.int .i64 37, .int .i64 m], .bool app] w (Gives (.string (bsOf (waL 37 false false app))) w) := by
  have HS := hide' ((Stay.refl (fun _ => False) w).alloc (.cells #[.int .i64 37, .int .i64 m] 27))
  have HB := hide' (KBox.new (w := w) ⟨37, m⟩ rfl)
  obtain ⟨c0, c1, _⟩ := HB.out
  unfold bitB at h1 h2
  obtain ⟨r, hr⟩ : ∃ r, r = (⟨#[97, 98, 99, 100, 101, 102, 103, 104, 105, 106, 107, 108, 109, 110, 111, 112, 113, 114, 115, 116, 117, 118, 119, 120, 121, 122, 49, 50, 51, 52, 53, 54, 55, 56, 57, 48, 32, 13, 127, 9, 27, 45, 61, 91, 93, 92, 59, 39, 44, 46, 47, 96]⟩ : ByteArray).extract ((36 : Int)).toNat (((36 : Int)).toNat + 1) := ⟨_, rfl⟩
  have HL : waL 37 false false app = [32] := by cases app <;> decide
  have HE : Hid (r = bsOf (waL 37 false false app)) := by
    show _ = _
    rw [HL, hr]
    exact by decide +kernel
  clear HL
  have H0 := hide' (in_t 37 1 52 (by omega))
  have H1 := hide' (sign_at (⟨#[97, 98, 99, 100, 101, 102, 103, 104, 105, 106, 107, 108, 109, 110, 111, 112, 113, 114, 115, 116, 117, 118, 119, 120, 121, 122, 49, 50, 51, 52, 53, 54, 55, 56, 57, 48, 32, 13, 127, 9, 27, 45, 61, 91, 93, 92, 59, 39, 44, 46, 47, 96]⟩ : ByteArray) (36 : Int) (by omega) (by simp [ByteArray.size]) (by simp [ByteArray.size]))
  rw [← hr] at H1
  clear hr
  go_enter Try.func17, Try.ntmps17
  go_wp2_with fail
  go_quiet (fail)
  go_wp2_with fail
  refine (H0.out _).mono ?_
  rintro e w' ⟨rfl, rfl⟩
  go_wp2_with fail
  refine (H1.out _).mono ?_
  rintro e w' ⟨rfl, rfl⟩
  go_wp2
  go_ret
  exact ⟨congrArg (fun s => Ending.returned (Value.string s)) HE.out, HS.out.drewN _⟩

theorem wa17_C_nc (m : Int) (app : Bool) (w : World) (h1 : bitB m 1 = false) (h2 : bitB m 2 = true) : Calls Try.prog 17 #[.agg #[.int .i64 37, .int .i64 m], .bool app] w (Gives (.string (bsOf (waL 37 false true app))) w) := by
  have HS := hide' ((Stay.refl (fun _ => False) w).alloc (.cells #[.int .i64 37, .int .i64 m] 27))
  have HB := hide' (KBox.new (w := w) ⟨37, m⟩ rfl)
  obtain ⟨c0, c1, _⟩ := HB.out
  unfold bitB at h1 h2
  have HL : waL 37 false true app = [0] := by cases app <;> decide
  have HE : Hid ((⟨#[0]⟩ : ByteArray) = bsOf (waL 37 false true app)) := by
    show _ = _
    rw [HL]
    exact by decide
  clear HL
  have H0 := hide' (in_f 37 1 26 (by omega))
  go_enter Try.func17, Try.ntmps17
  go_wp2_with fail
  go_quiet (fail)
  go_wp2_with fail
  refine (H0.out _).mono ?_
  rintro e w' ⟨rfl, rfl⟩
  go_wp2
  go_ret
  exact ⟨congrArg (fun s => Ending.returned (Value.string s)) HE.out, HS.out.drewN _⟩

theorem wa17_C_sn (m : Int) (app : Bool) (w : World) (h1 : bitB m 1 = true) (h2 : bitB m 2 = false) : Calls Try.prog 17 #[.agg #[.int .i64 37, .int .i64 m], .bool app] w (Gives (.string (bsOf (waL 37 true false app))) w) := by
  have HS := hide' ((Stay.refl (fun _ => False) w).alloc (.cells #[.int .i64 37, .int .i64 m] 27))
  have HB := hide' (KBox.new (w := w) ⟨37, m⟩ rfl)
  obtain ⟨c0, c1, _⟩ := HB.out
  unfold bitB at h1 h2
  obtain ⟨r, hr⟩ : ∃ r, r = (⟨#[65, 66, 67, 68, 69, 70, 71, 72, 73, 74, 75, 76, 77, 78, 79, 80, 81, 82, 83, 84, 85, 86, 87, 88, 89, 90, 33, 64, 35, 36, 37, 94, 38, 42, 40, 41, 32, 13, 127, 9, 27, 95, 43, 123, 125, 124, 58, 34, 60, 62, 63, 126]⟩ : ByteArray).extract ((36 : Int)).toNat (((36 : Int)).toNat + 1) := ⟨_, rfl⟩
  have HL : waL 37 true false app = [32] := by cases app <;> decide
  have HE : Hid (r = bsOf (waL 37 true false app)) := by
    show _ = _
    rw [HL, hr]
    exact by decide +kernel
  clear HL
  have H0 := hide' (in_t 37 1 52 (by omega))
  have H1 := hide' (sign_at (⟨#[65, 66, 67, 68, 69, 70, 71, 72, 73, 74, 75, 76, 77, 78, 79, 80, 81, 82, 83, 84, 85, 86, 87, 88, 89, 90, 33, 64, 35, 36, 37, 94, 38, 42, 40, 41, 32, 13, 127, 9, 27, 95, 43, 123, 125, 124, 58, 34, 60, 62, 63, 126]⟩ : ByteArray) (36 : Int) (by omega) (by simp [ByteArray.size]) (by simp [ByteArray.size]))
  rw [← hr] at H1
  clear hr
  go_enter Try.func17, Try.ntmps17
  go_wp2_with fail
  go_quiet (fail)
  go_wp2_with fail
  refine (H0.out _).mono ?_
  rintro e w' ⟨rfl, rfl⟩
  go_wp2_with fail
  refine (H1.out _).mono ?_
  rintro e w' ⟨rfl, rfl⟩
  go_wp2
  go_ret
  exact ⟨congrArg (fun s => Ending.returned (Value.string s)) HE.out, HS.out.drewN _⟩

theorem wa17_C_sc (m : Int) (app : Bool) (w : World) (h1 : bitB m 1 = true) (h2 : bitB m 2 = true) : Calls Try.prog 17 #[.agg #[.int .i64 37, .int .i64 m], .bool app] w (Gives (.string (bsOf (waL 37 true true app))) w) := by
  have HS := hide' ((Stay.refl (fun _ => False) w).alloc (.cells #[.int .i64 37, .int .i64 m] 27))
  have HB := hide' (KBox.new (w := w) ⟨37, m⟩ rfl)
  obtain ⟨c0, c1, _⟩ := HB.out
  unfold bitB at h1 h2
  have HL : waL 37 true true app = [0] := by cases app <;> decide
  have HE : Hid ((⟨#[0]⟩ : ByteArray) = bsOf (waL 37 true true app)) := by
    show _ = _
    rw [HL]
    exact by decide
  clear HL
  have H0 := hide' (in_f 37 1 26 (by omega))
  go_enter Try.func17, Try.ntmps17
  go_wp2_with fail
  go_quiet (fail)
  go_wp2_with fail
  refine (H0.out _).mono ?_
  rintro e w' ⟨rfl, rfl⟩
  go_wp2
  go_ret
  exact ⟨congrArg (fun s => Ending.returned (Value.string s)) HE.out, HS.out.drewN _⟩

theorem wa17_D_nn (m : Int) (app : Bool) (w : World) (h1 : bitB m 1 = false) (h2 : bitB m 2 = false) : Calls Try.prog 17 #[.agg #[.int .i64 40, .int .i64 m], .bool app] w (Gives (.string (bsOf (waL 40 false false app))) w) := by
  have HS := hide' ((Stay.refl (fun _ => False) w).alloc (.cells #[.int .i64 40, .int .i64 m] 27))
  have HB := hide' (KBox.new (w := w) ⟨40, m⟩ rfl)
  obtain ⟨c0, c1, _⟩ := HB.out
  unfold bitB at h1 h2
  obtain ⟨r, hr⟩ : ∃ r, r = (⟨#[97, 98, 99, 100, 101, 102, 103, 104, 105, 106, 107, 108, 109, 110, 111, 112, 113, 114, 115, 116, 117, 118, 119, 120, 121, 122, 49, 50, 51, 52, 53, 54, 55, 56, 57, 48, 32, 13, 127, 9, 27, 45, 61, 91, 93, 92, 59, 39, 44, 46, 47, 96]⟩ : ByteArray).extract ((39 : Int)).toNat (((39 : Int)).toNat + 1) := ⟨_, rfl⟩
  have HL : waL 40 false false app = [9] := by cases app <;> decide
  have HE : Hid (r = bsOf (waL 40 false false app)) := by
    show _ = _
    rw [HL, hr]
    exact by decide +kernel
  clear HL
  have H0 := hide' (in_t 40 1 52 (by omega))
  have H1 := hide' (sign_at (⟨#[97, 98, 99, 100, 101, 102, 103, 104, 105, 106, 107, 108, 109, 110, 111, 112, 113, 114, 115, 116, 117, 118, 119, 120, 121, 122, 49, 50, 51, 52, 53, 54, 55, 56, 57, 48, 32, 13, 127, 9, 27, 45, 61, 91, 93, 92, 59, 39, 44, 46, 47, 96]⟩ : ByteArray) (39 : Int) (by omega) (by simp [ByteArray.size]) (by simp [ByteArray.size]))
  rw [← hr] at H1
  clear hr
  go_enter Try.func17, Try.ntmps17
  go_wp2_with fail
  go_quiet (fail)
  go_wp2_with fail
  refine (H0.out _).mono ?_
  rintro e w' ⟨rfl, rfl⟩
  go_wp2_with fail
  refine (H1.out _).mono ?_
  rintro e w' ⟨rfl, rfl⟩
  go_wp2
  go_ret
  exact ⟨congrArg (fun s => Ending.returned (Value.string s)) HE.out, HS.out.drewN _⟩

theorem wa17_D_nc (m : Int) (app : Bool) (w : World) (h1 : bitB m 1 = false) (h2 : bitB m 2 = true) : Calls Try.prog 17 #[.agg #[.int .i64 40, .int .i64 m], .bool app] w (Gives (.string (bsOf (waL 40 false true app))) w) := by
  have HS := hide' ((Stay.refl (fun _ => False) w).alloc (.cells #[.int .i64 40, .int .i64 m] 27))
  have HB := hide' (KBox.new (w := w) ⟨40, m⟩ rfl)
  obtain ⟨c0, c1, _⟩ := HB.out
  unfold bitB at h1 h2
  obtain ⟨r, hr⟩ : ∃ r, r = (⟨#[97, 98, 99, 100, 101, 102, 103, 104, 105, 106, 107, 108, 109, 110, 111, 112, 113, 114, 115, 116, 117, 118, 119, 120, 121, 122, 49, 50, 51, 52, 53, 54, 55, 56, 57, 48, 32, 13, 127, 9, 27, 45, 61, 91, 93, 92, 59, 39, 44, 46, 47, 96]⟩ : ByteArray).extract ((39 : Int)).toNat (((39 : Int)).toNat + 1) := ⟨_, rfl⟩
  have HL : waL 40 false true app = [9] := by cases app <;> decide
  have HE : Hid (r = bsOf (waL 40 false true app)) := by
    show _ = _
    rw [HL, hr]
    exact by decide +kernel
  clear HL
  have H0 := hide' (in_f 40 1 26 (by omega))
  have H1 := hide' (in_t 40 1 52 (by omega))
  have H2 := hide' (sign_at (⟨#[97, 98, 99, 100, 101, 102, 103, 104, 105, 106, 107, 108, 109, 110, 111, 112, 113, 114, 115, 116, 117, 118, 119, 120, 121, 122, 49, 50, 51, 52, 53, 54, 55, 56, 57, 48, 32, 13, 127, 9, 27, 45, 61, 91, 93, 92, 59, 39, 44, 46, 47, 96]⟩ : ByteArray) (39 : Int) (by omega) (by simp [ByteArray.size]) (by simp [ByteArray.size]))
  rw [← hr] at H2
  clear hr
  go_enter Try.func17, Try.ntmps17
  go_wp2_with fail
  go_quiet (fail)
  go_wp2_with fail
  refine (H0.out _).mono ?_
  rintro e w' ⟨rfl, rfl⟩
  go_wp2_with fail
  refine (H1.out _).mono ?_
  rintro e w' ⟨rfl, rfl⟩
  go_wp2_with fail
  refine (H2.out _).mono ?_
  rintro e w' ⟨rfl, rfl⟩
  go_wp2
  go_ret
  exact ⟨congrArg (fun s => Ending.returned (Value.string s)) HE.out, HS.out.drewN _⟩

theorem wa17_D_sn (m : Int) (app : Bool) (w : World) (h1 : bitB m 1 = true) (h2 : bitB m 2 = false) : Calls Try.prog 17 #[.agg #[.int .i64 40, .int .i64 m], .bool app] w (Gives (.string (bsOf (waL 40 true false app))) w) := by
  have HS := hide' ((Stay.refl (fun _ => False) w).alloc (.cells #[.int .i64 40, .int .i64 m] 27))
  have HB := hide' (KBox.new (w := w) ⟨40, m⟩ rfl)
  obtain ⟨c0, c1, _⟩ := HB.out
  unfold bitB at h1 h2
  have HL : waL 40 true false app = [27, 91, 90] := by cases app <;> decide
  have HE : Hid ((⟨#[27, 91, 90]⟩ : ByteArray) = bsOf (waL 40 true false app)) := by
    show _ = _
    rw [HL]
    exact by decide
  clear HL
  go_enter Try.func17, Try.ntmps17
  go_wp2_with fail
  go_quiet (fail)
  go_wp2
  go_ret
  exact ⟨congrArg (fun s => Ending.returned (Value.string s)) HE.out, HS.out.drewN _⟩

theorem wa17_D_sc (m : Int) (app : Bool) (w : World) (h1 : bitB m 1 = true) (h2 : bitB m 2 = true) : Calls Try.prog 17 #[.agg #[.int .i64 40, .int .i64 m], .bool app] w (Gives (.string (bsOf (waL 40 true true app))) w) := by
  have HS := hide' ((Stay.refl (fun _ => False) w).alloc (.cells #[.int .i64 40, .int .i64 m] 27))
  have HB := hide' (KBox.new (w := w) ⟨40, m⟩ rfl)
  obtain ⟨c0, c1, _⟩ := HB.out
  unfold bitB at h1 h2
  have HL : waL 40 true true app = [27, 91, 90] := by cases app <;> decide
  have HE : Hid ((⟨#[27, 91, 90]⟩ : ByteArray) = bsOf (waL 40 true true app)) := by
    show _ = _
    rw [HL]
    exact by decide
  clear HL
  have H0 := hide' (in_f 40 1 26 (by omega))
  go_enter Try.func17, Try.ntmps17
  go_wp2_with fail
  go_quiet (fail)
  go_wp2_with fail
  refine (H0.out _).mono ?_
  rintro e w' ⟨rfl, rfl⟩
  go_wp2
  go_ret
  exact ⟨congrArg (fun s => Ending.returned (Value.string s)) HE.out, HS.out.drewN _⟩

theorem wa17_E_nnn (c : Int) (m : Int) (w : World) (g1 : 64 ≤ c) (g2 : c ≤ 69) (h1 : bitB m 1 = false) (h2 : bitB m 2 = false) : Calls Try.prog 17 #[.agg #[.int .i64 c, .int .i64 m], .bool false] w (Gives (.string (bsOf (waL c false false false))) w) := by
  have HS := hide' ((Stay.refl (fun _ => False) w).alloc (.cells #[.int .i64 c, .int .i64 m] 27))
  have HB := hide' (KBox.new (w := w) ⟨c, m⟩ rfl)
  obtain ⟨c0, c1, _⟩ := HB.out
  unfold bitB at h1 h2
  obtain ⟨r, hr⟩ : ∃ r, r = (⟨#[65, 66, 67, 68, 72, 70]⟩ : ByteArray).extract ((c - 64)).toNat (((c - 64)).toNat + 1) := ⟨_, rfl⟩
  have HL : waL c false false false = [27, 91, [65, 66, 67, 68, 72, 70].getD (c - 64).toNat 0] := by
    unfold waL
    rw [if_neg (by omega), if_neg (by omega), if_neg (by omega), if_neg (by omega), if_pos (by omega)] <;> rfl
  have HE : Hid ((⟨#[27, 91]⟩ : ByteArray) ++ r = bsOf (waL c false false false)) := by
    show _ = _
    rw [HL, hr]
    exact s_mvn c (by omega) (by omega)
  clear HL
  have H0 := hide' (in_f c 1 52 (by omega))
  have H1 := hide' (in_t c 64 69 (by omega))
  have H2 := hide' (sign_at (⟨#[65, 66, 67, 68, 72, 70]⟩ : ByteArray) (c - 64) (by omega) (by simp [ByteArray.size]; omega) (by simp [ByteArray.size]))
  rw [← hr] at H2
  have hz : r.size = 1 := by rw [hr, ByteArray.size_extract]; simp [ByteArray.size]; omega
  clear hr
  go_enter Try.func17, Try.ntmps17
  go_wp2_with fail
  go_quiet (fail)
  go_wp2_with fail
  refine (H0.out _).mono ?_
  rintro e w' ⟨rfl, rfl⟩
  go_wp2_with fail
  refine (H1.out _).mono ?_
  rintro e w' ⟨rfl, rfl⟩
  go_wp2_with fail
  refine (H2.out _).mono ?_
  rintro e w' ⟨rfl, rfl⟩
  go_wp2
  go_ret
  exact ⟨congrArg (fun s => Ending.returned (Value.string s)) HE.out, HS.out.drewN _⟩

theorem wa17_E_nna (c : Int) (m : Int) (w : World) (g1 : 64 ≤ c) (g2 : c ≤ 69) (h1 : bitB m 1 = false) (h2 : bitB m 2 = false) : Calls Try.prog 17 #[.agg #[.int .i64 c, .int .i64 m], .bool true] w (Gives (.string (bsOf (waL c false false true))) w) := by
  have HS := hide' ((Stay.refl (fun _ => False) w).alloc (.cells #[.int .i64 c, .int .i64 m] 27))
  have HB := hide' (KBox.new (w := w) ⟨c, m⟩ rfl)
  obtain ⟨c0, c1, _⟩ := HB.out
  unfold bitB at h1 h2
  obtain ⟨r, hr⟩ : ∃ r, r = (⟨#[65, 66, 67, 68, 72, 70]⟩ : ByteArray).extract ((c - 64)).toNat (((c - 64)).toNat + 1) := ⟨_, rfl⟩
  have HL : waL c false false true = [27, 79, [65, 66, 67, 68, 72, 70].getD (c - 64).toNat 0] := by
    unfold waL
    rw [if_neg (by omega), if_neg (by omega), if_neg (by omega), if_neg (by omega), if_pos (by omega)] <;> rfl
  have HE : Hid ((⟨#[27, 79]⟩ : ByteArray) ++ r = bsOf (waL c false false true)) := by
    show _ = _
    rw [HL, hr]
    exact s_mva c (by omega) (by omega)
  clear HL
  have H0 := hide' (in_f c 1 52 (by omega))
  have H1 := hide' (in_t c 64 69 (by omega))
  have H2 := hide' (sign_at (⟨#[65, 66, 67, 68, 72, 70]⟩ : ByteArray) (c - 64) (by omega) (by simp [ByteArray.size]; omega) (by simp [ByteArray.size]))
  rw [← hr] at H2
  have hz : r.size = 1 := by rw [hr, ByteArray.size_extract]; simp [ByteArray.size]; omega
  clear hr
  go_enter Try.func17, Try.ntmps17
  go_wp2_with fail
  go_quiet (fail)
  go_wp2_with fail
  refine (H0.out _).mono ?_
  rintro e w' ⟨rfl, rfl⟩
  go_wp2_with fail
  refine (H1.out _).mono ?_
  rintro e w' ⟨rfl, rfl⟩
  go_wp2_with fail
  refine (H2.out _).mono ?_
  rintro e w' ⟨rfl, rfl⟩
  go_wp2
  go_ret
  exact ⟨congrArg (fun s => Ending.returned (Value.string s)) HE.out, HS.out.drewN _⟩

theorem wa17_E_ncn (c : Int) (m : Int) (w : World) (g1 : 64 ≤ c) (g2 : c ≤ 69) (h1 : bitB m 1 = false) (h2 : bitB m 2 = true) : Calls Try.prog 17 #[.agg #[.int .i64 c, .int .i64 m], .bool false] w (Gives (.string (bsOf (waL c false true false))) w) := by
  have HS := hide' ((Stay.refl (fun _ => False) w).alloc (.cells #[.int .i64 c, .int .i64 m] 27))
  have HB := hide' (KBox.new (w := w) ⟨c, m⟩ rfl)
  obtain ⟨c0, c1, _⟩ := HB.out
  unfold bitB at h1 h2
  obtain ⟨r, hr⟩ : ∃ r, r = (⟨#[65, 66, 67, 68, 72, 70]⟩ : ByteArray).extract ((c - 64)).toNat (((c - 64)).toNat + 1) := ⟨_, rfl⟩
  have HL : waL c false true false = [27, 91, [65, 66, 67, 68, 72, 70].getD (c - 64).toNat 0] := by
    unfold waL
    rw [if_neg (by omega), if_neg (by omega), if_neg (by omega), if_neg (by omega), if_pos (by omega)] <;> rfl
  have HE : Hid ((⟨#[27, 91]⟩ : ByteArray) ++ r = bsOf (waL c false true false)) := by
    show _ = _
    rw [HL, hr]
    exact s_mvn c (by omega) (by omega)
  clear HL
  have H0 := hide' (in_f c 1 26 (by omega))
  have H1 := hide' (in_f c 1 52 (by omega))
  have H2 := hide' (in_t c 64 69 (by omega))
  have H3 := hide' (sign_at (⟨#[65, 66, 67, 68, 72, 70]⟩ : ByteArray) (c - 64) (by omega) (by simp [ByteArray.size]; omega) (by simp [ByteArray.size]))
  rw [← hr] at H3
  have hz : r.size = 1 := by rw [hr, ByteArray.size_extract]; simp [ByteArray.size]; omega
  clear hr
  go_enter Try.func17, Try.ntmps17
  go_wp2_with fail
  go_quiet (fail)
  go_wp2_with fail
  refine (H0.out _).mono ?_
  rintro e w' ⟨rfl, rfl⟩
  go_wp2_with fail
  refine (H1.out _).mono ?_
  rintro e w' ⟨rfl, rfl⟩
  go_wp2_with fail
  refine (H2.out _).mono ?_
  rintro e w' ⟨rfl, rfl⟩
  go_wp2_with fail
  refine (H3.out _).mono ?_
  rintro e w' ⟨rfl, rfl⟩
  go_wp2
  go_ret
  exact ⟨congrArg (fun s => Ending.returned (Value.string s)) HE.out, HS.out.drewN _⟩

theorem wa17_E_nca (c : Int) (m : Int) (w : World) (g1 : 64 ≤ c) (g2 : c ≤ 69) (h1 : bitB m 1 = false) (h2 : bitB m 2 = true) : Calls Try.prog 17 #[.agg #[.int .i64 c, .int .i64 m], .bool true] w (Gives (.string (bsOf (waL c false true true))) w) := by
  have HS := hide' ((Stay.refl (fun _ => False) w).alloc (.cells #[.int .i64 c, .int .i64 m] 27))
  have HB := hide' (KBox.new (w := w) ⟨c, m⟩ rfl)
  obtain ⟨c0, c1, _⟩ := HB.out
  unfold bitB at h1 h2
  obtain ⟨r, hr⟩ : ∃ r, r = (⟨#[65, 66, 67, 68, 72, 70]⟩ : ByteArray).extract ((c - 64)).toNat (((c - 64)).toNat + 1) := ⟨_, rfl⟩
  have HL : waL c false true true = [27, 79, [65, 66, 67, 68, 72, 70].getD (c - 64).toNat 0] := by
    unfold waL
    rw [if_neg (by omega), if_neg (by omega), if_neg (by omega), if_neg (by omega), if_pos (by omega)] <;> rfl
  have HE : Hid ((⟨#[27, 79]⟩ : ByteArray) ++ r = bsOf (waL c false true true)) := by
    show _ = _
    rw [HL, hr]
    exact s_mva c (by omega) (by omega)
  clear HL
  have H0 := hide' (in_f c 1 26 (by omega))
  have H1 := hide' (in_f c 1 52 (by omega))
  have H2 := hide' (in_t c 64 69 (by omega))
  have H3 := hide' (sign_at (⟨#[65, 66, 67, 68, 72, 70]⟩ : ByteArray) (c - 64) (by omega) (by simp [ByteArray.size]; omega) (by simp [ByteArray.size]))
  rw [← hr] at H3
  have hz : r.size = 1 := by rw [hr, ByteArray.size_extract]; simp [ByteArray.size]; omega
  clear hr
  go_enter Try.func17, Try.ntmps17
  go_wp2_with fail
  go_quiet (fail)
  go_wp2_with fail
  refine (H0.out _).mono ?_
  rintro e w' ⟨rfl, rfl⟩
  go_wp2_with fail
  refine (H1.out _).mono ?_
  rintro e w' ⟨rfl, rfl⟩
  go_wp2_with fail
  refine (H2.out _).mono ?_
  rintro e w' ⟨rfl, rfl⟩
  go_wp2_with fail
  refine (H3.out _).mono ?_
  rintro e w' ⟨rfl, rfl⟩
  go_wp2
  go_ret
  exact ⟨congrArg (fun s => Ending.returned (Value.string s)) HE.out, HS.out.drewN _⟩

theorem wa17_E_snn (c : Int) (m : Int) (w : World) (g1 : 64 ≤ c) (g2 : c ≤ 69) (h1 : bitB m 1 = true) (h2 : bitB m 2 = false) : Calls Try.prog 17 #[.agg #[.int .i64 c, .int .i64 m], .bool false] w (Gives (.string (bsOf (waL c true false false))) w) := by
  have HS := hide' ((Stay.refl (fun _ => False) w).alloc (.cells #[.int .i64 c, .int .i64 m] 27))
  have HB := hide' (KBox.new (w := w) ⟨c, m⟩ rfl)
  obtain ⟨c0, c1, _⟩ := HB.out
  unfold bitB at h1 h2
  obtain ⟨r, hr⟩ : ∃ r, r = (⟨#[65, 66, 67, 68, 72, 70]⟩ : ByteArray).extract ((c - 64)).toNat (((c - 64)).toNat + 1) := ⟨_, rfl⟩
  have HL : waL c true false false = [27, 91, [65, 66, 67, 68, 72, 70].getD (c - 64).toNat 0] := by
    unfold waL
    rw [if_neg (by omega), if_neg (by omega), if_neg (by omega), if_neg (by omega), if_pos (by omega)] <;> rfl
  have HE : Hid ((⟨#[27, 91]⟩ : ByteArray) ++ r = bsOf (waL c true false false)) := by
    show _ = _
    rw [HL, hr]
    exact s_mvn c (by omega) (by omega)
  clear HL
  have H0 := hide' (in_f c 1 52 (by omega))
  have H1 := hide' (in_f c 1 52 (by omega))
  have H2 := hide' (in_t c 64 69 (by omega))
  have H3 := hide' (sign_at (⟨#[65, 66, 67, 68, 72, 70]⟩ : ByteArray) (c - 64) (by omega) (by simp [ByteArray.size]; omega) (by simp [ByteArray.size]))
  rw [← hr] at H3
  have hz : r.size = 1 := by rw [hr, ByteArray.size_extract]; simp [ByteArray.size]; omega
  clear hr
  go_enter Try.func17, Try.ntmps17
  go_wp2_with fail
  go_quiet (fail)
  go_wp2_with fail
  refine (H0.out _).mono ?_
  rintro e w' ⟨rfl, rfl⟩
  go_wp2_with fail
  refine (H1.out _).mono ?_
  rintro e w' ⟨rfl, rfl⟩
  go_wp2_with fail
  refine (H2.out _).mono ?_
  rintro e w' ⟨rfl, rfl⟩
  go_wp2_with fail
  refine (H3.out _).mono ?_
  rintro e w' ⟨rfl, rfl⟩
  go_wp2
  go_ret
  exact ⟨congrArg (fun s => Ending.returned (Value.string s)) HE.out, HS.out.drewN _⟩

theorem wa17_E_sna (c : Int) (m : Int) (w : World) (g1 : 64 ≤ c) (g2 : c ≤ 69) (h1 : bitB m 1 = true) (h2 : bitB m 2 = false) : Calls Try.prog 17 #[.agg #[.int .i64 c, .int .i64 m], .bool true] w (Gives (.string (bsOf (waL c true false true))) w) := by
  have HS := hide' ((Stay.refl (fun _ => False) w).alloc (.cells #[.int .i64 c, .int .i64 m] 27))
  have HB := hide' (KBox.new (w := w) ⟨c, m⟩ rfl)
  obtain ⟨c0, c1, _⟩ := HB.out
  unfold bitB at h1 h2
  obtain ⟨r, hr⟩ : ∃ r, r = (⟨#[65, 66, 67, 68, 72, 70]⟩ : ByteArray).extract ((c - 64)).toNat (((c - 64)).toNat + 1) := ⟨_, rfl⟩
  have HL : waL c true false true = [27, 79, [65, 66, 67, 68, 72, 70].getD (c - 64).toNat 0] := by
    unfold waL
    rw [if_neg (by omega), if_neg (by omega), if_neg (by omega), if_neg (by omega), if_pos (by omega)] <;> rfl
  have HE : Hid ((⟨#[27, 79]⟩ : ByteArray) ++ r = bsOf (waL c true false true)) := by
    show _ = _
    rw [HL, hr]
    exact s_mva c (by omega) (by omega)
  clear HL
  have H0 := hide' (in_f c 1 52 (by omega))
  have H1 := hide' (in_f c 1 52 (by omega))
  have H2 := hide' (in_t c 64 69 (by omega))
  have H3 := hide' (sign_at (⟨#[65, 66, 67, 68, 72, 70]⟩ : ByteArray) (c - 64) (by omega) (by simp [ByteArray.size]; omega) (by simp [ByteArray.size]))
  rw [← hr] at H3
  have hz : r.size = 1 := by rw [hr, ByteArray.size_extract]; simp [ByteArray.size]; omega
  clear hr
  go_enter Try.func17, Try.ntmps17
  go_wp2_with fail
  go_quiet (fail)
  go_wp2_with fail
  refine (H0.out _).mono ?_
  rintro e w' ⟨rfl, rfl⟩
  go_wp2_with fail
  refine (H1.out _).mono ?_
  rintro e w' ⟨rfl, rfl⟩
  go_wp2_with fail
  refine (H2.out _).mono ?_
  rintro e w' ⟨rfl, rfl⟩
  go_wp2_with fail
  refine (H3.out _).mono ?_
  rintro e w' ⟨rfl, rfl⟩
  go_wp2
  go_ret
  exact ⟨congrArg (fun s => Ending.returned (Value.string s)) HE.out, HS.out.drewN _⟩

theorem wa17_E_scn (c : Int) (m : Int) (w : World) (g1 : 64 ≤ c) (g2 : c ≤ 69) (h1 : bitB m 1 = true) (h2 : bitB m 2 = true) : Calls Try.prog 17 #[.agg #[.int .i64 c, .int .i64 m], .bool false] w (Gives (.string (bsOf (waL c true true false))) w) := by
  have HS := hide' ((Stay.refl (fun _ => False) w).alloc (.cells #[.int .i64 c, .int .i64 m] 27))
  have HB := hide' (KBox.new (w := w) ⟨c, m⟩ rfl)
  obtain ⟨c0, c1, _⟩ := HB.out
  unfold bitB at h1 h2
  obtain ⟨r, hr⟩ : ∃ r, r = (⟨#[65, 66, 67, 68, 72, 70]⟩ : ByteArray).extract ((c - 64)).toNat (((c - 64)).toNat + 1) := ⟨_, rfl⟩
  have HL : waL c true true false = [27, 91, [65, 66, 67, 68, 72, 70].getD (c - 64).toNat 0] := by
    unfold waL
    rw [if_neg (by omega), if_neg (by omega), if_neg (by omega), if_neg (by omega), if_pos (by omega)] <;> rfl
  have HE : Hid ((⟨#[27, 91]⟩ : ByteArray) ++ r = bsOf (waL c true true false)) := by
    show _ = _
    rw [HL, hr]
    exact s_mvn c (by omega) (by omega)
  clear HL
  have H0 := hide' (in_f c 1 26 (by omega))
  have H1 := hide' (in_f c 1 52 (by omega))
  have H2 := hide' (in_f c 1 52 (by omega))
  have H3 := hide' (in_t c 64 69 (by omega))
  have H4 := hide' (sign_at (⟨#[65, 66, 67, 68, 72, 70]⟩ : ByteArray) (c - 64) (by omega) (by simp [ByteArray.size]; omega) (by simp [ByteArray.size]))
  rw [← hr] at H4
  have hz : r.size = 1 := by rw [hr, ByteArray.size_extract]; simp [ByteArray.size]; omega
  clear hr
  go_enter Try.func17, Try.ntmps17
  go_wp2_with fail
  go_quiet (fail)
  go_wp2_with fail
  refine (H0.out _).mono ?_
  rintro e w' ⟨rfl, rfl⟩
  go_wp2_with fail
  refine (H1.out _).mono ?_
  rintro e w' ⟨rfl, rfl⟩
  go_wp2_with fail
  refine (H2.out _).mono ?_
  rintro e w' ⟨rfl, rfl⟩
  go_wp2_with fail
  refine (H3.out _).mono ?_
  rintro e w' ⟨rfl, rfl⟩
  go_wp2_with fail
  refine (H4.out _).mono ?_
  rintro e w' ⟨rfl, rfl⟩
  go_wp2
  go_ret
  exact ⟨congrArg (fun s => Ending.returned (Value.string s)) HE.out, HS.out.drewN _⟩

theorem wa17_E_sca (c : Int) (m : Int) (w : World) (g1 : 64 ≤ c) (g2 : c ≤ 69) (h1 : bitB m 1 = true) (h2 : bitB m 2 = true) : Calls Try.prog 17 #[.agg #[.int .i64 c, .int .i64 m], .bool true] w (Gives (.string (bsOf (waL c true true true))) w) := by
  have HS := hide' ((Stay.refl (fun _ => False) w).alloc (.cells #[.int .i64 c, .int .i64 m] 27))
  have HB := hide' (KBox.new (w := w) ⟨c, m⟩ rfl)
  obtain ⟨c0, c1, _⟩ := HB.out
  unfold bitB at h1 h2
  obtain ⟨r, hr⟩ : ∃ r, r = (⟨#[65, 66, 67, 68, 72, 70]⟩ : ByteArray).extract ((c - 64)).toNat (((c - 64)).toNat + 1) := ⟨_, rfl⟩
  have HL : waL c true true true = [27, 79, [65, 66, 67, 68, 72, 70].getD (c - 64).toNat 0] := by
    unfold waL
    rw [if_neg (by omega), if_neg (by omega), if_neg (by omega), if_neg (by omega), if_pos (by omega)] <;> rfl
  have HE : Hid ((⟨#[27, 79]⟩ : ByteArray) ++ r = bsOf (waL c true true true)) := by
    show _ = _
    rw [HL, hr]
    exact s_mva c (by omega) (by omega)
  clear HL
  have H0 := hide' (in_f c 1 26 (by omega))
  have H1 := hide' (in_f c 1 52 (by omega))
  have H2 := hide' (in_f c 1 52 (by omega))
  have H3 := hide' (in_t c 64 69 (by omega))
  have H4 := hide' (sign_at (⟨#[65, 66, 67, 68, 72, 70]⟩ : ByteArray) (c - 64) (by omega) (by simp [ByteArray.size]; omega) (by simp [ByteArray.size]))
  rw [← hr] at H4
  have hz : r.size = 1 := by rw [hr, ByteArray.size_extract]; simp [ByteArray.size]; omega
  clear hr
  go_enter Try.func17, Try.ntmps17
  go_wp2_with fail
  go_quiet (fail)
  go_wp2_with fail
  refine (H0.out _).mono ?_
  rintro e w' ⟨rfl, rfl⟩
  go_wp2_with fail
  refine (H1.out _).mono ?_
  rintro e w' ⟨rfl, rfl⟩
  go_wp2_with fail
  refine (H2.out _).mono ?_
  rintro e w' ⟨rfl, rfl⟩
  go_wp2_with fail
  refine (H3.out _).mono ?_
  rintro e w' ⟨rfl, rfl⟩
  go_wp2_with fail
  refine (H4.out _).mono ?_
  rintro e w' ⟨rfl, rfl⟩
  go_wp2
  go_ret
  exact ⟨congrArg (fun s => Ending.returned (Value.string s)) HE.out, HS.out.drewN _⟩

end Go.Proofs.Ytjficpcfdpbegaa
