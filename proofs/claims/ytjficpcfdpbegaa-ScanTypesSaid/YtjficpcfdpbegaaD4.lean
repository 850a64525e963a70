/-
  The bytes of a key but Alt: keys of some classes, walked. Conditions: the class.
-/
import Derived.Test.YtjficpcfdpbegaaD1
namespace Go.Proofs.Ytjficpcfdpbegaa
open Go.RowKit

theorem wa17_F_nnn (c : Int) (m : Int) (w : World) (g1 : 70 ≤ c) (g2 : c ≤ 73) (h1 : bitB m 1 = false) (h2 : bitB m 2 = false) : Calls Try.prog 17 #[.agg #[.int .i64 c, .int .i64 m], .bool false] w (Gives (.string (bsOf (waL c false false false))) w) := by
  have HS := hide' ((Stay.refl (fun _ => False) w).alloc (.cells #[.int .i64 c, .int .i64 m] 27))
  have HB := hide' (KBox.new (w := w) ⟨c, m⟩ rfl)
  obtain ⟨c0, c1, _⟩ := HB.out
  unfold bitB at h1 h2
  obtain ⟨r, hr⟩ : ∃ r, r = (⟨#[53, 54, 50, 51]⟩ : ByteArray).extract ((c - 70)).toNat (((c - 70)).toNat + 1) := ⟨_, rfl⟩
  have HL : waL c false false false = [27, 91, [53, 54, 50, 51].getD (c - 70).toNat 0, 126] := by
    unfold waL
    rw [if_neg (by omega), if_neg (by omega), if_neg (by omega), if_neg (by omega), if_neg (by omega), if_pos (by omega)] <;> rfl
  have HE : Hid ((⟨#[27, 91]⟩ : ByteArray) ++ r ++ (⟨#[126]⟩ : ByteArray) = bsOf (waL c false false false)) := by
    show _ = _
    rw [HL, hr]
    exact s_ed c (by omega) (by omega)
  clear HL
  have H0 := hide' (in_f c 1 52 (by omega))
  have H1 := hide' (in_f c 64 69 (by omega))
  have H2 := hide' (in_t c 70 73 (by omega))
  have H3 := hide' (sign_at (⟨#[53, 54, 50, 51]⟩ : ByteArray) (c - 70) (by omega) (by simp [ByteArray.size]; omega) (by simp [ByteArray.size]))
  rw [← hr] at H3
  have hz : r.size = 1 := by rw [hr, ByteArray.size_extract]; simp [ByteArray.size]; omega
  clear hr
  go_enter Try.func17, Try.ntmps17
  go_wp2_with fail
  go_quiet (fail)
  go_wp2_with fail
  refine (H0.out _).mono ?_
  rintro e w' ⟨rfl, rfl⟩
  go_wp2_with fail
  refine (H1.out _).mono ?_
  rintro e w' ⟨rfl, rfl⟩
  go_wp2_with fail
  refine (H2.out _).mono ?_
  rintro e w' ⟨rfl, rfl⟩
  go_wp2_with fail
  refine (H3.out _).mono ?_
  rintro e w' ⟨rfl, rfl⟩
  go_wp2
  go_ret
  exact ⟨congrArg (fun s => Ending.returned (Value.string s)) HE.out, HS.out.drewN _⟩

theorem wa17_F_nna (c : Int) (m : Int) (w : World) (g1 : 70 ≤ c) (g2 : c ≤ 73) (h1 : bitB m 1 = false) (h2 : bitB m 2 = false) : Calls Try.prog 17 #[.agg #[.int .i64 c, .int .i64 m], .bool true] w (Gives (.string (bsOf (waL c false false true))) w) := by
  have HS := hide' ((Stay.refl (fun _ => False) w).alloc (.cells #[.int .i64 c, .int .i64 m] 27))
  have HB := hide' (KBox.new (w := w) ⟨c, m⟩ rfl)
  obtain ⟨c0, c1, _⟩ := HB.out
  unfold bitB at h1 h2
  obtain ⟨r, hr⟩ : ∃ r, r = (⟨#[53, 54, 50, 51]⟩ : ByteArray).extract ((c - 70)).toNat (((c - 70)).toNat + 1) := ⟨_, rfl⟩
  have HL : waL c false false true = [27, 91, [53, 54, 50, 51].getD (c - 70).toNat 0, 126] := by
    unfold waL
    rw [if_neg (by omega), if_neg (by omega), if_neg (by omega), if_neg (by omega), if_neg (by omega), if_pos (by omega)] <;> rfl
  have HE : Hid ((⟨#[27, 91]⟩ : ByteArray) ++ r ++ (⟨#[126]⟩ : ByteArray) = bsOf (waL c false false true)) := by
    show _ = _
    rw [HL, hr]
    exact s_ed c (by omega) (by omega)
  clear HL
  have H0 := hide' (in_f c 1 52 (by omega))
  have H1 := hide' (in_f c 64 69 (by omega))
  have H2 := hide' (in_f c 64 69 (by omega))
  have H3 := hide' (in_t c 70 73 (by omega))
  have H4 := hide' (sign_at (⟨#[53, 54, 50, 51]⟩ : ByteArray) (c - 70) (by omega) (by simp [ByteArray.size]; omega) (by simp [ByteArray.size]))
  rw [← hr] at H4
  have hz : r.size = 1 := by rw [hr, ByteArray.size_extract]; simp [ByteArray.size]; omega
  clear hr
  go_enter Try.func17, Try.ntmps17
  go_wp2_with fail
  go_quiet (fail)
  go_wp2_with fail
  refine (H0.out _).mono ?_
  rintro e w' ⟨rfl, rfl⟩
  go_wp2_with fail
  refine (H1.out _).mono ?_
  rintro e w' ⟨rfl, rfl⟩
  go_wp2_with fail
  refine (H2.out _).mono ?_
  rintro e w' ⟨rfl, rfl⟩
  go_wp2_with fail
  refine (H3.out _).mono ?_
  rintro e w' ⟨rfl, rfl⟩
  go_wp2_with fail
  refine (H4.out _).mono ?_
  rintro e w' ⟨rfl, rfl⟩
  go_wp2
  go_ret
  exact ⟨congrArg (fun s => Ending.returned (Value.string s)) HE.out, HS.out.drewN _⟩

theorem wa17_F_ncn (c : Int) (m : Int) (w : World) (g1 : 70 ≤ c) (g2 : c ≤ 73) (h1 : bitB m 1 = false) (h2 : bitB m 2 = true) : Calls Try.prog 17 #[.agg #[.int .i64 c, .int .i64 m], .bool false] w (Gives (.string (bsOf (waL c false true false))) w) := by
  have HS := hide' ((Stay.refl (fun _ => False) w).alloc (.cells #[.int .i64 c, .int .i64 m] 27))
  have HB := hide' (KBox.new (w := w) ⟨c, m⟩ rfl)
  obtain ⟨c0, c1, _⟩ := HB.out
  unfold bitB at h1 h2
  obtain ⟨r, hr⟩ : ∃ r, r = (⟨#[53, 54, 50, 51]⟩ : ByteArray).extract ((c - 70)).toNat (((c - 70)).toNat + 1) := ⟨_, rfl⟩
  have HL : waL c false true false = [27, 91, [53, 54, 50, 51].getD (c - 70).toNat 0, 126] := by
    unfold waL
    rw [if_neg (by omega), if_neg (by omega), if_neg (by omega), if_neg (by omega), if_neg (by omega), if_pos (by omega)] <;> rfl
  have HE : Hid ((⟨#[27, 91]⟩ : ByteArray) ++ r ++ (⟨#[126]⟩ : ByteArray) = bsOf (waL c false true false)) := by
    show _ = _
    rw [HL, hr]
    exact s_ed c (by omega) (by omega)
  clear HL
  have H0 := hide' (in_f c 1 26 (by omega))
  have H1 := hide' (in_f c 1 52 (by omega))
  have H2 := hide' (in_f c 64 69 (by omega))
  have H3 := hide' (in_t c 70 73 (by omega))
  have H4 := hide' (sign_at (⟨#[53, 54, 50, 51]⟩ : ByteArray) (c - 70) (by omega) (by simp [ByteArray.size]; omega) (by simp [ByteArray.size]))
  rw [← hr] at H4
  have hz : r.size = 1 := by rw [hr, ByteArray.size_extract]; simp [ByteArray.size]; omega
  clear hr
  go_enter Try.func17, Try.ntmps17
  go_wp2_with fail
  go_quiet (fail)
  go_wp2_with fail
  refine (H0.out _).mono ?_
  rintro e w' ⟨rfl, rfl⟩
  go_wp2_with fail
  refine (H1.out _).mono ?_
  rintro e w' ⟨rfl, rfl⟩
  go_wp2_with fail
  refine (H2.out _).mono ?_
  rintro e w' ⟨rfl, rfl⟩
  go_wp2_with fail
  refine (H3.out _).mono ?_
  rintro e w' ⟨rfl, rfl⟩
  go_wp2_with fail
  refine (H4.out _).mono ?_
  rintro e w' ⟨rfl, rfl⟩
  go_wp2
  go_ret
  exact ⟨congrArg (fun s => Ending.returned (Value.string s)) HE.out, HS.out.drewN _⟩

theorem wa17_F_nca (c : Int) (m : Int) (w : World) (g1 : 70 ≤ c) (g2 : c ≤ 73) (h1 : bitB m 1 = false) (h2 : bitB m 2 = true) : Calls Try.prog 17 #[.agg #[.int .i64 c, .int .i64 m], .bool true] w (Gives (.string (bsOf (waL c false true true))) w) := by
  have HS := hide' ((Stay.refl (fun _ => False) w).alloc (.cells #[.int .i64 c, .int .i64 m] 27))
  have HB := hide' (KBox.new (w := w) ⟨c, m⟩ rfl)
  obtain ⟨c0, c1, _⟩ := HB.out
  unfold bitB at h1 h2
  obtain ⟨r, hr⟩ : ∃ r, r = (⟨#[53, 54, 50, 51]⟩ : ByteArray).extract ((c - 70)).toNat (((c - 70)).toNat + 1) := ⟨_, rfl⟩
  have HL : waL c false true true = [27, 91, [53, 54, 50, 51].getD (c - 70).toNat 0, 126] := by
    unfold waL
    rw [if_neg (by omega), if_neg (by omega), if_neg (by omega), if_neg (by omega), if_neg (by omega), if_pos (by omega)] <;> rfl
  have HE : Hid ((⟨#[27, 91]⟩ : ByteArray) ++ r ++ (⟨#[126]⟩ : ByteArray) = bsOf (waL c false true true)) := by
    show _ = _
    rw [HL, hr]
    exact s_ed c (by omega) (by omega)
  clear HL
  have H0 := hide' (in_f c 1 26 (by omega))
  have H1 := hide' (in_f c 1 52 (by omega))
  have H2 := hide' (in_f c 64 69 (by omega))
  have H3 := hide' (in_f c 64 69 (by omega))
  have H4 := hide' (in_t c 70 73 (by omega))
  have H5 := hide' (sign_at (⟨#[53, 54, 50, 51]⟩ : ByteArray) (c - 70) (by omega) (by simp [ByteArray.size]; omega) (by simp [ByteArray.size]))
  rw [← hr] at H5
  have hz : r.size = 1 := by rw [hr, ByteArray.size_extract]; simp [ByteArray.size]; omega
  clear hr
  go_enter Try.func17, Try.ntmps17
  go_wp2_with fail
  go_quiet (fail)
  go_wp2_with fail
  refine (H0.out _).mono ?_
  rintro e w' ⟨rfl, rfl⟩
  go_wp2_with fail
  refine (H1.out _).mono ?_
  rintro e w' ⟨rfl, rfl⟩
  go_wp2_with fail
  refine (H2.out _).mono ?_
  rintro e w' ⟨rfl, rfl⟩
  go_wp2_with fail
  refine (H3.out _).mono ?_
  rintro e w' ⟨rfl, rfl⟩
  go_wp2_with fail
  refine (H4.out _).mono ?_
  rintro e w' ⟨rfl, rfl⟩
  go_wp2_with fail
  refine (H5.out _).mono ?_
  rintro e w' ⟨rfl, rfl⟩
  go_wp2
  go_ret
  exact ⟨congrArg (fun s => Ending.returned (Value.string s)) HE.out, HS.out.drewN _⟩

theorem wa17_F_snn (c : Int) (m : Int) (w : World) (g1 : 70 ≤ c) (g2 : c ≤ 73) (h1 : bitB m 1 = true) (h2 : bitB m 2 = false) : Calls Try.prog 17 #[.agg #[.int .i64 c, .int .i64 m], .bool false] w (Gives (.string (bsOf (waL c true false false))) w) := by
  have HS := hide' ((Stay.refl (fun _ => False) w).alloc (.cells #[.int .i64 c, .int .i64 m] 27))
  have HB := hide' (KBox.new (w := w) ⟨c, m⟩ rfl)
  obtain ⟨c0, c1, _⟩ := HB.out
  unfold bitB at h1 h2
  obtain ⟨r, hr⟩ : ∃ r, r = (⟨#[53, 54, 50, 51]⟩ : ByteArray).extract ((c - 70)).toNat (((c - 70)).toNat + 1) := ⟨_, rfl⟩
  have HL : waL c true false false = [27, 91, [53, 54, 50, 51].getD (c - 70).toNat 0, 126] := by
    unfold waL
    rw [if_neg (by omega), if_neg (by omega), if_neg (by omega), if_neg (by omega), if_neg (by omega), if_pos (by omega)] <;> rfl
  have HE : Hid ((⟨#[27, 91]⟩ : ByteArray) ++ r ++ (⟨#[126]⟩ : ByteArray) = bsOf (waL c true false false)) := by
    show _ = _
    rw [HL, hr]
    exact s_ed c (by omega) (by omega)
  clear HL
  have H0 := hide' (in_f c 1 52 (by omega))
  have H1 := hide' (in_f c 1 52 (by omega))
  have H2 := hide' (in_f c 64 69 (by omega))
  have H3 := hide' (in_t c 70 73 (by omega))
  have H4 := hide' (sign_at (⟨#[53, 54, 50, 51]⟩ : ByteArray) (c - 70) (by omega) (by simp [ByteArray.size]; omega) (by simp [ByteArray.size]))
  rw [← hr] at H4
  have hz : r.size = 1 := by rw [hr, ByteArray.size_extract]; simp [ByteArray.size]; omega
  clear hr
  go_enter Try.func17, Try.ntmps17
  go_wp2_with fail
  go_quiet (fail)
  go_wp2_with fail
  refine (H0.out _).mono ?_
  rintro e w' ⟨rfl, rfl⟩
  go_wp2_with fail
  refine (H1.out _).mono ?_
  rintro e w' ⟨rfl, rfl⟩
  go_wp2_with fail
  refine (H2.out _).mono ?_
  rintro e w' ⟨rfl, rfl⟩
  go_wp2_with fail
  refine (H3.out _).mono ?_
  rintro e w' ⟨rfl, rfl⟩
  go_wp2_with fail
  refine (H4.out _).mono ?_
  rintro e w' ⟨rfl, rfl⟩
  go_wp2
  go_ret
  exact ⟨congrArg (fun s => Ending.returned (Value.string s)) HE.out, HS.out.drewN _⟩

theorem wa17_F_sna (c : Int) (m : Int) (w : World) (g1 : 70 ≤ c) (g2 : c ≤ 73) (h1 : bitB m 1 = true) (h2 : bitB m 2 = false) : Calls Try.prog 17 #[.agg #[.int .i64 c, .int .i64 m], .bool true] w (Gives (.string (bsOf (waL c true false true))) w) := by
  have HS := hide' ((Stay.refl (fun _ => False) w).alloc (.cells #[.int .i64 c, .int .i64 m] 27))
  have HB := hide' (KBox.new (w := w) ⟨c, m⟩ rfl)
  obtain ⟨c0, c1, _⟩ := HB.out
  unfold bitB at h1 h2
  obtain ⟨r, hr⟩ : ∃ r, r = (⟨#[53, 54, 50, 51]⟩ : ByteArray).extract ((c - 70)).toNat (((c - 70)).toNat + 1) := ⟨_, rfl⟩
  have HL : waL c true false true = [27, 91, [53, 54, 50, 51].getD (c - 70).toNat 0, 126] := by
    unfold waL
    rw [if_neg (by omega), if_neg (by omega), if_neg (by omega), if_neg (by omega), if_neg (by omega), if_pos (by omega)] <;> rfl
  have HE : Hid ((⟨#[27, 91]⟩ : ByteArray) ++ r ++ (⟨#[126]⟩ : ByteArray) = bsOf (waL c true false true)) := by
    show _ = _
    rw [HL, hr]
    exact s_ed c (by omega) (by omega)
  clear HL
  have H0 := hide' (in_f c 1 52 (by omega))
  have H1 := hide' (in_f c 1 52 (by omega))
  have H2 := hide' (in_f c 64 69 (by omega))
  have H3 := hide' (in_f c 64 69 (by omega))
  have H4 := hide' (in_t c 70 73 (by omega))
  have H5 := hide' (sign_at (⟨#[53, 54, 50, 51]⟩ : ByteArray) (c - 70) (by omega) (by simp [ByteArray.size]; omega) (by simp [ByteArray.size]))
  rw [← hr] at H5
  have hz : r.size = 1 := by rw [hr, ByteArray.size_extract]; simp [ByteArray.size]; omega
  clear hr
  go_enter Try.func17, Try.ntmps17
  go_wp2_with fail
  go_quiet (fail)
  go_wp2_with fail
  refine (H0.out _).mono ?_
  rintro e w' ⟨rfl, rfl⟩
  go_wp2_with fail
  refine (H1.out _).mono ?_
  rintro e w' ⟨rfl, rfl⟩
  go_wp2_with fail
  refine (H2.out _).mono ?_
  rintro e w' ⟨rfl, rfl⟩
  go_wp2_with fail
  refine (H3.out _).mono ?_
  rintro e w' ⟨rfl, rfl⟩
  go_wp2_with fail
  refine (H4.out _).mono ?_
  rintro e w' ⟨rfl, rfl⟩
  go_wp2_with fail
  refine (H5.out _).mono ?_
  rintro e w' ⟨rfl, rfl⟩
  go_wp2
  go_ret
  exact ⟨congrArg (fun s => Ending.returned (Value.string s)) HE.out, HS.out.drewN _⟩

theorem wa17_F_scn (c : Int) (m : Int) (w : World) (g1 : 70 ≤ c) (g2 : c ≤ 73) (h1 : bitB m 1 = true) (h2 : bitB m 2 = true) : Calls Try.prog 17 #[.agg #[.int .i64 c, .int .i64 m], .bool false] w (Gives (.string (bsOf (waL c true true false))) w) := by
  have HS := hide' ((Stay.refl (fun _ => False) w).alloc (.cells #[.int .i64 c, .int .i64 m] 27))
  have HB := hide' (KBox.new (w := w) ⟨c, m⟩ rfl)
  obtain ⟨c0, c1, _⟩ := HB.out
  unfold bitB at h1 h2
  obtain ⟨r, hr⟩ : ∃ r, r = (⟨#[53, 54, 50, 51]⟩ : ByteArray).extract ((c - 70)).toNat (((c - 70)).toNat + 1) := ⟨_, rfl⟩
  have HL : waL c true true false = [27, 91, [53, 54, 50, 51].getD (c - 70).toNat 0, 126] := by
    unfold waL
    rw [if_neg (by omega), if_neg (by omega), if_neg (by omega), if_neg (by omega), if_neg (by omega), if_pos (by omega)] <;> rfl
  have HE : Hid ((⟨#[27, 91]⟩ : ByteArray) ++ r ++ (⟨#[126]⟩ : ByteArray) = bsOf (waL c true true false)) := by
    show _ = _
    rw [HL, hr]
    exact s_ed c (by omega) (by omega)
  clear HL
  have H0 := hide' (in_f c 1 26 (by omega))
  have H1 := hide' (in_f c 1 52 (by omega))
  have H2 := hide' (in_f c 1 52 (by omega))
  have H3 := hide' (in_f c 64 69 (by omega))
  have H4 := hide' (in_t c 70 73 (by omega))
  have H5 := hide' (sign_at (⟨#[53, 54, 50, 51]⟩ : ByteArray) (c - 70) (by omega) (by simp [ByteArray.size]; omega) (by simp [ByteArray.size]))
  rw [← hr] at H5
  have hz : r.size = 1 := by rw [hr, ByteArray.size_extract]; simp [ByteArray.size]; omega
  clear hr
  go_enter Try.func17, Try.ntmps17
  go_wp2_with fail
  go_quiet (fail)
  go_wp2_with fail
  refine (H0.out _).mono ?_
  rintro e w' ⟨rfl, rfl⟩
  go_wp2_with fail
  refine (H1.out _).mono ?_
  rintro e w' ⟨rfl, rfl⟩
  go_wp2_with fail
  refine (H2.out _).mono ?_
  rintro e w' ⟨rfl, rfl⟩
  go_wp2_with fail
  refine (H3.out _).mono ?_
  rintro e w' ⟨rfl, rfl⟩
  go_wp2_with fail
  refine (H4.out _).mono ?_
  rintro e w' ⟨rfl, rfl⟩
  go_wp2_with fail
  refine (H5.out _).mono ?_
  rintro e w' ⟨rfl, rfl⟩
  go_wp2
  go_ret
  exact ⟨congrArg (fun s => Ending.returned (Value.string s)) HE.out, HS.out.drewN _⟩

theorem wa17_F_sca (c : Int) (m : Int) (w : World) (g1 : 70 ≤ c) (g2 : c ≤ 73) (h1 : bitB m 1 = true) (h2 : bitB m 2 = true) : Calls Try.prog 17 #[.agg #[.int .i64 c, .int .i64 m], .bool true] w (Gives (.string (bsOf (waL c true true true))) w) := by
  have HS := hide' ((Stay.refl (fun _ => False) w).alloc (.cells #[.int .i64 c, .int .i64 m] 27))
  have HB := hide' (KBox.new (w := w) ⟨c, m⟩ rfl)
  obtain ⟨c0, c1, _⟩ := HB.out
  unfold bitB at h1 h2
  obtain ⟨r, hr⟩ : ∃ r, r = (⟨#[53, 54, 50, 51]⟩ : ByteArray).extract ((c - 70)).toNat (((c - 70)).toNat + 1) := ⟨_, rfl⟩
  have HL : waL c true true true = [27, 91, [53, 54, 50, 51].getD (c - 70).toNat 0, 126] := by
    unfold waL
    rw [if_neg (by omega), if_neg (by omega), if_neg (by omega), if_neg (by omega), if_neg (by omega), if_pos (by omega)] <;> rfl
  have HE : Hid ((⟨#[27, 91]⟩ : ByteArray) ++ r ++ (⟨#[126]⟩ : ByteArray) = bsOf (waL c true true true)) := by
    show _ = _
    rw [HL, hr]
    exact s_ed c (by omega) (by omega)
  clear HL
  have H0 := hide' (in_f c 1 26 (by omega))
  have H1 := hide' (in_f c 1 52 (by omega))
  have H2 := hide' (in_f c 1 52 (by omega))
  have H3 := hide' (in_f c 64 69 (by omega))
  have H4 := hide' (in_f c 64 69 (by omega))
  have H5 := hide' (in_t c 70 73 (by omega))
  have H6 := hide' (sign_at (⟨#[53, 54, 50, 51]⟩ : ByteArray) (c - 70) (by omega) (by simp [ByteArray.size]; omega) (by simp [ByteArray.size]))
  rw [← hr] at H6
  have hz : r.size = 1 := by rw [hr, ByteArray.size_extract]; simp [ByteArray.size]; omega
  clear hr
  go_enter Try.func17, Try.ntmps17
  go_wp2_with fail
  go_quiet (fail)
  go_wp2_with fail
  refine (H0.out _).mono ?_
  rintro e w' ⟨rfl, rfl⟩
  go_wp2_with fail
  refine (H1.out _).mono ?_
  rintro e w' ⟨rfl, rfl⟩
  go_wp2_with fail
  refine (H2.out _).mono ?_
  rintro e w' ⟨rfl, rfl⟩
  go_wp2_with fail
  refine (H3.out _).mono ?_
  rintro e w' ⟨rfl, rfl⟩
  go_wp2_with fail
  refine (H4.out _).mono ?_
  rintro e w' ⟨rfl, rfl⟩
  go_wp2_with fail
  refine (H5.out _).mono ?_
  rintro e w' ⟨rfl, rfl⟩
  go_wp2_with fail
  refine (H6.out _).mono ?_
  rintro e w' ⟨rfl, rfl⟩
  go_wp2
  go_ret
  exact ⟨congrArg (fun s => Ending.returned (Value.string s)) HE.out, HS.out.drewN _⟩

theorem wa17_G_nnn (c : Int) (m : Int) (w : World) (g1 : 80 ≤ c) (g2 : c ≤ 83) (h1 : bitB m 1 = false) (h2 : bitB m 2 = false) : Calls Try.prog 17 #[.agg #[.int .i64 c, .int .i64 m], .bool false] w (Gives (.string (bsOf (waL c false false false))) w) := by
  have HS := hide' ((Stay.refl (fun _ => False) w).alloc (.cells #[.int .i64 c, .int .i64 m] 27))
  have HB := hide' (KBox.new (w := w) ⟨c, m⟩ rfl)
  obtain ⟨c0, c1, _⟩ := HB.out
  unfold bitB at h1 h2
  obtain ⟨r, hr⟩ : ∃ r, r = (⟨#[80, 81, 82, 83]⟩ : ByteArray).extract ((c - 80)).toNat (((c - 80)).toNat + 1) := ⟨_, rfl⟩
  have HL : waL c false false false = [27, 79, c] := by
    unfold waL
    rw [if_neg (by omega), if_neg (by omega), if_neg (by omega), if_neg (by omega), if_neg (by omega), if_neg (by omega), if_pos (by omega)] <;> rfl
  have HE : Hid ((⟨#[27, 79]⟩ : ByteArray) ++ r = bsOf (waL c false false false)) := by
    show _ = _
    rw [HL, hr]
    exact s_fn c (by omega) (by omega)
  clear HL
  have H0 := hide' (in_f c 1 52 (by omega))
  have H1 := hide' (in_f c 64 69 (by omega))
  have H2 := hide' (in_f c 70 73 (by omega))
  have H3 := hide' (in_t c 80 83 (by omega))
  have H4 := hide' (sign_at (⟨#[80, 81, 82, 83]⟩ : ByteArray) (c - 80) (by omega) (by simp [ByteArray.size]; omega) (by simp [ByteArray.size]))
  rw [← hr] at H4
  have hz : r.size = 1 := by rw [hr, ByteArray.size_extract]; simp [ByteArray.size]; omega
  clear hr
  go_enter Try.func17, Try.ntmps17
  go_wp2_with fail
  go_quiet (fail)
  go_wp2_with fail
  refine (H0.out _).mono ?_
  rintro e w' ⟨rfl, rfl⟩
  go_wp2_with fail
  refine (H1.out _).mono ?_
  rintro e w' ⟨rfl, rfl⟩
  go_wp2_with fail
  refine (H2.out _).mono ?_
  rintro e w' ⟨rfl, rfl⟩
  go_wp2_with fail
  refine (H3.out _).mono ?_
  rintro e w' ⟨rfl, rfl⟩
  go_wp2_with fail
  refine (H4.out _).mono ?_
  rintro e w' ⟨rfl, rfl⟩
  go_wp2
  go_ret
  exact ⟨congrArg (fun s => Ending.returned (Value.string s)) HE.out, HS.out.drewN _⟩

theorem wa17_G_nna (c : Int) (m : Int) (w : World) (g1 : 80 ≤ c) (g2 : c ≤ 83) (h1 : bitB m 1 = false) (h2 : bitB m 2 = false) : Calls Try.prog 17 #[.agg #[.int .i64 c, .int .i64 m], .bool true] w (Gives (.string (bsOf (waL c false false true))) w) := by
  have HS := hide' ((Stay.refl (fun _ => False) w).alloc (.cells #[.int .i64 c, .int .i64 m] 27))
  have HB := hide' (KBox.new (w := w) ⟨c, m⟩ rfl)
  obtain ⟨c0, c1, _⟩ := HB.out
  unfold bitB at h1 h2
  obtain ⟨r, hr⟩ : ∃ r, r = (⟨#[80, 81, 82, 83]⟩ : ByteArray).extract ((c - 80)).toNat (((c - 80)).toNat + 1) := ⟨_, rfl⟩
  have HL : waL c false false true = [27, 79, c] := by
    unfold waL
    rw [if_neg (by omega), if_neg (by omega), if_neg (by omega), if_neg (by omega), if_neg (by omega), if_neg (by omega), if_pos (by omega)] <;> rfl
  have HE : Hid ((⟨#[27, 79]⟩ : ByteArray) ++ r = bsOf (waL c false false true)) := by
    show _ = _
    rw [HL, hr]
    exact s_fn c (by omega) (by omega)
  clear HL
  have H0 := hide' (in_f c 1 52 (by omega))
  have H1 := hide' (in_f c 64 69 (by omega))
  have H2 := hide' (in_f c 64 69 (by omega))
  have H3 := hide' (in_f c 70 73 (by omega))
  have H4 := hide' (in_t c 80 83 (by omega))
  have H5 := hide' (sign_at (⟨#[80, 81, 82, 83]⟩ : ByteArray) (c - 80) (by omega) (by simp [ByteArray.size]; omega) (by simp [ByteArray.size]))
  rw [← hr] at H5
  have hz : r.size = 1 := by rw [hr, ByteArray.size_extract]; simp [ByteArray.size]; omega
  clear hr
  go_enter Try.func17, Try.ntmps17
  go_wp2_with fail
  go_quiet (fail)
  go_wp2_with fail
  refine (H0.out _).mono ?_
  rintro e w' ⟨rfl, rfl⟩
  go_wp2_with fail
  refine (H1.out _).mono ?_
  rintro e w' ⟨rfl, rfl⟩
  go_wp2_with fail
  refine (H2.out _).mono ?_
  rintro e w' ⟨rfl, rfl⟩
  go_wp2_with fail
  refine (H3.out _).mono ?_
  rintro e w' ⟨rfl, rfl⟩
  go_wp2_with fail
  refine (H4.out _).mono ?_
  rintro e w' ⟨rfl, rfl⟩
  go_wp2_with fail
  refine (H5.out _).mono ?_
  rintro e w' ⟨rfl, rfl⟩
  go_wp2
  go_ret
  exact ⟨congrArg (fun s => Ending.returned (Value.string s)) HE.out, HS.out.drewN _⟩

theorem wa17_G_ncn (c : Int) (m : Int) (w : World) (g1 : 80 ≤ c) (g2 : c ≤ 83) (h1 : bitB m 1 = false) (h2 : bitB m 2 = true) : Calls Try.prog 17 #[.agg #[.int .i64 c, .int .i64 m], .bool false] w (Gives (.string (bsOf (waL c false true false))) w) := by
  have HS := hide' ((Stay.refl (fun _ => False) w).alloc (.cells #[.int .i64 c, .int .i64 m] 27))
  have HB := hide' (KBox.new (w := w) ⟨c, m⟩ rfl)
  obtain ⟨c0, c1, _⟩ := HB.out
  unfold bitB at h1 h2
  obtain ⟨r, hr⟩ : ∃ r, r = (⟨#[80, 81, 82, 83]⟩ : ByteArray).extract ((c - 80)).toNat (((c - 80)).toNat + 1) := ⟨_, rfl⟩
  have HL : waL c false true false = [27, 79, c] := by
    unfold waL
    rw [if_neg (by omega), if_neg (by omega), if_neg (by omega), if_neg (by omega), if_neg (by omega), if_neg (by omega), if_pos (by omega)] <;> rfl
  have HE : Hid ((⟨#[27, 79]⟩ : ByteArray) ++ r = bsOf (waL c false true false)) := by
    show _ = _
    rw [HL, hr]
    exact s_fn c (by omega) (by omega)
  clear HL
  have H0 := hide' (in_f c 1 26 (by omega))
  have H1 := hide' (in_f c 1 52 (by omega))
  have H2 := hide' (in_f c 64 69 (by omega))
  have H3 := hide' (in_f c 70 73 (by omega))
  have H4 := hide' (in_t c 80 83 (by omega))
  have H5 := hide' (sign_at (⟨#[80, 81, 82, 83]⟩ : ByteArray) (c - 80) (by omega) (by simp [ByteArray.size]; omega) (by simp [ByteArray.size]))
  rw [← hr] at H5
  have hz : r.size = 1 := by rw [hr, ByteArray.size_extract]; simp [ByteArray.size]; omega
  clear hr
  go_enter Try.func17, Try.ntmps17
  go_wp2_with fail
  go_quiet (fail)
  go_wp2_with fail
  refine (H0.out _).mono ?_
  rintro e w' ⟨rfl, rfl⟩
  go_wp2_with fail
  refine (H1.out _).mono ?_
  rintro e w' ⟨rfl, rfl⟩
  go_wp2_with fail
  refine (H2.out _).mono ?_
  rintro e w' ⟨rfl, rfl⟩
  go_wp2_with fail
  refine (H3.out _).mono ?_
  rintro e w' ⟨rfl, rfl⟩
  go_wp2_with fail
  refine (H4.out _).mono ?_
  rintro e w' ⟨rfl, rfl⟩
  go_wp2_with fail
  refine (H5.out _).mono ?_
  rintro e w' ⟨rfl, rfl⟩
  go_wp2
  go_ret
  exact ⟨congrArg (fun s => Ending.returned (Value.string s)) HE.out, HS.out.drewN _⟩

theorem wa17_G_nca (c : Int) (m : Int) (w : World) (g1 : 80 ≤ c) (g2 : c ≤ 83) (h1 : bitB m 1 = false) (h2 : bitB m 2 = true) : Calls Try.prog 17 #[.agg #[.int .i64 c, .int .i64 m], .bool true] w (Gives (.string (bsOf (waL c false true true))) w) := by
  have HS := hide' ((Stay.refl (fun _ => False) w).alloc (.cells #[.int .i64 c, .int .i64 m] 27))
  have HB := hide' (KBox.new (w := w) ⟨c, m⟩ rfl)
  obtain ⟨c0, c1, _⟩ := HB.out
  unfold bitB at h1 h2
  obtain ⟨r, hr⟩ : ∃ r, r = (⟨#[80, 81, 82, 83]⟩ : ByteArray).extract ((c - 80)).toNat (((c - 80)).toNat + 1) := ⟨_, rfl⟩
  have HL : waL c false true true = [27, 79, c] := by
    unfold waL
    rw [if_neg (by omega), if_neg (by omega), if_neg (by omega), if_neg (by omega), if_neg (by omega), if_neg (by omega), if_pos (by omega)] <;> rfl
  have HE : Hid ((⟨#[27, 79]⟩ : ByteArray) ++ r = bsOf (waL c false true true)) := by
    show _ = _
    rw [HL, hr]
    exact s_fn c (by omega) (by omega)
  clear HL
  have H0 := hide' (in_f c 1 26 (by omega))
  have H1 := hide' (in_f c 1 52 (by omega))
  have H2 := hide' (in_f c 64 69 (by omega))
  have H3 := hide' (in_f c 64 69 (by omega))
  have H4 := hide' (in_f c 70 73 (by omega))
  have H5 := hide' (in_t c 80 83 (by omega))
  have H6 := hide' (sign_at (⟨#[80, 81, 82, 83]⟩ : ByteArray) (c - 80) (by omega) (by simp [ByteArray.size]; omega) (by simp [ByteArray.size]))
  rw [← hr] at H6
  have hz : r.size = 1 := by rw [hr, ByteArray.size_extract]; simp [ByteArray.size]; omega
  clear hr
  go_enter Try.func17, Try.ntmps17
  go_wp2_with fail
  go_quiet (fail)
  go_wp2_with fail
  refine (H0.out _).mono ?_
  rintro e w' ⟨rfl, rfl⟩
  go_wp2_with fail
  refine (H1.out _).mono ?_
  rintro e w' ⟨rfl, rfl⟩
  go_wp2_with fail
  refine (H2.out _).mono ?_
  rintro e w' ⟨rfl, rfl⟩
  go_wp2_with fail
  refine (H3.out _).mono ?_
  rintro e w' ⟨rfl, rfl⟩
  go_wp2_with fail
  refine (H4.out _).mono ?_
  rintro e w' ⟨rfl, rfl⟩
  go_wp2_with fail
  refine (H5.out _).mono ?_
  rintro e w' ⟨rfl, rfl⟩
  go_wp2_with fail
  refine (H6.out _).mono ?_
  rintro e w' ⟨rfl, rfl⟩
  go_wp2
  go_ret
  exact ⟨congrArg (fun s => Ending.returned (Value.string s)) HE.out, HS.out.drewN _⟩

theorem wa17_G_snn (c : Int) (m : Int) (w : World) (g1 : 80 ≤ c) (g2 : c ≤ 83) (h1 : bitB m 1 = true) (h2 : bitB m 2 = false) : Calls Try.prog 17 #[.agg #[.int .i64 c, .int .i64 m], .bool false] w (Gives (.string (bsOf (waL c true false false))) w) := by
  have HS := hide' ((Stay.refl (fun _ => False) w).alloc (.cells #[.int .i64 c, .int .i64 m] 27))
  have HB := hide' (KBox.new (w := w) ⟨c, m⟩ rfl)
  obtain ⟨c0, c1, _⟩ := HB.out
  unfold bitB at h1 h2
  obtain ⟨r, hr⟩ : ∃ r, r = (⟨#[80, 81, 82, 83]⟩ : ByteArray).extract ((c - 80)).toNat (((c - 80)).toNat + 1) := ⟨_, rfl⟩
  have HL : waL c true false false = [27, 79, c] := by
    unfold waL
    rw [if_neg (by omega), if_neg (by omega), if_neg (by omega), if_neg (by omega), if_neg (by omega), if_neg (by omega), if_pos (by omega)] <;> rfl
  have HE : Hid ((⟨#[27, 79]⟩ : ByteArray) ++ r = bsOf (waL c true false false)) := by
    show _ = _
    rw [HL, hr]
    exact s_fn c (by omega) (by omega)
  clear HL
  have H0 := hide' (in_f c 1 52 (by omega))
  have H1 := hide' (in_f c 1 52 (by omega))
  have H2 := hide' (in_f c 64 69 (by omega))
  have H3 := hide' (in_f c 70 73 (by omega))
  have H4 := hide' (in_t c 80 83 (by omega))
  have H5 := hide' (sign_at (⟨#[80, 81, 82, 83]⟩ : ByteArray) (c - 80) (by omega) (by simp [ByteArray.size]; omega) (by simp [ByteArray.size]))
  rw [← hr] at H5
  have hz : r.size = 1 := by rw [hr, ByteArray.size_extract]; simp [ByteArray.size]; omega
  clear hr
  go_enter Try.func17, Try.ntmps17
  go_wp2_with fail
  go_quiet (fail)
  go_wp2_with fail
  refine (H0.out _).mono ?_
  rintro e w' ⟨rfl, rfl⟩
  go_wp2_with fail
  refine (H1.out _).mono ?_
  rintro e w' ⟨rfl, rfl⟩
  go_wp2_with fail
  refine (H2.out _).mono ?_
  rintro e w' ⟨rfl, rfl⟩
  go_wp2_with fail
  refine (H3.out _).mono ?_
  rintro e w' ⟨rfl, rfl⟩
  go_wp2_with fail
  refine (H4.out _).mono ?_
  rintro e w' ⟨rfl, rfl⟩
  go_wp2_with fail
  refine (H5.out _).mono ?_
  rintro e w' ⟨rfl, rfl⟩
  go_wp2
  go_ret
  exact ⟨congrArg (fun s => Ending.returned (Value.string s)) HE.out, HS.out.drewN _⟩

theorem wa17_G_sna (c : Int) (m : Int) (w : World) (g1 : 80 ≤ c) (g2 : c ≤ 83) (h1 : bitB m 1 = true) (h2 : bitB m 2 = false) : Calls Try.prog 17 #[.agg #[.int .i64 c, .int .i64 m], .bool true] w (Gives (.string (bsOf (waL c true false true))) w) := by
  have HS := hide' ((Stay.refl (fun _ => False) w).alloc (.cells #[.int .i64 c, .int .i64 m] 27))
  have HB := hide' (KBox.new (w := w) ⟨c, m⟩ rfl)
  obtain ⟨c0, c1, _⟩ := HB.out
  unfold bitB at h1 h2
  obtain ⟨r, hr⟩ : ∃ r, r = (⟨#[80, 81, 82, 83]⟩ : ByteArray).extract ((c - 80)).toNat (((c - 80)).toNat + 1) := ⟨_, rfl⟩
  have HL : waL c true false true = [27, 79, c] := by
    unfold waL
    rw [if_neg (by omega), if_neg (by omega), if_neg (by omega), if_neg (by omega), if_neg (by omega), if_neg (by omega), if_pos (by omega)] <;> rfl
  have HE : Hid ((⟨#[27, 79]⟩ : ByteArray) ++ r = bsOf (waL c true false true)) := by
    show _ = _
    rw [HL, hr]
    exact s_fn c (by omega) (by omega)
  clear HL
  have H0 := hide' (in_f c 1 52 (by omega))
  have H1 := hide' (in_f c 1 52 (by omega))
  have H2 := hide' (in_f c 64 69 (by omega))
  have H3 := hide' (in_f c 64 69 (by omega))
  have H4 := hide' (in_f c 70 73 (by omega))
  have H5 := hide' (in_t c 80 83 (by omega))
  have H6 := hide' (sign_at (⟨#[80, 81, 82, 83]⟩ : ByteArray) (c - 80) (by omega) (by simp [ByteArray.size]; omega) (by simp [ByteArray.size]))
  rw [← hr] at H6
  have hz : r.size = 1 := by rw [hr, ByteArray.size_extract]; simp [ByteArray.size]; omega
  clear hr
  go_enter Try.func17, Try.ntmps17
  go_wp2_with fail
  go_quiet (fail)
  go_wp2_with fail
  refine (H0.out _).mono ?_
  rintro e w' ⟨rfl, rfl⟩
  go_wp2_with fail
  refine (H1.out _).mono ?_
  rintro e w' ⟨rfl, rfl⟩
  go_wp2_with fail
  refine (H2.out _).mono ?_
  rintro e w' ⟨rfl, rfl⟩
  go_wp2_with fail
  refine (H3.out _).mono ?_
  rintro e w' ⟨rfl, rfl⟩
  go_wp2_with fail
  refine (H4.out _).mono ?_
  rintro e w' ⟨rfl, rfl⟩
  go_wp2_with fail
  refine (H5.out _).mono ?_
  rintro e w' ⟨rfl, rfl⟩
  go_wp2_with fail
  refine (H6.out _).mono ?_
  rintro e w' ⟨rfl, rfl⟩
  go_wp2
  go_ret
  exact ⟨congrArg (fun s => Ending.returned (Value.string s)) HE.out, HS.out.drewN _⟩

theorem wa17_G_scn (c : Int) (m : Int) (w : World) (g1 : 80 ≤ c) (g2 : c ≤ 83) (h1 : bitB m 1 = true) (h2 : bitB m 2 = true) : Calls Try.prog 17 #[.agg #[.int .i64 c, .int .i64 m], .bool false] w (Gives (.string (bsOf (waL c true true false))) w) := by
  have HS := hide' ((Stay.refl (fun _ => False) w).alloc (.cells #[.int .i64 c, .int .i64 m] 27))
  have HB := hide' (KBox.new (w := w) ⟨c, m⟩ rfl)
  obtain ⟨c0, c1, _⟩ := HB.out
  unfold bitB at h1 h2
  obtain ⟨r, hr⟩ : ∃ r, r = (⟨#[80, 81, 82, 83]⟩ : ByteArray).extract ((c - 80)).toNat (((c - 80)).toNat + 1) := ⟨_, rfl⟩
  have HL : waL c true true false = [27, 79, c] := by
    unfold waL
    rw [if_neg (by omega), if_neg (by omega), if_neg (by omega), if_neg (by omega), if_neg (by omega), if_neg (by omega), if_pos (by omega)] <;> rfl
  have HE : Hid ((⟨#[27, 79]⟩ : ByteArray) ++ r = bsOf (waL c true true false)) := by
    show _ = _
    rw [HL, hr]
    exact s_fn c (by omega) (by omega)
  clear HL
  have H0 := hide' (in_f c 1 26 (by omega))
  have H1 := hide' (in_f c 1 52 (by omega))
  have H2 := hide' (in_f c 1 52 (by omega))
  have H3 := hide' (in_f c 64 69 (by omega))
  have H4 := hide' (in_f c 70 73 (by omega))
  have H5 := hide' (in_t c 80 83 (by omega))
  have H6 := hide' (sign_at (⟨#[80, 81, 82, 83]⟩ : ByteArray) (c - 80) (by omega) (by simp [ByteArray.size]; omega) (by simp [ByteArray.size]))
  rw [← hr] at H6
  have hz : r.size = 1 := by rw [hr, ByteArray.size_extract]; simp [ByteArray.size]; omega
  clear hr
  go_enter Try.func17, Try.ntmps17
  go_wp2_with fail
  go_quiet (fail)
  go_wp2_with fail
  refine (H0.out _).mono ?_
  rintro e w' ⟨rfl, rfl⟩
  go_wp2_with fail
  refine (H1.out _).mono ?_
  rintro e w' ⟨rfl, rfl⟩
  go_wp2_with fail
  refine (H2.out _).mono ?_
  rintro e w' ⟨rfl, rfl⟩
  go_wp2_with fail
  refine (H3.out _).mono ?_
  rintro e w' ⟨rfl, rfl⟩
  go_wp2_with fail
  refine (H4.out _).mono ?_
  rintro e w' ⟨rfl, rfl⟩
  go_wp2_with fail
  refine (H5.out _).mono ?_
  rintro e w' ⟨rfl, rfl⟩
  go_wp2_with fail
  refine (H6.out _).mono ?_
  rintro e w' ⟨rfl, rfl⟩
  go_wp2
  go_ret
  exact ⟨congrArg (fun s => Ending.returned (Value.string s)) HE.out, HS.out.drewN _⟩

theorem wa17_G_sca (c : Int) (m : Int) (w : World) (g1 : 80 ≤ c) (g2 : c ≤ 83) (h1 : bitB m 1 = true) (h2 : bitB m 2 = true) : Calls Try.prog 17 #[.agg #[.int .i64 c, .int .i64 m], .bool true] w (Gives (.string (bsOf (waL c true true true))) w) := by
  have HS := hide' ((Stay.refl (fun _ => False) w).alloc (.cells #[.int .i64 c, .int .i64 m] 27))
  have HB := hide' (KBox.new (w := w) ⟨c, m⟩ rfl)
  obtain ⟨c0, c1, _⟩ := HB.out
  unfold bitB at h1 h2
  obtain ⟨r, hr⟩ : ∃ r, r = (⟨#[80, 81, 82, 83]⟩ : ByteArray).extract ((c - 80)).toNat (((c - 80)).toNat + 1) := ⟨_, rfl⟩
  have HL : waL c true true true = [27, 79, c] := by
    unfold waL
    rw [if_neg (by omega), if_neg (by omega), if_neg (by omega), if_neg (by omega), if_neg (by omega), if_neg (by omega), if_pos (by omega)] <;> rfl
  have HE : Hid ((⟨#[27, 79]⟩ : ByteArray) ++ r = bsOf (waL c true true true)) := by
    show _ = _
    rw [HL, hr]
    exact s_fn c (by omega) (by omega)
  clear HL
  have H0 := hide' (in_f c 1 26 (by omega))
  have H1 := hide' (in_f c 1 52 (by omega))
  have H2 := hide' (in_f c 1 52 (by omega))
  have H3 := hide' (in_f c 64 69 (by omega))
  have H4 := hide' (in_f c 64 69 (by omega))
  have H5 := hide' (in_f c 70 73 (by omega))
  have H6 := hide' (in_t c 80 83 (by omega))
  have H7 := hide' (sign_at (⟨#[80, 81, 82, 83]⟩ : ByteArray) (c - 80) (by omega) (by simp [ByteArray.size]; omega) (by simp [ByteArray.size]))
  rw [← hr] at H7
  have hz : r.size = 1 := by rw [hr, ByteArray.size_extract]; simp [ByteArray.size]; omega
  clear hr
  go_enter Try.func17, Try.ntmps17
  go_wp2_with fail
  go_quiet (fail)
  go_wp2_with fail
  refine (H0.out _).mono ?_
  rintro e w' ⟨rfl, rfl⟩
  go_wp2_with fail
  refine (H1.out _).mono ?_
  rintro e w' ⟨rfl, rfl⟩
  go_wp2_with fail
  refine (H2.out _).mono ?_
  rintro e w' ⟨rfl, rfl⟩
  go_wp2_with fail
  refine (H3.out _).mono ?_
  rintro e w' ⟨rfl, rfl⟩
  go_wp2_with fail
  refine (H4.out _).mono ?_
  rintro e w' ⟨rfl, rfl⟩
  go_wp2_with fail
  refine (H5.out _).mono ?_
  rintro e w' ⟨rfl, rfl⟩
  go_wp2_with fail
  refine (H6.out _).mono ?_
  rintro e w' ⟨rfl, rfl⟩
  go_wp2_with fail
  refine (H7.out _).mono ?_
  rintro e w' ⟨rfl, rfl⟩
  go_wp2
  go_ret
  exact ⟨congrArg (fun s => Ending.returned (Value.string s)) HE.out, HS.out.drewN _⟩

end Go.Proofs.Ytjficpcfdpbegaa
