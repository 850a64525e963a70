/-
  The bytes of a key but Alt: keys of some classes, walked. Conditions: the class.
-/
import Derived.Test.YtjficpcfdpbegaaD1
namespace Go.Proofs.Ytjficpcfdpbegaa
open Go.RowKit

theorem wa17_H0_nnn (c : Int) (m : Int) (w : World) (g2 : c ≤ 0) (h1 : bitB m 1 = false) (h2 : bitB m 2 = false) : Calls Try.prog 17 #[.agg #[.int .i64 c, .int .i64 m], .bool false] w (Gives (.string (bsOf (waL c false false false))) w) := by
  have HS := hide' ((Stay.refl (fun _ => False) w).alloc (.cells #[.int .i64 c, .int .i64 m] 27))
  have HB := hide' (KBox.new (w := w) ⟨c, m⟩ rfl)
  obtain ⟨c0, c1, _⟩ := HB.out
  unfold bitB at h1 h2
  have HL : waL c false false false = [] := by
    unfold waL
    rw [if_neg (by omega), if_neg (by omega), if_neg (by omega), if_neg (by omega), if_neg (by omega), if_neg (by omega), if_neg (by omega)]
  have HE : Hid ((⟨#[]⟩ : ByteArray) = bsOf (waL c false false false)) := by
    show _ = _
    rw [HL]
    exact by decide
  clear HL
  have H0 := hide' (in_f c 1 52 (by omega))
  have H1 := hide' (in_f c 64 69 (by omega))
  have H2 := hide' (in_f c 70 73 (by omega))
  have H3 := hide' (in_f c 80 83 (by omega))
  go_enter Try.func17, Try.ntmps17
  go_wp2_with fail
  go_quiet (fail)
  go_wp2_with fail
  refine (H0.out _).mono ?_
  rintro e w' ⟨rfl, rfl⟩
  go_wp2_with fail
  refine (H1.out _).mono ?_
  rintro e w' ⟨rfl, rfl⟩
  go_wp2_with fail
  refine (H2.out _).mono ?_
  rintro e w' ⟨rfl, rfl⟩
  go_wp2_with fail
  refine (H3.out _).mono ?_
  rintro e w' ⟨rfl, rfl⟩
  go_wp2
  go_ret
  exact ⟨congrArg (fun s => Ending.returned (Value.string s)) HE.out, HS.out.drewN _⟩

theorem wa17_H0_nna (c : Int) (m : Int) (w : World) (g2 : c ≤ 0) (h1 : bitB m 1 = false) (h2 : bitB m 2 = false) : Calls Try.prog 17 #[.agg #[.int .i64 c, .int .i64 m], .bool true] w (Gives (.string (bsOf (waL c false false true))) w) := by
  have HS := hide' ((Stay.refl (fun _ => False) w).alloc (.cells #[.int .i64 c, .int .i64 m] 27))
  have HB := hide' (KBox.new (w := w) ⟨c, m⟩ rfl)
  obtain ⟨c0, c1, _⟩ := HB.out
  unfold bitB at h1 h2
  have HL : waL c false false true = [] := by
    unfold waL
    rw [if_neg (by omega), if_neg (by omega), if_neg (by omega), if_neg (by omega), if_neg (by omega), if_neg (by omega), if_neg (by omega)]
  have HE : Hid ((⟨#[]⟩ : ByteArray) = bsOf (waL c false false true)) := by
    show _ = _
    rw [HL]
    exact by decide
  clear HL
  have H0 := hide' (in_f c 1 52 (by omega))
  have H1 := hide' (in_f c 64 69 (by omega))
  have H2 := hide' (in_f c 64 69 (by omega))
  have H3 := hide' (in_f c 70 73 (by omega))
  have H4 := hide' (in_f c 80 83 (by omega))
  go_enter Try.func17, Try.ntmps17
  go_wp2_with fail
  go_quiet (fail)
  go_wp2_with fail
  refine (H0.out _).mono ?_
  rintro e w' ⟨rfl, rfl⟩
  go_wp2_with fail
  refine (H1.out _).mono ?_
  rintro e w' ⟨rfl, rfl⟩
  go_wp2_with fail
  refine (H2.out _).mono ?_
  rintro e w' ⟨rfl, rfl⟩
  go_wp2_with fail
  refine (H3.out _).mono ?_
  rintro e w' ⟨rfl, rfl⟩
  go_wp2_with fail
  refine (H4.out _).mono ?_
  rintro e w' ⟨rfl, rfl⟩
  go_wp2
  go_ret
  exact ⟨congrArg (fun s => Ending.returned (Value.string s)) HE.out, HS.out.drewN _⟩

theorem wa17_H0_ncn (c : Int) (m : Int) (w : World) (g2 : c ≤ 0) (h1 : bitB m 1 = false) (h2 : bitB m 2 = true) : Calls Try.prog 17 #[.agg #[.int .i64 c, .int .i64 m], .bool false] w (Gives (.string (bsOf (waL c false true false))) w) := by
  have HS := hide' ((Stay.refl (fun _ => False) w).alloc (.cells #[.int .i64 c, .int .i64 m] 27))
  have HB := hide' (KBox.new (w := w) ⟨c, m⟩ rfl)
  obtain ⟨c0, c1, _⟩ := HB.out
  unfold bitB at h1 h2
  have HL : waL c false true false = [] := by
    unfold waL
    rw [if_neg (by omega), if_neg (by omega), if_neg (by omega), if_neg (by omega), if_neg (by omega), if_neg (by omega), if_neg (by omega)]
  have HE : Hid ((⟨#[]⟩ : ByteArray) = bsOf (waL c false true false)) := by
    show _ = _
    rw [HL]
    exact by decide
  clear HL
  have H0 := hide' (in_f c 1 26 (by omega))
  have H1 := hide' (in_f c 1 52 (by omega))
  have H2 := hide' (in_f c 64 69 (by omega))
  have H3 := hide' (in_f c 70 73 (by omega))
  have H4 := hide' (in_f c 80 83 (by omega))
  go_enter Try.func17, Try.ntmps17
  go_wp2_with fail
  go_quiet (fail)
  go_wp2_with fail
  refine (H0.out _).mono ?_
  rintro e w' ⟨rfl, rfl⟩
  go_wp2_with fail
  refine (H1.out _).mono ?_
  rintro e w' ⟨rfl, rfl⟩
  go_wp2_with fail
  refine (H2.out _).mono ?_
  rintro e w' ⟨rfl, rfl⟩
  go_wp2_with fail
  refine (H3.out _).mono ?_
  rintro e w' ⟨rfl, rfl⟩
  go_wp2_with fail
  refine (H4.out _).mono ?_
  rintro e w' ⟨rfl, rfl⟩
  go_wp2
  go_ret
  exact ⟨congrArg (fun s => Ending.returned (Value.string s)) HE.out, HS.out.drewN _⟩

theorem wa17_H0_nca (c : Int) (m : Int) (w : World) (g2 : c ≤ 0) (h1 : bitB m 1 = false) (h2 : bitB m 2 = true) : Calls Try.prog 17 #[.agg #[.int .i64 c, .int .i64 m], .bool true] w (Gives (.string (bsOf (waL c false true true))) w) := by
  have HS := hide' ((Stay.refl (fun _ => False) w).alloc (.cells #[.int .i64 c, .int .i64 m] 27))
  have HB := hide' (KBox.new (w := w) ⟨c, m⟩ rfl)
  obtain ⟨c0, c1, _⟩ := HB.out
  unfold bitB at h1 h2
  have HL : waL c false true true = [] := by
    unfold waL
    rw [if_neg (by omega), if_neg (by omega), if_neg (by omega), if_neg (by omega), if_neg (by omega), if_neg (by omega), if_neg (by omega)]
  have HE : Hid ((⟨#[]⟩ : ByteArray) = bsOf (waL c false true true)) := by
    show _ = _
    rw [HL]
    exact by decide
  clear HL
  have H0 := hide' (in_f c 1 26 (by omega))
  have H1 := hide' (in_f c 1 52 (by omega))
  have H2 := hide' (in_f c 64 69 (by omega))
  have H3 := hide' (in_f c 64 69 (by omega))
  have H4 := hide' (in_f c 70 73 (by omega))
  have H5 := hide' (in_f c 80 83 (by omega))
  go_enter Try.func17, Try.ntmps17
  go_wp2_with fail
  go_quiet (fail)
  go_wp2_with fail
  refine (H0.out _).mono ?_
  rintro e w' ⟨rfl, rfl⟩
  go_wp2_with fail
  refine (H1.out _).mono ?_
  rintro e w' ⟨rfl, rfl⟩
  go_wp2_with fail
  refine (H2.out _).mono ?_
  rintro e w' ⟨rfl, rfl⟩
  go_wp2_with fail
  refine (H3.out _).mono ?_
  rintro e w' ⟨rfl, rfl⟩
  go_wp2_with fail
  refine (H4.out _).mono ?_
  rintro e w' ⟨rfl, rfl⟩
  go_wp2_with fail
  refine (H5.out _).mono ?_
  rintro e w' ⟨rfl, rfl⟩
  go_wp2
  go_ret
  exact ⟨congrArg (fun s => Ending.returned (Value.string s)) HE.out, HS.out.drewN _⟩

theorem wa17_H0_snn (c : Int) (m : Int) (w : World) (g2 : c ≤ 0) (h1 : bitB m 1 = true) (h2 : bitB m 2 = false) : Calls Try.prog 17 #[.agg #[.int .i64 c, .int .i64 m], .bool false] w (Gives (.string (bsOf (waL c true false false))) w) := by
  have HS := hide' ((Stay.refl (fun _ => False) w).alloc (.cells #[.int .i64 c, .int .i64 m] 27))
  have HB := hide' (KBox.new (w := w) ⟨c, m⟩ rfl)
  obtain ⟨c0, c1, _⟩ := HB.out
  unfold bitB at h1 h2
  have HL : waL c true false false = [] := by
    unfold waL
    rw [if_neg (by omega), if_neg (by omega), if_neg (by omega), if_neg (by omega), if_neg (by omega), if_neg (by omega), if_neg (by omega)]
  have HE : Hid ((⟨#[]⟩ : ByteArray) = bsOf (waL c true false false)) := by
    show _ = _
    rw [HL]
    exact by decide
  clear HL
  have H0 := hide' (in_f c 1 52 (by omega))
  have H1 := hide' (in_f c 1 52 (by omega))
  have H2 := hide' (in_f c 64 69 (by omega))
  have H3 := hide' (in_f c 70 73 (by omega))
  have H4 := hide' (in_f c 80 83 (by omega))
  go_enter Try.func17, Try.ntmps17
  go_wp2_with fail
  go_quiet (fail)
  go_wp2_with fail
  refine (H0.out _).mono ?_
  rintro e w' ⟨rfl, rfl⟩
  go_wp2_with fail
  refine (H1.out _).mono ?_
  rintro e w' ⟨rfl, rfl⟩
  go_wp2_with fail
  refine (H2.out _).mono ?_
  rintro e w' ⟨rfl, rfl⟩
  go_wp2_with fail
  refine (H3.out _).mono ?_
  rintro e w' ⟨rfl, rfl⟩
  go_wp2_with fail
  refine (H4.out _).mono ?_
  rintro e w' ⟨rfl, rfl⟩
  go_wp2
  go_ret
  exact ⟨congrArg (fun s => Ending.returned (Value.string s)) HE.out, HS.out.drewN _⟩

theorem wa17_H0_sna (c : Int) (m : Int) (w : World) (g2 : c ≤ 0) (h1 : bitB m 1 = true) (h2 : bitB m 2 = false) : Calls Try.prog 17 #[.agg #[.int .i64 c, .int .i64 m], .bool true] w (Gives (.string (bsOf (waL c true false true))) w) := by
  have HS := hide' ((Stay.refl (fun _ => False) w).alloc (.cells #[.int .i64 c, .int .i64 m] 27))
  have HB := hide' (KBox.new (w := w) ⟨c, m⟩ rfl)
  obtain ⟨c0, c1, _⟩ := HB.out
  unfold bitB at h1 h2
  have HL : waL c true false true = [] := by
    unfold waL
    rw [if_neg (by omega), if_neg (by omega), if_neg (by omega), if_neg (by omega), if_neg (by omega), if_neg (by omega), if_neg (by omega)]
  have HE : Hid ((⟨#[]⟩ : ByteArray) = bsOf (waL c true false true)) := by
    show _ = _
    rw [HL]
    exact by decide
  clear HL
  have H0 := hide' (in_f c 1 52 (by omega))
  have H1 := hide' (in_f c 1 52 (by omega))
  have H2 := hide' (in_f c 64 69 (by omega))
  have H3 := hide' (in_f c 64 69 (by omega))
  have H4 := hide' (in_f c 70 73 (by omega))
  have H5 := hide' (in_f c 80 83 (by omega))
  go_enter Try.func17, Try.ntmps17
  go_wp2_with fail
  go_quiet (fail)
  go_wp2_with fail
  refine (H0.out _).mono ?_
  rintro e w' ⟨rfl, rfl⟩
  go_wp2_with fail
  refine (H1.out _).mono ?_
  rintro e w' ⟨rfl, rfl⟩
  go_wp2_with fail
  refine (H2.out _).mono ?_
  rintro e w' ⟨rfl, rfl⟩
  go_wp2_with fail
  refine (H3.out _).mono ?_
  rintro e w' ⟨rfl, rfl⟩
  go_wp2_with fail
  refine (H4.out _).mono ?_
  rintro e w' ⟨rfl, rfl⟩
  go_wp2_with fail
  refine (H5.out _).mono ?_
  rintro e w' ⟨rfl, rfl⟩
  go_wp2
  go_ret
  exact ⟨congrArg (fun s => Ending.returned (Value.string s)) HE.out, HS.out.drewN _⟩

theorem wa17_H0_scn (c : Int) (m : Int) (w : World) (g2 : c ≤ 0) (h1 : bitB m 1 = true) (h2 : bitB m 2 = true) : Calls Try.prog 17 #[.agg #[.int .i64 c, .int .i64 m], .bool false] w (Gives (.string (bsOf (waL c true true false))) w) := by
  have HS := hide' ((Stay.refl (fun _ => False) w).alloc (.cells #[.int .i64 c, .int .i64 m] 27))
  have HB := hide' (KBox.new (w := w) ⟨c, m⟩ rfl)
  obtain ⟨c0, c1, _⟩ := HB.out
  unfold bitB at h1 h2
  have HL : waL c true true false = [] := by
    unfold waL
    rw [if_neg (by omega), if_neg (by omega), if_neg (by omega), if_neg (by omega), if_neg (by omega), if_neg (by omega), if_neg (by omega)]
  have HE : Hid ((⟨#[]⟩ : ByteArray) = bsOf (waL c true true false)) := by
    show _ = _
    rw [HL]
    exact by decide
  clear HL
  have H0 := hide' (in_f c 1 26 (by omega))
  have H1 := hide' (in_f c 1 52 (by omega))
  have H2 := hide' (in_f c 1 52 (by omega))
  have H3 := hide' (in_f c 64 69 (by omega))
  have H4 := hide' (in_f c 70 73 (by omega))
  have H5 := hide' (in_f c 80 83 (by omega))
  go_enter Try.func17, Try.ntmps17
  go_wp2_with fail
  go_quiet (fail)
  go_wp2_with fail
  refine (H0.out _).mono ?_
  rintro e w' ⟨rfl, rfl⟩
  go_wp2_with fail
  refine (H1.out _).mono ?_
  rintro e w' ⟨rfl, rfl⟩
  go_wp2_with fail
  refine (H2.out _).mono ?_
  rintro e w' ⟨rfl, rfl⟩
  go_wp2_with fail
  refine (H3.out _).mono ?_
  rintro e w' ⟨rfl, rfl⟩
  go_wp2_with fail
  refine (H4.out _).mono ?_
  rintro e w' ⟨rfl, rfl⟩
  go_wp2_with fail
  refine (H5.out _).mono ?_
  rintro e w' ⟨rfl, rfl⟩
  go_wp2
  go_ret
  exact ⟨congrArg (fun s => Ending.returned (Value.string s)) HE.out, HS.out.drewN _⟩

theorem wa17_H0_sca (c : Int) (m : Int) (w : World) (g2 : c ≤ 0) (h1 : bitB m 1 = true) (h2 : bitB m 2 = true) : Calls Try.prog 17 #[.agg #[.int .i64 c, .int .i64 m], .bool true] w (Gives (.string (bsOf (waL c true true true))) w) := by
  have HS := hide' ((Stay.refl (fun _ => False) w).alloc (.cells #[.int .i64 c, .int .i64 m] 27))
  have HB := hide' (KBox.new (w := w) ⟨c, m⟩ rfl)
  obtain ⟨c0, c1, _⟩ := HB.out
  unfold bitB at h1 h2
  have HL : waL c true true true = [] := by
    unfold waL
    rw [if_neg (by omega), if_neg (by omega), if_neg (by omega), if_neg (by omega), if_neg (by omega), if_neg (by omega), if_neg (by omega)]
  have HE : Hid ((⟨#[]⟩ : ByteArray) = bsOf (waL c true true true)) := by
    show _ = _
    rw [HL]
    exact by decide
  clear HL
  have H0 := hide' (in_f c 1 26 (by omega))
  have H1 := hide' (in_f c 1 52 (by omega))
  have H2 := hide' (in_f c 1 52 (by omega))
  have H3 := hide' (in_f c 64 69 (by omega))
  have H4 := hide' (in_f c 64 69 (by omega))
  have H5 := hide' (in_f c 70 73 (by omega))
  have H6 := hide' (in_f c 80 83 (by omega))
  go_enter Try.func17, Try.ntmps17
  go_wp2_with fail
  go_quiet (fail)
  go_wp2_with fail
  refine (H0.out _).mono ?_
  rintro e w' ⟨rfl, rfl⟩
  go_wp2_with fail
  refine (H1.out _).mono ?_
  rintro e w' ⟨rfl, rfl⟩
  go_wp2_with fail
  refine (H2.out _).mono ?_
  rintro e w' ⟨rfl, rfl⟩
  go_wp2_with fail
  refine (H3.out _).mono ?_
  rintro e w' ⟨rfl, rfl⟩
  go_wp2_with fail
  refine (H4.out _).mono ?_
  rintro e w' ⟨rfl, rfl⟩
  go_wp2_with fail
  refine (H5.out _).mono ?_
  rintro e w' ⟨rfl, rfl⟩
  go_wp2_with fail
  refine (H6.out _).mono ?_
  rintro e w' ⟨rfl, rfl⟩
  go_wp2
  go_ret
  exact ⟨congrArg (fun s => Ending.returned (Value.string s)) HE.out, HS.out.drewN _⟩

theorem wa17_H1_nnn (c : Int) (m : Int) (w : World) (g1 : 53 ≤ c) (g2 : c ≤ 63) (h1 : bitB m 1 = false) (h2 : bitB m 2 = false) : Calls Try.prog 17 #[.agg #[.int .i64 c, .int .i64 m], .bool false] w (Gives (.string (bsOf (waL c false false false))) w) := by
  have HS := hide' ((Stay.refl (fun _ => False) w).alloc (.cells #[.int .i64 c, .int .i64 m] 27))
  have HB := hide' (KBox.new (w := w) ⟨c, m⟩ rfl)
  obtain ⟨c0, c1, _⟩ := HB.out
  unfold bitB at h1 h2
  have HL : waL c false false false = [] := by
    unfold waL
    rw [if_neg (by omega), if_neg (by omega), if_neg (by omega), if_neg (by omega), if_neg (by omega), if_neg (by omega), if_neg (by omega)]
  have HE : Hid ((⟨#[]⟩ : ByteArray) = bsOf (waL c false false false)) := by
    show _ = _
    rw [HL]
    exact by decide
  clear HL
  have H0 := hide' (in_f c 1 52 (by omega))
  have H1 := hide' (in_f c 64 69 (by omega))
  have H2 := hide' (in_f c 70 73 (by omega))
  have H3 := hide' (in_f c 80 83 (by omega))
  go_enter Try.func17, Try.ntmps17
  go_wp2_with fail
  go_quiet (fail)
  go_wp2_with fail
  refine (H0.out _).mono ?_
  rintro e w' ⟨rfl, rfl⟩
  go_wp2_with fail
  refine (H1.out _).mono ?_
  rintro e w' ⟨rfl, rfl⟩
  go_wp2_with fail
  refine (H2.out _).mono ?_
  rintro e w' ⟨rfl, rfl⟩
  go_wp2_with fail
  refine (H3.out _).mono ?_
  rintro e w' ⟨rfl, rfl⟩
  go_wp2
  go_ret
  exact ⟨congrArg (fun s => Ending.returned (Value.string s)) HE.out, HS.out.drewN _⟩

theorem wa17_H1_nna (c : Int) (m : Int) (w : World) (g1 : 53 ≤ c) (g2 : c ≤ 63) (h1 : bitB m 1 = false) (h2 : bitB m 2 = false) : Calls Try.prog 17 #[.agg #[.int .i64 c, .int .i64 m], .bool true] w (Gives (.string (bsOf (waL c false false true))) w) := by
  have HS := hide' ((Stay.refl (fun _ => False) w).alloc (.cells #[.int .i64 c, .int .i64 m] 27))
  have HB := hide' (KBox.new (w := w) ⟨c, m⟩ rfl)
  obtain ⟨c0, c1, _⟩ := HB.out
  unfold bitB at h1 h2
  have HL : waL c false false true = [] := by
    unfold waL
    rw [if_neg (by omega), if_neg (by omega), if_neg (by omega), if_neg (by omega), if_neg (by omega), if_neg (by omega), if_neg (by omega)]
  have HE : Hid ((⟨#[]⟩ : ByteArray) = bsOf (waL c false false true)) := by
    show _ = _
    rw [HL]
    exact by decide
  clear HL
  have H0 := hide' (in_f c 1 52 (by omega))
  have H1 := hide' (in_f c 64 69 (by omega))
  have H2 := hide' (in_f c 64 69 (by omega))
  have H3 := hide' (in_f c 70 73 (by omega))
  have H4 := hide' (in_f c 80 83 (by omega))
  go_enter Try.func17, Try.ntmps17
  go_wp2_with fail
  go_quiet (fail)
  go_wp2_with fail
  refine (H0.out _).mono ?_
  rintro e w' ⟨rfl, rfl⟩
  go_wp2_with fail
  refine (H1.out _).mono ?_
  rintro e w' ⟨rfl, rfl⟩
  go_wp2_with fail
  refine (H2.out _).mono ?_
  rintro e w' ⟨rfl, rfl⟩
  go_wp2_with fail
  refine (H3.out _).mono ?_
  rintro e w' ⟨rfl, rfl⟩
  go_wp2_with fail
  refine (H4.out _).mono ?_
  rintro e w' ⟨rfl, rfl⟩
  go_wp2
  go_ret
  exact ⟨congrArg (fun s => Ending.returned (Value.string s)) HE.out, HS.out.drewN _⟩

theorem wa17_H1_ncn (c : Int) (m : Int) (w : World) (g1 : 53 ≤ c) (g2 : c ≤ 63) (h1 : bitB m 1 = false) (h2 : bitB m 2 = true) : Calls Try.prog 17 #[.agg #[.int .i64 c, .int .i64 m], .bool false] w (Gives (.string (bsOf (waL c false true false))) w) := by
  have HS := hide' ((Stay.refl (fun _ => False) w).alloc (.cells #[.int .i64 c, .int .i64 m] 27))
  have HB := hide' (KBox.new (w := w) ⟨c, m⟩ rfl)
  obtain ⟨c0, c1, _⟩ := HB.out
  unfold bitB at h1 h2
  have HL : waL c false true false = [] := by
    unfold waL
    rw [if_neg (by omega), if_neg (by omega), if_neg (by omega), if_neg (by omega), if_neg (by omega), if_neg (by omega), if_neg (by omega)]
  have HE : Hid ((⟨#[]⟩ : ByteArray) = bsOf (waL c false true false)) := by
    show _ = _
    rw [HL]
    exact by decide
  clear HL
  have H0 := hide' (in_f c 1 26 (by omega))
  have H1 := hide' (in_f c 1 52 (by omega))
  have H2 := hide' (in_f c 64 69 (by omega))
  have H3 := hide' (in_f c 70 73 (by omega))
  have H4 := hide' (in_f c 80 83 (by omega))
  go_enter Try.func17, Try.ntmps17
  go_wp2_with fail
  go_quiet (fail)
  go_wp2_with fail
  refine (H0.out _).mono ?_
  rintro e w' ⟨rfl, rfl⟩
  go_wp2_with fail
  refine (H1.out _).mono ?_
  rintro e w' ⟨rfl, rfl⟩
  go_wp2_with fail
  refine (H2.out _).mono ?_
  rintro e w' ⟨rfl, rfl⟩
  go_wp2_with fail
  refine (H3.out _).mono ?_
  rintro e w' ⟨rfl, rfl⟩
  go_wp2_with fail
  refine (H4.out _).mono ?_
  rintro e w' ⟨rfl, rfl⟩
  go_wp2
  go_ret
  exact ⟨congrArg (fun s => Ending.returned (Value.string s)) HE.out, HS.out.drewN _⟩

theorem wa17_H1_nca (c : Int) (m : Int) (w : World) (g1 : 53 ≤ c) (g2 : c ≤ 63) (h1 : bitB m 1 = false) (h2 : bitB m 2 = true) : Calls Try.prog 17 #[.agg #[.int .i64 c, .int .i64 m], .bool true] w (Gives (.string (bsOf (waL c false true true))) w) := by
  have HS := hide' ((Stay.refl (fun _ => False) w).alloc (.cells #[.int .i64 c, .int .i64 m] 27))
  have HB := hide' (KBox.new (w := w) ⟨c, m⟩ rfl)
  obtain ⟨c0, c1, _⟩ := HB.out
  unfold bitB at h1 h2
  have HL : waL c false true true = [] := by
    unfold waL
    rw [if_neg (by omega), if_neg (by omega), if_neg (by omega), if_neg (by omega), if_neg (by omega), if_neg (by omega), if_neg (by omega)]
  have HE : Hid ((⟨#[]⟩ : ByteArray) = bsOf (waL c false true true)) := by
    show _ = _
    rw [HL]
    exact by decide
  clear HL
  have H0 := hide' (in_f c 1 26 (by omega))
  have H1 := hide' (in_f c 1 52 (by omega))
  have H2 := hide' (in_f c 64 69 (by omega))
  have H3 := hide' (in_f c 64 69 (by omega))
  have H4 := hide' (in_f c 70 73 (by omega))
  have H5 := hide' (in_f c 80 83 (by omega))
  go_enter Try.func17, Try.ntmps17
  go_wp2_with fail
  go_quiet (fail)
  go_wp2_with fail
  refine (H0.out _).mono ?_
  rintro e w' ⟨rfl, rfl⟩
  go_wp2_with fail
  refine (H1.out _).mono ?_
  rintro e w' ⟨rfl, rfl⟩
  go_wp2_with fail
  refine (H2.out _).mono ?_
  rintro e w' ⟨rfl, rfl⟩
  go_wp2_with fail
  refine (H3.out _).mono ?_
  rintro e w' ⟨rfl, rfl⟩
  go_wp2_with fail
  refine (H4.out _).mono ?_
  rintro e w' ⟨rfl, rfl⟩
  go_wp2_with fail
  refine (H5.out _).mono ?_
  rintro e w' ⟨rfl, rfl⟩
  go_wp2
  go_ret
  exact ⟨congrArg (fun s => Ending.returned (Value.string s)) HE.out, HS.out.drewN _⟩

theorem wa17_H1_snn (c : Int) (m : Int) (w : World) (g1 : 53 ≤ c) (g2 : c ≤ 63) (h1 : bitB m 1 = true) (h2 : bitB m 2 = false) : Calls Try.prog 17 #[.agg #[.int .i64 c, .int .i64 m], .bool false] w (Gives (.string (bsOf (waL c true false false))) w) := by
  have HS := hide' ((Stay.refl (fun _ => False) w).alloc (.cells #[.int .i64 c, .int .i64 m] 27))
  have HB := hide' (KBox.new (w := w) ⟨c, m⟩ rfl)
  obtain ⟨c0, c1, _⟩ := HB.out
  unfold bitB at h1 h2
  have HL : waL c true false false = [] := by
    unfold waL
    rw [if_neg (by omega), if_neg (by omega), if_neg (by omega), if_neg (by omega), if_neg (by omega), if_neg (by omega), if_neg (by omega)]
  have HE : Hid ((⟨#[]⟩ : ByteArray) = bsOf (waL c true false false)) := by
    show _ = _
    rw [HL]
    exact by decide
  clear HL
  have H0 := hide' (in_f c 1 52 (by omega))
  have H1 := hide' (in_f c 1 52 (by omega))
  have H2 := hide' (in_f c 64 69 (by omega))
  have H3 := hide' (in_f c 70 73 (by omega))
  have H4 := hide' (in_f c 80 83 (by omega))
  go_enter Try.func17, Try.ntmps17
  go_wp2_with fail
  go_quiet (fail)
  go_wp2_with fail
  refine (H0.out _).mono ?_
  rintro e w' ⟨rfl, rfl⟩
  go_wp2_with fail
  refine (H1.out _).mono ?_
  rintro e w' ⟨rfl, rfl⟩
  go_wp2_with fail
  refine (H2.out _).mono ?_
  rintro e w' ⟨rfl, rfl⟩
  go_wp2_with fail
  refine (H3.out _).mono ?_
  rintro e w' ⟨rfl, rfl⟩
  go_wp2_with fail
  refine (H4.out _).mono ?_
  rintro e w' ⟨rfl, rfl⟩
  go_wp2
  go_ret
  exact ⟨congrArg (fun s => Ending.returned (Value.string s)) HE.out, HS.out.drewN _⟩

theorem wa17_H1_sna (c : Int) (m : Int) (w : World) (g1 : 53 ≤ c) (g2 : c ≤ 63) (h1 : bitB m 1 = true) (h2 : bitB m 2 = false) : Calls Try.prog 17 #[.agg #[.int .i64 c, .int .i64 m], .bool true] w (Gives (.string (bsOf (waL c true false true))) w) := by
  have HS := hide' ((Stay.refl (fun _ => False) w).alloc (.cells #[.int .i64 c, .int .i64 m] 27))
  have HB := hide' (KBox.new (w := w) ⟨c, m⟩ rfl)
  obtain ⟨c0, c1, _⟩ := HB.out
  unfold bitB at h1 h2
  have HL : waL c true false true = [] := by
    unfold waL
    rw [if_neg (by omega), if_neg (by omega), if_neg (by omega), if_neg (by omega), if_neg (by omega), if_neg (by omega), if_neg (by omega)]
  have HE : Hid ((⟨#[]⟩ : ByteArray) = bsOf (waL c true false true)) := by
    show _ = _
    rw [HL]
    exact by decide
  clear HL
  have H0 := hide' (in_f c 1 52 (by omega))
  have H1 := hide' (in_f c 1 52 (by omega))
  have H2 := hide' (in_f c 64 69 (by omega))
  have H3 := hide' (in_f c 64 69 (by omega))
  have H4 := hide' (in_f c 70 73 (by omega))
  have H5 := hide' (in_f c 80 83 (by omega))
  go_enter Try.func17, Try.ntmps17
  go_wp2_with fail
  go_quiet (fail)
  go_wp2_with fail
  refine (H0.out _).mono ?_
  rintro e w' ⟨rfl, rfl⟩
  go_wp2_with fail
  refine (H1.out _).mono ?_
  rintro e w' ⟨rfl, rfl⟩
  go_wp2_with fail
  refine (H2.out _).mono ?_
  rintro e w' ⟨rfl, rfl⟩
  go_wp2_with fail
  refine (H3.out _).mono ?_
  rintro e w' ⟨rfl, rfl⟩
  go_wp2_with fail
  refine (H4.out _).mono ?_
  rintro e w' ⟨rfl, rfl⟩
  go_wp2_with fail
  refine (H5.out _).mono ?_
  rintro e w' ⟨rfl, rfl⟩
  go_wp2
  go_ret
  exact ⟨congrArg (fun s => Ending.returned (Value.string s)) HE.out, HS.out.drewN _⟩

theorem wa17_H1_scn (c : Int) (m : Int) (w : World) (g1 : 53 ≤ c) (g2 : c ≤ 63) (h1 : bitB m 1 = true) (h2 : bitB m 2 = true) : Calls Try.prog 17 #[.agg #[.int .i64 c, .int .i64 m], .bool false] w (Gives (.string (bsOf (waL c true true false))) w) := by
  have HS := hide' ((Stay.refl (fun _ => False) w).alloc (.cells #[.int .i64 c, .int .i64 m] 27))
  have HB := hide' (KBox.new (w := w) ⟨c, m⟩ rfl)
  obtain ⟨c0, c1, _⟩ := HB.out
  unfold bitB at h1 h2
  have HL : waL c true true false = [] := by
    unfold waL
    rw [if_neg (by omega), if_neg (by omega), if_neg (by omega), if_neg (by omega), if_neg (by omega), if_neg (by omega), if_neg (by omega)]
  have HE : Hid ((⟨#[]⟩ : ByteArray) = bsOf (waL c true true false)) := by
    show _ = _
    rw [HL]
    exact by decide
  clear HL
  have H0 := hide' (in_f c 1 26 (by omega))
  have H1 := hide' (in_f c 1 52 (by omega))
  have H2 := hide' (in_f c 1 52 (by omega))
  have H3 := hide' (in_f c 64 69 (by omega))
  have H4 := hide' (in_f c 70 73 (by omega))
  have H5 := hide' (in_f c 80 83 (by omega))
  go_enter Try.func17, Try.ntmps17
  go_wp2_with fail
  go_quiet (fail)
  go_wp2_with fail
  refine (H0.out _).mono ?_
  rintro e w' ⟨rfl, rfl⟩
  go_wp2_with fail
  refine (H1.out _).mono ?_
  rintro e w' ⟨rfl, rfl⟩
  go_wp2_with fail
  refine (H2.out _).mono ?_
  rintro e w' ⟨rfl, rfl⟩
  go_wp2_with fail
  refine (H3.out _).mono ?_
  rintro e w' ⟨rfl, rfl⟩
  go_wp2_with fail
  refine (H4.out _).mono ?_
  rintro e w' ⟨rfl, rfl⟩
  go_wp2_with fail
  refine (H5.out _).mono ?_
  rintro e w' ⟨rfl, rfl⟩
  go_wp2
  go_ret
  exact ⟨congrArg (fun s => Ending.returned (Value.string s)) HE.out, HS.out.drewN _⟩

theorem wa17_H1_sca (c : Int) (m : Int) (w : World) (g1 : 53 ≤ c) (g2 : c ≤ 63) (h1 : bitB m 1 = true) (h2 : bitB m 2 = true) : Calls Try.prog 17 #[.agg #[.int .i64 c, .int .i64 m], .bool true] w (Gives (.string (bsOf (waL c true true true))) w) := by
  have HS := hide' ((Stay.refl (fun _ => False) w).alloc (.cells #[.int .i64 c, .int .i64 m] 27))
  have HB := hide' (KBox.new (w := w) ⟨c, m⟩ rfl)
  obtain ⟨c0, c1, _⟩ := HB.out
  unfold bitB at h1 h2
  have HL : waL c true true true = [] := by
    unfold waL
    rw [if_neg (by omega), if_neg (by omega), if_neg (by omega), if_neg (by omega), if_neg (by omega), if_neg (by omega), if_neg (by omega)]
  have HE : Hid ((⟨#[]⟩ : ByteArray) = bsOf (waL c true true true)) := by
    show _ = _
    rw [HL]
    exact by decide
  clear HL
  have H0 := hide' (in_f c 1 26 (by omega))
  have H1 := hide' (in_f c 1 52 (by omega))
  have H2 := hide' (in_f c 1 52 (by omega))
  have H3 := hide' (in_f c 64 69 (by omega))
  have H4 := hide' (in_f c 64 69 (by omega))
  have H5 := hide' (in_f c 70 73 (by omega))
  have H6 := hide' (in_f c 80 83 (by omega))
  go_enter Try.func17, Try.ntmps17
  go_wp2_with fail
  go_quiet (fail)
  go_wp2_with fail
  refine (H0.out _).mono ?_
  rintro e w' ⟨rfl, rfl⟩
  go_wp2_with fail
  refine (H1.out _).mono ?_
  rintro e w' ⟨rfl, rfl⟩
  go_wp2_with fail
  refine (H2.out _).mono ?_
  rintro e w' ⟨rfl, rfl⟩
  go_wp2_with fail
  refine (H3.out _).mono ?_
  rintro e w' ⟨rfl, rfl⟩
  go_wp2_with fail
  refine (H4.out _).mono ?_
  rintro e w' ⟨rfl, rfl⟩
  go_wp2_with fail
  refine (H5.out _).mono ?_
  rintro e w' ⟨rfl, rfl⟩
  go_wp2_with fail
  refine (H6.out _).mono ?_
  rintro e w' ⟨rfl, rfl⟩
  go_wp2
  go_ret
  exact ⟨congrArg (fun s => Ending.returned (Value.string s)) HE.out, HS.out.drewN _⟩

end Go.Proofs.Ytjficpcfdpbegaa
