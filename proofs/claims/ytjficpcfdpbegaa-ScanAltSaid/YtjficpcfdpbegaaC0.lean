/-
  The small functions of scan and of the document, walked. No conditions.
-/
import Derived.Test.YtjficpcfdpbegaaB0
namespace Go.Proofs.Ytjficpcfdpbegaa
open Go.RowKit

/-- A number between two. -/
def inB (n lo hi : Int) : Bool := decide (lo ≤ n) && decide (n ≤ hi)

theorem within19 (n lo hi : Int) (w : World) : Calls Try.prog 19 #[.int .i64 n, .int .i64 lo, .int .i64 hi] w fun e w' => e = .returned (.bool (inB n lo hi)) ∧ w = w' := by
  unfold inB
  by_cases h1 : lo ≤ n
  · have d1 : decide (lo ≤ n) = true := by simpa using h1
    clear h1
    go_enter Try.func19, Try.ntmps19
    go_wp2
    go_ret
    exact ⟨ret_bool (by simp [*]), rfl⟩
  · have d1 : decide (lo ≤ n) = false := by simpa using h1
    clear h1
    go_enter Try.func19, Try.ntmps19
    go_wp2
    go_ret
    exact ⟨ret_bool (by simp [*]), rfl⟩

theorem in_t (n lo hi : Int) (h : lo ≤ n ∧ n ≤ hi) (w : World) : Calls Try.prog 19 #[.int .i64 n, .int .i64 lo, .int .i64 hi] w fun e w' => e = .returned (.bool true) ∧ w = w' := by
  rw [← show inB n lo hi = true by unfold inB; simp; exact h]
  exact within19 n lo hi w

theorem in_f (n lo hi : Int) (h : n < lo ∨ hi < n) (w : World) : Calls Try.prog 19 #[.int .i64 n, .int .i64 lo, .int .i64 hi] w fun e w' => e = .returned (.bool false) ∧ w = w' := by
  rw [← show inB n lo hi = false by unfold inB; simp; omega]
  exact within19 n lo hi w

/-- What a key's code does to the modifiers. -/
def modI (c : Int) : Int := if c = 96 then 1 else if c = 97 then 2 else if c = 98 then 4 else 0

theorem modifier15 (c : Int) (w : World) : Calls Try.prog 15 #[.int .i64 c] w fun e w' => e = .returned (.int .i64 (modI c)) ∧ w = w' := by
  by_cases h1 : c = 96
  · subst h1
    have HM := hide' (show modI 96 = 1 by decide)
    go_enter Try.func15, Try.ntmps15
    go_wp2
    go_ret
    exact ⟨ret_int HM.out.symm, rfl⟩
  by_cases h2 : c = 97
  · subst h2
    have HM := hide' (show modI 97 = 2 by decide)
    go_enter Try.func15, Try.ntmps15
    go_wp2
    go_ret
    exact ⟨ret_int HM.out.symm, rfl⟩
  by_cases h3 : c = 98
  · subst h3
    have HM := hide' (show modI 98 = 4 by decide)
    go_enter Try.func15, Try.ntmps15
    go_wp2
    go_ret
    exact ⟨ret_int HM.out.symm, rfl⟩
  · have HM := hide' (show modI c = 0 by unfold modI; rw [if_neg h1, if_neg h2, if_neg h3])
    have e1 := beq_f h1
    have e2 := beq_f h2
    have e3 := beq_f h3
    clear h1 h2 h3
    go_enter Try.func15, Try.ntmps15
    go_wp2
    go_ret
    exact ⟨ret_int HM.out.symm, rfl⟩

/-- Does a code tell a key? -/
def telB (c : Int) : Bool := inB c 1 52 || inB c 64 73 || inB c 80 83 || (c == 118)

theorem tells16 (c : Int) (w : World) : Calls Try.prog 16 #[.int .i64 c] w fun e w' => e = .returned (.bool (telB c)) ∧ w = w' := by
  have hc : c < 1 ∨ (1 ≤ c ∧ c ≤ 52) ∨ (53 ≤ c ∧ c ≤ 63) ∨ (64 ≤ c ∧ c ≤ 73) ∨ (74 ≤ c ∧ c ≤ 79) ∨ (80 ≤ c ∧ c ≤ 83) ∨ (84 ≤ c ∧ c ≠ 118) ∨ c = 118 := by omega
  rcases hc with g1 | g1 | g1 | g1 | g1 | g1 | g1 | g1
  · have HT : Hid (telB c = false) := by show _ = _; unfold telB inB; simp; omega
    have e1 : (c == 118) = false := beq_f (by omega)
    have H0 := hide' (in_f c 1 52 (by omega))
    have H1 := hide' (in_f c 64 73 (by omega))
    have H2 := hide' (in_f c 80 83 (by omega))
    go_enter Try.func16, Try.ntmps16
    go_wp2_with fail
    refine (H0.out _).mono ?_
    rintro e w' ⟨rfl, rfl⟩
    go_wp2_with fail
    refine (H1.out _).mono ?_
    rintro e w' ⟨rfl, rfl⟩
    go_wp2_with fail
    refine (H2.out _).mono ?_
    rintro e w' ⟨rfl, rfl⟩
    go_wp2
    go_ret
    exact ⟨ret_bool (by first | exact HT.out.symm | (rw [HT.out]; simp; omega)), rfl⟩
  · have HT : Hid (telB c = true) := by show _ = _; unfold telB inB; simp; omega
    have H0 := hide' (in_t c 1 52 (by omega))
    obtain ⟨g1, g2⟩ := g1
    go_enter Try.func16, Try.ntmps16
    go_wp2_with fail
    refine (H0.out _).mono ?_
    rintro e w' ⟨rfl, rfl⟩
    go_wp2
    go_ret
    exact ⟨ret_bool (by first | exact HT.out.symm | (rw [HT.out]; simp; omega)), rfl⟩
  · have HT : Hid (telB c = false) := by show _ = _; unfold telB inB; simp; omega
    have e1 : (c == 118) = false := beq_f (by omega)
    have H0 := hide' (in_f c 1 52 (by omega))
    have H1 := hide' (in_f c 64 73 (by omega))
    have H2 := hide' (in_f c 80 83 (by omega))
    obtain ⟨g1, g2⟩ := g1
    go_enter Try.func16, Try.ntmps16
    go_wp2_with fail
    refine (H0.out _).mono ?_
    rintro e w' ⟨rfl, rfl⟩
    go_wp2_with fail
    refine (H1.out _).mono ?_
    rintro e w' ⟨rfl, rfl⟩
    go_wp2_with fail
    refine (H2.out _).mono ?_
    rintro e w' ⟨rfl, rfl⟩
    go_wp2
    go_ret
    exact ⟨ret_bool (by first | exact HT.out.symm | (rw [HT.out]; simp; omega)), rfl⟩
  · have HT : Hid (telB c = true) := by show _ = _; unfold telB inB; simp; omega
    have H0 := hide' (in_f c 1 52 (by omega))
    have H1 := hide' (in_t c 64 73 (by omega))
    obtain ⟨g1, g2⟩ := g1
    go_enter Try.func16, Try.ntmps16
    go_wp2_with fail
    refine (H0.out _).mono ?_
    rintro e w' ⟨rfl, rfl⟩
    go_wp2_with fail
    refine (H1.out _).mono ?_
    rintro e w' ⟨rfl, rfl⟩
    go_wp2
    go_ret
    exact ⟨ret_bool (by first | exact HT.out.symm | (rw [HT.out]; simp; omega)), rfl⟩
  · have HT : Hid (telB c = false) := by show _ = _; unfold telB inB; simp; omega
    have e1 : (c == 118) = false := beq_f (by omega)
    have H0 := hide' (in_f c 1 52 (by omega))
    have H1 := hide' (in_f c 64 73 (by omega))
    have H2 := hide' (in_f c 80 83 (by omega))
    obtain ⟨g1, g2⟩ := g1
    go_enter Try.func16, Try.ntmps16
    go_wp2_with fail
    refine (H0.out _).mono ?_
    rintro e w' ⟨rfl, rfl⟩
    go_wp2_with fail
    refine (H1.out _).mono ?_
    rintro e w' ⟨rfl, rfl⟩
    go_wp2_with fail
    refine (H2.out _).mono ?_
    rintro e w' ⟨rfl, rfl⟩
    go_wp2
    go_ret
    exact ⟨ret_bool (by first | exact HT.out.symm | (rw [HT.out]; simp; omega)), rfl⟩
  · have HT : Hid (telB c = true) := by show _ = _; unfold telB inB; simp; omega
    have H0 := hide' (in_f c 1 52 (by omega))
    have H1 := hide' (in_f c 64 73 (by omega))
    have H2 := hide' (in_t c 80 83 (by omega))
    obtain ⟨g1, g2⟩ := g1
    go_enter Try.func16, Try.ntmps16
    go_wp2_with fail
    refine (H0.out _).mono ?_
    rintro e w' ⟨rfl, rfl⟩
    go_wp2_with fail
    refine (H1.out _).mono ?_
    rintro e w' ⟨rfl, rfl⟩
    go_wp2_with fail
    refine (H2.out _).mono ?_
    rintro e w' ⟨rfl, rfl⟩
    go_wp2
    go_ret
    exact ⟨ret_bool (by first | exact HT.out.symm | (rw [HT.out]; simp; omega)), rfl⟩
  · have HT : Hid (telB c = false) := by show _ = _; unfold telB inB; simp; omega
    have e1 : (c == 118) = false := beq_f (by omega)
    have H0 := hide' (in_f c 1 52 (by omega))
    have H1 := hide' (in_f c 64 73 (by omega))
    have H2 := hide' (in_f c 80 83 (by omega))
    obtain ⟨g1, g2⟩ := g1
    clear g2
    go_enter Try.func16, Try.ntmps16
    go_wp2_with fail
    refine (H0.out _).mono ?_
    rintro e w' ⟨rfl, rfl⟩
    go_wp2_with fail
    refine (H1.out _).mono ?_
    rintro e w' ⟨rfl, rfl⟩
    go_wp2_with fail
    refine (H2.out _).mono ?_
    rintro e w' ⟨rfl, rfl⟩
    go_wp2
    go_ret
    exact ⟨ret_bool (by first | exact HT.out.symm | (rw [HT.out]; simp; omega)), rfl⟩
  · have HT : Hid (telB c = true) := by show _ = _; unfold telB inB; simp; omega
    subst g1
    have H0 := hide' (in_f 118 1 52 (by omega))
    have H1 := hide' (in_f 118 64 73 (by omega))
    have H2 := hide' (in_f 118 80 83 (by omega))
    go_enter Try.func16, Try.ntmps16
    go_wp2_with fail
    refine (H0.out _).mono ?_
    rintro e w' ⟨rfl, rfl⟩
    go_wp2_with fail
    refine (H1.out _).mono ?_
    rintro e w' ⟨rfl, rfl⟩
    go_wp2_with fail
    refine (H2.out _).mono ?_
    rintro e w' ⟨rfl, rfl⟩
    go_wp2
    go_ret
    exact ⟨ret_bool (by first | exact HT.out.symm | (rw [HT.out]; simp; omega)), rfl⟩

theorem key10 (c : Int) (w : World) : Calls Try.prog 10 #[.int .i64 c] w fun e w' => e = .returned (.bool (telB c)) ∧ w = w' := by
  have hc : c < 1 ∨ (1 ≤ c ∧ c ≤ 52) ∨ (53 ≤ c ∧ c ≤ 63) ∨ (64 ≤ c ∧ c ≤ 73) ∨ (74 ≤ c ∧ c ≤ 79) ∨ (80 ≤ c ∧ c ≤ 83) ∨ (84 ≤ c ∧ c ≠ 118) ∨ c = 118 := by omega
  rcases hc with g1 | g1 | g1 | g1 | g1 | g1 | g1 | g1
  · have HT : Hid (telB c = false) := by show _ = _; unfold telB inB; simp; omega
    have e1 : (c == 118) = false := beq_f (by omega)
    go_enter Try.func10, Try.ntmps10
    go_wp2
    go_ret
    exact ⟨ret_bool (by first | exact HT.out.symm | (rw [HT.out]; simp; omega)), rfl⟩
  · have HT : Hid (telB c = true) := by show _ = _; unfold telB inB; simp; omega
    obtain ⟨g1, g2⟩ := g1
    go_enter Try.func10, Try.ntmps10
    go_wp2
    go_ret
    exact ⟨ret_bool (by first | exact HT.out.symm | (rw [HT.out]; simp; omega)), rfl⟩
  · have HT : Hid (telB c = false) := by show _ = _; unfold telB inB; simp; omega
    have e1 : (c == 118) = false := beq_f (by omega)
    obtain ⟨g1, g2⟩ := g1
    go_enter Try.func10, Try.ntmps10
    go_wp2
    go_ret
    exact ⟨ret_bool (by first | exact HT.out.symm | (rw [HT.out]; simp; omega)), rfl⟩
  · have HT : Hid (telB c = true) := by show _ = _; unfold telB inB; simp; omega
    obtain ⟨g1, g2⟩ := g1
    go_enter Try.func10, Try.ntmps10
    go_wp2
    go_ret
    exact ⟨ret_bool (by first | exact HT.out.symm | (rw [HT.out]; simp; omega)), rfl⟩
  · have HT : Hid (telB c = false) := by show _ = _; unfold telB inB; simp; omega
    have e1 : (c == 118) = false := beq_f (by omega)
    obtain ⟨g1, g2⟩ := g1
    go_enter Try.func10, Try.ntmps10
    go_wp2
    go_ret
    exact ⟨ret_bool (by first | exact HT.out.symm | (rw [HT.out]; simp; omega)), rfl⟩
  · have HT : Hid (telB c = true) := by show _ = _; unfold telB inB; simp; omega
    obtain ⟨g1, g2⟩ := g1
    go_enter Try.func10, Try.ntmps10
    go_wp2
    go_ret
    exact ⟨ret_bool (by first | exact HT.out.symm | (rw [HT.out]; simp; omega)), rfl⟩
  · have HT : Hid (telB c = false) := by show _ = _; unfold telB inB; simp; omega
    have e1 : (c == 118) = false := beq_f (by omega)
    obtain ⟨g1, g2⟩ := g1
    clear g2
    go_enter Try.func10, Try.ntmps10
    go_wp2
    go_ret
    exact ⟨ret_bool (by first | exact HT.out.symm | (rw [HT.out]; simp; omega)), rfl⟩
  · have HT : Hid (telB c = true) := by show _ = _; unfold telB inB; simp; omega
    subst g1
    go_enter Try.func10, Try.ntmps10
    go_wp2
    go_ret
    exact ⟨ret_bool (by first | exact HT.out.symm | (rw [HT.out]; simp; omega)), rfl⟩

/-- Has a number a bit? -/
def bitB (m b : Int) : Bool := bits .and .i64 m b != 0

theorem bit18 (m b : Int) (w : World) : Calls Try.prog 18 #[.int .i64 m, .int .i64 b] w fun e w' => e = .returned (.bool (bitB m b)) ∧ w = w' := by
  unfold bitB
  go_enter Try.func18, Try.ntmps18
  go_wp2
  go_ret
  exact ⟨rfl, rfl⟩

theorem sign20 (s : ByteArray) (i : Nat) (hi : i < s.size) (hs : s.size ≤ 1000) (w : World) : Calls Try.prog 20 #[.string s, .int .i64 (i : Int)] w fun e w' => e = .returned (.string (s.extract i (i + 1))) ∧ w = w' := by
  go_enter Try.func20, Try.ntmps20
  go_wp2
  go_ret
  exact ⟨rfl, rfl⟩

end Go.Proofs.Ytjficpcfdpbegaa
