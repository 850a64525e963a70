/-
  The small functions of pen and of the document, walked. No conditions.
-/
import Derived.Test.YtinikpadbocfaaaB0
namespace Go.Proofs.Ytinikpadbocfaaa
open Go.RowKit

theorem keep_cell {W w1 : World} {p : Addr} {v : Value} (hs : Stay (fun _ => False) W w1) (h : W.cell? p = some v) : w1.cell? p = some v := by
  rw [← h]; exact hs.cell (World.block_lt_of_cell? _ _ h) (fun h => h)

theorem keep_frozen {W w1 : World} {p : Addr} {v : Value} {b : Bool} (hs : Stay (fun _ => False) W w1) (h : W.cell? p = some v) (hf : W.frozen? p = b) : w1.frozen? p = b := by
  rw [← hf]; exact hs.frozen (World.block_lt_of_cell? _ _ h) (fun h => h)

theorem ret_bool {a b : Bool} (h : a = b) : Ending.returned (.bool a) = .returned (.bool b) := by rw [h]

theorem ret_int {a b : Int} (h : a = b) : Ending.returned (.int .i64 a) = .returned (.int .i64 b) := by rw [h]

theorem ret_pen {a b : Pn} (h : a = b) : Ending.returned (.agg #[.int .i64 a.fg, .int .i64 a.bg, .int .i64 a.fl]) = .returned (.agg #[.int .i64 b.fg, .int .i64 b.bg, .int .i64 b.fl]) := by rw [h]

/-- A number between two. -/
def inB (n lo hi : Int) : Bool := decide (lo ≤ n) && decide (n ≤ hi)

theorem within20 (n lo hi : Int) (w : World) : Calls Try.prog 20 #[.int .i64 n, .int .i64 lo, .int .i64 hi] w fun e w' => e = .returned (.bool (inB n lo hi)) ∧ w = w' := by
  unfold inB
  by_cases h1 : lo ≤ n
  · have d1 : decide (lo ≤ n) = true := by simpa using h1
    clear h1
    go_enter Try.func20, Try.ntmps20
    go_wp2
    go_ret
    exact ⟨ret_bool (by simp [*]), rfl⟩
  · have d1 : decide (lo ≤ n) = false := by simpa using h1
    clear h1
    go_enter Try.func20, Try.ntmps20
    go_wp2
    go_ret
    exact ⟨ret_bool (by simp [*]), rfl⟩

theorem within20_at (n lo hi : Int) (b : Bool) (h : inB n lo hi = b) (w : World) : Calls Try.prog 20 #[.int .i64 n, .int .i64 lo, .int .i64 hi] w fun e w' => e = .returned (.bool b) ∧ w = w' := by
  rw [← h]; exact within20 n lo hi w

theorem isByte31 (n : Int) (w : World) : Calls Try.prog 31 #[.int .i64 n] w fun e w' => e = .returned (.bool (byteB n)) ∧ w = w' := by
  have H := hide' (within20_at n 0 255 (byteB n) rfl)
  obtain ⟨b, hb⟩ : ∃ b, b = byteB n := ⟨_, rfl⟩
  rw [← hb] at H ⊢
  clear hb
  go_enter Try.func31, Try.ntmps31
  go_wp2_with (go_at_call 20; refine (H.out _).mono ?_; rintro e w' ⟨rfl, rfl⟩)
  go_ret
  exact ⟨rfl, rfl⟩

theorem part24 (n : Int) (w : World) : Calls Try.prog 24 #[.int .i64 n] w fun e w' => e = .returned (.bool (byteB n)) ∧ w = w' := by
  unfold byteB
  by_cases h1 : 0 ≤ n
  · have d1 : decide (0 ≤ n) = true := by simpa using h1
    clear h1
    go_enter Try.func24, Try.ntmps24
    go_wp2
    go_ret
    exact ⟨ret_bool (by simp [*]), rfl⟩
  · have d1 : decide (0 ≤ n) = false := by simpa using h1
    clear h1
    go_enter Try.func24, Try.ntmps24
    go_wp2
    go_ret
    exact ⟨ret_bool (by simp [*]), rfl⟩

theorem rightColour17 (n : Int) (w : World) : Calls Try.prog 17 #[.int .i64 n] w fun e w' => e = .returned (.bool (colB n)) ∧ w = w' := by
  have H := hide' (within20 n 0 256)
  have H2 := hide' (within20 n 16777216 33554431)
  have HE : Hid (colB n = (inB n 0 256 || inB n 16777216 33554431)) := rfl
  obtain ⟨b, hb⟩ : ∃ b, b = inB n 0 256 := ⟨_, rfl⟩
  obtain ⟨b2, hb2⟩ : ∃ b, b = inB n 16777216 33554431 := ⟨_, rfl⟩
  rw [← hb] at H HE
  rw [← hb2] at H2 HE
  clear hb hb2
  cases b
  · go_enter Try.func17, Try.ntmps17
    go_wp2_with fail
    refine (H.out _).mono ?_
    rintro e w' ⟨rfl, rfl⟩
    go_wp2_with fail
    refine (H2.out _).mono ?_
    rintro e w' ⟨rfl, rfl⟩
    go_wp2
    go_ret
    exact ⟨ret_bool (by rw [HE.out]; simp), rfl⟩
  · go_enter Try.func17, Try.ntmps17
    go_wp2_with fail
    refine (H.out _).mono ?_
    rintro e w' ⟨rfl, rfl⟩
    go_wp2
    go_ret
    exact ⟨ret_bool (by rw [HE.out]; simp), rfl⟩

theorem right21 (n : Int) (w : World) : Calls Try.prog 21 #[.int .i64 n] w fun e w' => e = .returned (.bool (colB n)) ∧ w = w' := by
  unfold colB
  by_cases h1 : 0 ≤ n
  · have d1 : decide (0 ≤ n) = true := by simpa using h1
    by_cases h2 : n ≤ 256
    · have d2 : decide (n ≤ 256) = true := by simpa using h2
      clear h1 h2
      go_enter Try.func21, Try.ntmps21
      go_wp2
      go_ret
      exact ⟨ret_bool (by simp [*]), rfl⟩
    · have d2 : decide (n ≤ 256) = false := by simpa using h2
      by_cases h3 : 16777216 ≤ n
      · have d3 : decide (16777216 ≤ n) = true := by simpa using h3
        clear h1 h2 h3
        go_enter Try.func21, Try.ntmps21
        go_wp2
        go_ret
        exact ⟨ret_bool (by simp [*]), rfl⟩
      · have d3 : decide (16777216 ≤ n) = false := by simpa using h3
        clear h1 h2 h3
        go_enter Try.func21, Try.ntmps21
        go_wp2
        go_ret
        exact ⟨ret_bool (by simp [*]), rfl⟩
  · have d1 : decide (0 ≤ n) = false := by simpa using h1
    have d3 : decide (16777216 ≤ n) = false := by simp; omega
    clear h1
    go_enter Try.func21, Try.ntmps21
    go_wp2
    go_ret
    exact ⟨ret_bool (by simp [*]), rfl⟩

theorem set26 (a b : Int) (w : World) : Calls Try.prog 26 #[.int .i64 a, .int .i64 b] w fun e w' => e = .returned (.int .i64 (bits .or .i64 a b)) ∧ w = w' := by
  go_enter Try.func26, Try.ntmps26
  go_wp2
  go_ret
  exact ⟨rfl, rfl⟩

theorem gone27 (a b : Int) (w : World) : Calls Try.prog 27 #[.int .i64 a, .int .i64 b] w fun e w' => e = .returned (.int .i64 (bits .andNot .i64 a b)) ∧ w = w' := by
  go_enter Try.func27, Try.ntmps27
  go_wp2
  go_ret
  exact ⟨rfl, rfl⟩

theorem flag28 (n : Int) (w : World) : Calls Try.prog 28 #[.int .i64 n] w fun e w' => e = .returned (.int .i64 (val n)) ∧ w = w' := by
  by_cases h : 1 ≤ n ∧ n ≤ 9 ∧ n ≠ 6
  · have hn : n = 1 ∨ n = 2 ∨ n = 3 ∨ n = 4 ∨ n = 5 ∨ n = 7 ∨ n = 8 ∨ n = 9 := by omega
    clear h
    rcases hn with rfl | rfl | rfl | rfl | rfl | rfl | rfl | rfl
    · have H := hide' (within20_at 1 1 5 true (by decide))
      go_enter Try.func28, Try.ntmps28
      go_wp2_with fail
      refine (H.out _).mono ?_
      rintro e w' ⟨rfl, rfl⟩
      go_wp2
      go_ret
      exact ⟨ret_int (by decide), rfl⟩
    · have H := hide' (within20_at 2 1 5 true (by decide))
      go_enter Try.func28, Try.ntmps28
      go_wp2_with fail
      refine (H.out _).mono ?_
      rintro e w' ⟨rfl, rfl⟩
      go_wp2
      go_ret
      exact ⟨ret_int (by decide), rfl⟩
    · have H := hide' (within20_at 3 1 5 true (by decide))
      go_enter Try.func28, Try.ntmps28
      go_wp2_with fail
      refine (H.out _).mono ?_
      rintro e w' ⟨rfl, rfl⟩
      go_wp2
      go_ret
      exact ⟨ret_int (by decide), rfl⟩
    · have H := hide' (within20_at 4 1 5 true (by decide))
      go_enter Try.func28, Try.ntmps28
      go_wp2_with fail
      refine (H.out _).mono ?_
      rintro e w' ⟨rfl, rfl⟩
      go_wp2
      go_ret
      exact ⟨ret_int (by decide), rfl⟩
    · have H := hide' (within20_at 5 1 5 true (by decide))
      go_enter Try.func28, Try.ntmps28
      go_wp2_with fail
      refine (H.out _).mono ?_
      rintro e w' ⟨rfl, rfl⟩
      go_wp2
      go_ret
      exact ⟨ret_int (by decide), rfl⟩
    · have H := hide' (within20_at 7 1 5 false (by decide))
      have H2 := hide' (within20_at 7 7 9 true (by decide))
      go_enter Try.func28, Try.ntmps28
      go_wp2_with fail
      refine (H.out _).mono ?_
      rintro e w' ⟨rfl, rfl⟩
      go_wp2_with fail
      refine (H2.out _).mono ?_
      rintro e w' ⟨rfl, rfl⟩
      go_wp2
      go_ret
      exact ⟨ret_int (by decide), rfl⟩
    · have H := hide' (within20_at 8 1 5 false (by decide))
      have H2 := hide' (within20_at 8 7 9 true (by decide))
      go_enter Try.func28, Try.ntmps28
      go_wp2_with fail
      refine (H.out _).mono ?_
      rintro e w' ⟨rfl, rfl⟩
      go_wp2_with fail
      refine (H2.out _).mono ?_
      rintro e w' ⟨rfl, rfl⟩
      go_wp2
      go_ret
      exact ⟨ret_int (by decide), rfl⟩
    · have H := hide' (within20_at 9 1 5 false (by decide))
      have H2 := hide' (within20_at 9 7 9 true (by decide))
      go_enter Try.func28, Try.ntmps28
      go_wp2_with fail
      refine (H.out _).mono ?_
      rintro e w' ⟨rfl, rfl⟩
      go_wp2_with fail
      refine (H2.out _).mono ?_
      rintro e w' ⟨rfl, rfl⟩
      go_wp2
      go_ret
      exact ⟨ret_int (by decide), rfl⟩
  · have H := hide' (within20_at n 1 5 false (by unfold inB; rw [Bool.and_eq_false_iff, decide_eq_false_iff_not, decide_eq_false_iff_not]; omega))
    have H2 := hide' (within20_at n 7 9 false (by unfold inB; rw [Bool.and_eq_false_iff, decide_eq_false_iff_not, decide_eq_false_iff_not]; omega))
    have HV : Hid (val n = 0) := by
      show _ = _
      by_cases h6 : n = 6
      · rw [h6]; decide
      · exact val_off (by omega)
    obtain ⟨v, hv⟩ : ∃ v, v = val n := ⟨_, rfl⟩
    rw [← hv] at HV ⊢
    clear hv h
    go_enter Try.func28, Try.ntmps28
    go_wp2_with fail
    refine (H.out _).mono ?_
    rintro e w' ⟨rfl, rfl⟩
    go_wp2_with fail
    refine (H2.out _).mono ?_
    rintro e w' ⟨rfl, rfl⟩
    go_wp2
    go_ret
    exact ⟨ret_int HV.out.symm, rfl⟩

end Go.Proofs.Ytinikpadbocfaaa
