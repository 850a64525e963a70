/-
  The library's exchange of two stretches, and its turn of two stretches: what the calls do, in whatever world in which the row lies by itself.
-/
import Derived.Test.YtmkkkddadpcmeaaA3
import Derived.Test.YtmkkkddadpcmeaaA5
import Derived.Test.YtmkkkddadpcmeaaC1
namespace Go.Proofs.Ytmkkkddadpcmeaa
open Go.RowKit

set_option maxHeartbeats 1000000 in
set_option maxRecDepth 1000000 in
theorem swaprange_any (fv : Value) (B n a b t cap : Nat) (D : Nat → Nat) (w w0 : World) (hn : n ≤ 64) (hab : a + t ≤ b) (hb : b + t ≤ n) (hSW : SW w w0 B n D) :
    Calls Try.prog 56 #[.slice (some ⟨B, 0, none⟩) n cap, .int .i64 (a : Int), .int .i64 (b : Int), .int .i64 (t : Int), fv] w0 fun e w' =>
      e = .returned (.tuple #[]) ∧ Hid (SW w w' B n (swr D a b t)) := by
  have HS := hide' hSW
  clear hSW
  go_enter Try.func56, Try.ntmps56
  go_wp2
  go_loopg [10] t (fun g vi wr => ∃ i : Nat, vi = .int .i64 (i : Int) ∧ i ≤ t ∧ g = t - i ∧ Hid (SW w wr B n (swr D a b i)))
  case atStart => exact ⟨0, rfl, Nat.zero_le _, rfl, by rw [swr_zero]; exact HS⟩
  case round =>
    obtain ⟨i, rfl, hi, rfl, HW⟩ := hrel
    by_cases hlt : i < t
    · have cj : wr.cell? ⟨B, a + i, none⟩ = some (.int .i64 (swr D a b i (a + i) : Int)) := HW.out.row.cell (by omega)
      have cp : wr.cell? ⟨B, b + i, none⟩ = some (.int .i64 (swr D a b i (b + i) : Int)) := HW.out.row.cell (by omega)
      have fj : wr.frozen? ⟨B, a + i, none⟩ = false := HW.out.row.frozen _
      have fp : wr.frozen? ⟨B, b + i, none⟩ = false := HW.out.row.frozen _
      obtain ⟨x1, hx1⟩ : ∃ x, x = swr D a b i (a + i) := ⟨_, rfl⟩
      obtain ⟨x0, hx0⟩ : ∃ x, x = swr D a b i (b + i) := ⟨_, rfl⟩
      rw [← hx1] at cj
      rw [← hx0] at cp
      obtain ⟨j1, hj1⟩ : ∃ j1, j1 = a + i := ⟨_, rfl⟩
      obtain ⟨j0, hj0⟩ : ∃ j0, j0 = b + i := ⟨_, rfl⟩
      rw [← hj1] at cj fj
      rw [← hj0] at cp fp
      have w1 : IntKind.i64.wrap ((a : Int) + (i : Int)) = (j1 : Int) := by rw [IntKind.wrap_i64]; omega
      have w0' : IntKind.i64.wrap ((b : Int) + (i : Int)) = (j0 : Int) := by rw [IntKind.wrap_i64]; omega
      have s1 : (a : Int) + (i : Int) = (j1 : Int) := by omega
      have s0 : (b : Int) + (i : Int) = (j0 : Int) := by omega
      have z1 : (j1 : Int) < (n : Int) := by omega
      have z0 : (j0 : Int) < (n : Int) := by omega
      have X1 := hide' hx1
      have X0 := hide' hx0
      have J1 := hide' hj1
      have J0 := hide' hj0
      clear hx1 hx0 hj1 hj0
      go_wp2_with fail
      go_region
      all_goals go_wp2
      go_roundg (t - (i + 1))
      case measure => omega
      case rel =>
        refine ⟨i + 1, by go_num, by omega, rfl, ?_⟩
        have hs := HW.out.swap (a + i) (b + i) (by omega)
        rw [swr_succ D a b i (by omega), ← X1.out, ← X0.out, ← J1.out, ← J0.out] at hs
        exact hs.drewN 1
    · have : i = t := by omega
      subst this
      go_wp2
      go_end0
      exact ⟨rfl, HW⟩

/-- In the midst of a turn: what is left to be turned makes the whole. -/
def Turn (D E : Nat → Nat) (a m b i j : Nat) : Prop := rot E (m - i) m (m + j) = rot D a m b

set_option maxHeartbeats 1000000 in
set_option maxRecDepth 1000000 in
theorem rotate_any (fv : Value) (B n a m b cap : Nat) (D : Nat → Nat) (w w0 : World) (hn : n ≤ 64) (ham : a < m) (hmb : m < b) (hb : b ≤ n) (hSW : SW w w0 B n D) :
    Calls Try.prog 53 #[.slice (some ⟨B, 0, none⟩) n cap, .int .i64 (a : Int), .int .i64 (m : Int), .int .i64 (b : Int), fv] w0 fun e w' =>
      e = .returned (.tuple #[]) ∧ Hid (SW w w' B n (rot D a m b)) := by
  have HS := hide' hSW
  have i0 : (m : Int) - (a : Int) = ((m - a : Nat) : Int) := by omega
  have j0 : (b : Int) - (m : Int) = ((b - m : Nat) : Int) := by omega
  have wi0 : IntKind.i64.wrap ((m : Int) - (a : Int)) = ((m - a : Nat) : Int) := by rw [IntKind.wrap_i64]; omega
  have wj0 : IntKind.i64.wrap ((b : Int) - (m : Int)) = ((b - m : Nat) : Int) := by rw [IntKind.wrap_i64]; omega
  have HT : Hid (Turn D D a m b (m - a) (b - m)) := by
    show rot D (m - (m - a)) m (m + (b - m)) = _
    rw [show m - (m - a) = a by omega, show m + (b - m) = b by omega]
  clear hSW
  go_enter Try.func53, Try.ntmps53
  go_wp2
  go_loopg [10, 11] (b - a) (fun g vi vj wr => ∃ (i j : Nat) (E : Nat → Nat), vi = .int .i64 (i : Int) ∧ vj = .int .i64 (j : Int) ∧ 0 < i ∧ 0 < j ∧ i ≤ m - a ∧ j ≤ b - m ∧ i + j ≤ g ∧ Hid (SW w wr B n E) ∧ Hid (Turn D E a m b i j))
  case atStart => exact ⟨m - a, b - m, D, by first | rfl | go_num, by first | rfl | go_num, by omega, by omega, by omega, by omega, by omega, HS, HT⟩
  case round =>
    clear HT i0 j0 wi0 wj0
    obtain ⟨i, j, E, rfl, rfl, hi, hj, him, hjb, hg, HW, HT⟩ := hrel
    have mi : (m : Int) - (i : Int) = ((m - i : Nat) : Int) := by omega
    have wmi : IntKind.i64.wrap ((m : Int) - (i : Int)) = ((m - i : Nat) : Int) := by rw [IntKind.wrap_i64]; omega
    rcases Nat.lt_trichotomy i j with h | h | h
    · -- the left one is the shorter
      have hne : ((i : Int) == (j : Int)) = false := by simp; omega
      have hne2 : ((i : Int) != (j : Int)) = true := by simp; omega
      have hlt : ¬ (j : Int) < (i : Int) := by omega
      have mj : (m : Int) + (j : Int) - (i : Int) = ((m + j - i : Nat) : Int) := by omega
      have wmj : IntKind.i64.wrap ((m : Int) + (j : Int)) = (m : Int) + (j : Int) := by rw [IntKind.wrap_i64]; omega
      have wmj2 : IntKind.i64.wrap ((m : Int) + (j : Int) - (i : Int)) = ((m + j - i : Nat) : Int) := by rw [IntKind.wrap_i64]; omega
      have ji : (j : Int) - (i : Int) = ((j - i : Nat) : Int) := by omega
      have wji : IntKind.i64.wrap ((j : Int) - (i : Int)) = ((j - i : Nat) : Int) := by rw [IntKind.wrap_i64]; omega
      have hsw := swaprange_any fv B n (m - i) (m + j - i) i cap E w wr hn (by omega) (by omega) HW.out
      have HSW := hide' hsw
      clear hsw
      go_wp2_with fail
      refine HSW.out.mono ?_
      rintro e w' ⟨rfl, hE⟩
      go_wp2
      go_roundg (i + (j - i))
      case measure => omega
      case rel =>
        refine ⟨i, j - i, _, rfl, by first | rfl | go_num, hi, by omega, him, by omega, Nat.le_refl _, hE, ?_⟩
        have := rot_lt E (m - i) m (m + j) (by omega) (by omega) (by omega)
        rw [show m - (m - i) = i by omega] at this
        show rot _ (m - i) m (m + (j - i)) = _
        rw [show m + (j - i) = m + j - i by omega, this]
        exact HT.out
    · subst h
      have hsw := swaprange_any fv B n (m - i) m i cap E w wr hn (by omega) (by omega) HW.out
      have HSW := hide' hsw
      clear hsw
      go_wp2_with fail
      refine HSW.out.mono ?_
      rintro e w' ⟨rfl, hE⟩
      go_wp2
      go_end0
      refine ⟨rfl, ?_⟩
      have := rot_eq E (m - i) m (m + i) (by omega) (by omega) (by omega)
      rw [show m - (m - i) = i by omega] at this
      rw [← HT.out, ← this]
      exact hE
    · -- the right one is the shorter
      have hne : ((i : Int) == (j : Int)) = false := by simp; omega
      have hne2 : ((i : Int) != (j : Int)) = true := by simp; omega
      have hlt : (j : Int) < (i : Int) := by omega
      have ji : (i : Int) - (j : Int) = ((i - j : Nat) : Int) := by omega
      have wji : IntKind.i64.wrap ((i : Int) - (j : Int)) = ((i - j : Nat) : Int) := by rw [IntKind.wrap_i64]; omega
      have hsw := swaprange_any fv B n (m - i) m j cap E w wr hn (by omega) (by omega) HW.out
      have HSW := hide' hsw
      clear hsw
      go_wp2_with fail
      refine HSW.out.mono ?_
      rintro e w' ⟨rfl, hE⟩
      go_wp2
      go_roundg (i - j + j)
      case measure => omega
      case rel =>
        refine ⟨i - j, j, _, by first | rfl | go_num, rfl, by omega, hj, by omega, hjb, Nat.le_refl _, hE, ?_⟩
        have := rot_gt E (m - i) m (m + j) (by omega) (by omega) (by omega)
        rw [show m + j - m = j by omega, show m - i + j = m - (i - j) by omega] at this
        show rot _ (m - (i - j)) m (m + j) = _
        rw [this]
        exact HT.out

end Go.Proofs.Ytmkkkddadpcmeaa
