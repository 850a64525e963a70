/-
  The order of two floats is the order of their keys, whole numbers, a NaN's above all: for words that fit 64 bits.
-/
import Derived.Test.YtmkkkddadpcmeaaA1
import Derived.Test.YtmkkkddadpcmeaaA0
namespace Go.Proofs.Ytmkkkddadpcmeaa
open Go.RowKit

theorem isN_iff (x : Nat) : isN x = decide (infR < rung x) := by
  unfold isN fo
  by_cases h : infR < rung x
  · rw [show FloatKind.f64.format.order x x = none from order_nan_left x x h]
    simp [h]
  · rw [show FloatKind.f64.format.order x x = some (compare (kx x) (kx x)) from order_key x x (by omega) (by omega), cmp_eq rfl]
    simp [h]

theorem sgn_iff (x : Nat) (_h : x < 18446744073709551616) : sgn x = ngv x := by
  unfold sgn ngv wrap64
  rw [Bool.eq_iff_iff]
  simp
  omega

/-- A word's key. -/
def ky (x : Nat) : Int := if infR < rung x then 9223372036854775808 else if ngv x then -(rung x : Int) - 1 else rung x

def cmpI (a b : Int) : Int := if a < b then -1 else if b < a then 1 else 0

theorem rung_lt (x : Nat) : rung x < 9223372036854775808 := by unfold rung; omega

theorem ordI_key (a b : Nat) (ha : a < 18446744073709551616) (hb : b < 18446744073709551616) : ordI a b = cmpI (ky a) (ky b) := by
  unfold ordI
  rw [isN_iff, isN_iff, sgn_iff a ha, sgn_iff b hb]
  have r1 := rung_lt a
  have r2 := rung_lt b
  by_cases h1 : infR < rung a
  · by_cases h2 : infR < rung b
    · simp [h1, h2, aft, ky, cmpI]
    · simp only [h1, h2, aft, ky, cmpI, decide_true, decide_false, Bool.true_or, if_true, if_false]
      cases ngv b <;> simp <;> omega
  · by_cases h2 : infR < rung b
    · simp only [h1, h2, aft, ky, cmpI, decide_true, decide_false, Bool.or_true, if_true, if_false]
      cases ngv a <;> simp <;> omega
    · simp only [h1, h2, ky, cmpI, decide_false, Bool.or_false, if_false, Bool.false_eq_true]
      rw [show fo a b = some (compare (kx a) (kx b)) from order_key a b (by omega) (by omega)]
      unfold kx sg aft
      generalize rung a = ra at *
      generalize rung b = rb at *
      cases ngv a <;> cases ngv b <;> simp only [if_true, if_false, Bool.false_eq_true]
      · rcases Int.lt_trichotomy (ra : Int) rb with h | h | h
        · rw [cmp_lt h]; simp [h]
        · rw [cmp_eq h]; simp [h]
        · rw [cmp_gt h]; simp; omega
      · rcases Int.lt_trichotomy (ra : Int) (-(rb : Int)) with h | h | h
        · omega
        · rw [cmp_eq h]; simp; omega
        · rw [cmp_gt h]; simp; omega
      · rcases Int.lt_trichotomy (-(ra : Int)) rb with h | h | h
        · rw [cmp_lt h]; simp; omega
        · rw [cmp_eq h]; simp; omega
        · omega
      · rcases Int.lt_trichotomy (-(ra : Int)) (-(rb : Int)) with h | h | h
        · rw [cmp_lt h]; simp; omega
        · rw [cmp_eq h]; simp; omega
        · rw [cmp_gt h]; simp; omega

theorem cmpI_bounds (a b : Int) : cmpI a b = -1 ∧ a < b ∨ cmpI a b = 0 ∧ a = b ∨ cmpI a b = 1 ∧ b < a := by
  unfold cmpI
  by_cases h1 : a < b
  · simp [h1]
  · by_cases h2 : b < a
    · simp [h1, h2]
    · simp [h1, h2]; omega

end Go.Proofs.Ytmkkkddadpcmeaa
