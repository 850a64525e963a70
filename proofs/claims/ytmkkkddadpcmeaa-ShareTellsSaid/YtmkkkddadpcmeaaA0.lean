/-
  Plain facts on floats of 64 bits: each word has a key, a whole number, and the model's comparison of two words is that of their keys; no conditions but that a word fits 64 bits.
-/
import Derived.Laws.FloatArith
namespace Go.Proofs.Ytmkkkddadpcmeaa
open Ieee

abbrev dbl : Format := FloatKind.f64.format

/-- A number with its sign. -/
def sg (s : Bool) (v : Nat) : Int := if s then -(v : Int) else v

def ngv (x : Nat) : Bool := x / 9223372036854775808 % 2 == 1
def rung (x : Nat) : Nat := x % 9223372036854775808
abbrev infR : Nat := 9218868437227405312

/-- A rung's magnitude, in units of the least one. -/
def V (r : Nat) : Nat := if r < 4503599627370496 then r else (4503599627370496 + r % 4503599627370496) * 2 ^ (r / 4503599627370496 - 1)

theorem V_succ (r : Nat) : V r < V (r + 1) := by
  unfold V
  by_cases h1 : r + 1 < 4503599627370496
  · rw [if_pos h1, if_pos (by omega)]; omega
  · by_cases h2 : r < 4503599627370496
    · have : r = 4503599627370495 := by omega
      subst this
      decide
    · rw [if_neg h1, if_neg h2]
      by_cases h3 : r % 4503599627370496 + 1 < 4503599627370496
      · have e1 : (r + 1) % 4503599627370496 = r % 4503599627370496 + 1 := by omega
        have e2 : (r + 1) / 4503599627370496 = r / 4503599627370496 := by omega
        rw [e1, e2]
        exact Nat.mul_lt_mul_of_pos_right (by omega) (Nat.two_pow_pos _)
      · have e1 : (r + 1) % 4503599627370496 = 0 := by omega
        have e2 : (r + 1) / 4503599627370496 - 1 = r / 4503599627370496 - 1 + 1 := by omega
        rw [e1, e2, Nat.pow_succ]
        have := Nat.two_pow_pos (r / 4503599627370496 - 1)
        generalize 2 ^ (r / 4503599627370496 - 1) = p at this ⊢
        have e3 : (4503599627370496 + 0) * (p * 2) = 9007199254740992 * p := by omega
        rw [e3]
        exact Nat.mul_lt_mul_of_pos_right (by omega) this

theorem V_lt {a b : Nat} (h : a < b) : V a < V b := by
  induction b with
  | zero => omega
  | succ b ih =>
    by_cases e : a = b
    · subst e; exact V_succ a
    · exact Nat.lt_trans (ih (by omega)) (V_succ b)

theorem V_lt_iff {a b : Nat} : V a < V b ↔ a < b := by
  refine ⟨fun h => ?_, V_lt⟩
  by_cases e : a < b
  · exact e
  · by_cases e2 : a = b
    · subst e2; omega
    · have := V_lt (show b < a by omega); omega

theorem V_zero : V 0 = 0 := by decide

theorem read_num (x : Nat) (h : rung x < infR) : dbl.read x = .number (ngv x) (if rung x < 4503599627370496 then rung x else 4503599627370496 + rung x % 4503599627370496) (-1074 + (rung x / 4503599627370496 - 1 : Nat)) := by
  have e0 : dbl.signWeight = 9223372036854775808 := by decide
  have e1 : dbl.binade = 4503599627370496 := by decide
  have e2 : dbl.infRung = 9218868437227405312 := by decide
  have e3 : dbl.leastPlace = -1074 := by decide
  unfold Format.read
  simp only [e0, e1, e2, e3]
  unfold rung infR at h
  by_cases hl : x % 9223372036854775808 < 4503599627370496
  · simp only [rung, ngv, hl, if_true]
    congr 1
    omega
  · simp only [rung, ngv, hl, if_false, h, if_true]

theorem read_inf (x : Nat) (h : rung x = infR) : dbl.read x = .infinity (ngv x) := by
  have e0 : dbl.signWeight = 9223372036854775808 := by decide
  have e1 : dbl.binade = 4503599627370496 := by decide
  have e2 : dbl.infRung = 9218868437227405312 := by decide
  unfold Format.read
  simp only [e0, e1, e2]
  unfold rung at h
  simp only [ngv, h]
  rfl

theorem read_nan (x : Nat) (h : infR < rung x) : dbl.read x = .nan (ngv x) (rung x - infR) := by
  have e0 : dbl.signWeight = 9223372036854775808 := by decide
  have e1 : dbl.binade = 4503599627370496 := by decide
  have e2 : dbl.infRung = 9218868437227405312 := by decide
  unfold Format.read
  simp only [e0, e1, e2]
  unfold rung infR at h
  simp only [ngv, rung, infR]
  rw [if_neg (by omega), if_neg (by omega), if_neg (by omega)]

theorem sg_mul (s : Bool) (v p : Nat) : sg s (v * p) = sg s v * (p : Int) := by
  cases s <;> simp [sg, Int.neg_mul]

theorem compare_mul (a b : Int) (p : Nat) (hp : 0 < p) : compare (a * (p : Int)) (b * (p : Int)) = compare a b := by
  have hp' : (0 : Int) < p := by omega
  simp only [compare, compareOfLessAndEq]
  have h1 : a * (p : Int) < b * p ↔ a < b := Int.mul_lt_mul_right hp'
  have h2 : a * (p : Int) = b * p ↔ a = b := Int.mul_eq_mul_right_iff (by omega)
  simp only [h1, h2]

theorem signed_eq (s : Bool) (m k : Nat) : signed s m k = sg s (m * 2 ^ k) := by
  unfold signed sg
  simp only [Nat.shiftLeft_eq]

/-- A number's value, in units of the least one. -/
def iv (x : Nat) : Int := sg (ngv x) (V (rung x))

theorem read_fin (x : Nat) (h : rung x < infR) : ∃ m e : Nat, dbl.read x = .number (ngv x) m (-1074 + (e : Int)) ∧ m * 2 ^ e = V (rung x) := by
  refine ⟨_, _, read_num x h, ?_⟩
  unfold V
  by_cases hl : rung x < 4503599627370496
  · rw [if_pos hl, if_pos hl, show rung x / 4503599627370496 - 1 = 0 by omega]; simp
  · rw [if_neg hl, if_neg hl]

theorem order_fin (x y : Nat) (hx : rung x < infR) (hy : rung y < infR) : dbl.order x y = some (compare (iv x) (iv y)) := by
  obtain ⟨m, e, hx1, hx2⟩ := read_fin x hx
  obtain ⟨n, d, hy1, hy2⟩ := read_fin y hy
  unfold Format.order
  rw [hx1, hy1]
  simp only [Datum.order, signed_eq]
  have key : ∀ c : Nat, c ≤ e → c ≤ d → compare (sg (ngv x) (m * 2 ^ (e - c))) (sg (ngv y) (n * 2 ^ (d - c))) = compare (iv x) (iv y) := by
    intro c h1 h2
    unfold iv
    rw [← hx2, ← hy2]
    have p1 : m * 2 ^ e = m * 2 ^ (e - c) * 2 ^ c := by rw [Nat.mul_assoc, ← Nat.pow_add]; congr 2; omega
    have p2 : n * 2 ^ d = n * 2 ^ (d - c) * 2 ^ c := by rw [Nat.mul_assoc, ← Nat.pow_add]; congr 2; omega
    rw [p1, p2, sg_mul _ (m * 2 ^ (e - c)) (2 ^ c), sg_mul _ (n * 2 ^ (d - c)) (2 ^ c), compare_mul _ _ _ (Nat.two_pow_pos _)]
  have := key (min e d) (Nat.min_le_left _ _) (Nat.min_le_right _ _)
  rw [show (-1074 + (e : Int) - min (-1074 + (e : Int)) (-1074 + (d : Int))).toNat = e - min e d by omega,
    show (-1074 + (d : Int) - min (-1074 + (e : Int)) (-1074 + (d : Int))).toNat = d - min e d by omega, this]

/-- A word's key where it is a number or infinite: its rung with its sign. -/
def kx (x : Nat) : Int := sg (ngv x) (rung x)

theorem sg_lt_iff (s t : Bool) (a b : Nat) : sg s (V a) < sg t (V b) ↔ sg s a < sg t b := by
  have h0 := V_zero
  have h1 := @V_lt_iff a b
  have h2 := @V_lt_iff b a
  have h3 := @V_lt_iff 0 a
  have h4 := @V_lt_iff 0 b
  rw [h0] at h3 h4
  cases s <;> cases t <;> simp only [sg, if_true, if_false, Bool.false_eq_true] <;> omega

theorem compare_iv (x y : Nat) : compare (iv x) (iv y) = compare (kx x) (kx y) := by
  unfold iv kx
  have h1 := sg_lt_iff (ngv x) (ngv y) (rung x) (rung y)
  have h2 := sg_lt_iff (ngv y) (ngv x) (rung y) (rung x)
  have h3 : sg (ngv x) (V (rung x)) = sg (ngv y) (V (rung y)) ↔ sg (ngv x) (rung x) = sg (ngv y) (rung y) := by omega
  simp only [compare, compareOfLessAndEq, h1, h3]

theorem cmp_lt {a b : Int} (h : a < b) : compare a b = .lt := by
  simp only [compare, compareOfLessAndEq]; rw [if_pos h]
theorem cmp_gt {a b : Int} (h : b < a) : compare a b = .gt := by
  simp only [compare, compareOfLessAndEq]; rw [if_neg (by omega), if_neg (by omega)]
theorem cmp_eq {a b : Int} (h : a = b) : compare a b = .eq := by
  simp only [compare, compareOfLessAndEq]; rw [if_neg (by omega), if_pos h]

/-- THE COMPARISON OF TWO WORDS THAT ARE NO NaN IS THAT OF THEIR KEYS. -/
theorem order_key (x y : Nat) (hx : rung x ≤ infR) (hy : rung y ≤ infR) : dbl.order x y = some (compare (kx x) (kx y)) := by
  by_cases h1 : rung x < infR
  · by_cases h2 : rung y < infR
    · rw [order_fin x y h1 h2, compare_iv]
    · have h2' : rung y = infR := by omega
      obtain ⟨m, e, hx1, hx2⟩ := read_fin x h1
      unfold Format.order kx
      rw [hx1, read_inf y h2']
      simp only [Datum.order]
      rw [h2']
      generalize infR = R at *
      cases ngv y
      · rw [cmp_lt (by cases ngv x <;> simp only [sg, if_true, if_false, Bool.false_eq_true] <;> omega)]; rfl
      · rw [cmp_gt (by cases ngv x <;> simp only [sg, if_true, if_false, Bool.false_eq_true] <;> omega)]; rfl
  · have h1' : rung x = infR := by omega
    by_cases h2 : rung y < infR
    · obtain ⟨m, e, hy1, hy2⟩ := read_fin y h2
      unfold Format.order kx
      rw [hy1, read_inf x h1']
      simp only [Datum.order]
      rw [h1']
      generalize infR = R at *
      cases ngv x
      · rw [cmp_gt (by cases ngv y <;> simp only [sg, if_true, if_false, Bool.false_eq_true] <;> omega)]; rfl
      · rw [cmp_lt (by cases ngv y <;> simp only [sg, if_true, if_false, Bool.false_eq_true] <;> omega)]; rfl
    · have h2' : rung y = infR := by omega
      unfold Format.order kx
      rw [read_inf x h1', read_inf y h2', h1', h2']
      simp only [Datum.order]
      have hR : 0 < infR := by decide
      generalize infR = R at *
      cases ngv x <;> cases ngv y
      · rw [cmp_eq rfl]; rfl
      · rw [cmp_gt (by simp only [sg, if_true, if_false, Bool.false_eq_true]; omega)]; rfl
      · rw [cmp_lt (by simp only [sg, if_true, if_false, Bool.false_eq_true]; omega)]; rfl
      · rw [cmp_eq rfl]; rfl

theorem order_nan_left (x y : Nat) (h : infR < rung x) : dbl.order x y = none := by
  unfold Format.order
  rw [read_nan x h]
  rfl

theorem order_nan_right (x y : Nat) (h : infR < rung y) : dbl.order x y = none := by
  unfold Format.order
  rw [read_nan y h]
  cases dbl.read x <;> rfl

end Go.Proofs.Ytmkkkddadpcmeaa
