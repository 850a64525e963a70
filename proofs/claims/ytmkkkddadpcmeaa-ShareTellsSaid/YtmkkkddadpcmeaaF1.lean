/-
  Plain facts on the four operations on floats from 0 on: each is the rounding of the exact one; no program here.
-/
import Derived.Test.YtmkkkddadpcmeaaF0
namespace Go.Proofs.Ytmkkkddadpcmeaa
open Ieee

/-- A scale finer by 2^k. -/
theorem Rnd.finer {D P Q r : Nat} (k : Nat) (h : Rnd D P Q r) : Rnd (D + k) (P * 2 ^ k) Q r := by
  obtain ⟨L, c, rfl, a1, a2, a3, a4, a5, a6⟩ := h
  have hk := Nat.two_pow_pos k
  have e : 2 ^ (L + (D + k)) * Q = 2 ^ (L + D) * Q * 2 ^ k := by rw [← Nat.add_assoc, Nat.pow_add, Nat.mul_right_comm]
  refine ⟨L, c, rfl, ?_, ?_, ?_, ?_, ?_, ?_⟩
  all_goals rw [e]
  all_goals generalize 2 ^ (L + D) * Q = g at *
  all_goals generalize 2 ^ k = p at *
  · have := Nat.mul_le_mul_right p a1
    rw [Nat.mul_assoc, Nat.mul_assoc] at this
    exact this
  · have := Nat.mul_le_mul_right p a2
    rw [Nat.add_mul, Nat.mul_assoc (2 * c), Nat.mul_assoc 2 P] at this
    exact this
  · intro h
    refine a3 (Nat.eq_of_mul_eq_mul_right hk ?_)
    rw [Nat.mul_assoc 2 P, h, Nat.mul_assoc]
  · intro h
    refine a4 (Nat.eq_of_mul_eq_mul_right hk ?_)
    rw [Nat.mul_assoc (2 * c), h, Nat.add_mul, Nat.mul_assoc 2 P]
  · have := Nat.mul_lt_mul_of_pos_right a5 hk
    rw [Nat.mul_assoc] at this
    exact this
  · rcases a6 with a6 | a6
    · exact Or.inl a6
    · have := Nat.mul_le_mul_right p a6
      rw [Nat.mul_assoc] at this
      exact Or.inr this

/-- The same quotient, both multiplied. -/
theorem Rnd.scale {D P Q r : Nat} (k : Nat) (hk : 0 < k) (h : Rnd D P Q r) : Rnd D (P * k) (Q * k) r := by
  obtain ⟨L, c, rfl, a1, a2, a3, a4, a5, a6⟩ := h
  have e : 2 ^ (L + D) * (Q * k) = 2 ^ (L + D) * Q * k := by rw [Nat.mul_assoc]
  refine ⟨L, c, rfl, ?_, ?_, ?_, ?_, ?_, ?_⟩
  all_goals rw [e]
  all_goals generalize 2 ^ (L + D) * Q = g at *
  · have := Nat.mul_le_mul_right k a1
    rw [Nat.mul_assoc, Nat.mul_assoc] at this
    exact this
  · have := Nat.mul_le_mul_right k a2
    rw [Nat.add_mul, Nat.mul_assoc (2 * c), Nat.mul_assoc 2 P] at this
    exact this
  · intro h
    refine a3 (Nat.eq_of_mul_eq_mul_right hk ?_)
    rw [Nat.mul_assoc 2 P, h, Nat.mul_assoc]
  · intro h
    refine a4 (Nat.eq_of_mul_eq_mul_right hk ?_)
    rw [Nat.mul_assoc (2 * c), h, Nat.add_mul, Nat.mul_assoc 2 P]
  · have := Nat.mul_lt_mul_of_pos_right a5 hk
    rw [Nat.mul_assoc] at this
    exact this
  · rcases a6 with a6 | a6
    · exact Or.inl a6
    · have := Nat.mul_le_mul_right k a6
      rw [Nat.mul_assoc] at this
      exact Or.inr this

/-- A cut, said in units of a finer scale. -/
theorem cut_scaled (m e K up drop : Nat) (h0 : up = 0 ∨ drop = 0) (hs : e + drop = K + up) :
    2 * (m * 2 ^ e) ≤ (2 * Toward.even.cut false (m <<< up) drop + 1) * 2 ^ K ∧ 2 * Toward.even.cut false (m <<< up) drop * 2 ^ K ≤ 2 * (m * 2 ^ e) + 2 ^ K ∧
    (2 * (m * 2 ^ e) = (2 * Toward.even.cut false (m <<< up) drop + 1) * 2 ^ K → Toward.even.cut false (m <<< up) drop % 2 = 0) ∧
    (2 * Toward.even.cut false (m <<< up) drop * 2 ^ K = 2 * (m * 2 ^ e) + 2 ^ K → Toward.even.cut false (m <<< up) drop % 2 = 0) := by
  have hc := cut_spec false (m <<< up) drop
  generalize Toward.even.cut false (m <<< up) drop = c at hc ⊢
  obtain ⟨c1, c2, c3, c4⟩ := hc
  rw [Nat.shiftLeft_eq] at c1 c2 c3 c4
  rcases h0 with rfl | rfl
  · -- digits are dropped
    have w1 : 2 ^ K = 2 ^ drop * 2 ^ e := by rw [← Nat.pow_add]; congr 1; omega
    have he := Nat.two_pow_pos e
    rw [Nat.pow_zero, Nat.mul_one] at c1 c2 c3 c4
    rw [w1]
    generalize 2 ^ drop = g at *
    generalize 2 ^ e = p at *
    refine ⟨?_, ?_, ?_, ?_⟩
    · have := Nat.mul_le_mul_right p c1
      rw [Nat.mul_assoc, Nat.mul_assoc] at this
      exact this
    · have := Nat.mul_le_mul_right p c2
      rw [Nat.add_mul, Nat.mul_assoc (2 * c), Nat.mul_assoc 2 m] at this
      exact this
    · intro h
      refine c3 (Nat.eq_of_mul_eq_mul_right he ?_)
      rw [Nat.mul_assoc 2 m, h, Nat.mul_assoc]
    · intro h
      refine c4 (Nat.eq_of_mul_eq_mul_right he ?_)
      rw [Nat.mul_assoc (2 * c), h, Nat.add_mul, Nat.mul_assoc 2 m]
  · -- noughts are laid behind
    have w1 : 2 ^ e = 2 ^ up * 2 ^ K := by rw [← Nat.pow_add]; congr 1; omega
    have hg := Nat.two_pow_pos K
    rw [Nat.pow_zero, Nat.mul_one] at c1 c2
    have w2 : m * 2 ^ e = m * 2 ^ up * 2 ^ K := by rw [w1, ← Nat.mul_assoc]
    rw [w2]
    generalize 2 ^ K = g at *
    generalize m * 2 ^ up = x at *
    have hcx : c = x := by omega
    subst hcx
    clear c1 c2 c3 c4 w1 w2
    have q1 : (2 * c + 1) * g = 2 * (c * g) + g := by rw [Nat.add_mul, Nat.mul_assoc]; omega
    have q2 : 2 * c * g = 2 * (c * g) := Nat.mul_assoc _ _ _
    rw [q1, q2]
    generalize c * g = z
    exact ⟨by omega, by omega, fun h => by omega, fun h => by omega⟩

theorem pow53 : (2 : Nat) ^ 53 = 9007199254740992 := by decide
theorem pow52 : (2 : Nat) ^ 52 = 4503599627370496 := by decide

theorem log_bounds (m e K : Nat) (hm : m ≠ 0) : (m.log2 + 1 + e ≤ 53 + K → m * 2 ^ e < 9007199254740992 * 2 ^ K) ∧ (52 + K ≤ m.log2 + e → 4503599627370496 * 2 ^ K ≤ m * 2 ^ e) := by
  have hl1 : 2 ^ m.log2 ≤ m := Nat.log2_self_le hm
  have hl2 : m < 2 ^ (m.log2 + 1) := Nat.lt_log2_self
  rw [← pow53, ← pow52]
  constructor
  · intro h1
    have h2 : m * 2 ^ e < 2 ^ (m.log2 + 1) * 2 ^ e := Nat.mul_lt_mul_of_pos_right hl2 (Nat.two_pow_pos _)
    have h3 : 2 ^ (m.log2 + 1) * 2 ^ e ≤ 2 ^ 53 * 2 ^ K := by rw [← Nat.pow_add, ← Nat.pow_add]; exact Nat.pow_le_pow_right (by omega) h1
    exact Nat.lt_of_lt_of_le h2 h3
  · intro h1
    have h2 : 2 ^ m.log2 * 2 ^ e ≤ m * 2 ^ e := Nat.mul_le_mul_right _ hl1
    have h3 : 2 ^ 52 * 2 ^ K ≤ 2 ^ m.log2 * 2 ^ e := by rw [← Nat.pow_add, ← Nat.pow_add]; exact Nat.pow_le_pow_right (by omega) h1
    exact Nat.le_trans h3 h2

theorem dbl_fraction : dbl.fractionBits = 52 := by decide
theorem dbl_least : dbl.leastPlace = -1074 := by decide
theorem dbl_binade : dbl.binade = 4503599627370496 := by decide
theorem dbl_inf : dbl.infRung = infR := by decide

theorem nearest_eq (m : Nat) (p : Int) (hm : m ≠ 0) (L : Nat) (hL : max (p + (m.log2 : Int) - 52) (-1074) = -1074 + (L : Int)) :
    dbl.nearest false m p = min (L * 4503599627370496 + Toward.even.cut false (m <<< (p - (-1074 + (L : Int))).toNat) (-1074 + (L : Int) - p).toNat) infR := by
  have hw : ∀ r, dbl.word false r = r := fun r => rfl
  have h52 : ((52 : Nat) : Int) = 52 := rfl
  have ht : (-1074 + (L : Int) - -1074).toNat = L := by omega
  unfold Format.nearest
  rw [if_neg hm, dbl_fraction, dbl_least, dbl_binade, dbl_inf, hw, h52, hL, ht]

/-- THE MODEL's ROUNDING IS IT. -/
theorem nearest_rnd (m e D : Nat) (hm : m ≠ 0) : ∃ r, dbl.nearest false m (-1074 - (D : Int) + e) = min r infR ∧ Rnd D (m * 2 ^ e) 1 r := by
  obtain ⟨L, hL⟩ : ∃ L : Nat, max (-1074 - (D : Int) + (e : Int) + (m.log2 : Int) - 52) (-1074) = -1074 + (L : Int) := ⟨(max (-1074 - (D : Int) + (e : Int) + (m.log2 : Int) - 52) (-1074) + 1074).toNat, by omega⟩
  refine ⟨_, nearest_eq m _ hm L hL, L, _, rfl, ?_⟩
  rw [Nat.mul_one]
  obtain ⟨k1, k2, k3, k4⟩ := cut_scaled m e (L + D) (-1074 - (D : Int) + (e : Int) - (-1074 + (L : Int))).toNat (-1074 + (L : Int) - (-1074 - (D : Int) + (e : Int))).toNat (by omega) (by omega)
  obtain ⟨g1, g2⟩ := log_bounds m e (L + D) hm
  refine ⟨k1, k2, k3, k4, g1 (by omega), ?_⟩
  by_cases hz : L = 0
  · exact Or.inl hz
  · exact Or.inr (g2 (by omega))

end Go.Proofs.Ytmkkkddadpcmeaa
