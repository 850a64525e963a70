/-
  Plain facts on rounding to the nearest float of 64 bits: which rung comes of a quotient of two whole numbers, that it grows with it, and how far off it is; no program here.
-/
import Derived.Test.YtmkkkddadpcmeaaA0
namespace Go.Proofs.Ytmkkkddadpcmeaa
open Ieee

/-- What rounding to a whole number gives: the nearest, between two the even one. -/
theorem cut_spec (neg : Bool) (n drop : Nat) :
    2 * n ≤ (2 * Toward.even.cut neg n drop + 1) * 2 ^ drop ∧ 2 * Toward.even.cut neg n drop * 2 ^ drop ≤ 2 * n + 2 ^ drop ∧
    (2 * n = (2 * Toward.even.cut neg n drop + 1) * 2 ^ drop → Toward.even.cut neg n drop % 2 = 0) ∧
    (2 * Toward.even.cut neg n drop * 2 ^ drop = 2 * n + 2 ^ drop → Toward.even.cut neg n drop % 2 = 0) := by
  by_cases hd : drop ≤ n.log2 + 2
  · have e : Toward.even.cut neg n drop = n / 2 ^ drop + (decide (2 ^ drop < 2 * (n % 2 ^ drop)) || (2 ^ drop == 2 * (n % 2 ^ drop) && n / 2 ^ drop % 2 == 1)).toNat := by
      unfold Toward.cut
      simp only [Nat.min_eq_left hd, Nat.shiftLeft_eq, Nat.one_mul]
    have hg := Nat.two_pow_pos drop
    have hn := Nat.div_add_mod n (2 ^ drop)
    have hm := Nat.mod_lt n hg
    rw [e]
    generalize 2 ^ drop = g at *
    generalize n / g = q at *
    generalize n % g = r at *
    subst hn
    by_cases h1 : g < 2 * r
    · simp only [h1, decide_true, Bool.true_or, Bool.toNat_true]
      have a1 : 2 * (g * q + r) = 2 * (g * q) + 2 * r := by omega
      have a2 : (2 * (q + 1) + 1) * g = 2 * (g * q) + 3 * g := by rw [show 2 * (q + 1) + 1 = 2 * q + 3 by omega, Nat.add_mul, Nat.mul_assoc, Nat.mul_comm q g]
      have a3 : 2 * (q + 1) * g = 2 * (g * q) + 2 * g := by rw [show 2 * (q + 1) = 2 * q + 2 by omega, Nat.add_mul, Nat.mul_assoc, Nat.mul_comm q g]
      rw [a1, a2, a3]
      generalize g * q = z at *
      refine ⟨by omega, by omega, fun h => by omega, fun h => by omega⟩
    · simp only [h1, decide_false, Bool.false_or]
      have a1 : 2 * (g * q + r) = 2 * (g * q) + 2 * r := by omega
      by_cases h2 : g = 2 * r ∧ q % 2 = 1
      · have : (g == 2 * r && q % 2 == 1) = true := by simp [h2.1, h2.2]
        rw [this]
        simp only [Bool.toNat_true]
        have a2 : (2 * (q + 1) + 1) * g = 2 * (g * q) + 3 * g := by rw [show 2 * (q + 1) + 1 = 2 * q + 3 by omega, Nat.add_mul, Nat.mul_assoc, Nat.mul_comm q g]
        have a3 : 2 * (q + 1) * g = 2 * (g * q) + 2 * g := by rw [show 2 * (q + 1) = 2 * q + 2 by omega, Nat.add_mul, Nat.mul_assoc, Nat.mul_comm q g]
        rw [a1, a2, a3]
        generalize g * q = z at *
        refine ⟨by omega, by omega, fun h => by omega, fun h => by omega⟩
      · have : (g == 2 * r && q % 2 == 1) = false := by
          simp
          intro h
          omega
        rw [this]
        simp only [Bool.toNat_false, Nat.add_zero]
        have a2 : (2 * q + 1) * g = 2 * (g * q) + g := by rw [Nat.add_mul, Nat.mul_assoc, Nat.mul_comm q g]; omega
        have a3 : 2 * q * g = 2 * (g * q) := by rw [Nat.mul_assoc, Nat.mul_comm q g]
        rw [a1, a2, a3]
        generalize g * q = z at *
        refine ⟨by omega, by omega, fun h => by omega, fun h => by omega⟩
  · have hd' : n.log2 + 2 < drop := by omega
    have hlt : n < 2 ^ (n.log2 + 1) := Nat.lt_log2_self
    have hp : 2 ^ (n.log2 + 2) = 2 * 2 ^ (n.log2 + 1) := by rw [Nat.pow_succ]; omega
    have hbig : 2 ^ (n.log2 + 2) ≤ 2 ^ drop := Nat.pow_le_pow_right (by omega) (by omega)
    have e : Toward.even.cut neg n drop = 0 := by
      unfold Toward.cut
      simp only [Nat.min_eq_right (Nat.le_of_lt hd'), Nat.shiftLeft_eq, Nat.one_mul]
      rw [Nat.div_eq_of_lt (by omega), Nat.mod_eq_of_lt (by omega)]
      have h1 : ¬ 2 ^ (n.log2 + 2) < 2 * n := by omega
      have h2 : (2 ^ (n.log2 + 2) == 2 * n) = false := by simp; omega
      simp [h1]
    rw [e]
    refine ⟨by omega, by omega, fun _ => rfl, fun _ => rfl⟩

/-- THE RUNG r IS THE ROUNDING OF P / Q, in units of the least number over 2^D. -/
def Rnd (D P Q r : Nat) : Prop :=
  ∃ L c, r = L * 4503599627370496 + c ∧ 2 * P ≤ (2 * c + 1) * (2 ^ (L + D) * Q) ∧ 2 * c * (2 ^ (L + D) * Q) ≤ 2 * P + 2 ^ (L + D) * Q ∧
    (2 * P = (2 * c + 1) * (2 ^ (L + D) * Q) → c % 2 = 0) ∧ (2 * c * (2 ^ (L + D) * Q) = 2 * P + 2 ^ (L + D) * Q → c % 2 = 0) ∧
    P < 9007199254740992 * (2 ^ (L + D) * Q) ∧ (L = 0 ∨ 4503599627370496 * (2 ^ (L + D) * Q) ≤ P)

theorem Rnd.mono {D P Q r P' Q' r' : Nat} (hQ : 0 < Q) (hQ' : 0 < Q') (h : Rnd D P Q r) (h' : Rnd D P' Q' r') (hle : P * Q' ≤ P' * Q) : r ≤ r' := by
  obtain ⟨L, c, rfl, a1, a2, a3, a4, a5, a6⟩ := h
  obtain ⟨L', c', rfl, b1, b2, b3, b4, b5, b6⟩ := h'
  have hc : c ≤ 9007199254740992 := by
    have hp : 0 < 2 ^ (L + D) * Q := Nat.mul_pos (Nat.two_pow_pos _) hQ
    generalize 2 ^ (L + D) * Q = g at *
    apply Nat.le_of_not_lt
    intro hlt
    have : 9007199254740993 * g ≤ c * g := Nat.mul_le_mul_right g hlt
    have e : 2 * c * g = 2 * (c * g) := Nat.mul_assoc _ _ _
    generalize c * g = z at *
    omega
  rcases Nat.lt_trichotomy L L' with hl | hl | hl
  · have hc' : 4503599627370496 ≤ c' := by
      have hp : 0 < 2 ^ (L' + D) * Q' := Nat.mul_pos (Nat.two_pow_pos _) hQ'
      have b6' : 4503599627370496 * (2 ^ (L' + D) * Q') ≤ P' := by omega
      generalize 2 ^ (L' + D) * Q' = g at *
      apply Nat.le_of_not_lt
      intro hlt
      have : (2 * c' + 1) * g ≤ 9007199254740991 * g := Nat.mul_le_mul_right g (by omega)
      generalize (2 * c' + 1) * g = z at *
      omega
    omega
  · subst hl
    have hp : 0 < 2 ^ (L + D) * (Q * Q') := Nat.mul_pos (Nat.two_pow_pos _) (Nat.mul_pos hQ hQ')
    have e1 : 2 ^ (L + D) * Q * Q' = 2 ^ (L + D) * (Q * Q') := Nat.mul_assoc _ _ _
    have e2 : 2 ^ (L + D) * Q' * Q = 2 ^ (L + D) * (Q * Q') := by rw [Nat.mul_assoc, Nat.mul_comm Q' Q]
    apply Nat.le_of_not_lt
    intro hlt
    have hcc : c' + 1 ≤ c := by omega
    have m1 : 2 * c * (2 ^ (L + D) * Q) * Q' ≤ (2 * P + 2 ^ (L + D) * Q) * Q' := Nat.mul_le_mul_right Q' a2
    have m2 : 2 * P' * Q ≤ (2 * c' + 1) * (2 ^ (L + D) * Q') * Q := Nat.mul_le_mul_right Q b1
    have m3 : (c' + 1) * (2 ^ (L + D) * (Q * Q')) ≤ c * (2 ^ (L + D) * (Q * Q')) := Nat.mul_le_mul_right _ hcc
    rw [Nat.mul_assoc (2 * c), e1, Nat.add_mul, e1, Nat.mul_assoc 2 P Q'] at m1
    rw [Nat.mul_assoc (2 * c' + 1), e2, Nat.mul_assoc 2 P' Q] at m2
    have t1 : 2 * c * (2 ^ (L + D) * Q) = 2 * P + 2 ^ (L + D) * Q → c % 2 = 0 := a4
    have t2 : 2 * P' = (2 * c' + 1) * (2 ^ (L + D) * Q') → c' % 2 = 0 := b3
    have q1 : 2 * c * (2 ^ (L + D) * Q) * Q' = (2 * P + 2 ^ (L + D) * Q) * Q' := by
      rw [Nat.mul_assoc (2 * c), e1, Nat.add_mul, e1, Nat.mul_assoc 2 P Q']
      rw [Nat.mul_assoc] at m1 ⊢
      rw [Nat.add_mul] at m2 m3
      rw [Nat.mul_assoc] at m2
      generalize 2 ^ (L + D) * (Q * Q') = W at *
      generalize c * W = u at *
      generalize c' * W = v at *
      omega
    have q2 : 2 * P' * Q = (2 * c' + 1) * (2 ^ (L + D) * Q') * Q := by
      rw [Nat.mul_assoc (2 * c' + 1), e2, Nat.mul_assoc 2 P' Q, Nat.add_mul, Nat.mul_assoc]
      rw [Nat.mul_assoc] at m1
      rw [Nat.add_mul] at m2 m3
      rw [Nat.mul_assoc] at m2
      generalize 2 ^ (L + D) * (Q * Q') = W at *
      generalize c * W = u at *
      generalize c' * W = v at *
      omega
    have q3 : c = c' + 1 := by
      apply Nat.le_antisymm _ hcc
      apply Nat.le_of_not_lt
      intro hlt2
      have m4 : (c' + 2) * (2 ^ (L + D) * (Q * Q')) ≤ c * (2 ^ (L + D) * (Q * Q')) := Nat.mul_le_mul_right _ hlt2
      rw [Nat.mul_assoc] at m1
      rw [Nat.add_mul] at m2 m3 m4
      rw [Nat.mul_assoc] at m2
      generalize 2 ^ (L + D) * (Q * Q') = W at *
      generalize c * W = u at *
      generalize c' * W = v at *
      omega
    have r1 := t1 (Nat.eq_of_mul_eq_mul_right hQ' q1)
    have r2 := t2 (Nat.eq_of_mul_eq_mul_right hQ q2)
    omega
  · exfalso
    have a6' : 4503599627370496 * (2 ^ (L + D) * Q) ≤ P := by omega
    have hG : 2 * 2 ^ (L' + D) ≤ 2 ^ (L + D) := by
      have : 2 ^ (L' + D + 1) ≤ 2 ^ (L + D) := Nat.pow_le_pow_right (by omega) (by omega)
      rw [Nat.pow_succ] at this
      omega
    have m1 : 4503599627370496 * (2 ^ (L + D) * Q) * Q' ≤ P * Q' := Nat.mul_le_mul_right Q' a6'
    have m2 : P' * Q < 9007199254740992 * (2 ^ (L' + D) * Q') * Q := Nat.mul_lt_mul_of_pos_right b5 hQ
    have m3 : 2 * 2 ^ (L' + D) * (Q * Q') ≤ 2 ^ (L + D) * (Q * Q') := Nat.mul_le_mul_right _ hG
    have e1 : 4503599627370496 * (2 ^ (L + D) * Q) * Q' = 4503599627370496 * (2 ^ (L + D) * (Q * Q')) := by rw [Nat.mul_assoc, Nat.mul_assoc]
    have e2 : 9007199254740992 * (2 ^ (L' + D) * Q') * Q = 9007199254740992 * (2 ^ (L' + D) * (Q * Q')) := by rw [Nat.mul_assoc, Nat.mul_assoc, Nat.mul_comm Q' Q]
    rw [e1] at m1
    rw [e2] at m2
    rw [Nat.mul_assoc] at m3
    generalize 2 ^ (L + D) * (Q * Q') = u at *
    generalize 2 ^ (L' + D) * (Q * Q') = v at *
    omega

end Go.Proofs.Ytmkkkddadpcmeaa
