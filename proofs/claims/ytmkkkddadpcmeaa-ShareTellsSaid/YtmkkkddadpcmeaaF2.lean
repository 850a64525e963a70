/-
  Plain facts on the four operations on floats from 0 on: each is the rounding of the exact one; no program here.
-/
import Derived.Test.YtmkkkddadpcmeaaF1
namespace Go.Proofs.Ytmkkkddadpcmeaa
open Ieee

/-- A quotient's digits, the last of which only tells that something is left over, round as the quotient itself. -/
theorem Rnd.sticky {D k q ρ n s r : Nat} (hs : s = if ρ = 0 then 0 else 1) (hρ : ρ < n) (hbig : 18014398509481984 ≤ 2 * q + s) (h : Rnd D ((2 * q + s) * 2 ^ k) 1 r) : Rnd D (2 * (q * n + ρ) * 2 ^ k) n r := by
  obtain ⟨L, c, rfl, a1, a2, a3, a4, a5, a6⟩ := h
  have hn : 0 < n := by omega
  have hk := Nat.two_pow_pos k
  rw [Nat.mul_one] at a1 a2 a3 a4 a5 a6
  -- a step has at least four units
  obtain ⟨j, hj⟩ : ∃ j, L + D = k + 2 + j := by
    have h1 : 18014398509481984 * 2 ^ k ≤ (2 * q + s) * 2 ^ k := Nat.mul_le_mul_right _ hbig
    have h2 : 18014398509481984 * 2 ^ k < 9007199254740992 * 2 ^ (L + D) := Nat.lt_of_le_of_lt h1 a5
    have h3 : 2 ^ (k + 1) < 2 ^ (L + D) := by rw [Nat.pow_succ]; omega
    have h4 : k + 1 < L + D := (Nat.pow_lt_pow_iff_right (by omega)).1 h3
    exact ⟨L + D - (k + 2), by omega⟩
  have hT : 2 ^ (L + D) = 4 * 2 ^ j * 2 ^ k := by rw [hj, Nat.pow_add, Nat.pow_add, show (2 : Nat) ^ 2 = 4 from rfl, Nat.mul_comm (2 ^ k) 4, Nat.mul_right_comm]
  have hjp := Nat.two_pow_pos j
  rw [hT] at a1 a2 a3 a4 a5 a6
  generalize 2 ^ j = t at *
  -- out of the scale
  have b1 : 2 * q + s ≤ (2 * c + 1) * (2 * t) := by
    have : (2 * (2 * q + s)) * 2 ^ k ≤ ((2 * c + 1) * (4 * t)) * 2 ^ k := by rw [Nat.mul_assoc, Nat.mul_assoc (2 * c + 1)]; exact a1
    have := Nat.le_of_mul_le_mul_right this hk
    have e : (2 * c + 1) * (4 * t) = 2 * ((2 * c + 1) * (2 * t)) := by rw [show 4 * t = 2 * (2 * t) by omega, Nat.mul_left_comm]
    omega
  have b2 : 2 * c * (2 * t) ≤ 2 * q + s + 2 * t := by
    have : (2 * c * (4 * t)) * 2 ^ k ≤ (2 * (2 * q + s) + 4 * t) * 2 ^ k := by rw [Nat.mul_assoc (2 * c), Nat.add_mul, Nat.mul_assoc 2 (2 * q + s)]; exact a2
    have := Nat.le_of_mul_le_mul_right this hk
    have e : 2 * c * (4 * t) = 2 * (2 * c * (2 * t)) := by rw [show 4 * t = 2 * (2 * t) by omega, Nat.mul_left_comm]
    omega
  have b3 : 2 * q + s = (2 * c + 1) * (2 * t) → c % 2 = 0 := by
    intro h
    apply a3
    rw [h, ← Nat.mul_assoc (2 * c + 1) (4 * t), ← Nat.mul_assoc 2]
    congr 1
    rw [show 4 * t = 2 * (2 * t) by omega, Nat.mul_left_comm]
  have b4 : 2 * c * (2 * t) = 2 * q + s + 2 * t → c % 2 = 0 := by
    intro h
    apply a4
    have e : 2 * c * (4 * t * 2 ^ k) = 2 * (2 * c * (2 * t)) * 2 ^ k := by rw [← Nat.mul_assoc]; congr 1; rw [show 4 * t = 2 * (2 * t) by omega, Nat.mul_left_comm]
    rw [e, h, ← Nat.mul_assoc, ← Nat.add_mul]
    congr 1
    omega
  have b5 : 2 * q + s < 9007199254740992 * (4 * t) := by
    have : (2 * q + s) * 2 ^ k < 9007199254740992 * (4 * t) * 2 ^ k := by rw [Nat.mul_assoc 9007199254740992]; exact a5
    exact Nat.lt_of_mul_lt_mul_right this
  have b6 : L = 0 ∨ 4503599627370496 * (4 * t) ≤ 2 * q + s := by
    rcases a6 with h | h
    · exact Or.inl h
    · right
      have : 4503599627370496 * (4 * t) * 2 ^ k ≤ (2 * q + s) * 2 ^ k := by rw [Nat.mul_assoc 4503599627370496]; exact h
      exact Nat.le_of_mul_le_mul_right this hk
  clear a1 a2 a3 a4 a5 a6
  have z1 : (2 * c + 1) * (2 * t) = 4 * (c * t) + 2 * t := by rw [Nat.add_mul, Nat.mul_assoc, Nat.mul_left_comm c 2 t]; omega
  have z2 : 2 * c * (2 * t) = 4 * (c * t) := by rw [Nat.mul_assoc, Nat.mul_left_comm c 2 t]; omega
  rw [z1] at b1 b3
  rw [z2] at b2 b4
  have hsb : s ≤ 1 := by rw [hs]; split <;> omega
  have hs0 : s = 0 ↔ ρ = 0 := by rw [hs]; split <;> omega
  -- the quotient against the steps, times n
  have m1 : 2 * (c * t) + t ≤ q ∨ q + 1 ≤ 2 * (c * t) + t := by omega
  have E : 2 ^ (L + D) * n = 4 * (t * n) * 2 ^ k := by rw [hT, Nat.mul_right_comm, Nat.mul_assoc 4 t n]
  have Y1 : (2 * c + 1) * (4 * (t * n) * 2 ^ k) = 2 * (2 * ((2 * (c * t) + t) * n)) * 2 ^ k := by
    rw [← Nat.mul_assoc]
    congr 1
    have y1 : (2 * c + 1) * (4 * (t * n)) = 4 * ((2 * c + 1) * (t * n)) := Nat.mul_left_comm _ _ _
    have y2 : (2 * c + 1) * (t * n) = (2 * (c * t) + t) * n := by rw [← Nat.mul_assoc, Nat.add_mul, Nat.mul_assoc 2 c t, Nat.one_mul]
    rw [y1, y2]
    omega
  have Y2 : 2 * c * (4 * (t * n) * 2 ^ k) = 2 * (2 * (2 * (c * t) * n)) * 2 ^ k := by
    rw [← Nat.mul_assoc]
    congr 1
    have y1 : 2 * c * (4 * (t * n)) = 4 * (2 * c * (t * n)) := Nat.mul_left_comm _ _ _
    have y2 : 2 * c * (t * n) = 2 * (c * t) * n := by rw [← Nat.mul_assoc, Nat.mul_assoc 2 c t]
    rw [y1, y2]
    omega
  have X1 : 2 * (2 * (q * n + ρ) * 2 ^ k) = 2 * (2 * (q * n + ρ)) * 2 ^ k := by rw [Nat.mul_assoc 2 (2 * (q * n + ρ))]
  have hA : ∀ z, q + 1 ≤ z → q * n + ρ < z * n := fun z hz => by
    have := Nat.mul_le_mul_right n hz
    rw [Nat.add_mul] at this
    omega
  have hB : ∀ z, z ≤ q → z * n ≤ q * n := fun z hz => Nat.mul_le_mul_right n hz
  refine ⟨L, c, rfl, ?_, ?_, ?_, ?_, ?_, ?_⟩
  · rw [E, Y1, X1]
    refine Nat.mul_le_mul_right _ ?_
    rcases m1 with h | h
    · have e1 : q = 2 * (c * t) + t := by omega
      have e2 : ρ = 0 := hs0.1 (by omega)
      rw [e2, e1]; omega
    · have := hA _ h; omega
  · rw [E, Y2, X1, Nat.mul_comm 4, ← Nat.add_mul] <;> try skip
    rw [show t * n * 4 = 4 * (t * n) by omega]
    refine Nat.mul_le_mul_right _ ?_
    have h1 : 2 * (c * t) ≤ q + t := by omega
    have := Nat.mul_le_mul_right n h1
    rw [Nat.add_mul] at this
    omega
  · intro h
    rw [E, Y1, X1] at h
    have h := Nat.eq_of_mul_eq_mul_right hk h
    have h' : q * n + ρ = (2 * (c * t) + t) * n := by omega
    rcases m1 with h1 | h1
    · have e1 : q = 2 * (c * t) + t := by omega
      have e2 : ρ = 0 := by rw [e1] at h'; omega
      exact b3 (by rw [e1, hs0.2 e2]; omega)
    · have := hA _ h1; omega
  · intro h
    rw [E, Y2, X1, ← Nat.add_mul] at h
    have h := Nat.eq_of_mul_eq_mul_right hk h
    have h' : 2 * (c * t) * n = (q + t) * n + ρ := by rw [Nat.add_mul]; omega
    have h1 : 2 * (c * t) ≤ q + t := by omega
    have h2 := Nat.mul_le_mul_right n h1
    have e2 : ρ = 0 := by omega
    have e3 : 2 * (c * t) = q + t := Nat.eq_of_mul_eq_mul_right hn (by omega)
    exact b4 (by rw [hs0.2 e2]; omega)
  · rw [E, ← Nat.mul_assoc]
    refine Nat.mul_lt_mul_of_pos_right ?_ hk
    have := hA (18014398509481984 * t) (by omega)
    rw [Nat.mul_assoc] at this
    omega
  · rcases b6 with h | h
    · exact Or.inl h
    · right
      rw [E, ← Nat.mul_assoc]
      refine Nat.mul_le_mul_right _ ?_
      have := hB (9007199254740992 * t) (by omega)
      rw [Nat.mul_assoc] at this
      omega

end Go.Proofs.Ytmkkkddadpcmeaa
