/-
  Plain facts on the operations on floats from 0 on: each gives the rounding of the exact one; no program here.
-/
import Derived.Test.YtmkkkddadpcmeaaF2
namespace Go.Proofs.Ytmkkkddadpcmeaa
open Ieee

/-- The rung r is the rounding of P / Q units of the least number. -/
def RV (P Q r : Nat) : Prop := ∃ D, Rnd D (P * 2 ^ D) Q r

theorem RV.mono {P Q r P' Q' r' : Nat} (hQ : 0 < Q) (hQ' : 0 < Q') (h : RV P Q r) (h' : RV P' Q' r') (hle : P * Q' ≤ P' * Q) : r ≤ r' := by
  obtain ⟨D, h⟩ := h
  obtain ⟨D', h'⟩ := h'
  have a := h.finer D'
  have b := h'.finer D
  rw [Nat.add_comm D' D] at b
  refine Rnd.mono hQ hQ' a b ?_
  have e1 : P * 2 ^ D * 2 ^ D' * Q' = P * Q' * (2 ^ D * 2 ^ D') := by rw [Nat.mul_assoc P, Nat.mul_right_comm]
  have e2 : P' * 2 ^ D' * 2 ^ D * Q = P' * Q * (2 ^ D * 2 ^ D') := by rw [Nat.mul_assoc P', Nat.mul_right_comm, Nat.mul_comm (2 ^ D')]
  rw [e1, e2]
  exact Nat.mul_le_mul_right _ hle

theorem V_parts (L c : Nat) (hc : c ≤ 9007199254740992) (h : L = 0 ∨ 4503599627370496 ≤ c) : V (L * 4503599627370496 + c) = c * 2 ^ L := by
  unfold V
  by_cases h0 : L * 4503599627370496 + c < 4503599627370496
  · rw [if_pos h0]
    have : L = 0 := by omega
    subst this
    simp
  · rw [if_neg h0]
    by_cases h1 : c = 9007199254740992
    · subst h1
      have e1 : (L * 4503599627370496 + 9007199254740992) % 4503599627370496 = 0 := by omega
      have e2 : (L * 4503599627370496 + 9007199254740992) / 4503599627370496 - 1 = L + 1 := by omega
      rw [e1, e2, Nat.pow_succ]
      omega
    · by_cases h2 : c < 4503599627370496
      · exfalso
        omega
      · have e1 : (L * 4503599627370496 + c) % 4503599627370496 = c - 4503599627370496 := by omega
        have e2 : (L * 4503599627370496 + c) / 4503599627370496 - 1 = L := by omega
        rw [e1, e2, show 4503599627370496 + (c - 4503599627370496) = c by omega]

theorem V_split (r : Nat) : ∃ L c, r = L * 4503599627370496 + c ∧ c < 9007199254740992 ∧ (L = 0 ∨ 4503599627370496 ≤ c) := by
  by_cases h : r < 9007199254740992
  · exact ⟨0, r, by omega, h, Or.inl rfl⟩
  · exact ⟨r / 4503599627370496 - 1, 4503599627370496 + r % 4503599627370496, by omega, by omega, Or.inr (by omega)⟩

theorem RV.exact (r : Nat) : RV (V r) 1 r := by
  obtain ⟨L, c, hr, hc, hL⟩ := V_split r
  refine ⟨0, L, c, hr, ?_⟩
  rw [hr, V_parts L c (by omega) hL]
  have E : 2 ^ (L + 0) * 1 = 2 ^ L := by rw [Nat.add_zero, Nat.mul_one]
  have E0 : c * 2 ^ L * 2 ^ 0 = c * 2 ^ L := by rw [Nat.pow_zero, Nat.mul_one]
  rw [E, E0]
  have hp := Nat.two_pow_pos L
  have e : (2 * c + 1) * 2 ^ L = 2 * (c * 2 ^ L) + 2 ^ L := by rw [Nat.add_mul, Nat.mul_assoc, Nat.one_mul]
  have e2 : 2 * c * 2 ^ L = 2 * (c * 2 ^ L) := Nat.mul_assoc _ _ _
  rw [e, e2]
  refine ⟨by omega, by omega, fun h => by omega, fun h => by omega, Nat.mul_lt_mul_of_pos_right hc hp, ?_⟩
  rcases hL with h | h
  · exact Or.inl h
  · exact Or.inr (Nat.mul_le_mul_right _ h)

/-- What is not above a float rounds to none above it. -/
theorem RV.le {P Q r s : Nat} (hQ : 0 < Q) (h : RV P Q r) (hle : P ≤ V s * Q) : r ≤ s := RV.mono hQ Nat.one_pos h (RV.exact s) (by rw [Nat.mul_one]; exact hle)
/-- What is not below a float rounds to none below it. -/
theorem RV.ge {P Q r s : Nat} (hQ : 0 < Q) (h : RV P Q r) (hle : V s * Q ≤ P) : s ≤ r := RV.mono Nat.one_pos hQ (RV.exact s) h (by rw [Nat.mul_one]; exact hle)
/-- What is a float's value is that float. -/
theorem RV.eq {P Q r s : Nat} (hQ : 0 < Q) (h : RV P Q r) (he : P = V s * Q) : r = s := Nat.le_antisymm (h.le hQ (by omega)) (h.ge hQ (by omega))

/-- HOW FAR OFF: half a step, a step being one unit or at most the number over 2^52. -/
theorem RV.err {P Q r : Nat} (hQ : 0 < Q) (h : RV P Q r) : ∃ L, 2 * P ≤ 2 * (V r * Q) + 2 ^ L * Q ∧ 2 * (V r * Q) ≤ 2 * P + 2 ^ L * Q ∧ (L = 0 ∨ 4503599627370496 * (2 ^ L * Q) ≤ P) := by
  obtain ⟨D, L, c, rfl, a1, a2, a3, a4, a5, a6⟩ := h
  have hd := Nat.two_pow_pos D
  have E : 2 ^ (L + D) * Q = 2 ^ L * Q * 2 ^ D := by rw [Nat.pow_add, Nat.mul_right_comm]
  rw [E] at a1 a2 a5 a6
  have b1 : 2 * P ≤ (2 * c + 1) * (2 ^ L * Q) := by
    refine Nat.le_of_mul_le_mul_right ?_ hd
    rw [Nat.mul_assoc, Nat.mul_assoc]; exact a1
  have b2 : 2 * c * (2 ^ L * Q) ≤ 2 * P + 2 ^ L * Q := by
    refine Nat.le_of_mul_le_mul_right ?_ hd
    rw [Nat.mul_assoc (2 * c), Nat.add_mul, Nat.mul_assoc 2 P]; exact a2
  have b5 : P < 9007199254740992 * (2 ^ L * Q) := by
    refine Nat.lt_of_mul_lt_mul_right (a := 2 ^ D) ?_
    rw [Nat.mul_assoc]; exact a5
  have b6 : L = 0 ∨ 4503599627370496 * (2 ^ L * Q) ≤ P := by
    rcases a6 with h | h
    · exact Or.inl h
    · right
      refine Nat.le_of_mul_le_mul_right ?_ hd
      rw [Nat.mul_assoc]; exact h
  have hp : 0 < 2 ^ L * Q := Nat.mul_pos (Nat.two_pow_pos _) hQ
  have hc : c ≤ 9007199254740992 := by
    generalize 2 ^ L * Q = g at *
    apply Nat.le_of_not_lt
    intro hlt
    have : 9007199254740993 * g ≤ c * g := Nat.mul_le_mul_right g hlt
    have e : 2 * c * g = 2 * (c * g) := Nat.mul_assoc _ _ _
    generalize c * g = z at *
    omega
  have hc' : L = 0 ∨ 4503599627370496 ≤ c := by
    rcases b6 with h | h
    · exact Or.inl h
    · right
      generalize 2 ^ L * Q = g at *
      apply Nat.le_of_not_lt
      intro hlt
      have : (2 * c + 1) * g ≤ 9007199254740991 * g := Nat.mul_le_mul_right g (by omega)
      generalize (2 * c + 1) * g = z at *
      omega
  refine ⟨L, ?_, ?_, b6⟩
  all_goals rw [V_parts L c hc hc', Nat.mul_assoc c]
  all_goals generalize 2 ^ L * Q = g at *
  · rw [Nat.add_mul, Nat.mul_assoc] at b1; omega
  · rw [Nat.mul_assoc] at b2; exact b2

/-! ### The operations -/

/-- How many units one has. -/
def UE : Nat := 1074
def U : Nat := 2 ^ UE
theorem U_pow : ∃ k, k = 1074 ∧ U = 2 ^ k := ⟨UE, rfl, rfl⟩
theorem U_pos : 0 < U := by obtain ⟨k, _, h⟩ := U_pow; rw [h]; exact Nat.two_pow_pos _

theorem fin_rung {x : Nat} (h : x < infR) : rung x = x := by unfold rung; unfold infR at h; omega
theorem fin_ngv {x : Nat} (h : x < infR) : ngv x = false := by
  unfold ngv; unfold infR at h
  rw [Nat.div_eq_of_lt (by omega)]; rfl

theorem fin_read {x : Nat} (h : x < infR) : ∃ m e : Nat, dbl.read x = .number false m (-1074 + (e : Int)) ∧ m * 2 ^ e = V x := by
  obtain ⟨m, e, h1, h2⟩ := read_fin x (by rw [fin_rung h]; exact h)
  rw [fin_ngv h] at h1
  rw [fin_rung h] at h2
  exact ⟨m, e, h1, h2⟩

theorem nearest_zero (p : Int) : dbl.nearest false 0 p = 0 := by
  unfold Format.nearest
  rw [if_pos rfl]
  rfl

theorem RV.zero (Q : Nat) (hQ : 0 < Q) : RV 0 Q 0 := by
  refine ⟨0, 0, 0, rfl, ?_⟩
  simp
  omega

theorem nearest_rv (m e D : Nat) : ∃ r, dbl.nearest false m (-1074 - (D : Int) + e) = min r infR ∧ RV (m * 2 ^ e) (2 ^ D) r := by
  by_cases hm : m = 0
  · subst hm
    rw [nearest_zero, Nat.zero_mul]
    exact ⟨0, rfl, RV.zero _ (Nat.two_pow_pos _)⟩
  · obtain ⟨r, h1, h2⟩ := nearest_rnd m e D hm
    refine ⟨r, h1, D, ?_⟩
    have := h2.scale (2 ^ D) (Nat.two_pow_pos _)
    rwa [Nat.one_mul] at this

theorem add_fin {x y : Nat} (hx : x < infR) (hy : y < infR) : ∃ r, dbl.add x y = some (min r infR) ∧ RV (V x + V y) 1 r := by
  obtain ⟨m, e, x1, x2⟩ := fin_read hx
  obtain ⟨n, d, y1, y2⟩ := fin_read hy
  unfold Format.add
  rw [x1, y1]
  simp only [Datum.sum, signed_eq, Bool.and_false, Option.map_some, Format.write]
  obtain ⟨b, hb, h1, h2⟩ : ∃ b : Nat, min (-1074 + (e : Int)) (-1074 + (d : Int)) = -1074 + (b : Int) ∧ b ≤ e ∧ b ≤ d := ⟨min e d, by omega, by omega, by omega⟩
  rw [hb, show (-1074 + (e : Int) - (-1074 + (b : Int))).toNat = e - b by omega, show (-1074 + (d : Int) - (-1074 + (b : Int))).toNat = d - b by omega]
  have p1 : m * 2 ^ e = m * 2 ^ (e - b) * 2 ^ b := by rw [Nat.mul_assoc, ← Nat.pow_add]; congr 2; omega
  have p2 : n * 2 ^ d = n * 2 ^ (d - b) * 2 ^ b := by rw [Nat.mul_assoc, ← Nat.pow_add]; congr 2; omega
  rw [p1] at x2
  rw [p2] at y2
  rw [← x2, ← y2, ← Nat.add_mul]
  generalize m * 2 ^ (e - b) = u
  generalize n * 2 ^ (d - b) = v
  have e1 : (sg false u + sg false v).natAbs = u + v := by simp only [sg, Bool.false_eq_true, if_false]; omega
  have e2 : (if sg false u + sg false v = 0 then false else decide (sg false u + sg false v < 0)) = false := by
    simp only [sg, Bool.false_eq_true, if_false]
    split
    · rfl
    · exact decide_eq_false (by omega)
  rw [e1, e2]
  obtain ⟨r, h3, h4⟩ := nearest_rv (u + v) b 0
  refine ⟨r, ?_, ?_⟩
  · rw [← h3, show -1074 - ((0 : Nat) : Int) + (b : Int) = -1074 + (b : Int) by omega]
  · rwa [Nat.pow_zero] at h4

theorem mul_fin {x y : Nat} (hx : x < infR) (hy : y < infR) : ∃ r, dbl.mul x y = some (min r infR) ∧ RV (V x * V y) U r := by
  obtain ⟨m, e, x1, x2⟩ := fin_read hx
  obtain ⟨n, d, y1, y2⟩ := fin_read hy
  obtain ⟨u, hu, hU⟩ := U_pow
  unfold Format.mul
  rw [x1, y1]
  simp only [Datum.product, Option.map_some, Format.write]
  rw [← x2, ← y2, hU]
  obtain ⟨r, h3, h4⟩ := nearest_rv (m * n) (e + d) u
  refine ⟨r, ?_, ?_⟩
  · rw [← h3, show -1074 + (e : Int) + (-1074 + (d : Int)) = -1074 - (u : Int) + ((e + d : Nat) : Int) by omega]
    rfl
  · rwa [Nat.pow_add, Nat.mul_mul_mul_comm] at h4

theorem quo_fin {x y : Nat} (hx : x < infR) (hy : y < infR) (h0 : 0 < y) : ∃ r, dbl.div x y = some (min r infR) ∧ RV (V x * U) (V y) r := by
  obtain ⟨m, e, x1, x2⟩ := fin_read hx
  obtain ⟨n, d, y1, y2⟩ := fin_read hy
  obtain ⟨u, hu, hU⟩ := U_pow
  have hV : 0 < V y := by have := V_lt h0; rw [V_zero] at this; exact this
  have hn : 0 < n := by
    rcases Nat.eq_zero_or_pos n with h | h
    · subst h; rw [Nat.zero_mul] at y2; omega
    · exact h
  unfold Format.div
  rw [x1, y1, dbl_fraction]
  simp only [Datum.quotient]
  rw [if_neg (by omega)]
  by_cases hm : m = 0
  · subst hm
    have z : V x = 0 := by rw [← x2, Nat.zero_mul]
    rw [z, Nat.zero_mul]
    refine ⟨0, ?_, RV.zero _ hV⟩
    simp only [Option.map_some, Format.write, Nat.shiftLeft_eq, Nat.zero_mul, Nat.zero_div, Nat.zero_mod]
    show some (dbl.nearest false 0 _) = _
    rw [nearest_zero]
    rfl
  simp only [Option.map_some, Format.write, Nat.shiftLeft_eq]
  obtain ⟨k, hk⟩ : ∃ k, k = 52 + 2 + n.log2 - m.log2 := ⟨_, rfl⟩
  rw [← hk]
  have hbig : 9007199254740992 ≤ m * 2 ^ k / n := by
    rw [Nat.le_div_iff_mul_le hn]
    have hl1 : 2 ^ m.log2 ≤ m := Nat.log2_self_le hm
    have hl2 : n < 2 ^ (n.log2 + 1) := Nat.lt_log2_self
    have h1 : 2 ^ m.log2 * 2 ^ k ≤ m * 2 ^ k := Nat.mul_le_mul_right _ hl1
    have h2 : 2 ^ 53 * 2 ^ (n.log2 + 1) ≤ 2 ^ m.log2 * 2 ^ k := by rw [← Nat.pow_add, ← Nat.pow_add]; exact Nat.pow_le_pow_right (by omega) (by omega)
    rw [pow53] at h2
    have h3 : 9007199254740992 * n ≤ 9007199254740992 * 2 ^ (n.log2 + 1) := Nat.mul_le_mul_left _ (by omega)
    omega
  have hdm := Nat.div_add_mod (m * 2 ^ k) n
  have hρ := Nat.mod_lt (m * 2 ^ k) hn
  generalize m * 2 ^ k / n = q at *
  generalize m * 2 ^ k % n = ρ at *
  have hs : (ρ != 0).toNat = if ρ = 0 then 0 else 1 := by
    by_cases h : ρ = 0
    · simp [h]
    · simp [h]
  generalize (ρ != 0).toNat = s at *
  obtain ⟨r, h3, h4⟩ := nearest_rnd (2 * q + s) (e + u) (d + k + 1) (by omega)
  have h5 := Rnd.sticky hs hρ (by omega) h4
  refine ⟨r, ?_, d + k + 1, ?_⟩
  · rw [← h3, show -1074 + (e : Int) - (-1074 + (d : Int)) - (k : Int) - 1 = -1074 - ((d + k + 1 : Nat) : Int) + ((e + u : Nat) : Int) by omega]
    rfl
  · have h6 := h5.scale (2 ^ d) (Nat.two_pow_pos _)
    rw [y2] at h6
    have : V x * U * 2 ^ (d + k + 1) = 2 * (q * n + ρ) * 2 ^ (e + u) * 2 ^ d := by
      rw [hU, ← x2, Nat.mul_comm q n, hdm, Nat.pow_succ, Nat.pow_add, Nat.pow_add]
      generalize 2 ^ u = t
      generalize 2 ^ e = a
      generalize 2 ^ d = b
      generalize 2 ^ k = c
      simp only [Nat.mul_assoc, Nat.mul_comm, Nat.mul_left_comm]
    rw [this]
    exact h6

end Go.Proofs.Ytmkkkddadpcmeaa
