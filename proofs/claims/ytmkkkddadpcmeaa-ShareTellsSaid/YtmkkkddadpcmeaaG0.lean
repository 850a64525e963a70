/-
  What weights count together is at most 1 and once 1; their sum, the quotas and the quotas' floors are fixed, and small: of 1 to 64 weights, each a word of 64 bits, and at most 512 cells.
-/
import Derived.Test.YtmkkkddadpcmeaaA8
import Derived.Test.YtmkkkddadpcmeaaF3
namespace Go.Proofs.Ytmkkkddadpcmeaa
open Go.RowKit Ieee

/-- A word for a whole number. -/
theorem int_word (k : Nat) (h0 : 0 < k) (hk : k < 9007199254740992) : ∃ s, V s = k * U ∧ s < infR := by
  have hl1 : 2 ^ k.log2 ≤ k := Nat.log2_self_le (by omega)
  have hl2 : k < 2 ^ (k.log2 + 1) := Nat.lt_log2_self
  have hl : k.log2 ≤ 52 := by
    have : k.log2 < 53 := (Nat.pow_lt_pow_iff_right (show 1 < 2 by omega)).1 (by rw [pow53]; omega)
    omega
  obtain ⟨u, hu, hU⟩ := U_pow
  have c1 : 4503599627370496 ≤ k * 2 ^ (52 - k.log2) := by
    have : 2 ^ k.log2 * 2 ^ (52 - k.log2) ≤ k * 2 ^ (52 - k.log2) := Nat.mul_le_mul_right _ hl1
    rw [← Nat.pow_add, show k.log2 + (52 - k.log2) = 52 by omega, pow52] at this
    exact this
  have c2 : k * 2 ^ (52 - k.log2) < 9007199254740992 := by
    have : k * 2 ^ (52 - k.log2) < 2 ^ (k.log2 + 1) * 2 ^ (52 - k.log2) := Nat.mul_lt_mul_of_pos_right hl2 (Nat.two_pow_pos _)
    rw [← Nat.pow_add, show k.log2 + 1 + (52 - k.log2) = 53 by omega, pow53] at this
    exact this
  refine ⟨(u - 52 + k.log2) * 4503599627370496 + k * 2 ^ (52 - k.log2), ?_, ?_⟩
  · have ex : 52 - k.log2 + (u - 52 + k.log2) = u := by clear hU; omega
    rw [V_parts _ _ (by clear hU; omega) (Or.inr c1), hU, Nat.mul_assoc, ← Nat.pow_add, ex]
  · generalize k * 2 ^ (52 - k.log2) = z at *
    have : u - 52 + k.log2 ≤ 1074 := by clear hU; omega
    have := Nat.mul_le_mul_right 4503599627370496 this
    clear hU
    unfold infR
    omega

theorem V_one : V one = U := by
  obtain ⟨u, hu, hU⟩ := U_pow
  have e : one = (u - 52) * 4503599627370496 + 4503599627370496 := by unfold one; rw [hu]
  have ex : 52 + (u - 52) = u := by clear hU; omega
  have eq : 4503599627370496 * 2 ^ (u - 52) = 2 ^ u := by rw [← pow52, ← Nat.pow_add, ex]
  rw [e, V_parts _ _ (by decide) (Or.inr (Nat.le_refl _)), hU, eq]

theorem one_fin : one < infR := by decide

theorem floatOfInt_rv (N : Nat) : ∃ r, floatOfInt .f64 (N : Int) = min r infR ∧ RV (N * U) 1 r := by
  obtain ⟨u, hu, hU⟩ := U_pow
  obtain ⟨r, h1, h2⟩ := nearest_rv N u 0
  refine ⟨r, ?_, ?_⟩
  · have p0 : -1074 - ((0 : Nat) : Int) + (u : Int) = 0 := by clear hU h1 h2; omega
    have p1 : decide ((N : Int) < 0) = false := decide_eq_false (by omega)
    rw [← h1, p0]
    unfold floatOfInt FloatKind.nearest FloatKind.encode
    rw [p1]
    rfl
  · rw [hU]; rwa [Nat.pow_zero] at h2

/-- The word of a number of cells. -/
theorem floatOfInt_fin (N : Nat) (hN : N ≤ 512) : ∃ s, floatOfInt .f64 (N : Int) = s ∧ V s = N * U ∧ s < infR := by
  obtain ⟨r, h1, h2⟩ := floatOfInt_rv N
  rcases Nat.eq_zero_or_pos N with h | h
  · subst h
    have : r = 0 := h2.eq (by omega) (by rw [V_zero]; omega)
    subst this
    exact ⟨0, by rw [h1]; rfl, by rw [V_zero]; omega, by decide⟩
  · obtain ⟨s, hs, hf⟩ := int_word N h (by omega)
    have : r = s := h2.eq (by omega) (by rw [hs, Nat.mul_one])
    subst this
    exact ⟨r, by rw [h1, Nat.min_eq_left (by omega)], hs, hf⟩

theorem Pos.word {x : Nat} (h : Pos x) (hx : x < 18446744073709551616) : x = rung x := by
  have := h.plus
  unfold ngv at this
  unfold rung
  simp at this
  omega

theorem mx_word {x y : Nat} (hx : Pos x) (hy : Pos y) (wx : x < 18446744073709551616) (wy : y < 18446744073709551616) : x ≤ mx x y ∧ y ≤ mx x y := by
  have e1 := hx.word wx
  have e2 := hy.word wy
  unfold mx
  rw [fo_key hx.num hy.num, hx.kx, hy.kx]
  rcases Int.lt_trichotomy (rung x : Int) (rung y) with h | h | h
  · rw [cmp_lt h]; simp only; omega
  · rw [cmp_eq h]; simp only; split <;> omega
  · rw [cmp_gt h]; simp only; omega

/-- The greatest is none of them below, and one of them. -/
theorem max_word (C : Nat → Nat) (hC : ∀ j, Pos (C j)) (wC : ∀ j, C j < 18446744073709551616) (k : Nat) : (∀ j, j ≤ k → C j ≤ maxTo C k) ∧ ∃ j, j ≤ k ∧ C j = maxTo C k := by
  induction k with
  | zero => exact ⟨fun j hj => by have : j = 0 := by omega
                                  subst this; exact Nat.le_refl _, 0, Nat.le_refl _, rfl⟩
  | succ k ih =>
    obtain ⟨h1, j0, h2, h3⟩ := ih
    have hw : maxTo C k < 18446744073709551616 := by rw [← h3]; exact wC j0
    have hm := mx_word (max_pos C hC k) (hC (k + 1)) hw (wC (k + 1))
    refine ⟨fun j hj => ?_, ?_⟩
    · show C j ≤ mx (maxTo C k) (C (k + 1))
      by_cases e : j = k + 1
      · subst e; exact hm.2
      · exact Nat.le_trans (h1 j (by omega)) hm.1
    · rcases mx_or (maxTo C k) (C (k + 1)) (max_pos C hC k).num (hC (k + 1)).num with h | h
      · exact ⟨j0, by omega, by rw [h3]; exact h.symm⟩
      · exact ⟨k + 1, Nat.le_refl _, h.symm⟩

theorem V_le {a b : Nat} (h : a ≤ b) : V a ≤ V b := by
  rcases Nat.lt_or_eq_of_le h with h | h
  · exact Nat.le_of_lt (V_lt h)
  · rw [h]; exact Nat.le_refl _

/-- What weights count together: at most 1, and one of them 1. -/
theorem tog_word (f : Nat → Nat) (hf : ∀ j, f j < 18446744073709551616) (n : Nat) (hn : 0 < n) : (∀ j, j < n → tog f n j ≤ one) ∧ ∃ j, j < n ∧ tog f n j = one := by
  obtain ⟨h1, j0, h2, h3⟩ := max_word (fun i => cnt (f i)) (fun i => cnt_pos (f i)) (fun i => by unfold cnt; split <;> have := hf i <;> omega) (n - 1)
  have hp : ∀ i, Pos (cnt (f i)) := fun i => cnt_pos (f i)
  have hG := max_pos (fun i => cnt (f i)) hp (n - 1)
  have hw : ∀ i, cnt (f i) = rung (cnt (f i)) := fun i => (hp i).word (by unfold cnt; split <;> have := hf i <;> omega)
  unfold tog
  generalize maxTo (fun i => cnt (f i)) (n - 1) = G at *
  unfold togG
  have h3' : cnt (f j0) = G := h3
  have hGw : G = rung G := by rw [← h3']; exact hw j0
  by_cases hI : isI G = true
  · simp only [hI, if_true]
    refine ⟨fun j _ => by split <;> simp, j0, by omega, by rw [h3']; simp [hI]⟩
  · simp only [hI]
    by_cases hz : (fo G 0 == some .eq) = true
    · simp only [hz, if_true]
      exact ⟨fun j _ => Nat.le_refl _, j0, by omega, rfl⟩
    · simp only [hz]
      rw [isI_iff hG] at hI
      rw [isZ_iff hG] at hz
      have g1 : G < infR := by have := hG.num; simp at hI; omega
      have g0 : 0 < G := by simp at hz; omega
      have hV : 0 < V G := by have := V_lt g0; rw [V_zero] at this; exact this
      have key : ∀ j, j < n → ∃ r, floatBits .quo .f64 (cnt (f j)) G = some (min r infR) ∧ RV (V (cnt (f j)) * U) (V G) r := fun j hj => quo_fin (Nat.lt_of_le_of_lt (h1 j (by omega)) g1) g1 g0
      refine ⟨fun j hj => ?_, j0, by omega, ?_⟩
      · obtain ⟨r, k1, k2⟩ := key j hj
        have : r ≤ one := k2.le hV (by rw [V_one, Nat.mul_comm U]; exact Nat.mul_le_mul_right _ (V_le (h1 j (by omega))))
        simp only [k1, Option.getD_some, Bool.false_eq_true, if_false]
        omega
      · obtain ⟨r, k1, k2⟩ := key j0 (by omega)
        have : r = one := k2.eq hV (by rw [V_one, Nat.mul_comm U, h3'])
        simp only [k1, Option.getD_some, Bool.false_eq_true, if_false, this]
        decide

end Go.Proofs.Ytmkkkddadpcmeaa
