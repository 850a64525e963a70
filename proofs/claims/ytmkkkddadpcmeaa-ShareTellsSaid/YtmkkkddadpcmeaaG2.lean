/-
  The quotas together are less than one cell more than there are cells, so no whole part is cut short; who counts more has no smaller quota; turns are dealt evenly: of 1 to 64 counts from 0 to 1, one of them 1, and at most 512 cells.
-/
import Derived.Test.YtmkkkddadpcmeaaG1
import Derived.Test.YtmkkkddadpcmeaaE1
namespace Go.Proofs.Ytmkkkddadpcmeaa
open Go.RowKit Ieee

theorem U_big : 4503599627370496 ≤ U := by
  obtain ⟨u, hu, hU⟩ := U_pow
  rw [hU, ← pow52]
  exact Nat.pow_le_pow_right (by omega) (by clear hU; omega)

/-- Rounding's error, where the exact value is at most M units: M over 2^53. -/
theorem RV.off {P Q r M : Nat} (hQ : 0 < Q) (h : RV P Q r) (hM : P ≤ M * Q) (hM1 : 4503599627370496 ≤ M) :
    9007199254740992 * P ≤ 9007199254740992 * (V r * Q) + M * Q ∧ 9007199254740992 * (V r * Q) ≤ 9007199254740992 * P + M * Q := by
  obtain ⟨L, e1, e2, e3⟩ := h.err hQ
  have key : 4503599627370496 * (2 ^ L * Q) ≤ M * Q := by
    rcases e3 with e3 | e3
    · subst e3
      rw [Nat.pow_zero, Nat.one_mul]
      exact Nat.mul_le_mul_right Q hM1
    · exact Nat.le_trans e3 hM
  generalize 2 ^ L * Q = g at *
  generalize V r * Q = v at *
  generalize M * Q = m at *
  omega

theorem sum_err (T : Nat → Nat) (n : Nat) (hn : n ≤ 64) (hT : ∀ j, j < n → T j ≤ one) : ∀ k, k ≤ n → 9007199254740992 * sumN (fun j => V (T j)) k ≤ 9007199254740992 * V (sumTo T k) + k * (64 * U) := by
  intro k
  induction k with
  | zero => intro _; unfold sumN; omega
  | succ k ih =>
    intro hk
    have i := ih (by omega)
    obtain ⟨b1, b2, b3, b4⟩ := sum_word T n hn hT k (by omega)
    obtain ⟨c1, c2⟩ := b4 (by omega)
    have hv := V_le (hT k (by omega))
    rw [V_one] at hv
    have hU := U_big
    have hk64 : k * U ≤ 63 * U := Nat.mul_le_mul_right U (by omega)
    have o := (c2.off (M := 64 * U) Nat.one_pos (by omega) (by omega)).1
    rw [Nat.mul_one, Nat.mul_one] at o
    have e : sumN (fun j => V (T j)) (k + 1) = sumN (fun j => V (T j)) k + V (T k) := rfl
    rw [e, Nat.add_mul, Nat.one_mul]
    generalize k * (64 * U) = z at *
    omega

theorem quo_arith (N u S q t v : Nat) (hu : 0 < u) (hS : u ≤ S) (o1 : 9007199254740992 * (v * u) ≤ 9007199254740992 * (N * u * t) + 512 * u * u) (o2 : 9007199254740992 * (q * S) ≤ 9007199254740992 * (v * u) + 512 * u * S) :
    9007199254740992 * (q * S) ≤ 9007199254740992 * (N * (u * t)) + 1024 * (u * S) := by
  have m2 : u * u ≤ u * S := Nat.mul_le_mul_left u hS
  have e1 : N * u * t = N * (u * t) := Nat.mul_assoc _ _ _
  have e2 : 512 * u * u = 512 * (u * u) := Nat.mul_assoc _ _ _
  have e3 : 512 * u * S = 512 * (u * S) := Nat.mul_assoc _ _ _
  rw [e1, e2] at o1
  rw [e3] at o2
  generalize v * u = x1 at *
  generalize N * (u * t) = x2 at *
  generalize u * u = x3 at *
  generalize u * S = x4 at *
  generalize q * S = x5 at *
  omega

theorem sum_arith (N u n S st q : Nat) (hu : 0 < u) (hS : u ≤ S) (hn : n ≤ 64) (hN : N ≤ 512) (A : 9007199254740992 * st ≤ 9007199254740992 * S + n * (64 * u))
    (B : 9007199254740992 * (q * S) ≤ 9007199254740992 * (N * (u * st)) + n * (1024 * (u * S))) : q < (N + 1) * u := by
  have C := Nat.mul_le_mul_left (N * u) A
  have e1 : N * u * (9007199254740992 * st) = 9007199254740992 * (N * (u * st)) := by rw [Nat.mul_left_comm, Nat.mul_assoc N u]
  have e2 : N * u * (9007199254740992 * S + n * (64 * u)) = 9007199254740992 * (N * (u * S)) + N * n * (64 * (u * u)) := by
    rw [Nat.mul_add, Nat.mul_left_comm, Nat.mul_assoc N u]
    have : N * u * (n * (64 * u)) = N * n * (64 * (u * u)) := by simp only [Nat.mul_assoc, Nat.mul_comm, Nat.mul_left_comm]
    rw [this]
  rw [e1, e2] at C
  have m2 : u * u ≤ u * S := Nat.mul_le_mul_left u hS
  have k1 : N * n ≤ 32768 := Nat.mul_le_mul hN hn
  have k2 : N * n * (64 * (u * u)) ≤ 32768 * (64 * (u * S)) := Nat.mul_le_mul k1 (Nat.mul_le_mul_left 64 m2)
  have k3 : n * (1024 * (u * S)) ≤ 64 * (1024 * (u * S)) := Nat.mul_le_mul_right _ hn
  have hX : 0 < u * S := Nat.mul_pos hu (by omega)
  refine Nat.lt_of_mul_lt_mul_right (a := S) ?_
  have e3 : (N + 1) * u * S = N * (u * S) + u * S := by rw [Nat.mul_assoc, Nat.add_mul, Nat.one_mul]
  rw [e3]
  generalize N * (u * st) = x1 at *
  generalize N * (u * S) = x2 at *
  generalize N * n * (64 * (u * u)) = x3 at *
  generalize n * (1024 * (u * S)) = x4 at *
  generalize u * S = x5 at *
  generalize q * S = x6 at *
  omega

/-- One quota: at most what is its own, and a little. -/
theorem quo_err (T : Nat → Nat) (n N : Nat) (hn : n ≤ 64) (hN : N ≤ 512) (hT : ∀ j, j < n → T j ≤ one) (h1 : ∃ j, j < n ∧ T j = one) (j : Nat) (hj : j < n) :
    9007199254740992 * (V (quoF N T n j) * V (sumTo T n)) ≤ 9007199254740992 * (N * (U * V (T j))) + 1024 * (U * V (sumTo T n)) := by
  obtain ⟨w, p, a1, a2, a3, a4, a5, a6, a7, a8, a9, a10⟩ := quo_word T n N hn hN hT h1 j hj
  have hU := U_big
  have hv := V_le (hT j hj)
  rw [V_one] at hv
  have hS := V_le a10
  rw [V_one] at hS
  have hS0 : 0 < V (sumTo T n) := Nat.lt_of_lt_of_le U_pos hS
  have hNU : N * U ≤ 512 * U := Nat.mul_le_mul_right U hN
  -- the product
  have o1 := (a8.off (M := 512 * U) U_pos (by rw [a2]; exact Nat.mul_le_mul hNU hv) (by omega)).2
  have hle : p ≤ w := a8.le U_pos (Nat.mul_le_mul_left _ hv)
  have hp : V p ≤ N * U := by rw [← a2]; exact V_le hle
  -- the quotient
  have o2 := (a9.off (M := 512 * U) hS0 (Nat.mul_le_mul (Nat.le_trans hp hNU) hS) (by omega)).2
  rw [a2] at o1
  have hU0 := U_pos
  clear a8 a9 hle hU
  generalize U = u at *
  generalize V (sumTo T n) = S at *
  generalize V (quoF N T n j) = q at *
  generalize V (T j) = t at *
  generalize V p = v at *
  exact quo_arith N u S q t v hU0 hS o1 o2

theorem sumN_mono (f g : Nat → Nat) (n : Nat) (h : ∀ j, j < n → f j ≤ g j) : sumN f n ≤ sumN g n := by
  induction n with
  | zero => exact Nat.le_refl _
  | succ n ih =>
    have a := ih (fun j hj => h j (by omega))
    have b := h n (by omega)
    show sumN f n + f n ≤ sumN g n + g n
    omega

theorem sumN_mul (f : Nat → Nat) (c n : Nat) : sumN (fun j => f j * c) n = sumN f n * c := by
  induction n with
  | zero => show 0 = 0 * c; rw [Nat.zero_mul]
  | succ n ih => show sumN _ n + f n * c = (sumN f n + f n) * c; rw [ih, Nat.add_mul]

theorem sumN_mull (f : Nat → Nat) (c n : Nat) : sumN (fun j => c * f j) n = c * sumN f n := by
  induction n with
  | zero => show 0 = c * 0; rfl
  | succ n ih => show sumN _ n + c * f n = c * (sumN f n + f n); rw [ih, Nat.mul_add]

theorem sumN_const (c n : Nat) : sumN (fun _ => c) n = n * c := by
  induction n with
  | zero => show 0 = 0 * c; rw [Nat.zero_mul]
  | succ n ih => show sumN _ n + c = (n + 1) * c; rw [ih, Nat.add_mul, Nat.one_mul]

/-- ALL QUOTAS TOGETHER: less than one cell more than there are. -/
theorem quotas_sum (T : Nat → Nat) (n N : Nat) (hn : n ≤ 64) (hN : N ≤ 512) (hT : ∀ j, j < n → T j ≤ one) (h1 : ∃ j, j < n ∧ T j = one) : sumN (fun j => V (quoF N T n j)) n < (N + 1) * U := by
  have h1' := h1
  obtain ⟨j0, hj0, _⟩ := h1'
  obtain ⟨_, _, _, _, _, _, _, _, _, _, _, a10⟩ := quo_word T n N hn hN hT h1 j0 hj0
  have hS := V_le a10
  rw [V_one] at hS
  have A := sum_err T n hn hT n (Nat.le_refl _)
  have B := sumN_mono (fun j => 9007199254740992 * (V (quoF N T n j) * V (sumTo T n))) (fun j => 9007199254740992 * (N * (U * V (T j))) + 1024 * (U * V (sumTo T n))) n (fun j hj => quo_err T n N hn hN hT h1 j hj)
  rw [sumN_mull, sumN_mul, sumN_add, sumN_mull, sumN_mull, sumN_mull, sumN_const] at B
  exact sum_arith N U n (V (sumTo T n)) _ _ U_pos hS hn hN A B

end Go.Proofs.Ytmkkkddadpcmeaa
