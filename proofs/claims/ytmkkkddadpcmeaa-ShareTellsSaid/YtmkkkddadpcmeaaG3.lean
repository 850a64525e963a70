/-
  Of two weights the one that counts more gets at most one cell less than the other one: of 1 to 64 counts from 0 to 1, one of them 1, and at most 512 cells.
-/
import Derived.Test.YtmkkkddadpcmeaaG2
namespace Go.Proofs.Ytmkkkddadpcmeaa
open Go.RowKit Ieee

/-- No whole part is cut short where they are together no more than there is. -/
theorem left_all (N : Nat) (k : Nat → Nat) (n : Nat) (h : sumN k n ≤ N) : ∀ j, j ≤ n → leftAt N k j = N - sumN k j := by
  intro j
  induction j with
  | zero => intro _; rfl
  | succ j ih =>
    intro hj
    have i := ih (by omega)
    have l1 := sumN_le k hj
    have l2 : sumN k (j + 1) = sumN k j + k j := rfl
    unfold leftAt
    rw [i]
    omega

theorem out_all (N : Nat) (k : Nat → Nat) (n : Nat) (h : sumN k n ≤ N) (j : Nat) (hj : j < n) : outAt N k j = k j := by
  have i := left_all N k n h j (by omega)
  have l1 := sumN_le k (show j + 1 ≤ n from hj)
  have l2 : sumN k (j + 1) = sumN k j + k j := rfl
  unfold outAt
  rw [i]
  omega

/-- Turns are dealt evenly. -/
theorem turns_even (E : Nat → Nat) (n : Nat) (h0 : 0 < n) (inj : ∀ k l, k < n → l < n → E k = E l → k = l) (L : Nat) : ∃ c r, L = n * c + r ∧ r < n ∧ ∀ p, p < n → turnsTo E n L (E p) = c + if p < r then 1 else 0 := by
  induction L with
  | zero => exact ⟨0, 0, rfl, h0, fun p _ => by rw [if_neg (by omega)]; rfl⟩
  | succ L ih =>
    obtain ⟨c, r, h1, h2, h3⟩ := ih
    have hr : L % n = r := by rw [h1, Nat.mul_add_mod, Nat.mod_eq_of_lt h2]
    have step : ∀ p, p < n → turnsTo E n (L + 1) (E p) = (c + if p < r then 1 else 0) + if p = r then 1 else 0 := by
      intro p hp
      show turnsTo E n L (E p) + (if E (L % n) = E p then 1 else 0) = _
      rw [h3 p hp, hr]
      by_cases e : p = r
      · subst e; rw [if_pos rfl, if_pos rfl]
      · rw [if_neg (fun h => e (inj r p h2 hp h).symm), if_neg e]
    by_cases e : r + 1 < n
    · refine ⟨c, r + 1, by omega, e, fun p hp => ?_⟩
      rw [step p hp]
      by_cases e1 : p < r
      · rw [if_pos e1, if_neg (by omega), if_pos (by omega)]
      · by_cases e2 : p = r
        · rw [if_neg e1, if_pos e2, if_pos (by omega)]
        · rw [if_neg e1, if_neg e2, if_neg (by omega)]
    · refine ⟨c + 1, 0, by rw [Nat.mul_add, Nat.mul_one]; omega, h0, fun p hp => ?_⟩
      rw [step p hp, if_neg (show ¬ p < 0 by omega)]
      by_cases e1 : p < r
      · rw [if_pos e1, if_neg (by omega)]
      · rw [if_neg e1, if_pos (by omega)]

theorem Order.inj {n : Nat} {R E : Nat → Nat} (h : Order n R E) (hR : ∀ j, R j < 18446744073709551616) : ∀ k l, k < n → l < n → E k = E l → k = l := by
  intro k l hk hl he
  have hc := cfR_cmp R hR
  rcases Nat.lt_trichotomy k l with e | e | e
  · exact absurd (h.chain k l (Nat.zero_le _) e hl) (fun p => by rw [he] at p; exact p.irrefl hc)
  · exact e
  · exact absurd (h.chain l k (Nat.zero_le _) e hk) (fun p => by rw [he] at p; exact p.irrefl hc)

theorem turns_near {n : Nat} {R E : Nat → Nat} (h : Order n R E) (hR : ∀ j, R j < 18446744073709551616) (h0 : 0 < n) (L i k : Nat) (hi : i < n) (hk : k < n) : turnsTo E n L k ≤ turnsTo E n L i + 1 := by
  obtain ⟨c, r, _, _, h3⟩ := turns_even E n h0 (h.inj hR) L
  obtain ⟨p, p1, p2⟩ := (h.all i).2 hi
  obtain ⟨q, q1, q2⟩ := (h.all k).2 hk
  have a := h3 p p1
  have b := h3 q q1
  rw [p2] at a
  rw [q2] at b
  rw [a, b]
  split <;> split <;> omega

theorem who_word (T : Nat → Nat) (n N : Nat) (hn : n ≤ 64) (hN : N ≤ 512) (hT : ∀ j, j < n → T j ≤ one) (h1 : ∃ j, j < n ∧ T j = one) (j : Nat) (hj : j < n) : whoF (quoF N T n j) = V (quoF N T n j) / U := by
  obtain ⟨w, p, a1, a2, a3, a4, a5, a6, a7, a8, a9, a10⟩ := quo_word T n N hn hN hT h1 j hj
  unfold whoF
  rw [whole_fin _ a6 (Nat.le_trans (div_le_of N _ a7) hN)]
  rfl

theorem who_sum (T : Nat → Nat) (n N : Nat) (hn : n ≤ 64) (hN : N ≤ 512) (hT : ∀ j, j < n → T j ≤ one) (h1 : ∃ j, j < n ∧ T j = one) : sumN (fun j => whoF (quoF N T n j)) n ≤ N := by
  have a := quotas_sum T n N hn hN hT h1
  have b := sumN_mono (fun j => whoF (quoF N T n j) * U) (fun j => V (quoF N T n j)) n (fun j hj => by
    show whoF (quoF N T n j) * U ≤ V (quoF N T n j)
    rw [who_word T n N hn hN hT h1 j hj]
    exact Nat.div_mul_le_self _ _)
  rw [sumN_mul] at b
  have c : sumN (fun j => whoF (quoF N T n j)) n < N + 1 := Nat.lt_of_mul_lt_mul_right (Nat.lt_of_le_of_lt b a)
  omega

theorem quo_mono (T : Nat → Nat) (n N : Nat) (hn : n ≤ 64) (hN : N ≤ 512) (hT : ∀ j, j < n → T j ≤ one) (h1 : ∃ j, j < n ∧ T j = one) (i k : Nat) (hi : i < n) (hk : k < n) (h : T k ≤ T i) : quoF N T n k ≤ quoF N T n i := by
  obtain ⟨w, p, a1, a2, a3, a4, a5, a6, a7, a8, a9, a10⟩ := quo_word T n N hn hN hT h1 i hi
  obtain ⟨w', p', b1, b2, b3, b4, b5, b6, b7, b8, b9, b10⟩ := quo_word T n N hn hN hT h1 k hk
  have hS := V_le a10
  rw [V_one] at hS
  have hS0 : 0 < V (sumTo T n) := Nat.lt_of_lt_of_le U_pos hS
  have e : w' = w := by rw [← a1, ← b1]
  subst e
  have hp : p' ≤ p := b8.mono U_pos U_pos a8 (Nat.mul_le_mul_right U (Nat.mul_le_mul_left _ (V_le h)))
  exact b9.mono hS0 hS0 a9 (Nat.mul_le_mul_right _ (Nat.mul_le_mul_right U (V_le hp)))

/-- WHO COUNTS MORE GETS AT MOST ONE LESS. -/
theorem share_near (T : Nat → Nat) (n N : Nat) (hn : n ≤ 64) (hN : N ≤ 512) (hT : ∀ j, j < n → T j ≤ one) (h1 : ∃ j, j < n ∧ T j = one) (E : Nat → Nat) (hO : Order n (fun j => restF (quoF N T n j)) E)
    (i k : Nat) (hi : i < n) (hk : k < n) (h : T k ≤ T i) : shareF N T n E k ≤ shareF N T n E i + 1 := by
  have hs := who_sum T n N hn hN hT h1
  have ht := turns_near hO (fun j => restF_lt _) (by omega) (leftAt N (fun i => whoF (quoF N T n i)) n) i k hi hk
  unfold shareF
  rw [out_all N _ n hs i hi, out_all N _ n hs k hk, who_word T n N hn hN hT h1 i hi, who_word T n N hn hN hT h1 k hk]
  have hw := Nat.div_le_div_right (c := U) (V_le (quo_mono T n N hn hN hT h1 i k hi hk h))
  generalize V (quoF N T n k) / U = x at *
  generalize V (quoF N T n i) / U = y at *
  omega

end Go.Proofs.Ytmkkkddadpcmeaa
