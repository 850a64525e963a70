/-
  Plain facts on what weights count: numbers from 0 on, whose greatest is one of them, and whose quotients by it are fixed.
-/
import Derived.Test.YtmkkkddadpcmeaaB0
import Derived.Test.YtmkkkddadpcmeaaA2
namespace Go.Proofs.Ytmkkkddadpcmeaa
open Go.RowKit Ieee

theorem fo_key {x y : Nat} (hx : rung x ≤ infR) (hy : rung y ≤ infR) : fo x y = some (compare (kx x) (kx y)) := order_key x y hx hy
theorem fo_some {x y : Nat} (hx : rung x ≤ infR) (hy : rung y ≤ infR) : (fo x y).isSome = true := by rw [fo_key hx hy]; rfl

theorem rung_zero : rung 0 = 0 := by decide
theorem kx_zero : kx 0 = 0 := by decide

/-- A word that is no NaN and not below 0, without a minus. -/
structure Pos (x : Nat) : Prop where
  num : rung x ≤ infR
  plus : ngv x = false

theorem Pos.kx {x : Nat} (h : Pos x) : kx x = rung x := by unfold Ytmkkkddadpcmeaa.kx sg; rw [h.plus]; simp

theorem pos_zero : Pos 0 := ⟨by decide, by decide⟩
theorem pos_one : Pos one := ⟨by decide, by decide⟩

theorem cnt_pos (a : Nat) : Pos (cnt a) := by
  unfold cnt
  rw [isN_iff]
  by_cases h : infR < rung a
  · simp only [h, decide_true, Bool.true_or, if_true]; exact pos_zero
  · have hk := fo_key (x := a) (y := 0) (by omega) (by decide)
    rw [hk, kx_zero]
    simp only [h, decide_false, Bool.false_or]
    rcases Int.lt_trichotomy (kx a) 0 with h1 | h1 | h1
    · rw [cmp_lt h1]; exact pos_zero
    · rw [cmp_eq h1]; exact pos_zero
    · rw [cmp_gt h1]
      refine ⟨by simp; omega, ?_⟩
      simp
      unfold kx sg at h1
      cases hn : ngv a
      · rfl
      · rw [hn] at h1; simp at h1; omega

theorem mx_or (x y : Nat) (hx : rung x ≤ infR) (hy : rung y ≤ infR) : mx x y = x ∨ mx x y = y := by
  unfold mx
  rw [fo_key hx hy]
  rcases Int.lt_trichotomy (kx x) (kx y) with h | h | h
  · rw [cmp_lt h]; exact Or.inr rfl
  · rw [cmp_eq h]
    simp only
    split
    · exact Or.inr rfl
    · exact Or.inl rfl
  · rw [cmp_gt h]; exact Or.inl rfl

theorem max_pos (C : Nat → Nat) (hC : ∀ j, Pos (C j)) : ∀ k, Pos (maxTo C k)
  | 0 => hC 0
  | k + 1 => by
    show Pos (mx (maxTo C k) (C (k + 1)))
    rcases mx_or _ _ (max_pos C hC k).num (hC (k + 1)).num with h | h
    · rw [h]; exact max_pos C hC k
    · rw [h]; exact hC (k + 1)

theorem max_some (C : Nat → Nat) (hC : ∀ j, Pos (C j)) (k : Nat) : (fo (maxTo C k) (C (k + 1))).isSome = true := fo_some (max_pos C hC k).num (hC (k + 1)).num

theorem isI_iff {x : Nat} (h : Pos x) : isI x = decide (rung x = infR) := by
  unfold isI
  rw [fo_key h.num (by decide), h.kx, show kx 9218868437227405311 = 9218868437227405311 by decide]
  have hn := h.num
  rcases Int.lt_trichotomy (rung x : Int) 9218868437227405311 with h1 | h1 | h1
  · rw [cmp_lt h1, decide_eq_false (by unfold infR; omega)]; rfl
  · rw [cmp_eq h1, decide_eq_false (by unfold infR; omega)]; rfl
  · rw [cmp_gt h1, decide_eq_true (by unfold infR at *; omega)]; rfl

theorem isZ_iff {x : Nat} (h : Pos x) : (fo x 0 == some .eq) = decide (rung x = 0) := by
  rw [fo_key h.num (by decide), h.kx, kx_zero]
  rcases Int.lt_trichotomy (rung x : Int) 0 with h1 | h1 | h1
  · omega
  · rw [cmp_eq h1]; simp; omega
  · rw [cmp_gt h1]; simp; omega

theorem quo_some {x y : Nat} (hx : rung x ≤ infR) (hy : rung y < infR) (h0 : rung y ≠ 0) : ∃ r, floatBits .quo .f64 x y = some r := by
  obtain ⟨n, d, hy1, hy2⟩ := read_fin y hy
  have hn : n ≠ 0 := by
    intro e
    subst e
    have h1 := @V_lt_iff 0 (rung y)
    rw [V_zero, ← hy2] at h1
    simp at h1
    exact h0 h1
  show ∃ r, dbl.div x y = some r
  unfold Format.div
  rw [hy1]
  by_cases h : rung x < infR
  · obtain ⟨m, e, hx1, hx2⟩ := read_fin x h
    rw [hx1]
    simp only [Datum.quotient]
    rw [if_neg hn]
    exact ⟨_, rfl⟩
  · rw [read_inf x (by omega)]
    exact ⟨_, rfl⟩

/-- What one counts beside a greatest. -/
def togG (G c : Nat) : Nat := if isI G then (if isI c then one else 0) else if fo G 0 == some .eq then one else (floatBits .quo .f64 c G).getD 0
/-- What each counts beside the others. -/
def tog (f : Nat → Nat) (n j : Nat) : Nat := togG (maxTo (fun i => cnt (f i)) (n - 1)) (cnt (f j))

end Go.Proofs.Ytmkkkddadpcmeaa
