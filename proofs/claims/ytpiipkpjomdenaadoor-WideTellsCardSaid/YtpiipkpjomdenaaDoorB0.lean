/-
  How many cells a rune takes, plainly: the document's two lists, and the code's one table. No conditions.
-/
import Derived.Test.YtpiipkpjomdenaaDoorA0
namespace Go.Proofs.YtpiipkpjomdenaaDoor
open Go.RowKit

/-- Is a number in one of the rows? The list has the bounds of each, one behind the other. -/
def inF : List Int → Int → Bool
  | a :: b :: r, v => (decide (a ≤ v) && decide (v ≤ b)) || inF r v
  | _, _ => false

def marksL : List Int := [768, 879, 1155, 1161, 1425, 1469, 1552, 1562, 1611, 1631, 8203, 8207, 8400, 8432, 65024, 65039, 65056, 65071]
def widesL : List Int := [4352, 4447, 11904, 12350, 12353, 13311, 13312, 19903, 19968, 40959, 40960, 42191, 44032, 55203, 63744, 64255, 65072, 65135, 65280, 65376, 65504, 65510, 127744, 128591, 129280, 129535, 131072, 262141]

/-- How many cells a rune takes, as the document says. -/
def wid (v : Int) : Int :=
  if v < 32 ∨ (127 ≤ v ∧ v ≤ 159) ∨ 1114111 < v then -1
  else if inF marksL v then 0 else if inF widesL v then 2 else 1

/-- The table, number by number. -/
def tabL : List Int := [0, 31, -1, 127, 159, -1, 768, 879, 0, 1155, 1161, 0, 1425, 1469, 0, 1552, 1562, 0, 1611, 1631, 0, 4352, 4447, 2, 8203, 8207, 0, 8400, 8432, 0, 11904, 12350, 2, 12353, 13311, 2, 13312, 19903, 2, 19968, 40959, 2, 40960, 42191, 2, 44032, 55203, 2, 63744, 64255, 2, 65024, 65039, 0, 65056, 65071, 0, 65072, 65135, 2, 65280, 65376, 2, 65504, 65510, 2, 127744, 128591, 2, 129280, 129535, 2, 131072, 262141, 2]
def loN (i : Nat) : Int := tabL.getD (3 * i) 0
def hiN (i : Nat) : Int := tabL.getD (3 * i + 1) 0
def wdN (i : Nat) : Int := tabL.getD (3 * i + 2) 0

theorem hi_mono (i j : Nat) (h : i ≤ j) (hj : j < 25) : hiN i ≤ hiN j := by
  have : ((List.range 25).all fun j => (List.range (j + 1)).all fun i => decide (hiN i ≤ hiN j)) = true := by decide +kernel
  have h1 := List.all_eq_true.1 this j (by simpa using hj)
  have h2 := List.all_eq_true.1 h1 i (by simp; omega)
  simpa using h2

/-- What a search by halves finds: the first row that ends not ahead of r. -/
def First (r : Int) (k : Nat) : Prop := k ≤ 25 ∧ (∀ t, t < k → hiN t < r) ∧ (∀ t, k ≤ t → t < 25 → r ≤ hiN t)

/-- What the code makes of it. -/
def codeW (r : Int) (k : Nat) : Int := if k < 25 ∧ loN k ≤ r then wdN k else 1

theorem wid_ge (v : Int) : -1 ≤ wid v ∧ wid v ≤ 2 := by
  unfold wid; split
  · omega
  · split
    · omega
    · split <;> omega

theorem codeW_eq (r : Int) (k : Nat) (h0 : 0 ≤ r) (h1 : r ≤ 1114111) (h : First r k) : codeW r k = wid r := by
  obtain ⟨hk, ha, hb⟩ := h
  have A : 0 < k → hiN (k - 1) < r := fun h => ha _ (by omega)
  have B : k < 25 → r ≤ hiN k := fun h => hb _ (Nat.le_refl _) h
  clear ha hb
  unfold codeW wid
  have hk' : k = 0 ∨ k = 1 ∨ k = 2 ∨ k = 3 ∨ k = 4 ∨ k = 5 ∨ k = 6 ∨ k = 7 ∨ k = 8 ∨ k = 9 ∨ k = 10 ∨ k = 11 ∨ k = 12 ∨ k = 13 ∨ k = 14 ∨ k = 15 ∨ k = 16 ∨ k = 17 ∨ k = 18 ∨ k = 19 ∨ k = 20 ∨ k = 21 ∨ k = 22 ∨ k = 23 ∨ k = 24 ∨ k = 25 := by omega
  clear hk
  rcases hk' with rfl | rfl | rfl | rfl | rfl | rfl | rfl | rfl | rfl | rfl | rfl | rfl | rfl | rfl | rfl | rfl | rfl | rfl | rfl | rfl | rfl | rfl | rfl | rfl | rfl | rfl
  all_goals
    simp [hiN, tabL] at A B
    simp [loN, wdN, tabL, inF, marksL, widesL]
    (repeat' split) <;> first | rfl | omega

/-- A rune's width in a text. -/
def cel (v : Int) : Int := max 0 (wid v)

theorem cel_bd (v : Int) : 0 ≤ cel v ∧ cel v ≤ 2 := by
  have := wid_ge v
  unfold cel; omega

def sumC : List Int → Int
  | [] => 0
  | x :: l => cel x + sumC l

theorem sumC_append (a b : List Int) : sumC (a ++ b) = sumC a + sumC b := by
  induction a with
  | nil => simp [sumC]
  | cons x a ih => simp only [List.cons_append, sumC, ih]; omega

theorem sumC_bd (l : List Int) : 0 ≤ sumC l ∧ sumC l ≤ 2 * l.length := by
  induction l with
  | nil => simp [sumC]
  | cons x a ih => have := cel_bd x; simp only [sumC, List.length_cons]; omega

theorem sumC_take (l : List Int) (k : Nat) (h : k < l.length) : sumC (l.take (k + 1)) = sumC (l.take k) + cel (l.getD k 0) := by
  rw [List.take_succ_eq_append_getElem h, sumC_append, List.getD_eq_getElem?_getD, List.getElem?_eq_getElem h]
  simp [sumC]

theorem sumC_mono (l : List Int) (i j : Nat) (h : i ≤ j) : sumC (l.take i) ≤ sumC (l.take j) := by
  have e : l.take j = l.take i ++ (l.take j).drop i := by
    conv => lhs; rw [← List.take_append_drop i (l.take j)]
    rw [List.take_take, Nat.min_eq_left h]
  rw [e, sumC_append]
  have := sumC_bd ((l.take j).drop i)
  omega

/-- How many runes fit. -/
def IsFit (l : List Int) (n : Int) (k : Nat) : Prop := k ≤ l.length ∧ (∀ j, 0 < j → j ≤ k → sumC (l.take j) ≤ n) ∧ (k = l.length ∨ n < sumC (l.take (k + 1)))

theorem isFit_one {l : List Int} {n : Int} {k k' : Nat} (h : IsFit l n k) (h' : IsFit l n k') : k = k' := by
  obtain ⟨a, b, c⟩ := h
  obtain ⟨a', b', c'⟩ := h'
  rcases Nat.lt_trichotomy k k' with g | g | g
  · exfalso
    have := b' (k + 1) (by omega) (by omega)
    omega
  · exact g
  · exfalso
    have := b (k' + 1) (by omega) (by omega)
    omega

end Go.Proofs.YtpiipkpjomdenaaDoor
