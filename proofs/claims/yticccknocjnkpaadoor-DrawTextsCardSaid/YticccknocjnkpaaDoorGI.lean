/-
  How many cells a rune takes, plainly: the document's two lists, and the code's one table. No conditions.
  What the table of rows holds, cell by cell. No conditions.
-/
import Derived.Test.YticccknocjnkpaaDoorG0
import Derived.Test.YticccknocjnkpaaDoorCards
namespace Go.Proofs.YticccknocjnkpaaDoor.Wide
open Go.RowKit

/-- Is a number in one of the rows? The list has the bounds of each, one behind the other. -/
def inF : List Int → Int → Bool
  | a :: b :: r, v => (decide (a ≤ v) && decide (v ≤ b)) || inF r v
  | _, _ => false

def marksL : List Int := [768, 879, 1155, 1161, 1425, 1469, 1552, 1562, 1611, 1631, 8203, 8207, 8400, 8432, 65024, 65039, 65056, 65071]
def widesL : List Int := [4352, 4447, 11904, 12350, 12353, 13311, 13312, 19903, 19968, 40959, 40960, 42191, 44032, 55203, 63744, 64255, 65072, 65135, 65280, 65376, 65504, 65510, 127744, 128591, 129280, 129535, 131072, 262141]

/-- How many cells a rune takes, as the document says. -/
def wid (v : Int) : Int :=
  if v < 32 ∨ (127 ≤ v ∧ v ≤ 159) ∨ 1114111 < v then -1
  else if inF marksL v then 0 else if inF widesL v then 2 else 1

/-- The table, number by number. -/
def tabL : List Int := [0, 31, -1, 127, 159, -1, 768, 879, 0, 1155, 1161, 0, 1425, 1469, 0, 1552, 1562, 0, 1611, 1631, 0, 4352, 4447, 2, 8203, 8207, 0, 8400, 8432, 0, 11904, 12350, 2, 12353, 13311, 2, 13312, 19903, 2, 19968, 40959, 2, 40960, 42191, 2, 44032, 55203, 2, 63744, 64255, 2, 65024, 65039, 0, 65056, 65071, 0, 65072, 65135, 2, 65280, 65376, 2, 65504, 65510, 2, 127744, 128591, 2, 129280, 129535, 2, 131072, 262141, 2]
def loN (i : Nat) : Int := tabL.getD (3 * i) 0
def hiN (i : Nat) : Int := tabL.getD (3 * i + 1) 0
def wdN (i : Nat) : Int := tabL.getD (3 * i + 2) 0

theorem hi_mono (i j : Nat) (h : i ≤ j) (hj : j < 25) : hiN i ≤ hiN j := by
  have : ((List.range 25).all fun j => (List.range (j + 1)).all fun i => decide (hiN i ≤ hiN j)) = true := by decide +kernel
  have h1 := List.all_eq_true.1 this j (by simpa using hj)
  have h2 := List.all_eq_true.1 h1 i (by simp; omega)
  simpa using h2

/-- What a search by halves finds: the first row that ends not ahead of r. -/
def First (r : Int) (k : Nat) : Prop := k ≤ 25 ∧ (∀ t, t < k → hiN t < r) ∧ (∀ t, k ≤ t → t < 25 → r ≤ hiN t)

/-- What the code makes of it. -/
def codeW (r : Int) (k : Nat) : Int := if k < 25 ∧ loN k ≤ r then wdN k else 1

theorem wid_ge (v : Int) : -1 ≤ wid v ∧ wid v ≤ 2 := by
  unfold wid; split
  · omega
  · split
    · omega
    · split <;> omega

theorem codeW_eq (r : Int) (k : Nat) (h0 : 0 ≤ r) (h1 : r ≤ 1114111) (h : First r k) : codeW r k = wid r := by
  obtain ⟨hk, ha, hb⟩ := h
  have A : 0 < k → hiN (k - 1) < r := fun h => ha _ (by omega)
  have B : k < 25 → r ≤ hiN k := fun h => hb _ (Nat.le_refl _) h
  clear ha hb
  unfold codeW wid
  have hk' : k = 0 ∨ k = 1 ∨ k = 2 ∨ k = 3 ∨ k = 4 ∨ k = 5 ∨ k = 6 ∨ k = 7 ∨ k = 8 ∨ k = 9 ∨ k = 10 ∨ k = 11 ∨ k = 12 ∨ k = 13 ∨ k = 14 ∨ k = 15 ∨ k = 16 ∨ k = 17 ∨ k = 18 ∨ k = 19 ∨ k = 20 ∨ k = 21 ∨ k = 22 ∨ k = 23 ∨ k = 24 ∨ k = 25 := by omega
  clear hk
  rcases hk' with rfl | rfl | rfl | rfl | rfl | rfl | rfl | rfl | rfl | rfl | rfl | rfl | rfl | rfl | rfl | rfl | rfl | rfl | rfl | rfl | rfl | rfl | rfl | rfl | rfl | rfl
  all_goals
    simp [hiN, tabL] at A B
    simp [loN, wdN, tabL, inF, marksL, widesL]
    (repeat' split) <;> first | rfl | omega

/-- A rune's width in a text. -/
def cel (v : Int) : Int := max 0 (wid v)

theorem cel_bd (v : Int) : 0 ≤ cel v ∧ cel v ≤ 2 := by
  have := wid_ge v
  unfold cel; omega

def sumC : List Int → Int
  | [] => 0
  | x :: l => cel x + sumC l

theorem sumC_append (a b : List Int) : sumC (a ++ b) = sumC a + sumC b := by
  induction a with
  | nil => simp [sumC]
  | cons x a ih => simp only [List.cons_append, sumC, ih]; omega

theorem sumC_bd (l : List Int) : 0 ≤ sumC l ∧ sumC l ≤ 2 * l.length := by
  induction l with
  | nil => simp [sumC]
  | cons x a ih => have := cel_bd x; simp only [sumC, List.length_cons]; omega

theorem sumC_take (l : List Int) (k : Nat) (h : k < l.length) : sumC (l.take (k + 1)) = sumC (l.take k) + cel (l.getD k 0) := by
  rw [List.take_succ_eq_append_getElem h, sumC_append, List.getD_eq_getElem?_getD, List.getElem?_eq_getElem h]
  simp [sumC]

theorem sumC_mono (l : List Int) (i j : Nat) (h : i ≤ j) : sumC (l.take i) ≤ sumC (l.take j) := by
  have e : l.take j = l.take i ++ (l.take j).drop i := by
    conv => lhs; rw [← List.take_append_drop i (l.take j)]
    rw [List.take_take, Nat.min_eq_left h]
  rw [e, sumC_append]
  have := sumC_bd ((l.take j).drop i)
  omega

/-- How many runes fit. -/
def IsFit (l : List Int) (n : Int) (k : Nat) : Prop := k ≤ l.length ∧ (∀ j, 0 < j → j ≤ k → sumC (l.take j) ≤ n) ∧ (k = l.length ∨ n < sumC (l.take (k + 1)))

theorem isFit_one {l : List Int} {n : Int} {k k' : Nat} (h : IsFit l n k) (h' : IsFit l n k') : k = k' := by
  obtain ⟨a, b, c⟩ := h
  obtain ⟨a', b', c'⟩ := h'
  rcases Nat.lt_trichotomy k k' with g | g | g
  · exfalso
    have := b' (k + 1) (by omega) (by omega)
    omega
  · exact g
  · exfalso
    have := b (k' + 1) (by omega) (by omega)
    omega

end Go.Proofs.YticccknocjnkpaaDoor.Wide

namespace Go.Proofs.YticccknocjnkpaaDoor.Wide
open Go.RowKit

theorem gRows : Tryd.prog.globalNamed "betony/wide.rows" = some 0 := by kernel_rfl
theorem tRows : (Tryd.prog.globals[0]?).map (·.type) = some 78 := by kernel_rfl

def tabV (i : Nat) : Value := if i % 3 = 2 then .int .i64 (tabL.getD i 0) else .int .i32 (tabL.getD i 0)

/-- The table's cells. -/
def Tbl (w : World) : Prop := ∀ i, i < 75 → w.cell? ⟨0, i, none⟩ = some (tabV i)

theorem flat_rows : flat 5 (Rows.laid_betony_wide_rows (H := Unit)) = (List.range 75).map tabV := by kernel_rfl

/-- A struct of three fields. -/
theorem flat_any_three {H : Type} {enc : TypeId × Value → H} {P : Program} {w : World} {base : Nat} {sp : Nat → Bool} {held : Bool} {k : Nat} {t : TypeId} {f0 f1 f2 : Field}
    (ht : P.underlying t = some (.struct #[f0, f1, f2])) (h0 : f0.offset = 0) (h1 : f1.offset = P.cellsOf f0.type) (h2 : f2.offset = P.cellsOf f0.type + P.cellsOf f1.type) (hc : P.cellsOf t = P.cellsOf f0.type + P.cellsOf f1.type + P.cellsOf f2.type)
    (e0 : ∀ (cs : List Value) (x : DataW H × List MemPlace) (fuel : Nat), DataW.trod enc P w base sp held fuel f0.type cs = some x → cs = flat k x.1)
    (e1 : ∀ (cs : List Value) (x : DataW H × List MemPlace) (fuel : Nat), DataW.trod enc P w base sp held fuel f1.type cs = some x → cs = flat k x.1)
    (e2 : ∀ (cs : List Value) (x : DataW H × List MemPlace) (fuel : Nat), DataW.trod enc P w base sp held fuel f2.type cs = some x → cs = flat k x.1)
    (cs : List Value) (x : DataW H × List MemPlace) (fuel : Nat) (h : DataW.trod enc P w base sp held fuel t cs = some x) : cs = flat (k + 1) x.1 := by
  obtain ⟨xs, m, rfl, rfl, hl, hn, hel⟩ := DataW.trod_struct ht h
  match xs, hn with
  | [x0, x1, x2], _ =>
    have a0 := e0 _ _ _ (hel 0 f0 rfl)
    have a1 := e1 _ _ _ (hel 1 f1 rfl)
    have a2 := e2 _ _ _ (hel 2 f2 rfl)
    show cs = ([x0, x1, x2].map (·.1)).flatMap (flat k)
    simp only [List.map_cons, List.map_nil, List.flatMap_cons, List.flatMap_nil, List.append_nil, ← a0, ← a1, ← a2, h0, h1, h2, List.drop_zero]
    rw [List.take_of_length_le (l := cs.drop (P.cellsOf f0.type + P.cellsOf f1.type)) (by rw [List.length_drop]; omega), ← List.drop_drop, List.take_append_drop, List.take_append_drop]

theorem laid_vars {w : World} {rest : List (String × DataW Unit)} {ps : List MemPlace} (h : DataW.LaidVars Tryd.prog w (("betony/wide.rows", Rows.laid_betony_wide_rows) :: rest) ps) : ∃ cs, w.var? Tryd.prog "betony/wide.rows" = some cs ∧ cs.toList = (List.range 75).map tabV := by
  obtain ⟨g0, t0, cs0, f0, p0, q0, hg0, ht0, hv0, hd0, _⟩ := h
  obtain rfl := Option.some.inj (gRows.symm.trans hg0)
  obtain rfl := Option.some.inj (tRows.symm.trans ht0)
  refine ⟨cs0, hv0, ?_⟩
  have u21 := flat_any_int (enc := fun _ => ()) (P := Tryd.prog) (w := w) (base := 0) (sp := fun _ => true) (held := false) 2 Tryd.underlying21
  have u3 := flat_any_int (enc := fun _ => ()) (P := Tryd.prog) (w := w) (base := 0) (sp := fun _ => true) (held := false) 2 Tryd.underlying3
  have b33 := flat_any_three Tryd.underlying77 rfl (by kernel_rfl) (by kernel_rfl) (by kernel_rfl) u21 u21 u3
  have a34 := flat_any_array Tryd.underlying78 (by kernel_rfl) b33
  have := a34 _ _ _ hd0
  rw [this, ← flat_rows]

theorem tbl_of_laid {w : World} {rest : List (String × DataW Unit)} {ps : List MemPlace} (h : DataW.LaidVars Tryd.prog w (("betony/wide.rows", Rows.laid_betony_wide_rows) :: rest) ps) : Tbl w := by
  obtain ⟨cs, hv, hc⟩ := laid_vars h
  intro i hi
  have := World.var?_cell gRows hv i
  rw [this, ← Array.getElem?_toList, hc]
  simp [hi]

theorem Tbl.size {w : World} (h : Tbl w) : 0 < w.heap.size := World.block_lt_of_cell? _ _ (h 0 (by decide))

theorem Tbl.stay {w w' : World} (h : Tbl w) (hs : Stay (fun _ => False) w w') : Tbl w' := fun i hi => (hs.cell (p := ⟨0, i, none⟩) h.size (fun h => h)).trans (h i hi)

theorem Tbl.lo {w : World} (h : Tbl w) (k : Nat) (hk : k < 25) : w.cell? ⟨0, k * 3, none⟩ = some (.int .i32 (loN k)) := by
  rw [Nat.mul_comm k 3, h (3 * k) (by omega)]; unfold tabV; rw [if_neg (by omega)]; rfl
theorem Tbl.hi {w : World} (h : Tbl w) (k : Nat) (hk : k < 25) : w.cell? ⟨0, k * 3 + 1, none⟩ = some (.int .i32 (hiN k)) := by
  rw [Nat.mul_comm k 3, h (3 * k + 1) (by omega)]; unfold tabV; rw [if_neg (by omega)]; rfl
theorem Tbl.wd {w : World} (h : Tbl w) (k : Nat) (hk : k < 25) : w.cell? ⟨0, k * 3 + 2, none⟩ = some (.int .i64 (wdN k)) := by
  rw [Nat.mul_comm k 3, h (3 * k + 2) (by omega)]; unfold tabV; rw [if_pos (by omega)]; rfl

/-- The door's own heap meets the condition. -/
theorem door_met (os : Os) (args : Array Value) : laidMetH Tryd.prog [("betony/wide.rows", Rows.laid_betony_wide_rows)] ((World.doorLaid Tryd.prog 400 os).forCall (fun _ _ => 0) ⟨#[], args, []⟩).memory :=
  laidMetH_of_parts3 (fuel := 8) (laidMet_of_run' 8 (by kernel_rfl) (by kernel_rfl)) (by kernel_rfl) (by kernel_rfl)

end Go.Proofs.YticccknocjnkpaaDoor.Wide
