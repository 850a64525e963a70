/-
  What the table of rows holds, cell by cell. No conditions.
-/
import Derived.Test.YtpiipkpjomdenaaDoorB0
namespace Go.Proofs.YtpiipkpjomdenaaDoor
open Go.RowKit

theorem gRows : Tryd.prog.globalNamed "betony/wide.rows" = some 0 := by kernel_rfl
theorem tRows : (Tryd.prog.globals[0]?).map (·.type) = some 34 := by kernel_rfl

def tabV (i : Nat) : Value := if i % 3 = 2 then .int .i64 (tabL.getD i 0) else .int .i32 (tabL.getD i 0)

/-- The table's cells. -/
def Tbl (w : World) : Prop := ∀ i, i < 75 → w.cell? ⟨0, i, none⟩ = some (tabV i)

theorem flat_rows : flat 5 (Rows.laid_betony_wide_rows (H := Unit)) = (List.range 75).map tabV := by kernel_rfl

/-- A struct of three fields. -/
theorem flat_any_three {H : Type} {enc : TypeId × Value → H} {P : Program} {w : World} {base : Nat} {sp : Nat → Bool} {held : Bool} {k : Nat} {t : TypeId} {f0 f1 f2 : Field}
    (ht : P.underlying t = some (.struct #[f0, f1, f2])) (h0 : f0.offset = 0) (h1 : f1.offset = P.cellsOf f0.type) (h2 : f2.offset = P.cellsOf f0.type + P.cellsOf f1.type) (hc : P.cellsOf t = P.cellsOf f0.type + P.cellsOf f1.type + P.cellsOf f2.type)
    (e0 : ∀ (cs : List Value) (x : DataW H × List MemPlace) (fuel : Nat), DataW.trod enc P w base sp held fuel f0.type cs = some x → cs = flat k x.1)
    (e1 : ∀ (cs : List Value) (x : DataW H × List MemPlace) (fuel : Nat), DataW.trod enc P w base sp held fuel f1.type cs = some x → cs = flat k x.1)
    (e2 : ∀ (cs : List Value) (x : DataW H × List MemPlace) (fuel : Nat), DataW.trod enc P w base sp held fuel f2.type cs = some x → cs = flat k x.1)
    (cs : List Value) (x : DataW H × List MemPlace) (fuel : Nat) (h : DataW.trod enc P w base sp held fuel t cs = some x) : cs = flat (k + 1) x.1 := by
  obtain ⟨xs, m, rfl, rfl, hl, hn, hel⟩ := DataW.trod_struct ht h
  match xs, hn with
  | [x0, x1, x2], _ =>
    have a0 := e0 _ _ _ (hel 0 f0 rfl)
    have a1 := e1 _ _ _ (hel 1 f1 rfl)
    have a2 := e2 _ _ _ (hel 2 f2 rfl)
    show cs = ([x0, x1, x2].map (·.1)).flatMap (flat k)
    simp only [List.map_cons, List.map_nil, List.flatMap_cons, List.flatMap_nil, List.append_nil, ← a0, ← a1, ← a2, h0, h1, h2, List.drop_zero]
    rw [List.take_of_length_le (l := cs.drop (P.cellsOf f0.type + P.cellsOf f1.type)) (by rw [List.length_drop]; omega), ← List.drop_drop, List.take_append_drop, List.take_append_drop]

theorem laid_vars {w : World} (h : laidMetH Tryd.prog [("betony/wide.rows", Rows.laid_betony_wide_rows)] w) : ∃ cs, w.var? Tryd.prog "betony/wide.rows" = some cs ∧ cs.toList = (List.range 75).map tabV := by
  rw [MakeChecks.laidMetH_plain _ _ _ (by kernel_rfl)] at h
  obtain ⟨ps, ⟨g0, t0, cs0, f0, p0, q0, hg0, ht0, hv0, hd0, _⟩, _⟩ := h
  obtain rfl := Option.some.inj (gRows.symm.trans hg0)
  obtain rfl := Option.some.inj (tRows.symm.trans ht0)
  refine ⟨cs0, hv0, ?_⟩
  have u21 := flat_any_int (enc := fun _ => ()) (P := Tryd.prog) (w := w) (base := 0) (sp := fun _ => true) (held := false) 2 Tryd.underlying21
  have u3 := flat_any_int (enc := fun _ => ()) (P := Tryd.prog) (w := w) (base := 0) (sp := fun _ => true) (held := false) 2 Tryd.underlying3
  have b33 := flat_any_three Tryd.underlying33 rfl (by kernel_rfl) (by kernel_rfl) (by kernel_rfl) u21 u21 u3
  have a34 := flat_any_array Tryd.underlying34 (by kernel_rfl) b33
  have := a34 _ _ _ hd0
  rw [this, ← flat_rows]

theorem tbl_of_laid {w : World} (h : laidMetH Tryd.prog [("betony/wide.rows", Rows.laid_betony_wide_rows)] w) : Tbl w := by
  obtain ⟨cs, hv, hc⟩ := laid_vars h
  intro i hi
  have := World.var?_cell gRows hv i
  rw [this, ← Array.getElem?_toList, hc]
  simp [hi]

theorem Tbl.size {w : World} (h : Tbl w) : 0 < w.heap.size := World.block_lt_of_cell? _ _ (h 0 (by decide))

theorem Tbl.stay {w w' : World} (h : Tbl w) (hs : Stay (fun _ => False) w w') : Tbl w' := fun i hi => (hs.cell (p := ⟨0, i, none⟩) h.size (fun h => h)).trans (h i hi)

theorem Tbl.lo {w : World} (h : Tbl w) (k : Nat) (hk : k < 25) : w.cell? ⟨0, k * 3, none⟩ = some (.int .i32 (loN k)) := by
  rw [Nat.mul_comm k 3, h (3 * k) (by omega)]; unfold tabV; rw [if_neg (by omega)]; rfl
theorem Tbl.hi {w : World} (h : Tbl w) (k : Nat) (hk : k < 25) : w.cell? ⟨0, k * 3 + 1, none⟩ = some (.int .i32 (hiN k)) := by
  rw [Nat.mul_comm k 3, h (3 * k + 1) (by omega)]; unfold tabV; rw [if_neg (by omega)]; rfl
theorem Tbl.wd {w : World} (h : Tbl w) (k : Nat) (hk : k < 25) : w.cell? ⟨0, k * 3 + 2, none⟩ = some (.int .i64 (wdN k)) := by
  rw [Nat.mul_comm k 3, h (3 * k + 2) (by omega)]; unfold tabV; rw [if_pos (by omega)]; rfl

/-- The door's own heap meets the condition. -/
theorem door_met (os : Os) (args : Array Value) : laidMetH Tryd.prog [("betony/wide.rows", Rows.laid_betony_wide_rows)] ((World.doorLaid Tryd.prog 400 os).forCall (fun _ _ => 0) ⟨#[], args, []⟩).memory :=
  laidMetH_of_parts3 (fuel := 8) (laidMet_of_run' 8 (by kernel_rfl) (by kernel_rfl)) (by kernel_rfl) (by kernel_rfl)

end Go.Proofs.YtpiipkpjomdenaaDoor
