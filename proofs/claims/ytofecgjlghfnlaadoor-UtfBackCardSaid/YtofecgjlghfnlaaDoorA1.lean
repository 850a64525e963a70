/-
  What the table of forms holds, cell by cell; the bounds of a place. No conditions.
-/
import Derived.Test.YtofecgjlghfnlaaDoorA0
namespace Go.Proofs.YtofecgjlghfnlaaDoor
open Go.RowKit

theorem gForms : Tryd.prog.globalNamed "betony/utf.forms" = some 0 := by kernel_rfl
theorem tForms : (Tryd.prog.globals[0]?).map (·.type) = some 52 := by kernel_rfl

/-- The numbers of the table: size and eight bounds of each form. -/
def tabN : List Nat := [1, 0, 127, 0, 0, 0, 0, 0, 0, 2, 194, 223, 128, 191, 0, 0, 0, 0, 3, 224, 224, 160, 191, 128, 191, 0, 0, 3, 225, 236, 128, 191, 128, 191, 0, 0, 3, 237, 237, 128, 159, 128, 191, 0, 0, 3, 238, 239, 128, 191, 128, 191, 0, 0, 4, 240, 240, 144, 191, 128, 191, 128, 191, 4, 241, 243, 128, 191, 128, 191, 128, 191, 4, 244, 244, 128, 143, 128, 191, 128, 191]

def tabV (i : Nat) : Value := if i % 9 = 0 then .int .i64 (tabN.getD i 0 : Nat) else .int .u8 (tabN.getD i 0 : Nat)

/-- The table's cells. -/
def Tbl (w : World) : Prop := ∀ i, i < 81 → w.cell? ⟨0, i, none⟩ = some (tabV i)

theorem flat_forms : flat 5 (Rows.laid_betony_utf_forms (H := Unit)) = (List.range 81).map tabV := by kernel_rfl

theorem laid_vars {w : World} (h : laidMetH Tryd.prog [("betony/utf.forms", Rows.laid_betony_utf_forms)] w) : ∃ cs, w.var? Tryd.prog "betony/utf.forms" = some cs ∧ cs.toList = (List.range 81).map tabV := by
  rw [MakeChecks.laidMetH_plain _ _ _ (by kernel_rfl)] at h
  obtain ⟨ps, ⟨g0, t0, cs0, f0, p0, q0, hg0, ht0, hv0, hd0, _⟩, _⟩ := h
  obtain rfl := Option.some.inj (gForms.symm.trans hg0)
  obtain rfl := Option.some.inj (tForms.symm.trans ht0)
  refine ⟨cs0, hv0, ?_⟩
  have u5 := flat_any_int (enc := fun _ => ()) (P := Tryd.prog) (w := w) (base := 0) (sp := fun _ => true) (held := false) 0 Tryd.underlying5
  have u3 := flat_any_int (enc := fun _ => ()) (P := Tryd.prog) (w := w) (base := 0) (sp := fun _ => true) (held := false) 2 Tryd.underlying3
  have b48 := flat_any_two Tryd.underlying48 rfl (by kernel_rfl) (by kernel_rfl) u5 u5
  have a49 := flat_any_array Tryd.underlying49 (by kernel_rfl) b48
  have s51 := flat_any_two Tryd.underlying51 rfl (by kernel_rfl) (by kernel_rfl) u3 a49
  have a52 := flat_any_array Tryd.underlying52 (by kernel_rfl) s51
  have := a52 _ _ _ hd0
  rw [this, ← flat_forms]

theorem tbl_of_laid {w : World} (h : laidMetH Tryd.prog [("betony/utf.forms", Rows.laid_betony_utf_forms)] w) : Tbl w := by
  obtain ⟨cs, hv, hc⟩ := laid_vars h
  intro i hi
  have := World.var?_cell gForms hv i
  rw [this, ← Array.getElem?_toList, hc]
  simp [hi]

end Go.Proofs.YtofecgjlghfnlaaDoor
