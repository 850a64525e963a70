/-
  The document of windows: who owns a cell; is it one's own: walked. No conditions.
-/
import Derived.Test.YticccknocjnkpaaDoorG9
namespace Go.Proofs.YticccknocjnkpaaDoor
open Go.RowKit

theorem inB_iff {p : Wn} (h : OkP p) (x y : Int) : inB p.r x y = true ↔ (p.x ≤ x ∧ x < p.x + p.w ∧ p.y ≤ y ∧ y < p.y + p.h) := by
  unfold OkP at h
  unfold inB Wn.r
  simp only [Bool.and_eq_true, decide_eq_true_eq]
  omega

/-- Does a window own a cell, at a place in it? -/
def ownB (L : List Wn) (p : Wn) (x y : Int) : Bool := decide (0 ≤ x) && decide (x < p.w) && decide (0 ≤ y) && decide (y < p.h) && (ownerL L (p.x + x) (p.y + y) == p.id)

end Go.Proofs.YticccknocjnkpaaDoor
