/-
  Keys that came in. No conditions.
-/
import Derived.Test.YtjficpcfdpbegaaF1
import Derived.Lib.SmallJoins
namespace Go.Proofs.Ytjficpcfdpbegaa
open Go.ChangeShapes Go.WideShapes Go.ChangeAt Go.RowKit Go.Joins

theorem Try.cells27 : Try.prog.cellsOf 27 = 2 := by kernel_rfl

/-- A key that came in. -/
theorem open_key {H : Type} {enc : TypeId × Value → H} {W : World} {base : Nat} {v : Value} {d : DataW H} {p : List MemPlace} (hval : Value.okWide Try.prog W .any base 27 v) (h : DataW.Trod enc Try.prog W 0 (fun _ => true) true 27 v d p) :
    ∃ x y : Int, v = .agg #[.int .i64 x, .int .i64 y] ∧ W64 x ∧ W64 y := by
  obtain ⟨c0, c1, y0, y1, m, rfl, _, _, h0, h1⟩ := open_agg2 Try.underlying27 (by kernel_rfl) Try.cells27 hval h
  obtain ⟨x, e0, _, w0⟩ := DataW.trod_int Try.underlying3 h0
  obtain ⟨y, e1, _, w1⟩ := DataW.trod_int Try.underlying3 h1
  simp at e0 e1
  subst e0 e1
  exact ⟨x, y, rfl, wf_i64 w0, wf_i64 w1⟩

end Go.Proofs.Ytjficpcfdpbegaa
