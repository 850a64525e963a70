/-
  Pens and numbers that came in. No conditions.
-/
import Derived.Test.YtinikpadbocfaaaE0
import Derived.Lib.SmallJoins
namespace Go.Proofs.Ytinikpadbocfaaa
open Go.ChangeShapes Go.WideShapes Go.ChangeAt Go.RowKit Go.Joins

theorem Try.laidOut : laidOutB Try.prog = true := by kernel_rfl
theorem Try.own : ownKnob Try.prog.godebug = none := by kernel_rfl
theorem Try.cells23 : Try.prog.cellsOf 23 = 3 := by kernel_rfl

/-- A pen that came in. -/
theorem open_pen {H : Type} {enc : TypeId × Value → H} {W : World} {base : Nat} {v : Value} {d : DataW H} {p : List MemPlace} (hval : Value.okWide Try.prog W .any base 23 v) (h : DataW.Trod enc Try.prog W 0 (fun _ => true) true 23 v d p) :
    ∃ r : Pn, v = .agg #[.int .i64 r.fg, .int .i64 r.bg, .int .i64 r.fl] ∧ W64 r.fg ∧ W64 r.bg ∧ W64 r.fl := by
  obtain ⟨c0, c1, c2, y0, y1, y2, m, rfl, _, _, h0, h1, h2⟩ := open_agg3 Try.underlying23 (by kernel_rfl) Try.cells23 hval h
  obtain ⟨x, e0, _, w0⟩ := DataW.trod_int Try.underlying3 h0
  obtain ⟨y, e1, _, w1⟩ := DataW.trod_int Try.underlying3 h1
  obtain ⟨z, e2, _, w2⟩ := DataW.trod_int Try.underlying3 h2
  simp at e0 e1 e2
  subst e0 e1 e2
  exact ⟨⟨x, y, z⟩, rfl, wf_i64 w0, wf_i64 w1, wf_i64 w2⟩

theorem max_small {n : Nat} {cap : Nat} (h : n ≤ cap) (hc : cap ≤ maxLen) : (n : Int) ≤ 9223372036854775807 := by
  unfold maxLen at hc
  omega

end Go.Proofs.Ytinikpadbocfaaa
