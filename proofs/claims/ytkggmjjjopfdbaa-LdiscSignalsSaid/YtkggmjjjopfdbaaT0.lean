/-
  What the statements ask of the program; a setting that came in. No conditions.
-/
import Derived.Test.YtkggmjjjopfdbaaDK
import Derived.Test.YtkggmjjjopfdbaaS2
import Derived.Lib.SmallJoins
namespace Go.Proofs.Ytkggmjjjopfdbaa
open Go.ChangeShapes Go.WideShapes Go.ChangeAt Go.RowKit Go.Joins
open L17

theorem arg_long {w : World} {a : Option Addr} {c : Nat} {l : List Int} (h : IArg .u8 w (.slice a l.length c) l a c) : ((l.length : Nat) : Int) ≤ 9223372036854775807 := by
  have h1 := h.lenLe
  have h2 := h.capLe
  unfold maxLen at h2
  omega

/-- A setting that came in. -/
theorem open_set {H : Type} {enc : TypeId × Value → H} {W : World} {base : Nat} {v : Value} {d : DataW H} {p : List MemPlace} (hval : Value.okWide Try.prog W .any base 24 v) (h : DataW.Trod enc Try.prog W 0 (fun _ => true) true 24 v d p) :
    ∃ r : Tm, v = .agg #[.int .i64 r.fi, .int .i64 r.fo, .int .i64 r.fl, .int .i64 r.k0, .int .i64 r.k1, .int .i64 r.k2, .int .i64 r.k3, .int .i64 r.k4, .int .i64 r.k5, .int .i64 r.k6, .int .i64 r.k7, .int .i64 r.k8, .int .i64 r.k9, .int .i64 r.k10, .int .i64 r.k11, .int .i64 r.mn, .int .i64 r.ti] := by
  obtain ⟨cs, rfl, _⟩ := okWide_struct Try.underlying24 hval
  obtain ⟨fuel, hf⟩ := h
  obtain ⟨r, e⟩ := set_cells hf
  refine ⟨r, ?_⟩
  have e2 : cs.toList = [.int .i64 r.fi, .int .i64 r.fo, .int .i64 r.fl, .int .i64 r.k0, .int .i64 r.k1, .int .i64 r.k2, .int .i64 r.k3, .int .i64 r.k4, .int .i64 r.k5, .int .i64 r.k6, .int .i64 r.k7, .int .i64 r.k8, .int .i64 r.k9, .int .i64 r.k10, .int .i64 r.k11, .int .i64 r.mn, .int .i64 r.ti] := by simpa [Value.cells] using e
  rw [show cs = #[.int .i64 r.fi, .int .i64 r.fo, .int .i64 r.fl, .int .i64 r.k0, .int .i64 r.k1, .int .i64 r.k2, .int .i64 r.k3, .int .i64 r.k4, .int .i64 r.k5, .int .i64 r.k6, .int .i64 r.k7, .int .i64 r.k8, .int .i64 r.k9, .int .i64 r.k10, .int .i64 r.k11, .int .i64 r.mn, .int .i64 r.ti] from Array.ext' e2]

end Go.Proofs.Ytkggmjjjopfdbaa
