/-
  Acts that came in, opened. No conditions.
-/
import Derived.Test.YtihciknbmhadjaaG5
namespace Go.Proofs.Ytihciknbmhadjaa
open Go.RowKit

/-- The kinds of a type's parts. -/
def kindsOf (t : TypeId) : List IntKind := if t = 3 then [.i64] else if t = 28 then [.i64, .i64, .i64, .i64] else []

section
variable {H : Type} {enc : TypeId × Value → H} {w : World} {base : Nat} {sp : Nat → Bool} {held : Bool}

theorem k3 (cs : List Value) (x : DataW H × List MemPlace) (fuel : Nat) (h : DataW.trod enc Try.prog w base sp held fuel 3 cs = some x) : KInts (kindsOf 3) cs := kints_int Try.underlying3 cs x fuel h

theorem k28 (cs : List Value) (x : DataW H × List MemPlace) (fuel : Nat) (h : DataW.trod enc Try.prog w base sp held fuel 28 cs = some x) : KInts (kindsOf 28) cs :=
  kints_struct Try.underlying28 (fun f => kindsOf f.type) (by kernel_rfl) (by kernel_rfl) (fun f hf => by
    simp only [List.mem_cons, List.not_mem_nil, or_false] at hf
    rcases hf with rfl | rfl | rfl | rfl <;> exact k3) cs x fuel h

end

theorem acts_of {w : World} {ad : Option Addr} {n : Nat} {F : Nat → Nat → Int} (h : Rows' (kindsOf 28) w ad n F) : Acts w ad n (fun i => ⟨F i 0, F i 1, F i 2, F i 3⟩) := by
  intro i hi
  obtain ⟨b, o, e, hc⟩ := h.at' i hi
  exact ⟨b, o, e, ⟨hc 0 .i64 rfl, hc 1 .i64 rfl, hc 2 .i64 rfl, hc 3 .i64 rfl⟩⟩

end Go.Proofs.Ytihciknbmhadjaa
