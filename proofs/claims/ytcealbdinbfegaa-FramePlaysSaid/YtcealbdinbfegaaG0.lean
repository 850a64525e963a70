/-
  Writes that came in, opened. No conditions.
-/
import Derived.Test.YtcealbdinbfegaaF5
namespace Go.Proofs.Ytcealbdinbfegaa
open Go.RowKit

/-- The kinds of a type's parts. -/
def kindsOf (t : TypeId) : List IntKind := if t = 3 then [.i64] else if t = 21 then [.i32] else if t = 32 then [.i64, .i64, .i64] else if t = 34 then [.i32, .i64, .i64, .i64] else if t = 36 then [.i64, .i64, .i32, .i64, .i64, .i64] else []

section
variable {H : Type} {enc : TypeId × Value → H} {w : World} {base : Nat} {sp : Nat → Bool} {held : Bool}

theorem k3 (cs : List Value) (x : DataW H × List MemPlace) (fuel : Nat) (h : DataW.trod enc Try.prog w base sp held fuel 3 cs = some x) : KInts (kindsOf 3) cs := kints_int Try.underlying3 cs x fuel h

theorem k21 (cs : List Value) (x : DataW H × List MemPlace) (fuel : Nat) (h : DataW.trod enc Try.prog w base sp held fuel 21 cs = some x) : KInts (kindsOf 21) cs := kints_int Try.underlying21 cs x fuel h

theorem k32 (cs : List Value) (x : DataW H × List MemPlace) (fuel : Nat) (h : DataW.trod enc Try.prog w base sp held fuel 32 cs = some x) : KInts (kindsOf 32) cs :=
  kints_struct Try.underlying32 (fun f => kindsOf f.type) (by kernel_rfl) (by kernel_rfl) (fun f hf => by
    simp only [List.mem_cons, List.not_mem_nil, or_false] at hf
    rcases hf with rfl | rfl | rfl <;> exact k3) cs x fuel h

theorem k34 (cs : List Value) (x : DataW H × List MemPlace) (fuel : Nat) (h : DataW.trod enc Try.prog w base sp held fuel 34 cs = some x) : KInts (kindsOf 34) cs :=
  kints_struct Try.underlying34 (fun f => kindsOf f.type) (by kernel_rfl) (by kernel_rfl) (fun f hf => by
    simp only [List.mem_cons, List.not_mem_nil, or_false] at hf
    rcases hf with rfl | rfl
    · exact k21
    · exact k32) cs x fuel h

theorem k36 (cs : List Value) (x : DataW H × List MemPlace) (fuel : Nat) (h : DataW.trod enc Try.prog w base sp held fuel 36 cs = some x) : KInts (kindsOf 36) cs :=
  kints_struct Try.underlying36 (fun f => kindsOf f.type) (by kernel_rfl) (by kernel_rfl) (fun f hf => by
    simp only [List.mem_cons, List.not_mem_nil, or_false] at hf
    rcases hf with rfl | rfl | rfl
    · exact k3
    · exact k3
    · exact k34) cs x fuel h

end

theorem ws_of {w : World} {ad : Option Addr} {n : Nat} {F : Nat → Nat → Int} (h : Rows' (kindsOf 36) w ad n F) : Ws w ad n (fun i => ⟨F i 0, F i 1, F i 2, F i 3, F i 4, F i 5⟩) := by
  intro i hi
  obtain ⟨b, o, e, hc⟩ := h.at' i hi
  have wf := h.wf i hi
  exact ⟨b, o, e, ⟨hc 0 .i64 rfl, hc 1 .i64 rfl, hc 2 .i32 rfl, hc 3 .i64 rfl, hc 4 .i64 rfl, hc 5 .i64 rfl⟩, wf_i64 (wf 0 .i64 rfl), wf_i64 (wf 1 .i64 rfl)⟩

end Go.Proofs.Ytcealbdinbfegaa
