/-
  No cell of these rows narrows 'for every input' (looked for: loops, veiled, ifaces, maps, wideKeys, modest, calm, conditions, laid).
  DERIVED. THE GIVEN ROWS OF THIS SEAT. 3 by the template 'for every input the law returns true; each argument reads behind the call as it read before'; 0 by the template 'total and deterministic' (their statements: YtdihjodcbpjabaaTotals.lean).
  GIVEN WITH THE SEED: the statements are not yours to turn. If you find one false, say at which input.
  Laid BY PROGRAM, IN A SANDBOX (cutbox-rows.mjs): the forced cells as the released guide's own fill.sh prints them over the translation a70a80aec40fdb8a… (all of the seat's roots in one cut). By AI agents, Wed Nov 11 2026. No macro, syntax, notation, axiom, sorry.
-/
import Derived.Test.YtdihjodcbpjabaaChecked
import GoSem.Claim
import GoSem.ClaimJoined
import GoSem.ClaimMapViews
import Derived.JoinedTies
import Derived.KernelRfl
namespace Go.Proofs.Ytdihjodcbpjabaa
/- THE CELL 'sum', in the pinned program and in every row, IS THE sha256 OF THE DUMP (.gsa) THAT YtdihjodcbpjabaaProg.lean LOADS. Nothing in Lean hashes anything: it is a label: what it is worth is what the hold of that sum in a sandbox is worth. -/
noncomputable def Try.pinned : Pinned := { name := "ytdihjodcbpjabaa", sum := "a70a80aec40fdb8a654a2d73ab929e9587fdc228b1022be761ce6a5ad5992e03", checked := Try.checked }
namespace Rows
def none {H : Type} : Left H := { results := [], args := [] }

/-- 'betonylaw17.TermiosTells': WHATEVER THE INPUT: true; the input reads as it did. -/
def termiosTellsSpec : ChangeSpec := { name := "termiosTells", fn := fun _ => fun
  | [d1, d2, d3] => { results := [.lit (.bool true)], args := [d1, d2, d3] }
  | _ => none }
def termiosTellsRow : OpenClaim := { program := "ytdihjodcbpjabaa", sum := "a70a80aec40fdb8a654a2d73ab929e9587fdc228b1022be761ce6a5ad5992e03", func := "betony/betonylaw17.TermiosTells", spec := "termiosTells", apart := false }
def TermiosTellsSaid : Prop := termiosTellsRow.holds Try.pinned (OpenSpec.ofChange termiosTellsSpec)

/-- ITS FALSE NEIGHBOUR: 'it returns false'. Refute it at one input. -/
def termiosTellsWrong : ChangeSpec := { name := "termiosTells", fn := fun _ => fun
  | [d1, d2, d3] => { results := [.lit (.bool false)], args := [d1, d2, d3] }
  | _ => none }
def TermiosTellsWrongFalsely : Prop := termiosTellsRow.holds Try.pinned (OpenSpec.ofChange termiosTellsWrong)

/-- 'betonylaw17.TermiosRaw': WHATEVER THE INPUT: true; the input reads as it did. -/
def termiosRawSpec : ChangeSpec := { name := "termiosRaw", fn := fun _ => fun
  | [d1, d2] => { results := [.lit (.bool true)], args := [d1, d2] }
  | _ => none }
def termiosRawRow : OpenClaim := { program := "ytdihjodcbpjabaa", sum := "a70a80aec40fdb8a654a2d73ab929e9587fdc228b1022be761ce6a5ad5992e03", func := "betony/betonylaw17.TermiosRaw", spec := "termiosRaw", apart := false }
def TermiosRawSaid : Prop := termiosRawRow.holds Try.pinned (OpenSpec.ofChange termiosRawSpec)

/-- ITS FALSE NEIGHBOUR: 'it returns false'. Refute it at one input. -/
def termiosRawWrong : ChangeSpec := { name := "termiosRaw", fn := fun _ => fun
  | [d1, d2] => { results := [.lit (.bool false)], args := [d1, d2] }
  | _ => none }
def TermiosRawWrongFalsely : Prop := termiosRawRow.holds Try.pinned (OpenSpec.ofChange termiosRawWrong)

/-- 'betonylaw17.TermiosStrip': WHATEVER THE INPUT: true; the input reads as it did. -/
def termiosStripSpec : ChangeSpec := { name := "termiosStrip", fn := fun _ => fun
  | [d1, d2] => { results := [.lit (.bool true)], args := [d1, d2] }
  | _ => none }
def termiosStripRow : OpenClaim := { program := "ytdihjodcbpjabaa", sum := "a70a80aec40fdb8a654a2d73ab929e9587fdc228b1022be761ce6a5ad5992e03", func := "betony/betonylaw17.TermiosStrip", spec := "termiosStrip", apart := false }
def TermiosStripSaid : Prop := termiosStripRow.holds Try.pinned (OpenSpec.ofChange termiosStripSpec)

/-- ITS FALSE NEIGHBOUR: 'it returns false'. Refute it at one input. -/
def termiosStripWrong : ChangeSpec := { name := "termiosStrip", fn := fun _ => fun
  | [d1, d2] => { results := [.lit (.bool false)], args := [d1, d2] }
  | _ => none }
def TermiosStripWrongFalsely : Prop := termiosStripRow.holds Try.pinned (OpenSpec.ofChange termiosStripWrong)

/- THE SECOND FORM. 'bulk': how many values and letters a reading holds, each counted each time it is reached (what is shared counts as often as it is met; a slice's spare places count too). A statement '..UptoSaid' is the law's where the arguments, and the package variables that the reading takes, are together of bulk at most 1048576: NARROWER than '..Said'. Prove '..Said' where nothing that the law and all that it calls make is longer than what came in: it says more and counts as full. Else prove '..UptoSaid'. A law counts once. -/
mutual
def uptoBulk {H : Type} : DataW H → Nat
  | .lit (.string bytes) => bytes.length + 1
  | .lit _ => 1
  | .nil => 1
  | .ptr d => uptoBulk d + 1
  | .slice elems spare => uptoBulkAll elems + uptoBulkAll spare + 1
  | .agg parts => uptoBulkAll parts + 1
  | .iface _ d => uptoBulk d + 1
  | .map entries => uptoBulkEntries entries + 1
  | .held _ => 1
def uptoBulkAll {H : Type} : List (DataW H) → Nat
  | [] => 0
  | d :: r => uptoBulk d + uptoBulkAll r
def uptoBulkEntries {H : Type} : List (Lit × DataW H) → Nat
  | [] => 0
  | x :: r => uptoBulkEntry x + uptoBulkEntries r
def uptoBulkEntry {H : Type} : Lit × DataW H → Nat
  | (.string bytes, d) => bytes.length + uptoBulk d + 1
  | (_, d) => uptoBulk d + 1
 end
def uptoSmall : (H : Type) → List (DataW H) → Bool := fun _ ds => decide (uptoBulkAll ds ≤ 1048576)
def OpenSpec.upto (s : _root_.Go.ChangeSpec) : _root_.Go.OpenSpec := { _root_.Go.OpenSpec.ofChange s with cond := some uptoSmall }

/-- 'betonylaw17.TermiosTells', WHERE WHAT IT READS IS OF BULK AT MOST 1048576: true; the input reads as it did. -/
def termiosTellsUptoRow : OpenClaim := { program := "ytdihjodcbpjabaa", sum := "a70a80aec40fdb8a654a2d73ab929e9587fdc228b1022be761ce6a5ad5992e03", func := "betony/betonylaw17.TermiosTells", spec := "termiosTells", apart := false, narrowed := true }
def TermiosTellsUptoSaid : Prop := termiosTellsUptoRow.holds Try.pinned (OpenSpec.upto termiosTellsSpec)

/-- 'betonylaw17.TermiosRaw', WHERE WHAT IT READS IS OF BULK AT MOST 1048576: true; the input reads as it did. -/
def termiosRawUptoRow : OpenClaim := { program := "ytdihjodcbpjabaa", sum := "a70a80aec40fdb8a654a2d73ab929e9587fdc228b1022be761ce6a5ad5992e03", func := "betony/betonylaw17.TermiosRaw", spec := "termiosRaw", apart := false, narrowed := true }
def TermiosRawUptoSaid : Prop := termiosRawUptoRow.holds Try.pinned (OpenSpec.upto termiosRawSpec)

/-- 'betonylaw17.TermiosStrip', WHERE WHAT IT READS IS OF BULK AT MOST 1048576: true; the input reads as it did. -/
def termiosStripUptoRow : OpenClaim := { program := "ytdihjodcbpjabaa", sum := "a70a80aec40fdb8a654a2d73ab929e9587fdc228b1022be761ce6a5ad5992e03", func := "betony/betonylaw17.TermiosStrip", spec := "termiosStrip", apart := false, narrowed := true }
def TermiosStripUptoSaid : Prop := termiosStripUptoRow.holds Try.pinned (OpenSpec.upto termiosStripSpec)

end Rows
end Go.Proofs.Ytdihjodcbpjabaa
