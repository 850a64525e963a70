/-
  No cell of these rows narrows 'for every input' (looked for: loops, veiled, ifaces, maps, wideKeys, modest, calm, conditions, laid).
  DERIVED. THE GIVEN ROWS OF THIS SEAT. 3 by the template 'for every input the law returns true; each argument reads behind the call as it read before'; 0 by the template 'total and deterministic' (their statements: YtloijopnfnhnhaaTotals.lean).
  GIVEN WITH THE SEED: the statements are not yours to turn. If you find one false, say at which input.
  Laid BY PROGRAM, IN A SANDBOX (cutbox-rows.mjs): the forced cells as the released guide's own fill.sh prints them over the translation 7877329647440e38… (all of the seat's roots in one cut). By AI agents, Wed Nov 11 2026. No macro, syntax, notation, axiom, sorry.
-/
import Derived.Test.YtloijopnfnhnhaaChecked
import GoSem.Claim
import GoSem.ClaimJoined
import GoSem.ClaimMapViews
import Derived.JoinedTies
import Derived.KernelRfl
namespace Go.Proofs.Ytloijopnfnhnhaa
/- THE CELL 'sum', in the pinned program and in every row, IS THE sha256 OF THE DUMP (.gsa) THAT YtloijopnfnhnhaaProg.lean LOADS. Nothing in Lean hashes anything: it is a label: what it is worth is what the hold of that sum in a sandbox is worth. -/
noncomputable def Try.pinned : Pinned := { name := "ytloijopnfnhnhaa", sum := "7877329647440e3841eb4fe06d0a24892df0d36ffae658dddcede187399889a6", checked := Try.checked }
namespace Rows
def none {H : Type} : Left H := { results := [], args := [] }

/-- 'betonylaw04.RectTells': WHATEVER THE INPUT: true; the input reads as it did. -/
def rectTellsSpec : ChangeSpec := { name := "rectTells", fn := fun _ => fun
  | [d1, d2] => { results := [.lit (.bool true)], args := [d1, d2] }
  | _ => none }
def rectTellsRow : OpenClaim := { program := "ytloijopnfnhnhaa", sum := "7877329647440e3841eb4fe06d0a24892df0d36ffae658dddcede187399889a6", func := "betony/betonylaw04.RectTells", spec := "rectTells", apart := false }
def RectTellsSaid : Prop := rectTellsRow.holds Try.pinned (OpenSpec.ofChange rectTellsSpec)

/-- ITS FALSE NEIGHBOUR: 'it returns false'. Refute it at one input. -/
def rectTellsWrong : ChangeSpec := { name := "rectTells", fn := fun _ => fun
  | [d1, d2] => { results := [.lit (.bool false)], args := [d1, d2] }
  | _ => none }
def RectTellsWrongFalsely : Prop := rectTellsRow.holds Try.pinned (OpenSpec.ofChange rectTellsWrong)

/-- 'betonylaw04.RectCells': WHATEVER THE INPUT: true; the input reads as it did. -/
def rectCellsSpec : ChangeSpec := { name := "rectCells", fn := fun _ => fun
  | [d1, d2, d3, d4] => { results := [.lit (.bool true)], args := [d1, d2, d3, d4] }
  | _ => none }
def rectCellsRow : OpenClaim := { program := "ytloijopnfnhnhaa", sum := "7877329647440e3841eb4fe06d0a24892df0d36ffae658dddcede187399889a6", func := "betony/betonylaw04.RectCells", spec := "rectCells", apart := false }
def RectCellsSaid : Prop := rectCellsRow.holds Try.pinned (OpenSpec.ofChange rectCellsSpec)

/-- ITS FALSE NEIGHBOUR: 'it returns false'. Refute it at one input. -/
def rectCellsWrong : ChangeSpec := { name := "rectCells", fn := fun _ => fun
  | [d1, d2, d3, d4] => { results := [.lit (.bool false)], args := [d1, d2, d3, d4] }
  | _ => none }
def RectCellsWrongFalsely : Prop := rectCellsRow.holds Try.pinned (OpenSpec.ofChange rectCellsWrong)

/-- 'betonylaw04.RectFar': WHATEVER THE INPUT: true; the input reads as it did. -/
def rectFarSpec : ChangeSpec := { name := "rectFar", fn := fun _ => fun
  | [d1, d2, d3] => { results := [.lit (.bool true)], args := [d1, d2, d3] }
  | _ => none }
def rectFarRow : OpenClaim := { program := "ytloijopnfnhnhaa", sum := "7877329647440e3841eb4fe06d0a24892df0d36ffae658dddcede187399889a6", func := "betony/betonylaw04.RectFar", spec := "rectFar", apart := false }
def RectFarSaid : Prop := rectFarRow.holds Try.pinned (OpenSpec.ofChange rectFarSpec)

/-- ITS FALSE NEIGHBOUR: 'it returns false'. Refute it at one input. -/
def rectFarWrong : ChangeSpec := { name := "rectFar", fn := fun _ => fun
  | [d1, d2, d3] => { results := [.lit (.bool false)], args := [d1, d2, d3] }
  | _ => none }
def RectFarWrongFalsely : Prop := rectFarRow.holds Try.pinned (OpenSpec.ofChange rectFarWrong)

/- THE SECOND FORM. 'bulk': how many values and letters a reading holds, each counted each time it is reached (what is shared counts as often as it is met; a slice's spare places count too). A statement '..UptoSaid' is the law's where the arguments, and the package variables that the reading takes, are together of bulk at most 1048576: NARROWER than '..Said'. Prove '..Said' where nothing that the law and all that it calls make is longer than what came in: it says more and counts as full. Else prove '..UptoSaid'. A law counts once. -/
mutual
def uptoBulk {H : Type} : DataW H → Nat
  | .lit (.string bytes) => bytes.length + 1
  | .lit _ => 1
  | .nil => 1
  | .ptr d => uptoBulk d + 1
  | .slice elems spare => uptoBulkAll elems + uptoBulkAll spare + 1
  | .agg parts => uptoBulkAll parts + 1
  | .iface _ d => uptoBulk d + 1
  | .map entries => uptoBulkEntries entries + 1
  | .held _ => 1
def uptoBulkAll {H : Type} : List (DataW H) → Nat
  | [] => 0
  | d :: r => uptoBulk d + uptoBulkAll r
def uptoBulkEntries {H : Type} : List (Lit × DataW H) → Nat
  | [] => 0
  | x :: r => uptoBulkEntry x + uptoBulkEntries r
def uptoBulkEntry {H : Type} : Lit × DataW H → Nat
  | (.string bytes, d) => bytes.length + uptoBulk d + 1
  | (_, d) => uptoBulk d + 1
 end
def uptoSmall : (H : Type) → List (DataW H) → Bool := fun _ ds => decide (uptoBulkAll ds ≤ 1048576)
def OpenSpec.upto (s : _root_.Go.ChangeSpec) : _root_.Go.OpenSpec := { _root_.Go.OpenSpec.ofChange s with cond := some uptoSmall }

/-- 'betonylaw04.RectTells', WHERE WHAT IT READS IS OF BULK AT MOST 1048576: true; the input reads as it did. -/
def rectTellsUptoRow : OpenClaim := { program := "ytloijopnfnhnhaa", sum := "7877329647440e3841eb4fe06d0a24892df0d36ffae658dddcede187399889a6", func := "betony/betonylaw04.RectTells", spec := "rectTells", apart := false, narrowed := true }
def RectTellsUptoSaid : Prop := rectTellsUptoRow.holds Try.pinned (OpenSpec.upto rectTellsSpec)

/-- 'betonylaw04.RectCells', WHERE WHAT IT READS IS OF BULK AT MOST 1048576: true; the input reads as it did. -/
def rectCellsUptoRow : OpenClaim := { program := "ytloijopnfnhnhaa", sum := "7877329647440e3841eb4fe06d0a24892df0d36ffae658dddcede187399889a6", func := "betony/betonylaw04.RectCells", spec := "rectCells", apart := false, narrowed := true }
def RectCellsUptoSaid : Prop := rectCellsUptoRow.holds Try.pinned (OpenSpec.upto rectCellsSpec)

/-- 'betonylaw04.RectFar', WHERE WHAT IT READS IS OF BULK AT MOST 1048576: true; the input reads as it did. -/
def rectFarUptoRow : OpenClaim := { program := "ytloijopnfnhnhaa", sum := "7877329647440e3841eb4fe06d0a24892df0d36ffae658dddcede187399889a6", func := "betony/betonylaw04.RectFar", spec := "rectFar", apart := false, narrowed := true }
def RectFarUptoSaid : Prop := rectFarUptoRow.holds Try.pinned (OpenSpec.upto rectFarSpec)

end Rows
end Go.Proofs.Ytloijopnfnhnhaa
