/-
  No cell of these rows narrows 'for every input' (looked for: loops, veiled, ifaces, maps, wideKeys, modest, calm, conditions, laid).
  DERIVED. THE GIVEN ROWS OF THIS SEAT. 4 by the template 'for every input the law returns true; each argument reads behind the call as it read before'; 0 by the template 'total and deterministic' (their statements: YtinikpadbocfaaaTotals.lean).
  GIVEN WITH THE SEED: the statements are not yours to turn. If you find one false, say at which input.
  Laid BY PROGRAM, IN A SANDBOX (cutbox-rows.mjs): the forced cells as the released guide's own fill.sh prints them over the translation d576ff424098f6dd… (all of the seat's roots in one cut). By AI agents, Wed Nov 11 2026. No macro, syntax, notation, axiom, sorry.
-/
import Derived.Test.YtinikpadbocfaaaChecked
import GoSem.Claim
import GoSem.ClaimJoined
import GoSem.ClaimMapViews
import Derived.JoinedTies
import Derived.KernelRfl
namespace Go.Proofs.Ytinikpadbocfaaa
/- THE CELL 'sum', in the pinned program and in every row, IS THE sha256 OF THE DUMP (.gsa) THAT YtinikpadbocfaaaProg.lean LOADS. Nothing in Lean hashes anything: it is a label: what it is worth is what the hold of that sum in a sandbox is worth. -/
noncomputable def Try.pinned : Pinned := { name := "ytinikpadbocfaaa", sum := "d576ff424098f6dd533f8193072e755a0c23dbe2813fd56896482c2fd29858fb", checked := Try.checked }
namespace Rows
def none {H : Type} : Left H := { results := [], args := [] }

/-- 'betonylaw05.PenApplies': WHATEVER THE INPUT: true; the input reads as it did. -/
def penAppliesSpec : ChangeSpec := { name := "penApplies", fn := fun _ => fun
  | [d1, d2] => { results := [.lit (.bool true)], args := [d1, d2] }
  | _ => none }
def penAppliesRow : OpenClaim := { program := "ytinikpadbocfaaa", sum := "d576ff424098f6dd533f8193072e755a0c23dbe2813fd56896482c2fd29858fb", func := "betony/betonylaw05.PenApplies", spec := "penApplies", recurses := true, apart := false }
def PenAppliesSaid : Prop := penAppliesRow.holds Try.pinned (OpenSpec.ofChange penAppliesSpec)

/-- ITS FALSE NEIGHBOUR: 'it returns false'. Refute it at one input. -/
def penAppliesWrong : ChangeSpec := { name := "penApplies", fn := fun _ => fun
  | [d1, d2] => { results := [.lit (.bool false)], args := [d1, d2] }
  | _ => none }
def PenAppliesWrongFalsely : Prop := penAppliesRow.holds Try.pinned (OpenSpec.ofChange penAppliesWrong)

/-- 'betonylaw05.PenLeast': WHATEVER THE INPUT: true; the input reads as it did. -/
def penLeastSpec : ChangeSpec := { name := "penLeast", fn := fun _ => fun
  | [d1, d2] => { results := [.lit (.bool true)], args := [d1, d2] }
  | _ => none }
def penLeastRow : OpenClaim := { program := "ytinikpadbocfaaa", sum := "d576ff424098f6dd533f8193072e755a0c23dbe2813fd56896482c2fd29858fb", func := "betony/betonylaw05.PenLeast", spec := "penLeast", apart := false }
def PenLeastSaid : Prop := penLeastRow.holds Try.pinned (OpenSpec.ofChange penLeastSpec)

/-- ITS FALSE NEIGHBOUR: 'it returns false'. Refute it at one input. -/
def penLeastWrong : ChangeSpec := { name := "penLeast", fn := fun _ => fun
  | [d1, d2] => { results := [.lit (.bool false)], args := [d1, d2] }
  | _ => none }
def PenLeastWrongFalsely : Prop := penLeastRow.holds Try.pinned (OpenSpec.ofChange penLeastWrong)

/-- 'betonylaw05.PenStays': WHATEVER THE INPUT: true; the input reads as it did. -/
def penStaysSpec : ChangeSpec := { name := "penStays", fn := fun _ => fun
  | [d1, d2, d3] => { results := [.lit (.bool true)], args := [d1, d2, d3] }
  | _ => none }
def penStaysRow : OpenClaim := { program := "ytinikpadbocfaaa", sum := "d576ff424098f6dd533f8193072e755a0c23dbe2813fd56896482c2fd29858fb", func := "betony/betonylaw05.PenStays", spec := "penStays", apart := false }
def PenStaysSaid : Prop := penStaysRow.holds Try.pinned (OpenSpec.ofChange penStaysSpec)

/-- ITS FALSE NEIGHBOUR: 'it returns false'. Refute it at one input. -/
def penStaysWrong : ChangeSpec := { name := "penStays", fn := fun _ => fun
  | [d1, d2, d3] => { results := [.lit (.bool false)], args := [d1, d2, d3] }
  | _ => none }
def PenStaysWrongFalsely : Prop := penStaysRow.holds Try.pinned (OpenSpec.ofChange penStaysWrong)

/-- 'betonylaw05.PenReset': WHATEVER THE INPUT: true; the input reads as it did. -/
def penResetSpec : ChangeSpec := { name := "penReset", fn := fun _ => fun
  | [d1, d2] => { results := [.lit (.bool true)], args := [d1, d2] }
  | _ => none }
def penResetRow : OpenClaim := { program := "ytinikpadbocfaaa", sum := "d576ff424098f6dd533f8193072e755a0c23dbe2813fd56896482c2fd29858fb", func := "betony/betonylaw05.PenReset", spec := "penReset", apart := false }
def PenResetSaid : Prop := penResetRow.holds Try.pinned (OpenSpec.ofChange penResetSpec)

/-- ITS FALSE NEIGHBOUR: 'it returns false'. Refute it at one input. -/
def penResetWrong : ChangeSpec := { name := "penReset", fn := fun _ => fun
  | [d1, d2] => { results := [.lit (.bool false)], args := [d1, d2] }
  | _ => none }
def PenResetWrongFalsely : Prop := penResetRow.holds Try.pinned (OpenSpec.ofChange penResetWrong)

/- THE SECOND FORM. 'bulk': how many values and letters a reading holds, each counted each time it is reached (what is shared counts as often as it is met; a slice's spare places count too). A statement '..UptoSaid' is the law's where the arguments, and the package variables that the reading takes, are together of bulk at most 1048576: NARROWER than '..Said'. Prove '..Said' where nothing that the law and all that it calls make is longer than what came in: it says more and counts as full. Else prove '..UptoSaid'. A law counts once. -/
mutual
def uptoBulk {H : Type} : DataW H → Nat
  | .lit (.string bytes) => bytes.length + 1
  | .lit _ => 1
  | .nil => 1
  | .ptr d => uptoBulk d + 1
  | .slice elems spare => uptoBulkAll elems + uptoBulkAll spare + 1
  | .agg parts => uptoBulkAll parts + 1
  | .iface _ d => uptoBulk d + 1
  | .map entries => uptoBulkEntries entries + 1
  | .held _ => 1
def uptoBulkAll {H : Type} : List (DataW H) → Nat
  | [] => 0
  | d :: r => uptoBulk d + uptoBulkAll r
def uptoBulkEntries {H : Type} : List (Lit × DataW H) → Nat
  | [] => 0
  | x :: r => uptoBulkEntry x + uptoBulkEntries r
def uptoBulkEntry {H : Type} : Lit × DataW H → Nat
  | (.string bytes, d) => bytes.length + uptoBulk d + 1
  | (_, d) => uptoBulk d + 1
 end
def uptoSmall : (H : Type) → List (DataW H) → Bool := fun _ ds => decide (uptoBulkAll ds ≤ 1048576)
def OpenSpec.upto (s : _root_.Go.ChangeSpec) : _root_.Go.OpenSpec := { _root_.Go.OpenSpec.ofChange s with cond := some uptoSmall }

/-- 'betonylaw05.PenApplies', WHERE WHAT IT READS IS OF BULK AT MOST 1048576: true; the input reads as it did. -/
def penAppliesUptoRow : OpenClaim := { program := "ytinikpadbocfaaa", sum := "d576ff424098f6dd533f8193072e755a0c23dbe2813fd56896482c2fd29858fb", func := "betony/betonylaw05.PenApplies", spec := "penApplies", recurses := true, apart := false, narrowed := true }
def PenAppliesUptoSaid : Prop := penAppliesUptoRow.holds Try.pinned (OpenSpec.upto penAppliesSpec)

/-- 'betonylaw05.PenLeast', WHERE WHAT IT READS IS OF BULK AT MOST 1048576: true; the input reads as it did. -/
def penLeastUptoRow : OpenClaim := { program := "ytinikpadbocfaaa", sum := "d576ff424098f6dd533f8193072e755a0c23dbe2813fd56896482c2fd29858fb", func := "betony/betonylaw05.PenLeast", spec := "penLeast", apart := false, narrowed := true }
def PenLeastUptoSaid : Prop := penLeastUptoRow.holds Try.pinned (OpenSpec.upto penLeastSpec)

/-- 'betonylaw05.PenStays', WHERE WHAT IT READS IS OF BULK AT MOST 1048576: true; the input reads as it did. -/
def penStaysUptoRow : OpenClaim := { program := "ytinikpadbocfaaa", sum := "d576ff424098f6dd533f8193072e755a0c23dbe2813fd56896482c2fd29858fb", func := "betony/betonylaw05.PenStays", spec := "penStays", apart := false, narrowed := true }
def PenStaysUptoSaid : Prop := penStaysUptoRow.holds Try.pinned (OpenSpec.upto penStaysSpec)

/-- 'betonylaw05.PenReset', WHERE WHAT IT READS IS OF BULK AT MOST 1048576: true; the input reads as it did. -/
def penResetUptoRow : OpenClaim := { program := "ytinikpadbocfaaa", sum := "d576ff424098f6dd533f8193072e755a0c23dbe2813fd56896482c2fd29858fb", func := "betony/betonylaw05.PenReset", spec := "penReset", apart := false, narrowed := true }
def PenResetUptoSaid : Prop := penResetUptoRow.holds Try.pinned (OpenSpec.upto penResetSpec)

end Rows
end Go.Proofs.Ytinikpadbocfaaa
