/-
  No cell of these rows narrows 'for every input' (looked for: loops, veiled, ifaces, maps, wideKeys, modest, calm, conditions, laid).
  DERIVED. THE GIVEN ROWS OF THIS SEAT. 3 by the template 'for every input the law returns true; each argument reads behind the call as it read before'; 0 by the template 'total and deterministic' (their statements: YtdhlgjkjdmejfaaTotals.lean).
  GIVEN WITH THE SEED: the statements are not yours to turn. If you find one false, say at which input.
  Laid BY PROGRAM, IN A SANDBOX (cutbox-rows.mjs): the forced cells as the released guide's own fill.sh prints them over the translation b841afeb3677424d… (all of the seat's roots in one cut). By AI agents, Wed Nov 11 2026. No macro, syntax, notation, axiom, sorry.
-/
import Derived.Test.YtdhlgjkjdmejfaaChecked
import GoSem.Claim
import GoSem.ClaimJoined
import GoSem.ClaimMapViews
import Derived.JoinedTies
import Derived.KernelRfl
namespace Go.Proofs.Ytdhlgjkjdmejfaa
/- THE CELL 'sum', in the pinned program and in every row, IS THE sha256 OF THE DUMP (.gsa) THAT YtdhlgjkjdmejfaaProg.lean LOADS. Nothing in Lean hashes anything: it is a label: what it is worth is what the hold of that sum in a sandbox is worth. -/
noncomputable def Try.pinned : Pinned := { name := "ytdhlgjkjdmejfaa", sum := "b841afeb3677424daf3a87de2d055658f854996da72cb1d2f8191205911bebda", checked := Try.checked }
namespace Rows
def none {H : Type} : Left H := { results := [], args := [] }

/-- 'betonylaw20.PatienceTells': WHATEVER THE INPUT: true; the input reads as it did. -/
def patienceTellsSpec : ChangeSpec := { name := "patienceTells", fn := fun _ => fun
  | [d1, d2, d3, d4, d5] => { results := [.lit (.bool true)], args := [d1, d2, d3, d4, d5] }
  | _ => none }
def patienceTellsRow : OpenClaim := { program := "ytdhlgjkjdmejfaa", sum := "b841afeb3677424daf3a87de2d055658f854996da72cb1d2f8191205911bebda", func := "betony/betonylaw20.PatienceTells", spec := "patienceTells", apart := false }
def PatienceTellsSaid : Prop := patienceTellsRow.holds Try.pinned (OpenSpec.ofChange patienceTellsSpec)

/-- ITS FALSE NEIGHBOUR: 'it returns false'. Refute it at one input. -/
def patienceTellsWrong : ChangeSpec := { name := "patienceTells", fn := fun _ => fun
  | [d1, d2, d3, d4, d5] => { results := [.lit (.bool false)], args := [d1, d2, d3, d4, d5] }
  | _ => none }
def PatienceTellsWrongFalsely : Prop := patienceTellsRow.holds Try.pinned (OpenSpec.ofChange patienceTellsWrong)

/-- 'betonylaw20.PatienceEnds': WHATEVER THE INPUT: true; the input reads as it did. -/
def patienceEndsSpec : ChangeSpec := { name := "patienceEnds", fn := fun _ => fun
  | [d1, d2, d3, d4] => { results := [.lit (.bool true)], args := [d1, d2, d3, d4] }
  | _ => none }
def patienceEndsRow : OpenClaim := { program := "ytdhlgjkjdmejfaa", sum := "b841afeb3677424daf3a87de2d055658f854996da72cb1d2f8191205911bebda", func := "betony/betonylaw20.PatienceEnds", spec := "patienceEnds", apart := false }
def PatienceEndsSaid : Prop := patienceEndsRow.holds Try.pinned (OpenSpec.ofChange patienceEndsSpec)

/-- ITS FALSE NEIGHBOUR: 'it returns false'. Refute it at one input. -/
def patienceEndsWrong : ChangeSpec := { name := "patienceEnds", fn := fun _ => fun
  | [d1, d2, d3, d4] => { results := [.lit (.bool false)], args := [d1, d2, d3, d4] }
  | _ => none }
def PatienceEndsWrongFalsely : Prop := patienceEndsRow.holds Try.pinned (OpenSpec.ofChange patienceEndsWrong)

/-- 'betonylaw20.PatienceMore': WHATEVER THE INPUT: true; the input reads as it did. -/
def patienceMoreSpec : ChangeSpec := { name := "patienceMore", fn := fun _ => fun
  | [d1, d2, d3, d4, d5] => { results := [.lit (.bool true)], args := [d1, d2, d3, d4, d5] }
  | _ => none }
def patienceMoreRow : OpenClaim := { program := "ytdhlgjkjdmejfaa", sum := "b841afeb3677424daf3a87de2d055658f854996da72cb1d2f8191205911bebda", func := "betony/betonylaw20.PatienceMore", spec := "patienceMore", apart := false }
def PatienceMoreSaid : Prop := patienceMoreRow.holds Try.pinned (OpenSpec.ofChange patienceMoreSpec)

/-- ITS FALSE NEIGHBOUR: 'it returns false'. Refute it at one input. -/
def patienceMoreWrong : ChangeSpec := { name := "patienceMore", fn := fun _ => fun
  | [d1, d2, d3, d4, d5] => { results := [.lit (.bool false)], args := [d1, d2, d3, d4, d5] }
  | _ => none }
def PatienceMoreWrongFalsely : Prop := patienceMoreRow.holds Try.pinned (OpenSpec.ofChange patienceMoreWrong)

/- THE SECOND FORM. 'bulk': how many values and letters a reading holds, each counted each time it is reached (what is shared counts as often as it is met; a slice's spare places count too). A statement '..UptoSaid' is the law's where the arguments, and the package variables that the reading takes, are together of bulk at most 1048576: NARROWER than '..Said'. Prove '..Said' where nothing that the law and all that it calls make is longer than what came in: it says more and counts as full. Else prove '..UptoSaid'. A law counts once. -/
mutual
def uptoBulk {H : Type} : DataW H → Nat
  | .lit (.string bytes) => bytes.length + 1
  | .lit _ => 1
  | .nil => 1
  | .ptr d => uptoBulk d + 1
  | .slice elems spare => uptoBulkAll elems + uptoBulkAll spare + 1
  | .agg parts => uptoBulkAll parts + 1
  | .iface _ d => uptoBulk d + 1
  | .map entries => uptoBulkEntries entries + 1
  | .held _ => 1
def uptoBulkAll {H : Type} : List (DataW H) → Nat
  | [] => 0
  | d :: r => uptoBulk d + uptoBulkAll r
def uptoBulkEntries {H : Type} : List (Lit × DataW H) → Nat
  | [] => 0
  | x :: r => uptoBulkEntry x + uptoBulkEntries r
def uptoBulkEntry {H : Type} : Lit × DataW H → Nat
  | (.string bytes, d) => bytes.length + uptoBulk d + 1
  | (_, d) => uptoBulk d + 1
 end
def uptoSmall : (H : Type) → List (DataW H) → Bool := fun _ ds => decide (uptoBulkAll ds ≤ 1048576)
def OpenSpec.upto (s : _root_.Go.ChangeSpec) : _root_.Go.OpenSpec := { _root_.Go.OpenSpec.ofChange s with cond := some uptoSmall }

/-- 'betonylaw20.PatienceTells', WHERE WHAT IT READS IS OF BULK AT MOST 1048576: true; the input reads as it did. -/
def patienceTellsUptoRow : OpenClaim := { program := "ytdhlgjkjdmejfaa", sum := "b841afeb3677424daf3a87de2d055658f854996da72cb1d2f8191205911bebda", func := "betony/betonylaw20.PatienceTells", spec := "patienceTells", apart := false, narrowed := true }
def PatienceTellsUptoSaid : Prop := patienceTellsUptoRow.holds Try.pinned (OpenSpec.upto patienceTellsSpec)

/-- 'betonylaw20.PatienceEnds', WHERE WHAT IT READS IS OF BULK AT MOST 1048576: true; the input reads as it did. -/
def patienceEndsUptoRow : OpenClaim := { program := "ytdhlgjkjdmejfaa", sum := "b841afeb3677424daf3a87de2d055658f854996da72cb1d2f8191205911bebda", func := "betony/betonylaw20.PatienceEnds", spec := "patienceEnds", apart := false, narrowed := true }
def PatienceEndsUptoSaid : Prop := patienceEndsUptoRow.holds Try.pinned (OpenSpec.upto patienceEndsSpec)

/-- 'betonylaw20.PatienceMore', WHERE WHAT IT READS IS OF BULK AT MOST 1048576: true; the input reads as it did. -/
def patienceMoreUptoRow : OpenClaim := { program := "ytdhlgjkjdmejfaa", sum := "b841afeb3677424daf3a87de2d055658f854996da72cb1d2f8191205911bebda", func := "betony/betonylaw20.PatienceMore", spec := "patienceMore", apart := false, narrowed := true }
def PatienceMoreUptoSaid : Prop := patienceMoreUptoRow.holds Try.pinned (OpenSpec.upto patienceMoreSpec)

end Rows
end Go.Proofs.Ytdhlgjkjdmejfaa
