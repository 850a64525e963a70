/-
  NARROWER THAN 'FOR EVERY INPUT', by the rows' own cells (each row's printed sentence says how): DrawTexts: laid.
  DERIVED. THE GIVEN ROWS OF THIS SEAT. 1 by the template 'for every input the law returns true; each argument reads behind the call as it read before'; 0 by the template 'total and deterministic' (their statements: YticccknocjnkpaaDoorTotals.lean).
  GIVEN WITH THE SEED: the statements are not yours to turn. If you find one false, say at which input.
  Laid BY PROGRAM, IN A SANDBOX (cutbox-rows.mjs): the forced cells as the released guide's own fill.sh prints them over the translation e05949d2b5206f45… (all of the seat's roots in one cut). By AI agents, Wed Nov 11 2026. No macro, syntax, notation, axiom, sorry.
-/
import Derived.Test.YticccknocjnkpaaDoorChecked
import GoSem.Claim
import GoSem.ClaimJoined
import GoSem.ClaimMapViews
import Derived.JoinedTies
import Derived.KernelRfl
namespace Go.Proofs.YticccknocjnkpaaDoor
/- THE CELL 'sum', in the pinned program and in every row, IS THE sha256 OF THE DUMP (.gsa) THAT YticccknocjnkpaaDoorProg.lean LOADS. Nothing in Lean hashes anything: it is a label: what it is worth is what the hold of that sum in a sandbox is worth. -/
noncomputable def Tryd.pinned : Pinned := { name := "yticccknocjnkpaadoor", sum := "e05949d2b5206f459d630b7d48162f44b1904c6971397415ccec480d75dc888d", checked := Tryd.checked }
namespace Rows
def none {H : Type} : Left H := { results := [], args := [] }

/- WHAT THE LISTED PACKAGE-LEVEL VARIABLES READ AS WHEN THE CALL BEGINS. Each datum BY PROGRAM (the guide's laid-datum.mjs) off the statement by which the dump's own 'gosem.cut.vars' lays the variable. In a bare row this is a premise. The card (YticccknocjnkpaaDoorCards.lean) ties it to the program's text. -/
def laid_betony_wide_rows {H : Type} : DataW H := .agg [.agg [.lit (.int .i32 0), .lit (.int .i32 31), .lit (.int .i64 (-1))], .agg [.lit (.int .i32 127), .lit (.int .i32 159), .lit (.int .i64 (-1))], .agg [.lit (.int .i32 768), .lit (.int .i32 879), .lit (.int .i64 0)], .agg [.lit (.int .i32 1155), .lit (.int .i32 1161), .lit (.int .i64 0)], .agg [.lit (.int .i32 1425), .lit (.int .i32 1469), .lit (.int .i64 0)], .agg [.lit (.int .i32 1552), .lit (.int .i32 1562), .lit (.int .i64 0)], .agg [.lit (.int .i32 1611), .lit (.int .i32 1631), .lit (.int .i64 0)], .agg [.lit (.int .i32 4352), .lit (.int .i32 4447), .lit (.int .i64 2)], .agg [.lit (.int .i32 8203), .lit (.int .i32 8207), .lit (.int .i64 0)], .agg [.lit (.int .i32 8400), .lit (.int .i32 8432), .lit (.int .i64 0)], .agg [.lit (.int .i32 11904), .lit (.int .i32 12350), .lit (.int .i64 2)], .agg [.lit (.int .i32 12353), .lit (.int .i32 13311), .lit (.int .i64 2)], .agg [.lit (.int .i32 13312), .lit (.int .i32 19903), .lit (.int .i64 2)], .agg [.lit (.int .i32 19968), .lit (.int .i32 40959), .lit (.int .i64 2)], .agg [.lit (.int .i32 40960), .lit (.int .i32 42191), .lit (.int .i64 2)], .agg [.lit (.int .i32 44032), .lit (.int .i32 55203), .lit (.int .i64 2)], .agg [.lit (.int .i32 63744), .lit (.int .i32 64255), .lit (.int .i64 2)], .agg [.lit (.int .i32 65024), .lit (.int .i32 65039), .lit (.int .i64 0)], .agg [.lit (.int .i32 65056), .lit (.int .i32 65071), .lit (.int .i64 0)], .agg [.lit (.int .i32 65072), .lit (.int .i32 65135), .lit (.int .i64 2)], .agg [.lit (.int .i32 65280), .lit (.int .i32 65376), .lit (.int .i64 2)], .agg [.lit (.int .i32 65504), .lit (.int .i32 65510), .lit (.int .i64 2)], .agg [.lit (.int .i32 127744), .lit (.int .i32 128591), .lit (.int .i64 2)], .agg [.lit (.int .i32 129280), .lit (.int .i32 129535), .lit (.int .i64 2)], .agg [.lit (.int .i32 131072), .lit (.int .i32 262141), .lit (.int .i64 2)]]
def laid_betony_utf_forms {H : Type} : DataW H := .agg [.agg [.lit (.int .i64 1), .agg [.agg [.lit (.int .u8 0), .lit (.int .u8 127)], .agg [.lit (.int .u8 0), .lit (.int .u8 0)], .agg [.lit (.int .u8 0), .lit (.int .u8 0)], .agg [.lit (.int .u8 0), .lit (.int .u8 0)]]], .agg [.lit (.int .i64 2), .agg [.agg [.lit (.int .u8 194), .lit (.int .u8 223)], .agg [.lit (.int .u8 128), .lit (.int .u8 191)], .agg [.lit (.int .u8 0), .lit (.int .u8 0)], .agg [.lit (.int .u8 0), .lit (.int .u8 0)]]], .agg [.lit (.int .i64 3), .agg [.agg [.lit (.int .u8 224), .lit (.int .u8 224)], .agg [.lit (.int .u8 160), .lit (.int .u8 191)], .agg [.lit (.int .u8 128), .lit (.int .u8 191)], .agg [.lit (.int .u8 0), .lit (.int .u8 0)]]], .agg [.lit (.int .i64 3), .agg [.agg [.lit (.int .u8 225), .lit (.int .u8 236)], .agg [.lit (.int .u8 128), .lit (.int .u8 191)], .agg [.lit (.int .u8 128), .lit (.int .u8 191)], .agg [.lit (.int .u8 0), .lit (.int .u8 0)]]], .agg [.lit (.int .i64 3), .agg [.agg [.lit (.int .u8 237), .lit (.int .u8 237)], .agg [.lit (.int .u8 128), .lit (.int .u8 159)], .agg [.lit (.int .u8 128), .lit (.int .u8 191)], .agg [.lit (.int .u8 0), .lit (.int .u8 0)]]], .agg [.lit (.int .i64 3), .agg [.agg [.lit (.int .u8 238), .lit (.int .u8 239)], .agg [.lit (.int .u8 128), .lit (.int .u8 191)], .agg [.lit (.int .u8 128), .lit (.int .u8 191)], .agg [.lit (.int .u8 0), .lit (.int .u8 0)]]], .agg [.lit (.int .i64 4), .agg [.agg [.lit (.int .u8 240), .lit (.int .u8 240)], .agg [.lit (.int .u8 144), .lit (.int .u8 191)], .agg [.lit (.int .u8 128), .lit (.int .u8 191)], .agg [.lit (.int .u8 128), .lit (.int .u8 191)]]], .agg [.lit (.int .i64 4), .agg [.agg [.lit (.int .u8 241), .lit (.int .u8 243)], .agg [.lit (.int .u8 128), .lit (.int .u8 191)], .agg [.lit (.int .u8 128), .lit (.int .u8 191)], .agg [.lit (.int .u8 128), .lit (.int .u8 191)]]], .agg [.lit (.int .i64 4), .agg [.agg [.lit (.int .u8 244), .lit (.int .u8 244)], .agg [.lit (.int .u8 128), .lit (.int .u8 143)], .agg [.lit (.int .u8 128), .lit (.int .u8 191)], .agg [.lit (.int .u8 128), .lit (.int .u8 191)]]]]

/-- 'betonylaw13.DrawTexts': WHATEVER THE INPUT: true; the input reads as it did. -/
def drawTextsSpec : ChangeSpec := { name := "drawTexts", fn := fun _ => fun
  | [d1, d2] => { results := [.lit (.bool true)], args := [d1, d2] }
  | _ => none }
def drawTextsRow : OpenClaim := { program := "yticccknocjnkpaadoor", sum := "e05949d2b5206f459d630b7d48162f44b1904c6971397415ccec480d75dc888d", func := "betony/betonylaw13.DrawTexts", spec := "drawTexts", inPlace := ["slices.overlaps[betony/api.Window]"], unfollowed := true, recurses := true, named := ["betony/utf.forms", "betony/wide.rows"], apart := false, laid := [("betony/wide.rows", laid_betony_wide_rows), ("betony/utf.forms", laid_betony_utf_forms)] }
def DrawTextsSaid : Prop := drawTextsRow.holds Tryd.pinned (OpenSpec.ofChange drawTextsSpec)

/-- ITS FALSE NEIGHBOUR: 'it returns false'. Refute it at one input. -/
def drawTextsWrong : ChangeSpec := { name := "drawTexts", fn := fun _ => fun
  | [d1, d2] => { results := [.lit (.bool false)], args := [d1, d2] }
  | _ => none }
def DrawTextsWrongFalsely : Prop := drawTextsRow.holds Tryd.pinned (OpenSpec.ofChange drawTextsWrong)

/- THE SECOND FORM. 'bulk': how many values and letters a reading holds, each counted each time it is reached (what is shared counts as often as it is met; a slice's spare places count too). A statement '..UptoSaid' is the law's where the arguments, and the package variables that the reading takes, are together of bulk at most 1048576: NARROWER than '..Said'. Prove '..Said' where nothing that the law and all that it calls make is longer than what came in: it says more and counts as full. Else prove '..UptoSaid'. A law counts once. -/
mutual
def uptoBulk {H : Type} : DataW H → Nat
  | .lit (.string bytes) => bytes.length + 1
  | .lit _ => 1
  | .nil => 1
  | .ptr d => uptoBulk d + 1
  | .slice elems spare => uptoBulkAll elems + uptoBulkAll spare + 1
  | .agg parts => uptoBulkAll parts + 1
  | .iface _ d => uptoBulk d + 1
  | .map entries => uptoBulkEntries entries + 1
  | .held _ => 1
def uptoBulkAll {H : Type} : List (DataW H) → Nat
  | [] => 0
  | d :: r => uptoBulk d + uptoBulkAll r
def uptoBulkEntries {H : Type} : List (Lit × DataW H) → Nat
  | [] => 0
  | x :: r => uptoBulkEntry x + uptoBulkEntries r
def uptoBulkEntry {H : Type} : Lit × DataW H → Nat
  | (.string bytes, d) => bytes.length + uptoBulk d + 1
  | (_, d) => uptoBulk d + 1
 end
def uptoSmall : (H : Type) → List (DataW H) → Bool := fun _ ds => decide (uptoBulkAll ds ≤ 1048576)
def OpenSpec.upto (s : _root_.Go.ChangeSpec) : _root_.Go.OpenSpec := { _root_.Go.OpenSpec.ofChange s with cond := some uptoSmall }

/-- 'betonylaw13.DrawTexts', WHERE WHAT IT READS IS OF BULK AT MOST 1048576: true; the input reads as it did. -/
def drawTextsUptoRow : OpenClaim := { program := "yticccknocjnkpaadoor", sum := "e05949d2b5206f459d630b7d48162f44b1904c6971397415ccec480d75dc888d", func := "betony/betonylaw13.DrawTexts", spec := "drawTexts", inPlace := ["slices.overlaps[betony/api.Window]"], unfollowed := true, recurses := true, named := ["betony/utf.forms", "betony/wide.rows"], apart := false, laid := [("betony/wide.rows", laid_betony_wide_rows), ("betony/utf.forms", laid_betony_utf_forms)], narrowed := true }
def DrawTextsUptoSaid : Prop := drawTextsUptoRow.holds Tryd.pinned (OpenSpec.upto drawTextsSpec)

end Rows
end Go.Proofs.YticccknocjnkpaaDoor
