/-
  What holds beside a table: the switch of CapsPlays. No conditions.
-/
import Derived.Test.YtlhfpnfiamgmlaaR8
import Derived.Deep.DeepCutAuto
import Derived.Deep.CutBlock
namespace Go.Proofs.Ytlhfpnfiamgmlaa
open Go.RowKit

theorem QIn.le {w w1 wr : World} {T B n g ab nb : Nat} {q K J : Int} {f f2 : Nat → Sl} {N : List Nm} {mv : Value} {A : Ac} {c : Nm} (h : QIn w w1 T B n q f f2 K g N mv A ab c nb wr) (hK : K ≤ J) : QIn w w1 T B n q f f2 J g N mv A ab c nb wr :=
  ⟨h.tab.le hK, h.ref, h.vg, h.row, h.ap, h.act, h.nm, h.off, h.size⟩

/-- Block n of a text. -/
def findBlk (n : Nat) : Code → Option Code
  | .block m c => if m == n then some (.block m c) else findBlk n c
  | .seq a b => match findBlk n a with
    | some c => some c
    | none => findBlk n b
  | .loop c => findBlk n c
  | .scope c => findBlk n c
  | .cond _ a b => match findBlk n a with
    | some c => some c
    | none => findBlk n b
  | _ => none

/-- The switch. -/
noncomputable def switch3 : Code := (Try.f3.body.bind (findBlk 2)).getD .skip

end Go.Proofs.Ytlhfpnfiamgmlaa
