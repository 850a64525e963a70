/-
  What stands at the head of a round of GridPlays; the switch of its text. No conditions.
-/
import Derived.Test.YtmpmdlbhiogelaaEB
import Derived.Deep.DeepCutAuto
import Derived.Deep.CutBlock
namespace Go.Proofs.Ytmpmdlbhiogelaa
open Go.RowKit

/-- What stands at the head of a round of GridPlays. -/
structure PH (w : World) (X1 X2 : Nat) (G O : Gr) (q p : Rf) (f g : Nat → Cl) (wr : World) : Prop where
  stay : Stay (fun _ => False) w wr
  b1 : BoxG wr X1 q.g3
  b2 : BoxG wr X2 p.g3
  g1 : GridAt wr G f
  r1 : RefAt wr q f
  g2 : GridAt wr O g
  r2 : RefAt wr p g
  n1 : w.heap.size ≤ X1 ∧ w.heap.size ≤ X2 ∧ X1 ≠ X2 ∧ w.heap.size ≤ G.bc ∧ w.heap.size ≤ O.bc
  o1 : G.off O.bc ∧ G.off X1 ∧ G.off X2
  o2 : O.off G.bc ∧ O.off X1 ∧ O.off X2
  o3 : q.b ≠ G.bc ∧ q.b ≠ O.bc ∧ q.b ≠ X1 ∧ q.b ≠ X2
  o4 : p.b ≠ G.bc ∧ p.b ≠ O.bc ∧ p.b ≠ X1 ∧ p.b ≠ X2
  sz : q.w = G.w ∧ q.h = G.h ∧ p.w = O.w ∧ p.h = O.h

/-- The act is laid in a box. -/
theorem PH.act {w wr : World} {X1 X2 B : Nat} {a : Ac} {G O : Gr} {q p : Rf} {f g : Nat → Cl} (h : PH w X1 X2 G O q p f g wr) (hB : B = wr.heap.size) : PL w X1 X2 B a G O q p f f g g (wr.alloc (.cells #[.int .i64 a.d, .int .i64 a.r.x, .int .i64 a.r.y, .int .i64 a.r.w, .int .i64 a.r.h, .int .i64 a.x, .int .i64 a.y, .int .i32 a.c.r, .int .i64 a.c.fg, .int .i64 a.c.bg, .int .i64 a.c.fl] 37)) := by
  have hs : Stay (fun _ => False) wr (wr.alloc (.cells #[.int .i64 a.d, .int .i64 a.r.x, .int .i64 a.r.y, .int .i64 a.r.w, .int .i64 a.r.h, .int .i64 a.x, .int .i64 a.y, .int .i32 a.c.r, .int .i64 a.c.fg, .int .i64 a.c.bg, .int .i64 a.c.fl] 37)) := (Stay.refl _ _).alloc _
  have h1 := h.b1.lt
  have h2 := h.b2.lt
  have h3 := h.g1.lt
  have h4 := h.g2.lt
  exact ⟨h.stay.trans hs, AcBox.new a hB.symm, h.b1.keep hs, h.b2.keep hs, h.g1.keep hs, h.r1.keep hs, h.g2.keep hs, h.r2.keep hs, h.n1, ⟨by omega, by omega, by omega, by omega⟩, h.o1, h.o2, h.o3, h.o4⟩

theorem PL.head {w wr : World} {X1 X2 B : Nat} {a : Ac} {G O : Gr} {q p : Rf} {f g : Nat → Cl} (h : PL w X1 X2 B a G O q p f f g g wr) (hz : q.w = G.w ∧ q.h = G.h ∧ p.w = O.w ∧ p.h = O.h) : PH w X1 X2 G O q p f g wr :=
  ⟨h.stay, h.b1, h.b2, h.g1, h.r1, h.g2, h.r2, h.n1, h.o1, h.o2, h.o3, h.o4, hz⟩

/-- The first pair is the same again. -/
theorem PL.meet1 {w wr : World} {X1 X2 B : Nat} {a : Ac} {G O : Gr} {q p : Rf} {f f' g g' : Nat → Cl} (h : PL w X1 X2 B a G O q p f f' g g' wr) (hw : q.w = G.w ∧ q.h = G.h) (e : ∀ X Y : Nat, X < G.w → Y < G.h → f' (Y * G.w + X) = f (Y * G.w + X)) : PL w X1 X2 B a G O q p f f g g' wr :=
  ⟨h.stay, h.act, h.b1, h.b2, h.g1, h.r1.congr (fun i hi => cells_all h.g1.w1 e i (by rw [h.r1.n1, hw.1, hw.2] at hi; exact hi)), h.g2, h.r2, h.n1, h.n2, h.o1, h.o2, h.o3, h.o4⟩

set_option maxRecDepth 100000 in
theorem plays_long (ad : Option Addr) (n cap : Nat) (x y : Int) (w : World) (hle : (n : Int) ≤ 9223372036854775807) (hn : 40 < n) : Calls Try.prog 3 #[.int .u8 x, .int .u8 y, .slice ad n cap] w (LawTrue w) := by
  have n1 : (40 : Int) < (n : Nat) := by omega
  have HAW := hide' awake7
  go_enter Try.func3, Try.ntmps3
  go_wp2_with fail
  refine (HAW.out _).mono ?_
  rintro e w9 ⟨rfl, hs⟩
  have HE := hide' hs
  clear hs
  go_wp2
  go_ret
  exact ⟨by simp, HE.out⟩

/-- Block n of a text. -/
def findBlk (n : Nat) : Code → Option Code
  | .block m c => if m == n then some (.block m c) else findBlk n c
  | .seq a b => match findBlk n a with
    | some c => some c
    | none => findBlk n b
  | .loop c => findBlk n c
  | .scope c => findBlk n c
  | .cond _ a b => match findBlk n a with
    | some c => some c
    | none => findBlk n b
  | _ => none

/-- The switch. -/
noncomputable def switch3 : Code := (Try.f3.body.bind (findBlk 2)).getD .skip

end Go.Proofs.Ytmpmdlbhiogelaa
