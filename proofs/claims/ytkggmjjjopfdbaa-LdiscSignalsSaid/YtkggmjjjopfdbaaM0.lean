/-
  A discipline, as the document tells it: plain. No conditions.
-/
import Derived.Test.YtkggmjjjopfdbaaL17C4
import Derived.Test.YtkggmjjjopfdbaaG0
namespace Go.Proofs.Ytkggmjjjopfdbaa
open Go.RowKit
open L17

/-- A discipline's state, and what it shows. -/
structure DS where
  t : Tm
  line : List Int
  lines : List (List Int)
  raw : List Int
  stp : Bool
  nxt : Bool
  ec : List Int

namespace DS

def loc (d : DS) (f : Int) : Bool := hasB d.t.fl f
def inp (d : DS) (f : Int) : Bool := hasB d.t.fi f

/-- A byte's picture. -/
def pic (d : DS) (c : Int) : List Int :=
  if d.loc 32 = true ∧ c < 32 ∧ ¬ c = 9 ∧ ¬ c = 10 then [94, c + 64] else if d.loc 32 = true ∧ c = 127 then [94, 63] else [c]

def out (d : DS) (l : List Int) : DS := ⟨d.t, d.line, d.lines, d.raw, d.stp, d.nxt, d.ec ++ l⟩
def setLine (d : DS) (l : List Int) : DS := ⟨d.t, l, d.lines, d.raw, d.stp, d.nxt, d.ec⟩
def setLines (d : DS) (l : List (List Int)) : DS := ⟨d.t, d.line, l, d.raw, d.stp, d.nxt, d.ec⟩
def setRaw (d : DS) (l : List Int) : DS := ⟨d.t, d.line, d.lines, l, d.stp, d.nxt, d.ec⟩
def setStp (d : DS) (b : Bool) : DS := ⟨d.t, d.line, d.lines, d.raw, b, d.nxt, d.ec⟩
def setNxt (d : DS) (b : Bool) : DS := ⟨d.t, d.line, d.lines, d.raw, d.stp, b, d.ec⟩
def setEc (d : DS) (l : List Int) : DS := ⟨d.t, d.line, d.lines, d.raw, d.stp, d.nxt, l⟩
def setT (d : DS) (t : Tm) : DS := ⟨t, d.line, d.lines, d.raw, d.stp, d.nxt, d.ec⟩

def shw (d : DS) (c : Int) : DS := if d.loc 2 = true then d.out (d.pic c) else d
def lost (d : DS) : DS := if d.inp 64 = true then d.out [7] else d

/-- All that is ready, and the line. -/
def all (d : DS) : List Int := d.raw ++ d.lines.flatten ++ d.line
def cnt (d : DS) : Nat := d.raw.length + d.lines.flatten.length

def flush (d : DS) : DS := ⟨d.t, [], [], [], d.stp, d.nxt, d.ec⟩

def set (d : DS) (t : Tm) : DS :=
  if d.loc 1 = (d.setT t).loc 1 then d.setT t
  else if (d.setT t).loc 1 = false then (d.setT t).flush.setRaw d.all
  else (d.setT t).flush.setLine (d.all.take 254)

def ends (d : DS) (c : Int) : Bool := c == 10 || isB d.t 4 c
def room (d : DS) (c : Int) : Bool :=
  (d.loc 1 && (decide (d.line.length < 254) || (d.ends c && decide (d.line.length < 255)))) || (!d.loc 1 && decide (d.raw.length < 1024))
/-- A byte is laid behind the line, or behind what is ready. -/
def lay (d : DS) (c : Int) : DS := if d.loc 1 = true then d.setLine (d.line ++ [c]) else d.setRaw (d.raw ++ [c])
/-- A 0a is shown, though nothing else is. -/
def nl (d : DS) (c : Int) : DS := if c = 10 ∧ d.loc 1 = true ∧ d.loc 16 = true ∧ d.loc 2 = false then d.out [10] else d
def put (d : DS) (c : Int) : DS := if d.room c = true then ((d.lay c).nl c).shw c else d.lost

/-- What is shown when a byte is taken back. -/
def rub (d : DS) (c : Int) : List Int := if d.loc 2 = true ∧ d.loc 4 = true then (d.pic c).flatMap (fun _ => [8, 32, 8]) else []
def back (d : DS) : DS := (d.setLine d.line.dropLast).out (d.rub (d.line.getLastD 0))
def blk (c : Int) : Bool := c == 32 || c == 9

/-- As long as the last byte is one of those, at most n, it is taken back. -/
def backs (p : Int → Bool) : Nat → DS → DS
  | 0, d => d
  | n + 1, d => if d.line = [] then d else if p (d.line.getLastD 0) = true then backs p n d.back else d

def ready (d : DS) : DS := if (d.setLine []).cnt + d.line.length > 1024 then (d.setLine []).lost else (d.setLine []).setLines (d.lines ++ [d.line])

def shows : List Int → DS → DS
  | [], d => d
  | c :: l, d => shows l (d.shw c)

/-- What is put, and ends a line. -/
def enter (d : DS) (c : Int) : DS := if d.room c = true ∧ d.ends c = true then (d.put c).ready else d.put c

/-- Taking back: Verase and Vkill. -/
def kills (d : DS) (c : Int) : DS :=
  let e := backs (fun _ => true) (if isB d.t 5 c = true then 1 else d.line.length) d
  let g := if d.loc 4 = false then e.shw c else e
  if isB d.t 5 c = false ∧ d.loc 8 = true ∧ d.loc 2 = true then g.out [10] else g

/-- Vreprint. -/
def again (d : DS) (c : Int) : DS :=
  let e := d.shw c
  shows d.line (if d.loc 2 = true then e.out [10] else e)

/-- With Icanon. -/
def canon (d : DS) (c : Int) : DS :=
  if d.loc 512 = true ∧ isB d.t 9 c = true then (if d.loc 2 = true then (d.setNxt true).out [94, 8] else d.setNxt true)
  else if d.loc 512 = true ∧ isB d.t 7 c = true then backs (fun x => !blk x) (backs blk d.line.length d).line.length (backs blk d.line.length d)
  else if d.loc 512 = true ∧ isB d.t 8 c = true then d.again c
  else if isB d.t 5 c = true ∨ isB d.t 6 c = true then d.kills c
  else if isB d.t 3 c = true then d.ready
  else d.enter c

/-- Which signal a byte is: 3: none. -/
def sigOf (d : DS) (c : Int) : Nat :=
  if d.loc 64 = false then 3 else if isB d.t 0 c = true then 0 else if isB d.t 1 c = true then 1 else if isB d.t 2 c = true then 2 else 3
def signal (d : DS) (c : Int) : DS := if (d.shw c).loc 128 = false then (d.shw c).flush.setStp false else d.shw c

/-- Behind the start and the stop. -/
def plainIn (d : DS) (c : Int) : DS × Int :=
  if d.sigOf c < 3 then (d.signal c, (d.sigOf c : Int) + 1)
  else if d.loc 1 = false then (d.put c, 0) else (d.canon c, 0)

def mapped (d : DS) (c : Int) : DS × Int :=
  if d.inp 16 = true ∧ (isB d.t 11 c = true ∨ isB d.t 10 c = true) then (d.setStp (isB d.t 11 c), 0)
  else if d.inp 16 = true ∧ d.inp 32 = true then (d.setStp false).plainIn c else d.plainIn c

/-- A byte of input. -/
def input (d0 : DS) (c : Int) : DS × Int :=
  let d := d0.setEc []
  if d0.nxt = true then ((d.setNxt false).put (low d0.t.fi c), 0)
  else if mapI d0.t.fi c < 0 then (d, 0) else d.mapped (mapI d0.t.fi c)

/-- Bytes are read: which, whether it is an end of file, and what stays. -/
def rd (d : DS) (n : Int) : List Int × Bool :=
  if n < 1 then ([], false)
  else if d.loc 1 = false then (d.raw.take n.toNat, false)
  else match d.lines with
    | [] => ([], false)
    | l :: _ => (l.take n.toNat, l.isEmpty)
def rdS (d : DS) (n : Int) : DS :=
  if n < 1 then d
  else if d.loc 1 = false then d.setRaw (d.raw.drop n.toNat)
  else match d.lines with
    | [] => d
    | l :: r => if n < l.length then d.setLines (l.drop n.toNat :: r) else d.setLines r

end DS

end Go.Proofs.Ytkggmjjjopfdbaa
