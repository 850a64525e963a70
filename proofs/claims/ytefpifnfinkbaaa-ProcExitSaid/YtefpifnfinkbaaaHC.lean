/-
  What stands ahead of an act and behind it, where the act's answer has a box of its own. No conditions.
-/
import Derived.Test.YtefpifnfinkbaaaH3
namespace Go.Proofs.Ytefpifnfinkbaaa
open Go.RowKit

/-- What stands ahead of an act: both tables, and the box that holds the document's. -/
structure PK (W : World) (qb b8 k : Nat) (wr : World) (q : Tq) (x : Xr) (L : List Pr) (md : Int) (f : Int → Int) : Prop where
  qb : q.b = qb
  tm : TAt wr q L md f (k + 1)
  xa : XAt wr x L f
  bx : XBox wr b8 (xs x L.length (md + 1))
  dj : ∀ j, x.has j → ¬ q.own j
  st : Stay (fun _ => False) W wr
  qn : ∀ j, q.own j → W.heap.size ≤ j
  q8 : ¬ q.own b8
  x8 : ¬ x.has b8
  z8 : W.heap.size ≤ b8

/-- .. when an act is done, and its answer lies in a box. -/
structure PM (W : World) (qb b8 k b6 : Nat) (wr : World) (q : Tq) (x : Xr) (L : List Pr) (md : Int) (f : Int → Int) : Prop where
  qb : q.b = qb
  tm : TAt wr q L md f (k + 1 + 1)
  xa : XAt wr x L f
  bx : ∃ X8, XBox wr b8 X8
  b6 : XBox wr b6 (xs x L.length (md + 1))
  dj : ∀ j, x.has j → ¬ q.own j
  st : Stay (fun _ => False) W wr
  qn : ∀ j, q.own j → W.heap.size ≤ j
  q8 : ¬ q.own b8
  x8 : ¬ x.has b8
  z8 : W.heap.size ≤ b8

variable {W w0 w1 w2 w3 w4 : World} {qb b8 b6 k : Nat} {q q1 : Tq} {x x1 : Xr} {L L1 : List Pr} {md m1 : Int} {f f1 : Int → Int}

theorem PK.keep (h : PK W qb b8 k w0 q x L md f) (hs : Stay (fun _ => False) w0 w1) : PK W qb b8 k w1 q x L md f :=
  ⟨h.qb, h.tm.keep hs, h.xa.keep hs, h.bx.keep hs, h.dj, h.st.trans hs, h.qn, h.q8, h.x8, h.z8⟩

/-- The answer's box is laid ahead of the act, or behind it, and is given the answer. -/
theorem PK.mid {r : Xs} (h : PK W qb b8 k w0 q x L md f) (h0 : Stay (fun _ => False) w0 w1) (hq : q1.b = q.b) (hT : TAt w2 q1 L1 m1 f1 (k + 1 + 1)) (hX : XAt w2 x1 L1 f1) (hM : Moved q q1 w1 w2) (hf : XFrom w1 x x1) (hd : ∀ j, x1.has j → ¬ q1.own j) (h2 : Stay (fun _ => False) w2 w3) (hb : XBox w3 b6 r) (hz : w0.heap.size ≤ b6) (ho : b6 < w1.heap.size ∨ w2.heap.size ≤ b6) :
    PM W qb b8 k b6 (((w3.setCell ⟨b6, 0, none⟩ (.slice x1.a L1.length x1.cap)).setCell ⟨b6, 1, none⟩ (.int .i64 (m1 + 1))).setCell ⟨b6, 2, none⟩ (.slice x1.a2 65 x1.c2)) q1 x1 L1 m1 f1 := by
  have l8 := h.bx.lt
  have z0 := h0.size
  have z1 := hM.1.size
  have zw := h.st.size
  have q8 : ¬ q1.own b8 := fun e => by
    rcases hM.2 b8 e with e1 | e1
    · exact h.q8 e1
    · omega
  have x8 : ¬ x1.has b8 := fun e => by
    rcases hf b8 e with e1 | e1
    · exact h.x8 e1
    · omega
  have q6 : ∀ j, q1.own j → ¬ j = b6 := fun j hj e => by
    have l1 := hT.lt j hj
    rcases hM.2 j hj with e1 | e1
    · have := h.tm.lt j e1; omega
    · omega
  have x6 : ∀ j, x1.has j → ¬ j = b6 := fun j hj e => by
    have l1 := hX.lt j hj
    rcases hf j hj with e1 | e1
    · have := h.xa.lt j e1; omega
    · omega
  have hps := XBox.put_stay w3 b6 (.slice x1.a L1.length x1.cap) (.int .i64 (m1 + 1)) (.slice x1.a2 65 x1.c2)
  refine ⟨hq.trans h.qb, (hT.keep h2).stay hps q6, (hX.keep h2).stay hps x6, ⟨_, (((h.bx.keep h0).stay hM.1 h.q8).keep h2).stay hps (fun e => ?_)⟩, hb.put (xs x1 L1.length (m1 + 1)), hd, ?_, ?_, q8, x8, h.z8⟩
  · have : b8 = b6 := e
    omega
  · exact XBox.stay_put ((((h.st.trans h0).trans2 hM.1 (fun j hj e => by have := h.qn j e; omega))).trans h2) (by omega) _ _ _
  · exact fun j hj => by
      rcases hM.2 j hj with e1 | e1
      · exact h.qn j e1
      · omega

/-- The box that holds the document's table is given the answer. -/
theorem PM.put (h : PM W qb b8 k b6 w0 q x L md f) : PK W qb b8 (k + 1) (((w0.setCell ⟨b8, 0, none⟩ (.slice x.a L.length x.cap)).setCell ⟨b8, 1, none⟩ (.int .i64 (md + 1))).setCell ⟨b8, 2, none⟩ (.slice x.a2 65 x.c2)) q x L md f := by
  obtain ⟨X8, hb⟩ := h.bx
  have hps := XBox.put_stay w0 b8 (.slice x.a L.length x.cap) (.int .i64 (md + 1)) (.slice x.a2 65 x.c2)
  exact ⟨h.qb, h.tm.stay hps (fun j hj e => by have : j = b8 := e; rw [this] at hj; exact h.q8 hj), h.xa.stay hps (fun j hj e => by have : j = b8 := e; rw [this] at hj; exact h.x8 hj), hb.put (xs x L.length (md + 1)), h.dj, XBox.stay_put h.st h.z8 _ _ _, h.qn, h.q8, h.x8, h.z8⟩

theorem ABoxAt.stay {T : Nat → Prop} {g o : Nat} {r : Ac} (h : ABoxAt w0 g o r) (hs : Stay T w0 w1) (hn : ¬ T g) : ABoxAt w1 g o r := by
  have hl := World.block_lt_of_cell? _ _ h.c0
  have e : ∀ j v, w0.cell? ⟨g, j, none⟩ = some v → w1.cell? ⟨g, j, none⟩ = some v := fun j v hv => (hs.cell (p := ⟨g, j, none⟩) hl hn).trans hv
  exact ⟨e _ _ h.c0, e _ _ h.c1, e _ _ h.c2, e _ _ h.c3, e _ _ h.c4, e _ _ h.c5⟩

end Go.Proofs.Ytefpifnfinkbaaa
