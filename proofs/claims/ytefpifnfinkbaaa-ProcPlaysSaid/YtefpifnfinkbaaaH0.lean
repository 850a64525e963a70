/-
  One act of both: what stands when it is done. No conditions.
-/
import Derived.Test.YtefpifnfinkbaaaGB
namespace Go.Proofs.Ytefpifnfinkbaaa
open Go.RowKit

/-- What stands when an act was done on both, ahead of the comparison. -/
structure DoIn (w : World) (q : Tq) (x : Xr) (b4 b6 : Nat) (q1 : Tq) (x2 : Xr) (L : List Pr) (md : Int) (f : Int → Int) (c : Nat) (S : List Sg) (a : Option Addr) (cap : Nat) (a2 : Option Addr) (cap2 : Nat) (wx : World) : Prop where
  qb : q1.b = q.b
  tm : TAt wx q1 L md f c
  xa : XAt wx x2 L f
  h4 : XBox wx b4 (xs x2 L.length (md + 1))
  h6 : XBox wx b6 ⟨.slice none 0 0, 0, .slice none 0 0⟩
  s1 : SV wx a cap S
  s2 : SV wx a2 cap2 S
  mv : Moved q q1 w wx
  xf : XFrom w x x2
  dj : ∀ j, x2.has j → ¬ q1.own j
  n6 : ¬ q1.own b6
  m6 : ¬ x2.has b6

variable {w W0 w1 w2 wx : World} {q q1 : Tq} {x x2 : Xr} {b4 b6 : Nat} {L L0 : List Pr} {md : Int} {f f0 : Int → Int} {c : Nat} {S : List Sg} {a a2 : Option Addr} {cap cap2 : Nat} {X4 : Xs}

/-- What was so ahead of the act: two boxes that are new, apart from both tables. -/
structure DoAt (w : World) (q : Tq) (x : Xr) (b4 b6 : Nat) (X4 : Xs) (L0 : List Pr) (f0 : Int → Int) (W0 : World) : Prop where
  st : Stay (fun _ => False) w W0
  xa : XAt W0 x L0 f0
  lt : ∀ j, x.has j → j < w.heap.size
  ql : ∀ j, q.own j → j < w.heap.size
  dj : ∀ j, x.has j → ¬ q.own j
  h4 : XBox W0 b4 X4
  h6 : XBox W0 b6 ⟨.slice none 0 0, 0, .slice none 0 0⟩
  z4 : w.heap.size ≤ b4
  z6 : w.heap.size ≤ b6
  ne : ¬ b4 = b6

theorem DoIn.at (h : DoAt w q x b4 b6 X4 L0 f0 W0) (hq : q1.b = q.b) (hT : TAt w1 q1 L md f c) (hM : Moved q q1 W0 w1) (hX : XAt w2 x2 L f) (hs : Stay (fun _ => False) w1 w2) (hf : XFrom w1 x x2) (hS : SV w2 a cap S) (ha : ∀ j, a.map Addr.block = some j → W0.heap.size ≤ j) (hS2 : SV w2 a2 cap2 S) (ha2 : ∀ j, a2.map Addr.block = some j → W0.heap.size ≤ j) (hps : Stay (fun j => j = b4) w2 wx) (hb4 : XBox wx b4 (xs x2 L.length (md + 1))) :
    DoIn w q x b4 b6 q1 x2 L md f c S a cap a2 cap2 wx := by
  have l4 := h.h4.lt
  have l6 := h.h6.lt
  have z4 := h.z4
  have z6 := h.z6
  have sz0 := h.st.size
  have sz1 := hM.1.size
  have q4 : ¬ q1.own b4 := fun e => by
    rcases hM.2 b4 e with e1 | e1
    · have := h.ql b4 e1; omega
    · omega
  have q6 : ¬ q1.own b6 := fun e => by
    rcases hM.2 b6 e with e1 | e1
    · have := h.ql b6 e1; omega
    · omega
  have x4 : ∀ j, x2.has j → ¬ j = b4 := fun j hj e => by
    rcases hf j hj with e1 | e1
    · have := h.lt j e1; omega
    · omega
  have x6 : ¬ x2.has b6 := fun hj => by
    rcases hf b6 hj with e1 | e1
    · have := h.lt b6 e1; omega
    · omega
  have nq4 : ¬ q.own b4 := fun e => by have := h.ql b4 e; omega
  have nq6 : ¬ q.own b6 := fun e => by have := h.ql b6 e; omega
  refine ⟨hq, (hT.keep hs).stay hps (fun j hj e => by have : j = b4 := e; rw [this] at hj; exact q4 hj), hX.stay hps x4, hb4, ?_, hS.stay hps (fun j hj e => by have := ha j hj; have : j = b4 := e; omega), hS2.stay hps (fun j hj e => by have := ha2 j hj; have : j = b4 := e; omega), ⟨?_, ?_⟩, ?_, ?_, q6, x6⟩
  · exact ((h.h6.stay hM.1 nq6).keep hs).stay hps (fun e => h.ne e.symm)
  · exact (((h.st.mono (fun _ _ e => e.elim)).trans hM.1).trans (hs.mono (fun _ _ e => e.elim))).trans2 hps (fun j hj e => by have : j = b4 := e; omega)
  · exact fun j hj => by
      rcases hM.2 j hj with e1 | e1
      · exact .inl e1
      · exact .inr (by omega)
  · exact fun j hj => by
      rcases hf j hj with e1 | e1
      · exact .inl e1
      · exact .inr (by omega)
  · exact fun j hj hq' => by
      rcases hf j hj with e1 | e1
      · rcases hM.2 j hq' with e2 | e2
        · exact h.dj j e1 e2
        · have := h.lt j e1; omega
      · have := hT.lt j hq'; omega

theorem DoAt.h41 (h : DoAt w q x b4 b6 X4 L0 f0 W0) (hM : Moved q q1 W0 w1) : XBox w1 b4 X4 := h.h4.stay hM.1 (fun e => by have := h.ql b4 e; have := h.z4; omega)

theorem DoIn.of (h : DoAt w q x b4 b6 X4 L0 f0 W0) (hq : q1.b = q.b) (hT : TAt w1 q1 L md f c) (hM : Moved q q1 W0 w1) (hX : XAt w2 x2 L f) (hs : Stay (fun _ => False) w1 w2) (hf : XFrom w1 x x2) (hS : SV w2 a cap S) (ha : ∀ j, a.map Addr.block = some j → W0.heap.size ≤ j) (hS2 : SV w2 a2 cap2 S) (ha2 : ∀ j, a2.map Addr.block = some j → W0.heap.size ≤ j) :
    DoIn w q x b4 b6 q1 x2 L md f c S a cap a2 cap2 (((w2.setCell ⟨b4, 0, none⟩ (.slice x2.a L.length x2.cap)).setCell ⟨b4, 1, none⟩ (.int .i64 (md + 1))).setCell ⟨b4, 2, none⟩ (.slice x2.a2 65 x2.c2)) :=
  DoIn.at h hq hT hM hX hs hf hS ha hS2 ha2 (XBox.put_stay w2 b4 (.slice x2.a L.length x2.cap) (.int .i64 (md + 1)) (.slice x2.a2 65 x2.c2)) (((h.h41 hM).keep hs).put (xs x2 L.length (md + 1)))

/-- One act of both, done. -/
def DoP (q : Tq) (x : Xr) (c : Nat) (w : World) (e : Ending) (w' : World) : Prop := ∃ (q' : Tq) (x' : Xr) (L' : List Pr) (md' : Int) (f' : Int → Int), q'.b = q.b ∧ e = .returned (.tuple #[.agg #[.slice x'.a L'.length x'.cap, .int .i64 (md' + 1), .slice x'.a2 65 x'.c2], .bool true]) ∧ TAt w' q' L' md' f' (c + 1) ∧ XAt w' x' L' f' ∧ Moved q q' w w' ∧ XFrom w x x' ∧ ∀ j, x'.has j → ¬ q'.own j

end Go.Proofs.Ytefpifnfinkbaaa
