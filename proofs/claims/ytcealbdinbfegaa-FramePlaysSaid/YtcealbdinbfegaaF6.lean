/-
  FramePlays: what stands at the head of a round. No conditions.
-/
import Derived.Test.YtcealbdinbfegaaF5
namespace Go.Proofs.Ytcealbdinbfegaa
open Go.RowKit

/-- A frame, and the document's grid and notes beside it. -/
structure PIn (w : World) (b xb a h : Nat) (q : Fm) (r : Rf) (f g : Nat → Cl) (L M : List Wr) (v : Value) (wr : World) : Prop where
  fin : FIn w wr b a h q f L
  box : BoxG wr xb r.g3
  ref : RefAt wr r g
  row : Win wr 6 v M.length (wrs M)
  rw' : r.w = a
  rh' : r.h = h
  nx : w.heap.size ≤ xb
  nr : w.heap.size ≤ r.b
  nv : ∀ j, v.ownBlock = some j → w.heap.size ≤ j ∧ ¬ q.own j ∧ j ≠ xb ∧ j ≠ r.b
  xo : ¬ q.own xb
  ro : ¬ q.own r.b
  xr : r.b ≠ xb

variable {w wr w1 w2 : World} {b xb a h n : Nat} {q q2 : Fm} {r r2 : Rf} {f f2 g g2 : Nat → Cl} {L L2 M : List Wr} {v v2 : Value} {p : Wr}

theorem PIn.keep (i : PIn w b xb a h q r f g L M v wr) (hs : Stay (fun _ => False) wr w1) : PIn w b xb a h q r f g L M v w1 :=
  ⟨i.fin.keep hs, i.box.keep hs, i.ref.keep hs, i.row.stay hs (fun _ _ h => h), i.rw', i.rh', i.nx, i.nr, i.nv, i.xo, i.ro, i.xr⟩

/-- The frame moves. -/
theorem PIn.move (i : PIn w b xb a h q r f g L M v wr) (hf : FIn w w1 b a h q2 f2 L2) (hm : Moved q q2 wr w1) : PIn w b xb a h q2 r f2 g L2 M v w1 := by
  have n : ∀ j, j < wr.heap.size → ¬ q.own j → ¬ q2.own j := fun j hj hn h2 => by
    rcases hm.2 j h2 with h3 | h3
    · exact hn h3
    · omega
  exact ⟨hf, i.box.stay hm.1 i.xo, i.ref.stay hm.1 i.ro, i.row.stay hm.1 (fun j hj => (i.nv j hj).2.1), i.rw', i.rh', i.nx, i.nr, fun j hj => ⟨(i.nv j hj).1, n j (i.row.lt j hj) (i.nv j hj).2.1, (i.nv j hj).2.2⟩, n _ i.box.lt i.xo, n _ i.ref.lt i.ro, i.xr⟩

/-- The document's notes are one more. -/
theorem PIn.noted (i : PIn w b xb a h q r f g L M v wr) (hw : Win w1 6 v2 (M.length + 1) (wrs M ++ p.parts)) (hs : Stay (fun j => v.ownBlock = some j) wr w1) (hb : v2.ownBlock = v.ownBlock ∨ v2.ownBlock = some wr.heap.size) : PIn w b xb a h q r f g L (M ++ [p]) v2 w1 := by
  have hv : ∀ j, v2.ownBlock = some j → v.ownBlock = some j ∨ wr.heap.size = j := fun j hj => by
    rcases hb with h1 | h1
    · exact .inl (by rw [← h1]; exact hj)
    · rw [hj] at h1
      cases h1
      exact .inr rfl
  refine ⟨i.fin.other hs (fun j hj => ⟨(i.nv j hj).1, (i.nv j hj).2.1⟩), i.box.stay hs (fun e => (i.nv _ e).2.2.1 rfl), i.ref.stay hs (fun e => (i.nv _ e).2.2.2 rfl), ?_, i.rw', i.rh', i.nx, i.nr, fun j hj => ?_, i.xo, i.ro, i.xr⟩
  · rw [wrs_append, wrs_one, List.length_append]
    exact hw
  · rcases hv j hj with h1 | h1
    · exact i.nv j h1
    · subst h1
      have h2 := i.box.lt
      have h3 := i.ref.lt
      exact ⟨i.fin.stay.size, i.fin.at'.fresh (Nat.le_refl _), by omega, by omega⟩

/-- The document's grid is another one, and its box holds it. -/
theorem PIn.other (i : PIn w b xb a h q r f g L M v wr) (hs : Stay (fun _ => False) wr w1) (hr : RefAt w1 r2 g2) (e1 : r2.w = r.w) (e2 : r2.h = r.h) (hn : wr.heap.size ≤ r2.b) (ht : Stay (fun j => j = xb) w1 w2) (hb : BoxG w2 xb r2.g3) : PIn w b xb a h q r2 f g2 L M v w2 := by
  have hx := i.box.lt
  have k := i.keep hs
  refine ⟨k.fin.other ht (fun j e => by rw [e]; exact ⟨i.nx, i.xo⟩), hb, hr.stay ht (fun e => by omega), k.row.stay ht (fun j hj e => (i.nv j hj).2.2.1 e), e1.trans i.rw', e2.trans i.rh', i.nx, Nat.le_trans i.fin.stay.size hn, fun j hj => ⟨(i.nv j hj).1, (i.nv j hj).2.1, (i.nv j hj).2.2.1, fun e => ?_⟩, i.xo, i.fin.at'.fresh hn, fun e => by omega⟩
  have := i.row.lt j hj
  omega

/-- Other notes begin. -/
theorem PIn.begins (i : PIn w b xb a h q r f g L M v wr) : PIn w b xb a h q r f g L [] (.slice none 0 0) wr :=
  ⟨i.fin, i.box, i.ref, Win.nil _ _, i.rw', i.rh', i.nx, i.nr, (fun j hj => by cases hj), i.xo, i.ro, i.xr⟩

end Go.Proofs.Ytcealbdinbfegaa
