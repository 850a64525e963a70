/-
  Frames in memory. No conditions.
-/
import Derived.Test.YtcealbdinbfegaaB4
import Derived.Test.YtcealbdinbfegaaE4
namespace Go.Proofs.Ytcealbdinbfegaa
open Go.RowKit

/-- Where a frame lies: its block, its grid, its notes. -/
structure Fm where
  b : Nat
  G : Gr
  v : Value

/-- With other notes. -/
def Fm.with (q : Fm) (v : Value) : Fm := ⟨q.b, q.G, v⟩

/-- The blocks that are a frame's. -/
def Fm.own (q : Fm) (j : Nat) : Prop := j = q.b ∨ (j = q.G.g ∨ j = q.G.br ∨ j = q.G.bc) ∨ q.v.ownBlock = some j

/-- A frame that lies in memory: its cells, and what is noted. -/
structure FAt (W : World) (q : Fm) (f : Nat → Cl) (L : List Wr) : Prop where
  grid : GridAt W q.G f
  box : FBox W q.b ⟨.pointer (some ⟨q.G.g, 0, none⟩), q.v⟩
  row : Win W 6 q.v L.length (wrs L)
  off : q.G.off q.b
  vb : ∀ j, q.v.ownBlock = some j → j ≠ q.b ∧ q.G.off j

variable {w W W1 wa : World} {q q2 : Fm} {f g : Nat → Cl} {L M : List Wr} {v : Value}

theorem FAt.lt (h : FAt W q f L) : ∀ j, q.own j → j < W.heap.size := by
  intro j hj
  have hg := h.grid.lt
  rcases hj with rfl | (rfl | rfl | rfl) | hj
  · exact h.box.lt
  · exact hg.1
  · exact hg.2.1
  · exact hg.2.2
  · exact h.row.lt j hj

theorem FAt.stay {T : Nat → Prop} (h : FAt W q f L) (hs : Stay T W W1) (hn : ∀ j, q.own j → ¬ T j) : FAt W1 q f L :=
  ⟨h.grid.stay hs (hn _ (.inr (.inl (.inl rfl)))) (hn _ (.inr (.inl (.inr (.inl rfl))))) (hn _ (.inr (.inl (.inr (.inr rfl))))), h.box.stay hs (hn _ (.inl rfl)), h.row.stay hs (fun j hj => hn j (.inr (.inr hj))), h.off, h.vb⟩

theorem FAt.keep (h : FAt W q f L) (hs : Stay (fun _ => False) W W1) : FAt W1 q f L := h.stay hs (fun _ _ h => h)

theorem FAt.fresh (h : FAt W q f L) {j : Nat} (hj : W.heap.size ≤ j) : ¬ q.own j := fun h2 => by have := h.lt j h2; omega

theorem FAt.congr (h : FAt W q f L) (e : ∀ i, i < q.G.w * q.G.h → f i = g i) : FAt W q g L := ⟨h.grid.congr e, h.box, h.row, h.off, h.vb⟩

/-- The grid's cells have turned. -/
theorem FAt.turn (h : FAt W q f L) (hs : Stay (fun k => k = q.G.bc) W W1) (hg : GridAt W1 q.G g) : FAt W1 q g L :=
  ⟨hg, h.box.stay hs (fun e => h.off.2.2 e.symm), h.row.stay hs (fun j hj e => (h.vb j hj).2.2.2 e.symm), h.off, h.vb⟩

/-- What turned is the frame's; what is new of it is new. -/
def Moved (q q' : Fm) (w w' : World) : Prop := Stay q.own w w' ∧ ∀ j, q'.own j → q.own j ∨ w.heap.size ≤ j

theorem Moved.after (h : Moved q q2 W W1) (hs : Stay q.own w W) : Moved q q2 w W1 := ⟨hs.trans h.1, fun j hj => by
  rcases h.2 j hj with h1 | h1
  · exact .inl h1
  · exact .inr (Nat.le_trans hs.size h1)⟩

theorem Moved.turn (hs : Stay q.own w W) : Moved q q w W := ⟨hs, fun _ h => .inl h⟩

/-- One more write is noted. -/
theorem FAt.note (h : FAt W q f L) (p : Wr) (hw : Win wa 6 v (L.length + 1) (wrs L ++ p.parts)) (hs : Stay (fun j => q.v.ownBlock = some j) W wa) (hb : v.ownBlock = q.v.ownBlock ∨ v.ownBlock = some W.heap.size) :
    FAt (wa.setCell ⟨q.b, 1, none⟩ v) (q.with v) f (L ++ [p]) ∧ Moved q (q.with v) W (wa.setCell ⟨q.b, 1, none⟩ v) := by
  have hst : Stay (fun j => j = q.b) wa (wa.setCell ⟨q.b, 1, none⟩ v) := (Stay.refl (fun j => j = q.b) wa).setCell (p := ⟨q.b, 1, none⟩) rfl _
  have hv : ∀ j, v.ownBlock = some j → q.v.ownBlock = some j ∨ W.heap.size = j := fun j hj => by
    rcases hb with h1 | h1
    · exact .inl (by rw [← h1]; exact hj)
    · rw [hj] at h1
      cases h1
      exact .inr rfl
  have hvb : ∀ j, v.ownBlock = some j → j ≠ q.b ∧ q.G.off j := fun j hj => by
    rcases hv j hj with h1 | h1
    · exact h.vb j h1
    · have hg := h.grid.lt
      have hbl := h.box.lt
      exact ⟨by omega, by unfold Gr.off; omega⟩
  have hg : GridAt wa q.G f := h.grid.stay hs (fun e => (h.vb _ e).2.1 rfl) (fun e => (h.vb _ e).2.2.1 rfl) (fun e => (h.vb _ e).2.2.2 rfl)
  have hbx : FBox wa q.b ⟨.pointer (some ⟨q.G.g, 0, none⟩), q.v⟩ := h.box.stay hs (fun e => (h.vb _ e).1 rfl)
  refine ⟨⟨hg.apart hst h.off, hbx.put1 rfl, ?_, h.off, hvb⟩, ?_, fun j hj => ?_⟩
  · show Win _ 6 v (L ++ [p]).length (wrs (L ++ [p]))
    rw [wrs_append, wrs_one, List.length_append]
    exact hw.stay hst (fun j hj => (hvb j hj).1)
  · exact (hs.mono (fun j _ e => Or.inr (Or.inr e))).trans (hst.mono (fun j _ e => Or.inl e))
  · rcases hj with hj | hj | hj
    · exact .inl (.inl hj)
    · exact .inl (.inr (.inl hj))
    · rcases hv j hj with h1 | h1
      · exact .inl (.inr (.inr h1))
      · exact .inr (by omega)

/-- The notes are taken. -/
theorem FAt.took (h : FAt W q f L) : FAt (W.setCell ⟨q.b, 1, none⟩ (.slice none 0 0)) (q.with (.slice none 0 0)) f [] ∧ Win (W.setCell ⟨q.b, 1, none⟩ (.slice none 0 0)) 6 q.v L.length (wrs L) ∧ Stay (fun j => j = q.b) W (W.setCell ⟨q.b, 1, none⟩ (.slice none 0 0)) := by
  have hst : Stay (fun j => j = q.b) W (W.setCell ⟨q.b, 1, none⟩ (.slice none 0 0)) := (Stay.refl (fun j => j = q.b) W).setCell (p := ⟨q.b, 1, none⟩) rfl _
  exact ⟨⟨h.grid.apart hst h.off, h.box.put1 rfl, Win.nil _ _, h.off, fun j hj => by cases hj⟩, h.row.stay hst (fun j hj => (h.vb j hj).1), hst⟩

end Go.Proofs.Ytcealbdinbfegaa
