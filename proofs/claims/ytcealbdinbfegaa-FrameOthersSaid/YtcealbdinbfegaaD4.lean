/-
  A rectangle of a grid is filled: walked. No conditions.
-/
import Derived.Test.YtcealbdinbfegaaD3
import Derived.Deep.DeepCutAuto
namespace Go.Proofs.Ytcealbdinbfegaa
open Go.RowKit

theorem Box.stay {T : Nat → Prop} {W w1 : World} {b : Nat} {r : R} (h : Box W b r) (hs : Stay T W w1) (hn : ¬ T b) : Box w1 b r := by
  have hb : b < W.heap.size := World.block_lt_of_cell? _ _ h.c0
  have c : ∀ o, w1.cell? ⟨b, o, none⟩ = W.cell? ⟨b, o, none⟩ := fun o => hs.cell (p := ⟨b, o, none⟩) hb hn
  have f : ∀ o, w1.frozen? ⟨b, o, none⟩ = W.frozen? ⟨b, o, none⟩ := fun o => hs.frozen (p := ⟨b, o, none⟩) hb hn
  exact ⟨(c 0).trans h.c0, (c 1).trans h.c1, (c 2).trans h.c2, (c 3).trans h.c3, (f 0).trans h.f0, (f 1).trans h.f1, (f 2).trans h.f2, (f 3).trans h.f3⟩

end Go.Proofs.Ytcealbdinbfegaa
