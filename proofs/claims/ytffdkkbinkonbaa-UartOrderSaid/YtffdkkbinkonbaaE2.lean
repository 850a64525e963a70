/-
  UartOrder: what stands at the head of a round. No conditions.
-/
import Derived.Test.YtffdkkbinkonbaaE1
namespace Go.Proofs.Ytffdkkbinkonbaa
open Go.RowKit

theorem info4 : (Try.prog.info? 4).map (fun i => (i.zero, i.size, i.bytes)) = some (some (.bool false), 1, 1) := by kernel_rfl

/-- Cells of bools. -/
def bos (Z : List Bool) : List Value := Z.map (Value.bool ·)

theorem bos_append (L K : List Bool) : bos (L ++ K) = bos L ++ bos K := by unfold bos; rw [List.map_append]

/-- A line, and the rows of what came and of what was lost. -/
structure OG (w : World) (b r : Nat) (o : Bool) (L : List (Int × Int)) (I : List Int) (Z : List Bool) (vi vl : Value) (q : Ln) (wr : World) : Prop where
  lin : LIn w wr b r o q L []
  oi : wr.ownsRow w.heap.size 5 1 vi I.length (bys I)
  ol : wr.ownsRow w.heap.size 4 1 vl Z.length (bos Z)
  fi : ∀ j, vi.ownBlock = some j → ¬ q.own j
  fl : ∀ j, vl.ownBlock = some j → ¬ q.own j
  il : ∀ j, vi.ownBlock = some j → ¬ vl.ownBlock = some j

variable {w : World} {b r : Nat} {o o2 : Bool} {L L2 : List (Int × Int)} {I : List Int} {Z : List Bool} {vi vl v2 : Value} {q q2 : Ln} {wr w1 w2 : World}

theorem OG.keep (h : OG w b r o L I Z vi vl q wr) (hs : Stay (fun _ => False) wr w1) : OG w b r o L I Z vi vl q w1 :=
  ⟨h.lin.keep hs, hs.owns h.oi (fun _ _ h => h), hs.owns h.ol (fun _ _ h => h), h.fi, h.fl, h.il⟩

theorem OG.move (h : OG w b r o L I Z vi vl q wr) (hl : LIn w w1 b r o2 q2 L2 []) (hm : Moved q q2 wr w1) : OG w b r o2 L2 I Z vi vl q2 w1 :=
  ⟨hl, hm.1.owns h.oi h.fi, hm.1.owns h.ol h.fl, fun j hj h2 => by
    rcases hm.2 j h2 with h3 | h3
    · exact h.fi j hj h3
    · have := (h.oi.lt j hj).2; omega, fun j hj h2 => by
    rcases hm.2 j h2 with h3 | h3
    · exact h.fl j hj h3
    · have := (h.ol.lt j hj).2; omega, h.il⟩

theorem OG.appI {x : Int} (h : OG w b r o L I Z vi vl q w1) (ho : w2.ownsRow w.heap.size 5 1 v2 (I.length + 1) (bys I ++ bys [x])) (hs : Stay (fun j => vi.ownBlock = some j) w1 w2) (hb : v2.ownBlock = vi.ownBlock ∨ v2.ownBlock = some w1.heap.size) : OG w b r o L (I ++ [x]) Z v2 vl q w2 := by
  refine ⟨h.lin.other hs (fun j hj => ⟨(h.oi.lt j hj).1, h.fi j hj⟩), by rw [bys_append, List.length_append]; exact ho, hs.owns h.ol (fun j hj e => h.il j e hj), fun j hj h2 => ?_, h.fl, fun j hj h2 => ?_⟩
  · rcases hb with hb | hb
    · exact h.fi j (by rw [← hb]; exact hj) h2
    · rw [hb] at hj; cases hj
      have := h.lin.at'.lt _ h2; omega
  · rcases hb with hb | hb
    · exact h.il j (by rw [← hb]; exact hj) h2
    · rw [hb] at hj; cases hj
      have := (h.ol.lt _ h2).2; omega

theorem OG.appZ {z : Bool} (h : OG w b r o L I Z vi vl q w1) (ho : w2.ownsRow w.heap.size 4 1 v2 (Z.length + 1) (bos Z ++ bos [z])) (hs : Stay (fun j => vl.ownBlock = some j) w1 w2) (hb : v2.ownBlock = vl.ownBlock ∨ v2.ownBlock = some w1.heap.size) : OG w b r o L I (Z ++ [z]) vi v2 q w2 := by
  refine ⟨h.lin.other hs (fun j hj => ⟨(h.ol.lt j hj).1, h.fl j hj⟩), hs.owns h.oi (fun j hj e => h.il j hj e), by rw [bos_append, List.length_append]; exact ho, h.fi, fun j hj h2 => ?_, fun j hj h2 => ?_⟩
  · rcases hb with hb | hb
    · exact h.fl j (by rw [← hb]; exact hj) h2
    · rw [hb] at hj; cases hj
      have := h.lin.at'.lt _ h2; omega
  · rcases hb with hb | hb
    · exact h.il j hj (by rw [← hb]; exact h2)
    · rw [hb] at h2; cases h2
      have := (h.oi.lt _ hj).2; omega

/-- The items that wait, of bytes that came and of what was lost ahead of each. -/
def wait (P : List (Int × Bool)) (k : Nat) : List (Int × Int) := (P.drop k).map fun p => (p.1, flagB p.2 0)

theorem wait_more (P : List (Int × Bool)) (k : Nat) (x : Int) (g : Bool) (hk : k ≤ P.length) : wait (P ++ [(x, g)]) k = wait P k ++ [(x, flagB g 0)] := by
  unfold wait
  rw [List.drop_append_of_le_length hk, List.map_append]
  rfl

theorem wait_none {P : List (Int × Bool)} {k : Nat} (hk : k = P.length) : wait P k = [] := by
  unfold wait
  rw [hk, List.drop_length]
  rfl

theorem wait_some {P : List (Int × Bool)} {k : Nat} (hk : k < P.length) : wait P k = ((P.map (·.1)).getD k 0, flagB ((P.map (·.2)).getD k false) 0) :: wait P (k + 1) := by
  unfold wait
  rw [List.drop_eq_getElem_cons hk, List.map_cons]
  simp [List.getD_eq_getElem?_getD, hk]

theorem flag0 (z : Bool) : flagB z 0 = if z then 1 else 0 := by cases z <;> decide

theorem own_cell {n e base j : Nat} {v u : Value} {xs : List Value} (h : wr.ownsRow base e 1 v n xs) (hj : xs[j]? = some u) : ∃ g c, v = .slice (some ⟨g, 0, none⟩) n c ∧ wr.cell? ⟨g, j, none⟩ = some u := by
  rcases h.2 with ⟨h1, h0⟩ | ⟨g, c, cur, hv, _⟩
  · have := h.1
    rw [h0, Nat.zero_mul] at this
    rw [List.eq_nil_of_length_eq_zero this] at hj
    cases hj
  · have h1 := h.cells (g := g) (by rw [hv]; rfl) j u hj
    rw [addr_add, Nat.zero_add] at h1
    exact ⟨g, c, hv, h1⟩

end Go.Proofs.Ytffdkkbinkonbaa
