/-
  What stands at the head of a round of the document's Bytes. No conditions.
-/
import Derived.Test.YtjpdlnifbinloaaD2
namespace Go.Proofs.Ytjpdlnifbinloaa
open Go.RowKit

theorem extract0' (x y : Value) (w : World) : (Instr.extract (.tuple #[x, y]) 0).run Try.prog w = .ok x w := rfl

/-- The bytes so far, and where they lie: the post P, the result's box B. -/
structure BB (w : World) (B P : Nat) (l : List Int) (k : Int) (v : Value) (wr : World) : Prop where
  acc : Acc w wr v l
  box : PBox wr P ⟨v, k⟩
  res : PBox wr B ⟨.slice none 0 0, 0⟩
  nb : w.heap.size ≤ B
  np : w.heap.size ≤ P
  ne : ¬ B = P
  ob : ¬ v.ownBlock = some B
  op : ¬ v.ownBlock = some P

variable {w : World} {B P : Nat} {l : List Int} {k : Int} {v : Value} {wr w1 : World}

theorem BB.keep (h : BB w B P l k v wr) (hs : Stay (fun _ => False) wr w1) : BB w B P l k v w1 :=
  ⟨h.acc.keep hs, h.box.keep hs, h.res.keep hs, h.nb, h.np, h.ne, h.ob, h.op⟩

theorem Acc.other (h : Acc w wr v l) {Q : Nat} (hQ : w.heap.size ≤ Q) (hv : ¬ v.ownBlock = some Q) (hs : Stay (fun j => j = Q) wr w1) : Acc w w1 v l :=
  ⟨hs.owns h.own (fun j hj e => hv (by rw [hj, e])), h.stay.trans2 hs (fun j hj e => by omega), h.wf⟩

/-- The column alone is stored. -/
theorem BB.col (h : BB w B P l k v wr) : BB w B P l 0 v (wr.setCell ⟨P, 1, none⟩ (.int .i64 0)) := by
  have hs : Stay (fun j => j = P) wr (wr.setCell ⟨P, 1, none⟩ (.int .i64 0)) := (Stay.refl (fun j => j = P) wr).setCell (p := ⟨P, 1, none⟩) rfl _
  exact ⟨h.acc.other h.np h.op hs, h.box.put1 rfl, h.res.stay hs h.ne, h.nb, h.np, h.ne, h.ob, h.op⟩

/-- What the document's byte is, in a box beside. -/
structure QB (w : World) (Q : Nat) (l : List Int) (k : Int) (v : Value) (wr : World) : Prop where
  acc : Acc w wr v l
  box : PBox wr Q ⟨v, k⟩
  nq : w.heap.size ≤ Q
  oq : ¬ v.ownBlock = some Q

theorem QB.keep {Q : Nat} (h : QB w Q l k v wr) (hs : Stay (fun _ => False) wr w1) : QB w Q l k v w1 := ⟨h.acc.keep hs, h.box.keep hs, h.nq, h.oq⟩

theorem QB.older {Q : Nat} {w0 : World} (h : QB w Q l k v wr) (hs : Stay (fun _ => False) w0 w) : QB w0 Q l k v wr := ⟨h.acc.older hs, h.box, Nat.le_trans hs.size h.nq, h.oq⟩

/-- A byte's box gets other bytes, laid in a row of one's own. -/
theorem QB.put {Q : Nat} {w9 : World} {v2 : Value} {l2 : List Int} (h : QB w9 Q l k v wr) (ha : Acc wr w1 v2 l2 ∨ (Acc w9 w1 v2 l2 ∧ Stay (fun j => v.ownBlock = some j ∨ wr.heap.size ≤ j) wr w1 ∧ (∀ j, v2.ownBlock = some j → v.ownBlock = some j ∨ wr.heap.size ≤ j))) : QB w9 Q l2 k v2 (w1.setCell ⟨Q, 0, none⟩ v2) := by
  have hq := h.box.lt
  have hs : Stay (fun j => j = Q) w1 (w1.setCell ⟨Q, 0, none⟩ v2) := (Stay.refl (fun j => j = Q) w1).setCell (p := ⟨Q, 0, none⟩) rfl _
  rcases ha with ha | ⟨ha, hst, hb⟩
  · have ho : ¬ v2.ownBlock = some Q := fun e => by have := (ha.own.lt Q e).1; omega
    exact ⟨(ha.older h.acc.stay).other h.nq ho hs, (h.box.keep ha.stay).put0 rfl, h.nq, ho⟩
  · have ho : ¬ v2.ownBlock = some Q := fun e => (hb Q e).elim h.oq (fun h2 => by omega)
    exact ⟨ha.other h.nq ho hs, (h.box.stay hst (fun e => e.elim h.oq (fun h2 => by omega))).put0 rfl, h.nq, ho⟩

/-- The post is both together. -/
theorem BB.next {w9 : World} {v2 : Value} {l2 : List Int} {k2 : Int} (h : BB w B P l k v w9) (ha : Acc w9 w1 v2 l2) : BB w B P l2 k2 v2 ((w1.setCell ⟨P, 0, none⟩ v2).setCell ⟨P, 1, none⟩ (.int .i64 k2)) := by
  have hp := h.box.lt
  have hb := h.res.lt
  have hs : Stay (fun j => j = P) w1 ((w1.setCell ⟨P, 0, none⟩ v2).setCell ⟨P, 1, none⟩ (.int .i64 k2)) := ((Stay.refl (fun j => j = P) w1).setCell (p := ⟨P, 0, none⟩) rfl _).setCell (p := ⟨P, 1, none⟩) rfl _
  have o1 : ¬ v2.ownBlock = some B := fun e => by have := (ha.own.lt B e).1; omega
  have o2 : ¬ v2.ownBlock = some P := fun e => by have := (ha.own.lt P e).1; omega
  exact ⟨(ha.older h.acc.stay).other h.np o2 hs, (h.box.keep ha.stay).put ⟨v2, k2⟩, (h.res.keep ha.stay).stay hs h.ne, h.nb, h.np, h.ne, o1, o2⟩

/-- An append of one byte to a row of one's own: what has turned. -/
theorem acc_grow {ops : Array Oper} {rest : List Oper} {o : Oper} {a : Act} {Q : Exit → Act → World → Prop} (hgd : o.guard = none) (s x : Operand)
    (ho : o.op = .call { callee := .builtin .append, args := #[s, x], argTypes := #[22, 22] }) {W0 w : World} {v : Value} {l : List Int} {c : Int} (hA : Acc W0 w v l) (hs : a.eval s = v) (hx : a.eval x = .slice (some ⟨w.heap.size, 0, none⟩) 1 1) (hc : (Lit.int .u8 c).wf = true)
    (hn : l.length ≤ 900000)
    (h : ∀ v' w', Acc W0 w' v' (l ++ [c]) → Stay (fun j => v.ownBlock = some j ∨ w.heap.size ≤ j) w w' → (∀ j, v'.ownBlock = some j → v.ownBlock = some j ∨ w.heap.size ≤ j) → wpList Try.prog ops Q rest (a.put o.dst v') w') : wpList Try.prog ops Q (o :: rest) a (w.alloc (.cells #[.int .u8 c] 5)) := by
  have hst : Stay (fun _ => False) w (w.alloc (.cells #[.int .u8 c] 5)) := (Stay.refl _ w).alloc _
  have hA1 := hA.keep hst
  have hrow : IsRowS (w.alloc (.cells #[.int .u8 c] 5)) 1 (.slice (some ⟨w.heap.size, 0, none⟩) 1 1) 1 [.int .u8 c] := isRowS_new w #[.int .u8 c] 5 1 1 rfl
  have hlt := hA.own.lt
  refine appS hgd s x 22 ho Try.underlying22 infoB rfl (by decide) (by decide) hA1.own hs hrow hx (fun u hu => by simp at hu; subst hu; rfl) (by omega) hA1.stay.size ?_
  intro v' w' h1 h2 h3
  refine h v' w' ⟨?_, ?_, ?_⟩ ?_ ?_
  · rw [List.length_append, List.map_append]; exact h1
  · exact hA1.stay.trans2 h2 (fun j hj e => by have := (hA1.own.lt j e).1; omega)
  · intro y hy
    rcases List.mem_append.1 hy with hy | hy
    · exact hA.wf y hy
    · simp at hy; subst hy; exact hc
  · exact (hst.mono (fun _ _ h => h.elim)).trans2 h2 (fun j hj e => .inl e)
  · intro j hj
    rcases h3 with h3 | h3
    · exact .inl (by rw [← h3]; exact hj)
    · rw [h3] at hj
      cases hj
      exact .inr hst.size

end Go.Proofs.Ytjpdlnifbinloaa
