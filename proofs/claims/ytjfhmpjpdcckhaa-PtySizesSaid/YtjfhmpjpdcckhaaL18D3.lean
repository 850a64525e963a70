/-
  Bytes are laid behind a window, a string's too. No conditions.
-/
import Derived.Test.YtjfhmpjpdcckhaaL18D2
import Derived.Deep.AppendSrc
namespace Go.Proofs.Ytjfhmpjpdcckhaa.L18
open Go.RowKit

open L17

theorem frozen_row (W : World) (g o : Nat) (cur : Array Value) (e : TypeId) (hb : W.heap[g]? = some (.cells cur e (0, 0))) : W.frozen? ⟨g, o, none⟩ = false := by simp [World.frozen?, hb]

/-- A string's bytes behind a window of bytes. -/
theorem win_str (w : World) (ty : TypeId) (v : Value) (n : Nat) (xs : List Value) (h : Win w 1 v n xs) (s : ByteArray) (hs0 : 0 < s.size) (hn : n + s.size ≤ 1000000) :
    ∃ v' w', (Builtin.append_ #[22, 9] ty #[v, .string s]).run Try.prog w = .ok v' w' ∧ Win w' 1 v' (n + s.size) (xs ++ byteCells s) ∧ Stay (fun j => v.ownBlock = some j) w w' ∧ (v'.ownBlock = v.ownBlock ∨ v'.ownBlock = some w.heap.size) := by
  obtain ⟨i, hi, hzz⟩ := Option.map_eq_some_iff.1 infoB
  simp only [Prod.mk.injEq] at hzz
  obtain ⟨g1, g2, g3⟩ := hzz
  have hsrc : Src Try.prog i.size 9 (.string s) s.size (byteCells s) w := by rw [g2]; exact Src.ofString w Try.underlying9 s
  have hxl := h.1
  have hlen : (xs ++ byteCells s).length = (n + s.size) * 1 := by rw [List.length_append, hxl, byteCells_length]; omega
  have grown : ∀ (base : Option Addr) (cap : Nat), cap < n + s.size → (Builtin.firstCells i.size n (.slice base n cap)).run Try.prog w.drew = .ok xs.toArray w.drew →
      ∃ v' w', (Builtin.append_ #[22, 9] ty #[.slice base n cap, .string s]).run Try.prog w = .ok v' w' ∧ Win w' 1 v' (n + s.size) (xs ++ byteCells s) ∧ Stay (fun _ => False) w w' ∧ v'.ownBlock = some w.heap.size := by
    intro base cap hcap hold
    have hr := run_append_grow_src w 22 9 ty 5 i _ Try.underlying22 hi g1 base n cap xs hold (.string s) s.size (byteCells s) hsrc hcap (by omega) (growslice_fits hcap (by rw [g3]; omega))
    refine ⟨_, _, hr, ⟨hlen, .inr ⟨w.heap.size, 0, _, rfl, grownCap_ge w _ _ _, grownCap_le_maxLen w _ _ _ (by unfold maxLen; omega), by simp, fun j u hu => ?_, fun j hj => ?_⟩⟩, ((Stay.refl _ w).drew).alloc _, rfl⟩
    · rw [cell_of_row _ w.heap.size _ _ 5 (0, 0) (heap_alloc_new w.drew _), Nat.zero_add]
      have hjl : j < (xs ++ byteCells s).length := (List.getElem?_eq_some_iff.1 hu).1
      rw [Array.getElem?_append_left (by simpa using hjl)]
      simpa using hu
    · have hsz : ((xs ++ byteCells s).toArray ++ Builtin.zeroCells (Value.int .u8 0).cells (grownCap w (n + s.size) cap 5 - (n + s.size))).size = grownCap w (n + s.size) cap 5 := by
        have := grownCap_ge w (n + s.size) cap 5
        rw [Array.size_append, size_zeroCells, List.size_toArray, hlen]
        show (n + s.size) * 1 + (grownCap w (n + s.size) cap 5 - (n + s.size)) * 1 = _
        omega
      constructor
      · rw [cell_of_row _ w.heap.size _ _ 5 (0, 0) (heap_alloc_new w.drew _), Nat.zero_add, Array.getElem?_eq_getElem (by rw [hsz]; omega)]
        rfl
      · exact frozen_row _ _ _ _ _ (heap_alloc_new w.drew _)
  rcases h.2 with ⟨rfl, rfl⟩ | ⟨g, o, cap, rfl, hc, hcm, hg, h3, h4⟩
  · have hx : xs = [] := List.eq_nil_of_length_eq_zero (by simpa using hxl)
    subst hx
    obtain ⟨v', w', e1, e2, e3, e4⟩ := grown none 0 (by omega) (run_firstCells_none w.drew i.size 0 0 0)
    exact ⟨v', w', e1, e2, e3.mono (fun _ _ h => h.elim), .inr e4⟩
  · by_cases hroom : n + s.size ≤ cap
    · have hth : w.there g (o + n) (byteCells s).length := fun j hj => by
        rw [byteCells_length] at hj
        have := h4 (n + j) (by omega)
        rwa [← Nat.add_assoc] at this
      have hr := run_append_room_src w 22 9 ty 5 i Try.underlying22 hi g o n cap (.string s) s.size (byteCells s) hsrc hroom (fun j hj => by rw [g2, Nat.mul_one]; exact (hth j hj).1) (fun j hj => by rw [g2, Nat.mul_one]; exact (hth j hj).2)
      rw [g2, Nat.mul_one] at hr
      have hst : Stay (fun j => j = g) w (w.setCells g (o + n) (byteCells s)) := Stay.setCells g _ _ (Stay.refl _ _) rfl
      refine ⟨_, _, hr, ⟨hlen, .inr ⟨g, o, cap, rfl, hroom, hcm, Nat.lt_of_lt_of_le hg hst.size, fun j u hu => ?_, World.there_setCells h4 _ _ _⟩⟩, hst.mono (fun j _ hj => by rw [hj]; rfl), .inl rfl⟩
      by_cases hj : j < xs.length
      · rw [List.getElem?_append_left hj] at hu
        exact World.rangeAt_setCells_apart h3 g _ (byteCells s) (.inr (.inl (by rw [hxl]; omega))) j u hu
      · rw [List.getElem?_append_right (by omega)] at hu
        have := World.rangeAt_setCells_same w g (o + n) (byteCells s) hth (j - xs.length) u hu
        rwa [show o + n + (j - xs.length) = o + j by omega] at this
    · obtain ⟨v', w', e1, e2, e3, e4⟩ := grown (some ⟨g, o, none⟩) cap (by omega) (run_firstCells_some w.drew i.size n ⟨g, o, none⟩ n cap xs (by rw [g2]; exact hxl) (fun j u hu => by rw [addr_add]; simpa using h3 j u hu))
      exact ⟨v', w', e1, e2, e3.mono (fun _ _ h => h.elim), .inr e4⟩

theorem wpList_append_str {ops : Array Oper} {rest : List Oper} {o : Oper} {a : Act} {Q : Exit → Act → World → Prop} (hgd : o.guard = none) (sl x : Operand)
    (ho : o.op = .call { callee := .builtin .append, args := #[sl, x], argTypes := #[22, 9] }) {w : World} {n : Nat} {v : Value} {xs : List Value} {s : ByteArray} (hwin : Win w 1 v n xs) (hs : a.eval sl = v) (hx : a.eval x = .string s) (hs0 : 0 < s.size) (hn : n + s.size ≤ 1000000)
    (h : ∀ v' w', Win w' 1 v' (n + s.size) (xs ++ byteCells s) → Stay (fun j => v.ownBlock = some j) w w' → (v'.ownBlock = v.ownBlock ∨ v'.ownBlock = some w.heap.size) → wpList Try.prog ops Q rest (a.put o.dst v') w') : wpList Try.prog ops Q (o :: rest) a w := by
  obtain ⟨v', w', hr, h2, h3, h4⟩ := win_str w o.type v n xs hwin s hs0 hn
  refine wpList_plain hgd fun K hK => ?_
  unfold Oper.wp
  simp [execOp, ho, resolve, invoke, builtin, hs, hx, hr, Result.andThen]
  exact hK _ _ (h v' w' h2 h3 h4)

/-- Bytes that can be read, behind a window of bytes. -/
theorem win_app {ops : Array Oper} {rest : List Oper} {o : Oper} {a : Act} {Q : Exit → Act → World → Prop} (hgd : o.guard = none) (sl x : Operand)
    (ho : o.op = .call { callee := .builtin .append, args := #[sl, x], argTypes := #[22, 22] }) {w : World} {n : Nat} {v sv : Value} {xs : List Value} {l : List Int} {ad : Option Addr} {cp : Nat} (hwin : Win w 1 v n xs) (hs : a.eval sl = v) (hsrc : IArg .u8 w sv l ad cp) (hx : a.eval x = sv) (hn : n + l.length ≤ 1000000)
    (h : ∀ a' n' c' w', n' = n + l.length → Win w' 1 (.slice a' n' c') n' (xs ++ bys l) → Stay (fun j => v.ownBlock = some j) w w' → (∀ j, (Value.slice a' n' c').ownBlock = some j → v.ownBlock = some j ∨ w.heap.size ≤ j) → wpList Try.prog ops Q rest (a.put o.dst (.slice a' n' c')) w') : wpList Try.prog ops Q (o :: rest) a w := by
  have hsh := hsrc.shape
  refine wpList_append_win hgd sl x 22 ho (so := ad) (m := l.length) (c := cp) Try.underlying22 infoB rfl (by decide) (by decide) hwin hs (bys_len l) (fun ad' e j u hu => ?_) (fun e => ?_) (bys_one l) hn (hx.trans hsh) ?_
  · subst e
    unfold bys at hu
    rw [List.getElem?_map, Option.map_eq_some_iff] at hu
    obtain ⟨z, hz, rfl⟩ := hu
    have hj := (List.getElem?_eq_some_iff.1 hz).1
    obtain ⟨b, off, e, _, hB⟩ := hsrc.cells (fun h => by rw [h] at hj; simp at hj)
    cases e
    rw [addr_add, hB j hj, List.getD_eq_getElem?_getD, hz]
    rfl
  · have h1 := hsrc.nilCap e
    have h2 := hsrc.lenLe
    omega
  · intro v' w' h1 h2 h3
    obtain ⟨a', c', e, _⟩ := h1.shape
    subst e
    refine h a' _ c' w' rfl h1 h2 (fun j hj => ?_)
    rcases h3 with h3 | h3
    · exact .inl (by rw [← h3]; exact hj)
    · rw [h3] at hj; cases hj; exact .inr (Nat.le_refl _)

theorem str_app {ops : Array Oper} {rest : List Oper} {o : Oper} {a : Act} {Q : Exit → Act → World → Prop} (hgd : o.guard = none) (sl x : Operand)
    (ho : o.op = .call { callee := .builtin .append, args := #[sl, x], argTypes := #[22, 9] }) {w : World} {n : Nat} {v : Value} {xs : List Value} {l : List Int} {s : ByteArray} (hwin : Win w 1 v n xs) (hs : a.eval sl = v) (hx : a.eval x = .string s) (hl : byteCells s = bys l ∧ s.size = l.length ∧ 0 < s.size) (hn : n + l.length ≤ 1000000)
    (h : ∀ a' n' c' w', n' = n + l.length → Win w' 1 (.slice a' n' c') n' (xs ++ bys l) → Stay (fun j => v.ownBlock = some j) w w' → (∀ j, (Value.slice a' n' c').ownBlock = some j → v.ownBlock = some j ∨ w.heap.size ≤ j) → wpList Try.prog ops Q rest (a.put o.dst (.slice a' n' c')) w') : wpList Try.prog ops Q (o :: rest) a w := by
  refine wpList_append_str hgd sl x ho hwin hs hx hl.2.2 (by rw [hl.2.1]; exact hn) ?_
  intro v' w' h1 h2 h3
  rw [hl.1, hl.2.1] at h1
  obtain ⟨a', c', e, _⟩ := h1.shape
  subst e
  refine h a' _ c' w' rfl h1 h2 (fun j hj => ?_)
  rcases h3 with h3 | h3
  · exact .inl (by rw [← h3]; exact hj)
  · rw [h3] at hj; cases hj; exact .inr (Nat.le_refl _)

theorem GivesN.arg {l : List Int} {w : World} {e : Ending} {w' : World} (h : GivesN l w e w') : ∃ a cap, e = .returned (.slice a l.length cap) ∧ IArg .u8 w' (.slice a l.length cap) l a cap ∧ Stay (fun _ => False) w w' := by
  obtain ⟨v, rfl, h1, h2, _, h4⟩ := h
  obtain ⟨a, cap, h5⟩ := h1.iarg h2
  have := h5.shape
  subst this
  exact ⟨a, cap, rfl, h5, h4⟩

/-- A step whose discipline is the document's. -/
def SD (w : World) (q : Pl) (d : DS) (sg : Int) : Prop := SAt w q d.ps d.ec sg

/-- The same, of a discipline that is known. -/
def SR (w : World) (q : Pl) (r : Pd) (d : DS) (sg : Int) : Prop := ∃ e, St w q r e d.ps d.ec sg

theorem SR.sd {w : World} {q : Pl} {r : Pd} {d : DS} {sg : Int} (h : SR w q r d sg) : SD w q d sg := by
  obtain ⟨e, h⟩ := h
  exact ⟨r, e, h⟩

theorem SR.keep {w w1 : World} {q : Pl} {r : Pd} {d : DS} {sg : Int} (h : SR w q r d sg) (hs : Stay (fun _ => False) w w1) : SR w1 q r d sg := by
  obtain ⟨e, h⟩ := h
  exact ⟨e, h.keep hs⟩

theorem SR.dp {w : World} {q : Pl} {r : Pd} {d : DS} {sg : Int} (h : SR w q r d sg) : w.cell? ⟨q.b, 0, none⟩ = some (.pointer (some ⟨q.p, 0, none⟩)) := h.sd.dp

def TurnR9 (q : Pl) (r : Pd) (d : DS) (sg : Int) (v : Value) (w : World) (e : Ending) (w' : World) : Prop := e = .returned v ∧ SR w' q r d sg ∧ Stay q.U w w'

theorem SD.keep {w w1 : World} {q : Pl} {d : DS} {sg : Int} (h : SD w q d sg) (hs : Stay (fun _ => False) w w1) : SD w1 q d sg := SAt.keep h hs

def TurnD (q : Pl) (d : DS) (sg : Int) (v : Value) (w : World) (e : Ending) (w' : World) : Prop := e = .returned v ∧ SD w' q d sg ∧ Stay q.U w w'

/-- A step, open: the cells of its box. -/
theorem SR.open {w : World} {q : Pl} {r : Pd} {d : DS} {sg : Int} (h : SR w q r d sg) : ∃ a c, St w q r ⟨.pointer (some ⟨q.p, 0, none⟩), .slice a d.ec.length c, sg⟩ d.ps d.ec sg := by
  obtain ⟨⟨e0, e1, e2⟩, h⟩ := h
  have h0 := h.dp
  have h2 := h.sgv
  obtain ⟨a, c, h1, _⟩ := h.ecw.shape
  simp only at h0 h1 h2
  subst h0 h1 h2
  exact ⟨a, c, h⟩

theorem SD.open {w : World} {q : Pl} {d : DS} {sg : Int} (h : SD w q d sg) : ∃ r a c, St w q r ⟨.pointer (some ⟨q.p, 0, none⟩), .slice a d.ec.length c, sg⟩ d.ps d.ec sg := by
  obtain ⟨r, ⟨e0, e1, e2⟩, h⟩ := h
  have h0 := h.dp
  have h2 := h.sgv
  obtain ⟨a, c, h1, _⟩ := h.ecw.shape
  simp only at h0 h1 h2
  subst h0 h1 h2
  exact ⟨r, a, c, h⟩

/-- What is shown more. -/
theorem St.show {w w1 : World} {q : Pl} {r : Pd} {e : Sb} {d : DS} {sg : Int} (h : St w q r e d.ps d.ec sg) {a' : Option Addr} {n' c' : Nat} {l : List Int} (hs : Stay (fun j => e.ec.ownBlock = some j) w w1) (hn : n' = d.ec.length + l.length) (hw : Win w1 1 (.slice a' n' c') n' (bys d.ec ++ bys l)) (hb : ∀ j, (Value.slice a' n' c').ownBlock = some j → e.ec.ownBlock = some j ∨ w.heap.size ≤ j) (hf : ∀ y ∈ l, (Lit.int .u8 y).wf = true) :
    SR (w1.setCell ⟨q.b, 1, none⟩ (.slice a' n' c')) q r (d.out l) sg ∧ Stay q.U w (w1.setCell ⟨q.b, 1, none⟩ (.slice a' n' c')) := by
  have e1 : (d.ec ++ l).length = n' := by rw [List.length_append, hn]
  rw [← bys_app] at hw
  refine h.put_ec (l := d.ec ++ l) hs (by rw [e1]; exact hw) hb (fun y hy => ?_)
  rcases List.mem_append.1 hy with hy | hy
  · exact h.we y hy
  · exact hf y hy

end Go.Proofs.Ytjfhmpjpdcckhaa.L18
