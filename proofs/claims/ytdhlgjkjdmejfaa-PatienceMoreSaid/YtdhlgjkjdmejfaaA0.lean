/-
  Blocks that stay; arguments that are integers; rows that are appended; what a law's statement asks behind a walk. No conditions.
-/
import Derived.Test.YtdhlgjkjdmejfaaRows
import Derived.ProofKit
import Derived.Below
import Derived.Carry
import Derived.Laws.Cover2
import Derived.Deep.OwnRows
import Derived.Deep.Slices
import Derived.OpenShut
import Derived.LaidMore
import Derived.Deep.QuietTactic
import Derived.BigQuiet
import Derived.WalkKit
import Derived.WalkSpells
import Derived.WalkLawsBesides
import Derived.Handy
import Derived.Lib.Hide
import Derived.Deep.LoopGhost
import Derived.StillTailTactics
import Derived.Laws.AppendOwnNone
import Derived.IntWalk
import Derived.Lib.MinMax
import Derived.Deep.RegionHeld3
import Derived.Deep.DeepCutAuto
import Derived.SevenTiedAt
namespace Go.Proofs.Ytdhlgjkjdmejfaa
open Go.RowKit Go.ChangeShapes Go.WideShapes Go.ChangeAt

theorem hide' {p : Prop} (h : p) : Hid p := h

/-- All blocks that were there, but those of a set, are as they were. -/
structure Stay (S : Nat → Prop) (w w' : World) : Prop where
  os : w'.os = w.os
  tape : w'.tape = w.tape
  output : w'.output = w.output
  size : w.heap.size ≤ w'.heap.size
  block : ∀ k, k < w.heap.size → ¬ S k → w'.heap[k]? = w.heap[k]?

namespace Stay
variable {S T : Nat → Prop} {w w' w'' : World}

theorem refl (S : Nat → Prop) (w : World) : Stay S w w := ⟨rfl, rfl, rfl, Nat.le_refl _, fun _ _ _ => rfl⟩

theorem trans (h : Stay S w w') (k : Stay S w' w'') : Stay S w w'' :=
  ⟨k.os.trans h.os, k.tape.trans h.tape, k.output.trans h.output, Nat.le_trans h.size k.size, fun i hi hs => (k.block i (Nat.lt_of_lt_of_le hi h.size) hs).trans (h.block i hi hs)⟩

theorem mono (h : Stay S w w') (hS : ∀ k, k < w.heap.size → S k → T k) : Stay T w w' :=
  ⟨h.os, h.tape, h.output, h.size, fun k hk ht => h.block k hk (fun hs => ht (hS k hk hs))⟩

theorem drew (h : Stay S w w') : Stay S w w'.drew := ⟨h.os, h.tape, h.output, h.size, h.block⟩

theorem drewN (h : Stay S w w') (n : Nat) : Stay S w (w'.drewN n) := ⟨h.os, h.tape, h.output, h.size, h.block⟩

theorem of_below {B : Nat} (h : Below B w w') (hS : ∀ k, k < w.heap.size → B ≤ k → S k) : Stay S w w' :=
  ⟨h.os, h.tape, h.output, h.size, fun k hk hs => h.block k (Nat.lt_of_not_le fun hb => hs (hS k hk hb))⟩

theorem below {B : Nat} (h : Stay S w w') (hB : B ≤ w.heap.size) (hS : ∀ k, k < B → ¬ S k) : Below B w w' :=
  ⟨h.os, h.tape, h.output, h.size, fun k hk => h.block k (Nat.lt_of_lt_of_le hk hB) (hS k hk)⟩

theorem alloc (h : Stay S w w') (o : Obj) : Stay S w (w'.alloc o) :=
  h.trans ⟨rfl, rfl, rfl, by simp, fun k hk _ => Below.heap_alloc _ _ _ hk⟩

theorem setCell (h : Stay S w w') {p : Addr} (hp : S p.block) (u : Value) : Stay S w (w'.setCell p u) :=
  h.trans ⟨rfl, rfl, rfl, by simp [World.setCell], fun k _ hs => Below.heap_setCell _ _ _ _ (fun e => hs (e ▸ hp))⟩

/-- A store into a block that is new. -/
theorem setNew (h : Stay S w w') {p : Addr} (hp : w.heap.size ≤ p.block) (u : Value) : Stay S w (w'.setCell p u) :=
  ⟨h.os, h.tape, h.output, by simpa [World.setCell] using h.size, fun k hk hs => by rw [Below.heap_setCell _ _ _ _ (by omega)]; exact h.block k hk hs⟩

theorem grown {row : Option Nat} (h : Stay S w w') (hg : w'.grownBy w'' row) (hr : ∀ k, row = some k → k < w.heap.size → S k) : Stay S w w'' :=
  ⟨hg.os.trans h.os, hg.tape.trans h.tape, hg.output.trans h.output, Nat.le_trans h.size hg.size, fun k hk hs =>
    (hg.block k (Nat.lt_of_lt_of_le hk h.size) (fun e => hs (hr k e.symm hk))).trans (h.block k hk hs)⟩

theorem cell (h : Stay S w w') {p : Addr} (hp : p.block < w.heap.size) (hs : ¬ S p.block) : w'.cell? p = w.cell? p := World.cell?_of_block (w := w) (h.block p.block hp hs)

theorem frozen (h : Stay S w w') {p : Addr} (hp : p.block < w.heap.size) (hs : ¬ S p.block) : w'.frozen? p = w.frozen? p := World.frozen?_of_block (w := w) (h.block p.block hp hs)

theorem row (h : Stay S w w') {b : Nat} {t : TypeId} {n : Nat} {f : Nat → Value} (hr : w.rowIs b t n f) (hs : ¬ S b) : w'.rowIs b t n f := hr.of_block (h.block b hr.lt hs)

theorem owns (h : Stay S w w') {base : Nat} {e : TypeId} {size : Nat} {v : Value} {n : Nat} {xs : List Value} (hr : w.ownsRow base e size v n xs) (hs : ∀ k, v.ownBlock = some k → ¬ S k) : w'.ownsRow base e size v n xs := by
  have hlt := hr.lt
  refine ⟨hr.1, ?_⟩
  rcases hr.2 with hn | ⟨g, cap, cur, rfl, hb, hgg, rest⟩
  · exact .inl hn
  · exact .inr ⟨g, cap, cur, rfl, hb, by rw [h.block g (hlt g rfl).2 (hs g rfl)]; exact hgg, rest⟩

end Stay

/-- An own row, asked for from a lower base. -/
theorem ownsRow_base {w : World} {base base' : Nat} {e : TypeId} {size : Nat} {v : Value} {n : Nat} {xs : List Value} (h : w.ownsRow base e size v n xs) (hb : base' ≤ base) : w.ownsRow base' e size v n xs := by
  refine ⟨h.1, ?_⟩
  rcases h.2 with hn | ⟨g, cap, cur, rfl, hb', rest⟩
  · exact .inl hn
  · exact .inr ⟨g, cap, cur, rfl, Nat.le_trans hb hb', rest⟩

/-- The shape of an own row. -/
theorem ownsRow_shape {w : World} {base : Nat} {e : TypeId} {v : Value} {n : Nat} {xs : List Value} (h : w.ownsRow base e 1 v n xs) :
    ∃ a cap, v = .slice a n cap ∧ xs.length = n ∧ ∀ j u, xs[j]? = some u → ∃ g, a = some ⟨g, 0, none⟩ ∧ base ≤ g ∧ w.cell? ⟨g, j, none⟩ = some u := by
  have hl : xs.length = n := by simpa using h.1
  rcases h.2 with ⟨rfl, rfl⟩ | ⟨g, cap, cur, rfl, hb, hg, _⟩
  · exact ⟨none, 0, rfl, hl, fun j u hu => by rw [List.eq_nil_of_length_eq_zero hl] at hu; simp at hu⟩
  · refine ⟨some ⟨g, 0, none⟩, cap, rfl, hl, fun j u hu => ⟨g, rfl, hb, ?_⟩⟩
    have := h.cells (g := g) rfl j u hu
    rwa [show (⟨g, 0, none⟩ : Addr).add j = ⟨g, j, none⟩ from by unfold Addr.add; split <;> simp_all] at this

/-- The cells of a datum of integers alone. -/
def flat {H : Type} : Nat → DataW H → List Value
  | 0, _ => []
  | _ + 1, .lit (.int k n) => [.int k n]
  | f + 1, .agg ds => ds.flatMap (flat f)
  | _ + 1, _ => []

theorem flat_pieces {H : Type} (fuel c : Nat) : ∀ (xs : List (DataW H × List MemPlace)) (cs : List Value) (s : Nat), cs.length = s + xs.length * c →
    (∀ i x, xs[i]? = some x → (cs.drop (s + i * c)).take c = flat fuel x.1) → cs.drop s = (xs.map (·.1)).flatMap (flat fuel)
  | [], cs, s, hl, _ => by simp at hl; simp [hl]
  | x :: xs, cs, s, hl, h => by
    have h0 := h 0 x rfl
    have ih := flat_pieces fuel c xs cs (s + c) (by rw [hl, List.length_cons, Nat.succ_mul]; omega) (fun i y hy => by
      have := h (i + 1) y (by simpa using hy)
      rwa [show s + (i + 1) * c = s + c + i * c from by rw [Nat.succ_mul]; omega] at this)
    rw [List.map_cons, List.flatMap_cons, ← h0, ← ih, Nat.zero_mul, Nat.add_zero]
    conv => lhs; rw [← List.take_append_drop c (cs.drop s)]
    rw [List.drop_drop]

/-- An array whose elements' cells are known piece by piece. -/
theorem flat_array {H : Type} {enc : TypeId × Value → H} {P : Program} {w : World} {base : Nat} {sp : Nat → Bool} {held : Bool} {fuel n k : Nat} {t e : TypeId} {cs : List Value} {ds : List (DataW H)} {p : List MemPlace}
    (ht : P.underlying t = some (.array n e)) (hc : P.cellsOf t = n * P.cellsOf e)
    (he : ∀ (cs : List Value) (x : DataW H × List MemPlace) (fuel : Nat), DataW.trod enc P w base sp held fuel e cs = some x → cs = flat k x.1)
    (h : DataW.trod enc P w base sp held fuel t cs = some (.agg ds, p)) : cs = ds.flatMap (flat k) := by
  obtain ⟨xs, m, rfl, hx, hl, hn, hel⟩ := DataW.trod_array ht h
  simp only [Prod.mk.injEq, DataW.agg.injEq] at hx
  rw [hx.1]
  have := flat_pieces (H := H) k (P.cellsOf e) xs cs 0 (by rw [hl, hc, hn]; omega) (fun i x hi => by
    have hlt : i < n := by rw [← hn]; exact (List.getElem?_eq_some_iff.1 hi).1
    rw [Nat.zero_add]
    exact he _ _ _ ((hel i hlt).trans hi))
  simpa using this

theorem flat_any_array {H : Type} {enc : TypeId × Value → H} {P : Program} {w : World} {base : Nat} {sp : Nat → Bool} {held : Bool} {n k : Nat} {t e : TypeId}
    (ht : P.underlying t = some (.array n e)) (hc : P.cellsOf t = n * P.cellsOf e)
    (he : ∀ (cs : List Value) (x : DataW H × List MemPlace) (fuel : Nat), DataW.trod enc P w base sp held fuel e cs = some x → cs = flat k x.1)
    (cs : List Value) (x : DataW H × List MemPlace) (fuel : Nat) (h : DataW.trod enc P w base sp held fuel t cs = some x) : cs = flat (k + 1) x.1 := by
  obtain ⟨xs, m, rfl, hx, _⟩ := DataW.trod_array ht h
  subst hx
  exact flat_array ht hc he h

theorem flat_any_int {H : Type} {enc : TypeId × Value → H} {P : Program} {w : World} {base : Nat} {sp : Nat → Bool} {held : Bool} {t : TypeId} {k : IntKind} (j : Nat)
    (ht : P.underlying t = some (.int k)) (cs : List Value) (x : DataW H × List MemPlace) (fuel : Nat) (h : DataW.trod enc P w base sp held fuel t cs = some x) : cs = flat (j + 1) x.1 := by
  obtain ⟨n, rfl, rfl, _⟩ := DataW.trod_int ht h
  rfl

/-- A struct of two fields. -/
theorem flat_any_two {H : Type} {enc : TypeId × Value → H} {P : Program} {w : World} {base : Nat} {sp : Nat → Bool} {held : Bool} {k : Nat} {t : TypeId} {f0 f1 : Field}
    (ht : P.underlying t = some (.struct #[f0, f1])) (h0 : f0.offset = 0) (h1 : f1.offset = P.cellsOf f0.type) (hc : P.cellsOf t = P.cellsOf f0.type + P.cellsOf f1.type)
    (e0 : ∀ (cs : List Value) (x : DataW H × List MemPlace) (fuel : Nat), DataW.trod enc P w base sp held fuel f0.type cs = some x → cs = flat k x.1)
    (e1 : ∀ (cs : List Value) (x : DataW H × List MemPlace) (fuel : Nat), DataW.trod enc P w base sp held fuel f1.type cs = some x → cs = flat k x.1)
    (cs : List Value) (x : DataW H × List MemPlace) (fuel : Nat) (h : DataW.trod enc P w base sp held fuel t cs = some x) : cs = flat (k + 1) x.1 := by
  obtain ⟨xs, m, rfl, rfl, hl, hn, hel⟩ := DataW.trod_struct ht h
  match xs, hn with
  | [x0, x1], _ =>
    have a0 := e0 _ _ _ (hel 0 f0 rfl)
    have a1 := e1 _ _ _ (hel 1 f1 rfl)
    show cs = ([x0, x1].map (·.1)).flatMap (flat k)
    simp only [List.map_cons, List.map_nil, List.flatMap_cons, List.flatMap_nil, List.append_nil, ← a0, ← a1, h0, h1, List.drop_zero]
    rw [List.take_of_length_le (l := cs.drop _) (by rw [List.length_drop]; omega), List.take_append_drop]

theorem addr_add (b off j : Nat) : (⟨b, off, none⟩ : Addr).add j = ⟨b, off + j, none⟩ := by unfold Addr.add; split <;> simp_all

/-- A slice that holds a row of one-cell values, nil included. -/
def IsRow (w : World) (v : Value) (news : List Value) : Prop :=
  (v = .slice none 0 0 ∧ news = []) ∨ ∃ ad m c, v = .slice (some ad) m c ∧ news.length = m ∧ ∀ j u, news[j]? = some u → w.cell? (ad.add j) = some u

theorem isRow_of_owns {w : World} {base : Nat} {e : TypeId} {v : Value} {n : Nat} {xs : List Value} (h : w.ownsRow base e 1 v n xs) : IsRow w v xs := by
  have hl : xs.length = n := by simpa using h.1
  rcases h.2 with ⟨rfl, rfl⟩ | ⟨g, cap, cur, rfl, _⟩
  · exact Or.inl ⟨rfl, List.eq_nil_of_length_eq_zero hl⟩
  · exact Or.inr ⟨_, _, _, rfl, hl, h.cells (g := g) rfl⟩

/-- A row is appended to an own row: only its block may have turned. -/
theorem appL {P : Program} (S : Nat → Prop) {ops : Array Oper} {rest : List Oper} {o : Oper} {a : Act} {Q : Exit → Act → World → Prop} (hgd : o.guard = none) (s x : Operand) (t : TypeId)
    (ho : o.op = .call { callee := .builtin .append, args := #[s, x], argTypes := #[t, t] }) {w : World} {base n bytes : Nat} {e : TypeId} {z v sv : Value} {xs news : List Value} (hu : P.underlying t = some (.slice e))
    (hinfo : (P.info? e).map (fun i => (i.zero, i.size, i.bytes)) = some (some z, 1, bytes)) (hz : z.cells.size = 1) (hby : bytes ≤ 1000)
    (hown : w.ownsRow base e 1 v n xs) (hs : a.eval s = v) (hsrc : IsRow w sv news) (hx : a.eval x = sv) (h1 : ∀ u ∈ news, u.oneCell' = true) (hn : n + news.length ≤ 1000000) (hbase : base ≤ w.heap.size) (hS : ∀ k, v.ownBlock = some k → S k)
    (h : ∀ v' w', w'.ownsRow base e 1 v' (n + news.length) (xs ++ news) → Stay S w w' → wpList P ops Q rest (a.put o.dst v') w') : wpList P ops Q (o :: rest) a w := by
  obtain ⟨i, hi, hzz⟩ := Option.map_eq_some_iff.1 hinfo
  simp only [Prod.mk.injEq] at hzz
  obtain ⟨g1, g2, g3⟩ := hzz
  rcases hsrc with ⟨rfl, rfl⟩ | ⟨ad, m, c, rfl, hm, hc⟩
  · exact wpList_append_own_none hgd s x t ho base e i 1 hu hi v n xs hs hown hx (h v w (by simpa using hown) (Stay.refl _ _))
  · subst hm
    have hb : (n + news.length) * bytes ≤ 140737488355328 := Nat.le_trans (Nat.mul_le_mul hn hby) (by decide)
    exact wpList_append_own _ hgd s x t ho base e i z 1 bytes hu hi g1 g2 g3 hz (by decide) v n xs hs hown ad _ c news hx (by simp) hc h1 (by unfold maxLen; omega) hb hbase
      (fun v' w' h2 h3 _ => h v' w' h2 ((Stay.refl _ w).grown h3 fun k hk _ => hS k hk))

theorem isRow_new (w : World) (c : Array Value) (t : TypeId) : IsRow (w.alloc (.cells c t)) (.slice (some ⟨w.heap.size, 0, none⟩) c.size c.size) c.toList := by
  refine Or.inr ⟨_, _, _, rfl, by simp, fun j u hu => ?_⟩
  rw [addr_add]
  have hj : c[j]? = some u := by simpa using hu
  simp [hj]

theorem owns_new (w : World) (c : Array Value) (e : TypeId) (hm : c.size ≤ maxLen) : (w.alloc (.cells c e)).ownsRow w.heap.size e 1 (.slice (some ⟨w.heap.size, 0, none⟩) c.size c.size) c.size c.toList :=
  ⟨by simp, .inr ⟨w.heap.size, c.size, c, rfl, Nat.le_refl _, heap_alloc_new w _, Nat.le_refl _, hm, by simp, by rw [Nat.mul_one]; exact List.take_of_length_le (by simp)⟩⟩

/-- A slice of integers that can be read: it is empty, or its cells hold integers of the kind. -/
theorem open_zs {H : Type} {enc : TypeId × Value → H} {P : Program} {W : World} {v : Value} {d : DataW H} {p : List MemPlace} {t e : TypeId} {k : IntKind} (ht : P.underlying t = some (.slice e)) (he : P.underlying e = some (.int k)) (hc1 : P.cellsOf e = 1)
    (hval : ∃ a len cap, v = .slice a len cap) (h : DataW.Trod enc P W 0 (fun _ => true) true t v d p) :
    (∃ a cap, v = .slice a 0 cap) ∨ ∃ (b off cap : Nat) (l : List Int), l ≠ [] ∧ v = .slice (some ⟨b, off, none⟩) l.length cap ∧ l.length ≤ cap ∧ cap ≤ maxLen ∧ (∀ x ∈ l, (Lit.int k x).wf = true) ∧ ∀ j, j < l.length → W.cell? ⟨b, off + j, none⟩ = some (.int k (l.getD j 0)) := by
  obtain ⟨a0, l0, c0, rfl⟩ := hval
  obtain ⟨fuel, hf⟩ := h
  rcases open_ints ht he hc1 hf with ⟨h1, _⟩ | ⟨a, len, cap, zs, h1, _, h3, h4, h5, _, h7, h8⟩
  · left
    exact ⟨none, 0, by simpa [Value.cells] using h1⟩
  · have e : (Value.slice a0 l0 c0) = .slice (some a) len cap := by simpa [Value.cells] using h1
    have hz : zs.length = cap := by simpa using h5
    rcases Nat.eq_zero_or_pos len with h0 | h0
    · left
      subst h0
      exact ⟨_, _, e⟩
    · right
      obtain ⟨b, off, sp⟩ := a
      have hsp : sp = none := by simpa [Addr.add] using World.cell?_spot (h7 0 (by omega))
      subst hsp
      have hlen : (zs.take len).length = len := by rw [List.length_take]; omega
      refine ⟨b, off, cap, zs.take len, fun h => by rw [h] at hlen; simp at hlen; omega, by rw [hlen]; exact e, by omega, h4, fun x hx => h8 x (List.mem_of_mem_take hx), fun j hj => ?_⟩
      rw [hlen] at hj
      have := h7 j (by omega)
      rw [show (⟨b, off, none⟩ : Addr).add j = ⟨b, off + j, none⟩ from by unfold Addr.add; split <;> simp_all] at this
      rw [this]
      simp [List.getD_eq_getElem?_getD, hj]

/-- Integers of one kind, cell by cell. -/
def Ints (k : IntKind) (W : World) (b off : Nat) (l : List Int) : Prop := ∀ j, j < l.length → W.cell? ⟨b, off + j, none⟩ = some (.int k (l.getD j 0))

/-- An argument that is integers of one kind. -/
structure IArg (k : IntKind) (W : World) (v : Value) (l : List Int) (a : Option Addr) (cap : Nat) : Prop where
  shape : v = .slice a l.length cap
  cells : l ≠ [] → ∃ b off, a = some ⟨b, off, none⟩ ∧ b < W.heap.size ∧ Ints k W b off l
  nilCap : a = none → cap = 0
  lenLe : l.length ≤ cap
  capLe : cap ≤ maxLen
  wf : ∀ x ∈ l, (Lit.int k x).wf = true

theorem Ints.of_cell {k : IntKind} {W W' : World} {b off : Nat} {l : List Int} (h : Ints k W b off l) (hc : ∀ o, W'.cell? ⟨b, o, none⟩ = W.cell? ⟨b, o, none⟩) : Ints k W' b off l := fun j hj => (hc _).trans (h j hj)

theorem Ints.stay {k : IntKind} {S : Nat → Prop} {W W' : World} {b off : Nat} {l : List Int} (h : Ints k W b off l) (hb : b < W.heap.size) (hs : Stay S W W') (hn : ¬ S b) : Ints k W' b off l := h.of_cell fun o => hs.cell (p := ⟨b, o, none⟩) hb hn

theorem Ints.take {k : IntKind} {W : World} {b off : Nat} {l : List Int} (h : Ints k W b off l) (n : Nat) : Ints k W b off (l.take n) := fun j hj => by
  rw [List.length_take] at hj
  rw [h j (by omega), List.getD_eq_getElem?_getD, List.getD_eq_getElem?_getD, List.getElem?_take_of_lt (by omega)]

theorem IArg.stay {k : IntKind} {S : Nat → Prop} {W W' : World} {v : Value} {l : List Int} {a : Option Addr} {cap : Nat} (h : IArg k W v l a cap) (hs : Stay S W W') (hn : ∀ b off, a = some ⟨b, off, none⟩ → ¬ S b) : IArg k W' v l a cap :=
  ⟨h.shape, fun hne => by obtain ⟨b, off, h1, h2, h3⟩ := h.cells hne; exact ⟨b, off, h1, Nat.lt_of_lt_of_le h2 hs.size, h3.stay h2 hs (hn b off h1)⟩, h.nilCap, h.lenLe, h.capLe, h.wf⟩

theorem IArg.stay0 {k : IntKind} {W W' : World} {v : Value} {l : List Int} {a : Option Addr} {cap : Nat} (h : IArg k W v l a cap) (hs : Stay (fun _ => False) W W') : IArg k W' v l a cap := h.stay hs (fun _ _ _ h => h)

theorem IArg.take {k : IntKind} {W : World} {v : Value} {l : List Int} {a : Option Addr} {cap : Nat} (h : IArg k W v l a cap) (n : Nat) (hn : n ≤ l.length) : IArg k W (.slice a n cap) (l.take n) a cap := by
  have hl : (l.take n).length = n := by rw [List.length_take]; omega
  refine ⟨by rw [hl], fun hne => ?_, h.nilCap, by have := h.lenLe; omega, h.capLe, fun x hx => h.wf x (List.mem_of_mem_take hx)⟩
  have : l ≠ [] := by rintro rfl; simp at hne
  obtain ⟨b, off, h1, h2, h3⟩ := h.cells this
  exact ⟨b, off, h1, h2, h3.take n⟩

theorem IArg.row {k : IntKind} {W : World} {v : Value} {l : List Int} {a : Option Addr} {cap : Nat} (h : IArg k W v l a cap) : IsRow W v (l.map (.int k ·)) := by
  obtain ⟨h1, h2, h3, h4, _⟩ := h
  subst h1
  by_cases hne : l = []
  · subst hne
    cases a with
    | none => left; exact ⟨by rw [h3 rfl]; rfl, rfl⟩
    | some ad => right; exact ⟨ad, 0, cap, rfl, rfl, fun j u hu => by simp at hu⟩
  · obtain ⟨b, off, rfl, _, hB⟩ := h2 hne
    right
    refine ⟨_, _, _, rfl, by simp, fun j u hu => ?_⟩
    rw [List.getElem?_map, Option.map_eq_some_iff] at hu
    obtain ⟨z, hz, rfl⟩ := hu
    have hj := (List.getElem?_eq_some_iff.1 hz).1
    rw [addr_add, hB j hj, List.getD_eq_getElem?_getD, hz]
    rfl

/-- Integers, opened. -/
theorem open_arg {H : Type} {enc : TypeId × Value → H} {P : Program} {W : World} {v : Value} {d : DataW H} {p : List MemPlace} {t e : TypeId} {k : IntKind} (ht : P.underlying t = some (.slice e)) (he : P.underlying e = some (.int k)) (hc1 : P.cellsOf e = 1)
    (hval : ∃ a len cap, v = .slice a len cap) (h : DataW.Trod enc P W 0 (fun _ => true) true t v d p) : ∃ l a cap, IArg k W v l a cap := by
  rcases open_zs ht he hc1 hval h with ⟨a, cap, rfl⟩ | ⟨b, off, cap, l, hne, rfl, hc, hm, hwf, hB⟩
  · obtain ⟨fuel, hf⟩ := h
    rcases open_ints ht he hc1 hf with ⟨h1, _⟩ | ⟨a', len, cap', zs, h1, _, h3, h4, _⟩
    · have e : (Value.slice a 0 cap) = .slice none 0 0 := by simpa [Value.cells] using h1
      refine ⟨[], a, cap, rfl, fun h => absurd rfl h, fun _ => ?_, by simp, ?_, fun x hx => by simp at hx⟩
      · cases e; rfl
      · cases e; simp
    · have e : (Value.slice a 0 cap) = .slice (some a') len cap' := by simpa [Value.cells] using h1
      refine ⟨[], a, cap, rfl, fun h => absurd rfl h, fun h => ?_, by simp, ?_, fun x hx => by simp at hx⟩
      · cases e; cases h
      · cases e; exact h4
  · have hb : b < W.heap.size := World.block_lt_of_cell? _ _ (hB 0 (List.length_pos_iff.2 hne))
    exact ⟨l, _, cap, rfl, fun _ => ⟨b, off, rfl, hb, hB⟩, (fun h => by cases h), hc, hm, hwf⟩

/-- An own row of integers is an argument. -/
theorem owned_arg {k : IntKind} {w : World} {base : Nat} {e : TypeId} {v : Value} {l : List Int} (h : w.ownsRow base e 1 v l.length (l.map (.int k ·))) (hw : ∀ x ∈ l, (Lit.int k x).wf = true) : ∃ a cap, IArg k w v l a cap ∧ ∀ b off, a = some ⟨b, off, none⟩ → base ≤ b := by
  have hlt := h.lt
  rcases h.2 with ⟨rfl, h0⟩ | ⟨g, cap, cur, rfl, hbg, hg, hnc, hcm, _⟩
  · have : l = [] := List.eq_nil_of_length_eq_zero h0
    subst this
    exact ⟨none, 0, ⟨rfl, fun h => absurd rfl h, fun _ => rfl, Nat.le_refl _, by unfold maxLen; omega, fun x hx => by simp at hx⟩, fun b off hb => by cases hb⟩
  · refine ⟨_, cap, ⟨rfl, fun _ => ⟨g, 0, rfl, (hlt g rfl).2, fun j hj => ?_⟩, (fun h => by cases h), hnc, hcm, hw⟩, fun b off hb => by cases hb; exact hbg⟩
    have := h.cells (g := g) rfl j (.int k (l.getD j 0)) (by rw [List.getElem?_map, List.getElem?_eq_getElem hj, List.getD_eq_getElem?_getD, List.getElem?_eq_getElem hj]; rfl)
    rwa [addr_add] at this

theorem one_ints (k : IntKind) (l : List Int) : ∀ u ∈ l.map (Value.int k ·), u.oneCell' = true := by
  intro u hu
  obtain ⟨z, _, rfl⟩ := List.mem_map.1 hu
  rfl

theorem wf_i32 {x : Int} (h : (Lit.int .i32 x).wf = true) : -2147483648 ≤ x ∧ x ≤ 2147483647 := by
  have z1 : IntKind.i32.min = -2147483648 := by decide
  have z2 : IntKind.i32.max = 2147483647 := by decide
  simp only [Lit.wf, decide_eq_true_eq, Bool.and_eq_true] at h
  omega

theorem wf_i64 {x : Int} (h : (Lit.int .i64 x).wf = true) : -9223372036854775808 ≤ x ∧ x ≤ 9223372036854775807 := by
  have z1 : IntKind.i64.min = -9223372036854775808 := by decide
  have z2 : IntKind.i64.max = 9223372036854775807 := by decide
  simp only [Lit.wf, decide_eq_true_eq, Bool.and_eq_true] at h
  omega

theorem wf_u8 {x : Int} (h : (Lit.int .u8 x).wf = true) : 0 ≤ x ∧ x < 256 := by
  have z1 : IntKind.u8.min = 0 := by decide
  have z2 : IntKind.u8.max = 255 := by decide
  simp only [Lit.wf, decide_eq_true_eq, Bool.and_eq_true] at h
  omega

/-- Of a law: true, and nothing that was there has turned. -/
def LawTrue (w : World) (e : Ending) (w' : World) : Prop := e = .returned (.bool true) ∧ Stay (fun _ => False) w w'

theorem LawTrue.below {w w' : World} {e : Ending} (h : LawTrue w e w') : Below w.heap.size w w' := h.2.below (Nat.le_refl _) (fun _ _ h => h)

/-- A value, and nothing that was there has turned. -/
def Gives (v : Value) (w : World) (e : Ending) (w' : World) : Prop := e = .returned v ∧ Stay (fun _ => False) w w'

/-- All arguments read as they did. -/
theorem all_stay {H : Type} {enc : TypeId × Value → H} {P : Program} (hl : laidOutB P = true) {W W' : World} (hb : Below W.heap.size W W') : ∀ (ts : List TypeId) (vs : List Value) (ds : List (DataW H)) (ps : List MemPlace),
    (∀ t ∈ ts, P.readableRec t = true ∧ t < P.types.size) → (∀ x ∈ ps, x.block < W.heap.size) → DataW.TrodAll enc P W 0 (fun _ => true) true ts vs ds ps → DataW.TrodAll enc P W' 0 (fun b => decide (b < W.heap.size)) true ts vs ds ps
  | [], [], [], _, _, _, h => h
  | t :: ts, v :: vs, d :: ds, ps, hr, hp, h => by
    obtain ⟨p, q, h1, h2, rfl⟩ := h
    exact ⟨p, q, Below.trod hl (hr t (by simp)).1 (hr t (by simp)).2 h1 hb (fun x hx => hp x (by simp [hx])), all_stay hl hb ts vs ds q (fun t ht => hr t (by simp [ht])) (fun x hx => hp x (by simp [hx])) h2, rfl⟩
  | [], _ :: _, _, _, _, _, h => by cases h
  | [], [], _ :: _, _, _, _, h => by cases h
  | _ :: _, [], _, _, _, _, h => by cases h
  | _ :: _, _ :: _, [], _, _, _, h => by cases h

/-- ALL THAT A LAW's STATEMENT ASKS BEHIND THE WALK. -/
theorem law_post {H : Type} {enc : TypeId × Value → H} {P : Program} {f : Func} {s : ChangeSpec} {apart fresh handsOn : Bool} {W W' : World} {args : Array Value} {ds gs : List (DataW H)} {before : List MemPlace} {tb : TypeId}
    (hl : laidOutB P = true) (hr : ∀ t ∈ f.params.toList, P.readableRec t = true ∧ t < P.types.size) (hbt : f.resultTypes = #[tb]) (hu : P.underlying tb = some .bool) (hv : s.vars = [])
    (hW : DataW.Whole enc P f.params.toList s.vars apart W args.toList ds gs before) (hfn : gs = [] → s.fn H ds = { results := [.lit (.bool true)], args := ds }) (hb : Below W.heap.size W W') : s.post enc P f apart fresh handsOn false W args (.bool true) W' := by
  have hold : ∀ p ∈ before, p.block < W.heap.size := fun p hp => hW.lt p hp
  have hW0 := hW
  obtain ⟨p, q, hA, hV, rfl, _, _⟩ := hW
  rw [hv] at hV
  have hg : gs = [] ∧ q = [] := by
    cases gs with
    | nil => exact ⟨rfl, hV⟩
    | cons _ _ => cases hV
  obtain ⟨rfl, rfl⟩ := hg
  have e := hfn rfl
  refine ⟨ds, [], p ++ [], [], p, [], hW0, ?_, ?_, ?_, World.keptBut_mono (fun x hx => ⟨hx, ?_⟩) (hb.frame (· ∈ p ++ [])), fun h => absurd h (by simp)⟩
  · rw [List.append_nil, e, hbt]
    exact trodAll_mk1 (shut_bool hu _)
  · rw [List.append_nil, e]
    exact all_stay hl hb _ _ _ _ hr (fun x hx => hold x (by simpa using hx)) hA
  · rw [List.append_nil, e, hv]
    rfl
  · simpa using hx

end Go.Proofs.Ytdhlgjkjdmejfaa
