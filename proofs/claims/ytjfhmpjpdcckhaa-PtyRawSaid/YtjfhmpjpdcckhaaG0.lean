/-
  Blocks that stay; arguments that are integers; rows that are appended; what a law's statement asks behind a walk. No conditions.
  A region that draws its order: what only looks is taken first, wherever it stands; what makes or turns memory comes in its one order. No conditions.
  Integers of 64 bits, results, rows that can be read, blocks apart. No conditions.
  Rows of structs of integers that came in. No conditions.
  Windows of own rows: what is cut off, what is appended. No conditions.
-/
import Derived.Test.YtjfhmpjpdcckhaaRows
import Derived.ProofKit
import Derived.Below
import Derived.Carry
import Derived.Laws.Cover2
import Derived.Deep.OwnRows
import Derived.Deep.Slices
import Derived.OpenShut
import Derived.LaidMore
import Derived.Deep.QuietTactic
import Derived.BigQuiet
import Derived.WalkKit
import Derived.WalkSpells
import Derived.WalkLawsBesides
import Derived.Handy
import Derived.Lib.Hide
import Derived.Deep.LoopGhost
import Derived.StillTailTactics
import Derived.Laws.AppendOwnNone
import Derived.IntWalk
import Derived.Lib.MinMax
import Derived.Deep.RegionHeld3
import Derived.Deep.DeepCutAuto
import Derived.SevenTiedAt
import Derived.OrdersHeld
import Derived.Maps.AppendAt
import Derived.Laws.BitsLemmas
import Derived.Lib.SmallJoins
import Derived.ArgAppend
import Derived.Deep.MidRow
namespace Go.Proofs.Ytjfhmpjpdcckhaa
open Go.RowKit Go.ChangeShapes Go.WideShapes Go.ChangeAt

theorem hide' {p : Prop} (h : p) : Hid p := h

/-- All blocks that were there, but those of a set, are as they were. -/
structure Stay (S : Nat → Prop) (w w' : World) : Prop where
  os : w'.os = w.os
  tape : w'.tape = w.tape
  output : w'.output = w.output
  size : w.heap.size ≤ w'.heap.size
  block : ∀ k, k < w.heap.size → ¬ S k → w'.heap[k]? = w.heap[k]?

namespace Stay
variable {S T : Nat → Prop} {w w' w'' : World}

theorem refl (S : Nat → Prop) (w : World) : Stay S w w := ⟨rfl, rfl, rfl, Nat.le_refl _, fun _ _ _ => rfl⟩

theorem trans (h : Stay S w w') (k : Stay S w' w'') : Stay S w w'' :=
  ⟨k.os.trans h.os, k.tape.trans h.tape, k.output.trans h.output, Nat.le_trans h.size k.size, fun i hi hs => (k.block i (Nat.lt_of_lt_of_le hi h.size) hs).trans (h.block i hi hs)⟩

theorem mono (h : Stay S w w') (hS : ∀ k, k < w.heap.size → S k → T k) : Stay T w w' :=
  ⟨h.os, h.tape, h.output, h.size, fun k hk ht => h.block k hk (fun hs => ht (hS k hk hs))⟩

theorem drew (h : Stay S w w') : Stay S w w'.drew := ⟨h.os, h.tape, h.output, h.size, h.block⟩

theorem drewN (h : Stay S w w') (n : Nat) : Stay S w (w'.drewN n) := ⟨h.os, h.tape, h.output, h.size, h.block⟩

theorem of_below {B : Nat} (h : Below B w w') (hS : ∀ k, k < w.heap.size → B ≤ k → S k) : Stay S w w' :=
  ⟨h.os, h.tape, h.output, h.size, fun k hk hs => h.block k (Nat.lt_of_not_le fun hb => hs (hS k hk hb))⟩

theorem below {B : Nat} (h : Stay S w w') (hB : B ≤ w.heap.size) (hS : ∀ k, k < B → ¬ S k) : Below B w w' :=
  ⟨h.os, h.tape, h.output, h.size, fun k hk => h.block k (Nat.lt_of_lt_of_le hk hB) (hS k hk)⟩

theorem alloc (h : Stay S w w') (o : Obj) : Stay S w (w'.alloc o) :=
  h.trans ⟨rfl, rfl, rfl, by simp, fun k hk _ => Below.heap_alloc _ _ _ hk⟩

theorem setCell (h : Stay S w w') {p : Addr} (hp : S p.block) (u : Value) : Stay S w (w'.setCell p u) :=
  h.trans ⟨rfl, rfl, rfl, by simp [World.setCell], fun k _ hs => Below.heap_setCell _ _ _ _ (fun e => hs (e ▸ hp))⟩

/-- A store into a block that is new. -/
theorem setNew (h : Stay S w w') {p : Addr} (hp : w.heap.size ≤ p.block) (u : Value) : Stay S w (w'.setCell p u) :=
  ⟨h.os, h.tape, h.output, by simpa [World.setCell] using h.size, fun k hk hs => by rw [Below.heap_setCell _ _ _ _ (by omega)]; exact h.block k hk hs⟩

theorem grown {row : Option Nat} (h : Stay S w w') (hg : w'.grownBy w'' row) (hr : ∀ k, row = some k → k < w.heap.size → S k) : Stay S w w'' :=
  ⟨hg.os.trans h.os, hg.tape.trans h.tape, hg.output.trans h.output, Nat.le_trans h.size hg.size, fun k hk hs =>
    (hg.block k (Nat.lt_of_lt_of_le hk h.size) (fun e => hs (hr k e.symm hk))).trans (h.block k hk hs)⟩

theorem cell (h : Stay S w w') {p : Addr} (hp : p.block < w.heap.size) (hs : ¬ S p.block) : w'.cell? p = w.cell? p := World.cell?_of_block (w := w) (h.block p.block hp hs)

theorem frozen (h : Stay S w w') {p : Addr} (hp : p.block < w.heap.size) (hs : ¬ S p.block) : w'.frozen? p = w.frozen? p := World.frozen?_of_block (w := w) (h.block p.block hp hs)

theorem row (h : Stay S w w') {b : Nat} {t : TypeId} {n : Nat} {f : Nat → Value} (hr : w.rowIs b t n f) (hs : ¬ S b) : w'.rowIs b t n f := hr.of_block (h.block b hr.lt hs)

theorem owns (h : Stay S w w') {base : Nat} {e : TypeId} {size : Nat} {v : Value} {n : Nat} {xs : List Value} (hr : w.ownsRow base e size v n xs) (hs : ∀ k, v.ownBlock = some k → ¬ S k) : w'.ownsRow base e size v n xs := by
  have hlt := hr.lt
  refine ⟨hr.1, ?_⟩
  rcases hr.2 with hn | ⟨g, cap, cur, rfl, hb, hgg, rest⟩
  · exact .inl hn
  · exact .inr ⟨g, cap, cur, rfl, hb, by rw [h.block g (hlt g rfl).2 (hs g rfl)]; exact hgg, rest⟩

end Stay

/-- An own row, asked for from a lower base. -/
theorem ownsRow_base {w : World} {base base' : Nat} {e : TypeId} {size : Nat} {v : Value} {n : Nat} {xs : List Value} (h : w.ownsRow base e size v n xs) (hb : base' ≤ base) : w.ownsRow base' e size v n xs := by
  refine ⟨h.1, ?_⟩
  rcases h.2 with hn | ⟨g, cap, cur, rfl, hb', rest⟩
  · exact .inl hn
  · exact .inr ⟨g, cap, cur, rfl, Nat.le_trans hb hb', rest⟩

/-- The shape of an own row. -/
theorem ownsRow_shape {w : World} {base : Nat} {e : TypeId} {v : Value} {n : Nat} {xs : List Value} (h : w.ownsRow base e 1 v n xs) :
    ∃ a cap, v = .slice a n cap ∧ xs.length = n ∧ ∀ j u, xs[j]? = some u → ∃ g, a = some ⟨g, 0, none⟩ ∧ base ≤ g ∧ w.cell? ⟨g, j, none⟩ = some u := by
  have hl : xs.length = n := by simpa using h.1
  rcases h.2 with ⟨rfl, rfl⟩ | ⟨g, cap, cur, rfl, hb, hg, _⟩
  · exact ⟨none, 0, rfl, hl, fun j u hu => by rw [List.eq_nil_of_length_eq_zero hl] at hu; simp at hu⟩
  · refine ⟨some ⟨g, 0, none⟩, cap, rfl, hl, fun j u hu => ⟨g, rfl, hb, ?_⟩⟩
    have := h.cells (g := g) rfl j u hu
    rwa [show (⟨g, 0, none⟩ : Addr).add j = ⟨g, j, none⟩ from by unfold Addr.add; split <;> simp_all] at this

/-- The cells of a datum of integers alone. -/
def flat {H : Type} : Nat → DataW H → List Value
  | 0, _ => []
  | _ + 1, .lit (.int k n) => [.int k n]
  | f + 1, .agg ds => ds.flatMap (flat f)
  | _ + 1, _ => []

theorem flat_pieces {H : Type} (fuel c : Nat) : ∀ (xs : List (DataW H × List MemPlace)) (cs : List Value) (s : Nat), cs.length = s + xs.length * c →
    (∀ i x, xs[i]? = some x → (cs.drop (s + i * c)).take c = flat fuel x.1) → cs.drop s = (xs.map (·.1)).flatMap (flat fuel)
  | [], cs, s, hl, _ => by simp at hl; simp [hl]
  | x :: xs, cs, s, hl, h => by
    have h0 := h 0 x rfl
    have ih := flat_pieces fuel c xs cs (s + c) (by rw [hl, List.length_cons, Nat.succ_mul]; omega) (fun i y hy => by
      have := h (i + 1) y (by simpa using hy)
      rwa [show s + (i + 1) * c = s + c + i * c from by rw [Nat.succ_mul]; omega] at this)
    rw [List.map_cons, List.flatMap_cons, ← h0, ← ih, Nat.zero_mul, Nat.add_zero]
    conv => lhs; rw [← List.take_append_drop c (cs.drop s)]
    rw [List.drop_drop]

/-- An array whose elements' cells are known piece by piece. -/
theorem flat_array {H : Type} {enc : TypeId × Value → H} {P : Program} {w : World} {base : Nat} {sp : Nat → Bool} {held : Bool} {fuel n k : Nat} {t e : TypeId} {cs : List Value} {ds : List (DataW H)} {p : List MemPlace}
    (ht : P.underlying t = some (.array n e)) (hc : P.cellsOf t = n * P.cellsOf e)
    (he : ∀ (cs : List Value) (x : DataW H × List MemPlace) (fuel : Nat), DataW.trod enc P w base sp held fuel e cs = some x → cs = flat k x.1)
    (h : DataW.trod enc P w base sp held fuel t cs = some (.agg ds, p)) : cs = ds.flatMap (flat k) := by
  obtain ⟨xs, m, rfl, hx, hl, hn, hel⟩ := DataW.trod_array ht h
  simp only [Prod.mk.injEq, DataW.agg.injEq] at hx
  rw [hx.1]
  have := flat_pieces (H := H) k (P.cellsOf e) xs cs 0 (by rw [hl, hc, hn]; omega) (fun i x hi => by
    have hlt : i < n := by rw [← hn]; exact (List.getElem?_eq_some_iff.1 hi).1
    rw [Nat.zero_add]
    exact he _ _ _ ((hel i hlt).trans hi))
  simpa using this

theorem flat_any_array {H : Type} {enc : TypeId × Value → H} {P : Program} {w : World} {base : Nat} {sp : Nat → Bool} {held : Bool} {n k : Nat} {t e : TypeId}
    (ht : P.underlying t = some (.array n e)) (hc : P.cellsOf t = n * P.cellsOf e)
    (he : ∀ (cs : List Value) (x : DataW H × List MemPlace) (fuel : Nat), DataW.trod enc P w base sp held fuel e cs = some x → cs = flat k x.1)
    (cs : List Value) (x : DataW H × List MemPlace) (fuel : Nat) (h : DataW.trod enc P w base sp held fuel t cs = some x) : cs = flat (k + 1) x.1 := by
  obtain ⟨xs, m, rfl, hx, _⟩ := DataW.trod_array ht h
  subst hx
  exact flat_array ht hc he h

theorem flat_any_int {H : Type} {enc : TypeId × Value → H} {P : Program} {w : World} {base : Nat} {sp : Nat → Bool} {held : Bool} {t : TypeId} {k : IntKind} (j : Nat)
    (ht : P.underlying t = some (.int k)) (cs : List Value) (x : DataW H × List MemPlace) (fuel : Nat) (h : DataW.trod enc P w base sp held fuel t cs = some x) : cs = flat (j + 1) x.1 := by
  obtain ⟨n, rfl, rfl, _⟩ := DataW.trod_int ht h
  rfl

/-- A struct of two fields. -/
theorem flat_any_two {H : Type} {enc : TypeId × Value → H} {P : Program} {w : World} {base : Nat} {sp : Nat → Bool} {held : Bool} {k : Nat} {t : TypeId} {f0 f1 : Field}
    (ht : P.underlying t = some (.struct #[f0, f1])) (h0 : f0.offset = 0) (h1 : f1.offset = P.cellsOf f0.type) (hc : P.cellsOf t = P.cellsOf f0.type + P.cellsOf f1.type)
    (e0 : ∀ (cs : List Value) (x : DataW H × List MemPlace) (fuel : Nat), DataW.trod enc P w base sp held fuel f0.type cs = some x → cs = flat k x.1)
    (e1 : ∀ (cs : List Value) (x : DataW H × List MemPlace) (fuel : Nat), DataW.trod enc P w base sp held fuel f1.type cs = some x → cs = flat k x.1)
    (cs : List Value) (x : DataW H × List MemPlace) (fuel : Nat) (h : DataW.trod enc P w base sp held fuel t cs = some x) : cs = flat (k + 1) x.1 := by
  obtain ⟨xs, m, rfl, rfl, hl, hn, hel⟩ := DataW.trod_struct ht h
  match xs, hn with
  | [x0, x1], _ =>
    have a0 := e0 _ _ _ (hel 0 f0 rfl)
    have a1 := e1 _ _ _ (hel 1 f1 rfl)
    show cs = ([x0, x1].map (·.1)).flatMap (flat k)
    simp only [List.map_cons, List.map_nil, List.flatMap_cons, List.flatMap_nil, List.append_nil, ← a0, ← a1, h0, h1, List.drop_zero]
    rw [List.take_of_length_le (l := cs.drop _) (by rw [List.length_drop]; omega), List.take_append_drop]

theorem addr_add (b off j : Nat) : (⟨b, off, none⟩ : Addr).add j = ⟨b, off + j, none⟩ := by unfold Addr.add; split <;> simp_all

/-- A slice that holds a row of one-cell values, nil included. -/
def IsRow (w : World) (v : Value) (news : List Value) : Prop :=
  (v = .slice none 0 0 ∧ news = []) ∨ ∃ ad m c, v = .slice (some ad) m c ∧ news.length = m ∧ ∀ j u, news[j]? = some u → w.cell? (ad.add j) = some u

theorem isRow_of_owns {w : World} {base : Nat} {e : TypeId} {v : Value} {n : Nat} {xs : List Value} (h : w.ownsRow base e 1 v n xs) : IsRow w v xs := by
  have hl : xs.length = n := by simpa using h.1
  rcases h.2 with ⟨rfl, rfl⟩ | ⟨g, cap, cur, rfl, _⟩
  · exact Or.inl ⟨rfl, List.eq_nil_of_length_eq_zero hl⟩
  · exact Or.inr ⟨_, _, _, rfl, hl, h.cells (g := g) rfl⟩

/-- A row is appended to an own row: only its block may have turned. -/
theorem appL {P : Program} (S : Nat → Prop) {ops : Array Oper} {rest : List Oper} {o : Oper} {a : Act} {Q : Exit → Act → World → Prop} (hgd : o.guard = none) (s x : Operand) (t : TypeId)
    (ho : o.op = .call { callee := .builtin .append, args := #[s, x], argTypes := #[t, t] }) {w : World} {base n bytes : Nat} {e : TypeId} {z v sv : Value} {xs news : List Value} (hu : P.underlying t = some (.slice e))
    (hinfo : (P.info? e).map (fun i => (i.zero, i.size, i.bytes)) = some (some z, 1, bytes)) (hz : z.cells.size = 1) (hby : bytes ≤ 1000)
    (hown : w.ownsRow base e 1 v n xs) (hs : a.eval s = v) (hsrc : IsRow w sv news) (hx : a.eval x = sv) (h1 : ∀ u ∈ news, u.oneCell' = true) (hn : n + news.length ≤ 1000000) (hbase : base ≤ w.heap.size) (hS : ∀ k, v.ownBlock = some k → S k)
    (h : ∀ v' w', w'.ownsRow base e 1 v' (n + news.length) (xs ++ news) → Stay S w w' → wpList P ops Q rest (a.put o.dst v') w') : wpList P ops Q (o :: rest) a w := by
  obtain ⟨i, hi, hzz⟩ := Option.map_eq_some_iff.1 hinfo
  simp only [Prod.mk.injEq] at hzz
  obtain ⟨g1, g2, g3⟩ := hzz
  rcases hsrc with ⟨rfl, rfl⟩ | ⟨ad, m, c, rfl, hm, hc⟩
  · exact wpList_append_own_none hgd s x t ho base e i 1 hu hi v n xs hs hown hx (h v w (by simpa using hown) (Stay.refl _ _))
  · subst hm
    have hb : (n + news.length) * bytes ≤ 140737488355328 := Nat.le_trans (Nat.mul_le_mul hn hby) (by decide)
    exact wpList_append_own _ hgd s x t ho base e i z 1 bytes hu hi g1 g2 g3 hz (by decide) v n xs hs hown ad _ c news hx (by simp) hc h1 (by unfold maxLen; omega) hb hbase
      (fun v' w' h2 h3 _ => h v' w' h2 ((Stay.refl _ w).grown h3 fun k hk _ => hS k hk))

theorem isRow_new (w : World) (c : Array Value) (t : TypeId) : IsRow (w.alloc (.cells c t)) (.slice (some ⟨w.heap.size, 0, none⟩) c.size c.size) c.toList := by
  refine Or.inr ⟨_, _, _, rfl, by simp, fun j u hu => ?_⟩
  rw [addr_add]
  have hj : c[j]? = some u := by simpa using hu
  simp [hj]

theorem owns_new (w : World) (c : Array Value) (e : TypeId) (hm : c.size ≤ maxLen) : (w.alloc (.cells c e)).ownsRow w.heap.size e 1 (.slice (some ⟨w.heap.size, 0, none⟩) c.size c.size) c.size c.toList :=
  ⟨by simp, .inr ⟨w.heap.size, c.size, c, rfl, Nat.le_refl _, heap_alloc_new w _, Nat.le_refl _, hm, by simp, by rw [Nat.mul_one]; exact List.take_of_length_le (by simp)⟩⟩

/-- A slice of integers that can be read: it is empty, or its cells hold integers of the kind. -/
theorem open_zs {H : Type} {enc : TypeId × Value → H} {P : Program} {W : World} {v : Value} {d : DataW H} {p : List MemPlace} {t e : TypeId} {k : IntKind} (ht : P.underlying t = some (.slice e)) (he : P.underlying e = some (.int k)) (hc1 : P.cellsOf e = 1)
    (hval : ∃ a len cap, v = .slice a len cap) (h : DataW.Trod enc P W 0 (fun _ => true) true t v d p) :
    (∃ a cap, v = .slice a 0 cap) ∨ ∃ (b off cap : Nat) (l : List Int), l ≠ [] ∧ v = .slice (some ⟨b, off, none⟩) l.length cap ∧ l.length ≤ cap ∧ cap ≤ maxLen ∧ (∀ x ∈ l, (Lit.int k x).wf = true) ∧ ∀ j, j < l.length → W.cell? ⟨b, off + j, none⟩ = some (.int k (l.getD j 0)) := by
  obtain ⟨a0, l0, c0, rfl⟩ := hval
  obtain ⟨fuel, hf⟩ := h
  rcases open_ints ht he hc1 hf with ⟨h1, _⟩ | ⟨a, len, cap, zs, h1, _, h3, h4, h5, _, h7, h8⟩
  · left
    exact ⟨none, 0, by simpa [Value.cells] using h1⟩
  · have e : (Value.slice a0 l0 c0) = .slice (some a) len cap := by simpa [Value.cells] using h1
    have hz : zs.length = cap := by simpa using h5
    rcases Nat.eq_zero_or_pos len with h0 | h0
    · left
      subst h0
      exact ⟨_, _, e⟩
    · right
      obtain ⟨b, off, sp⟩ := a
      have hsp : sp = none := by simpa [Addr.add] using World.cell?_spot (h7 0 (by omega))
      subst hsp
      have hlen : (zs.take len).length = len := by rw [List.length_take]; omega
      refine ⟨b, off, cap, zs.take len, fun h => by rw [h] at hlen; simp at hlen; omega, by rw [hlen]; exact e, by omega, h4, fun x hx => h8 x (List.mem_of_mem_take hx), fun j hj => ?_⟩
      rw [hlen] at hj
      have := h7 j (by omega)
      rw [show (⟨b, off, none⟩ : Addr).add j = ⟨b, off + j, none⟩ from by unfold Addr.add; split <;> simp_all] at this
      rw [this]
      simp [List.getD_eq_getElem?_getD, hj]

/-- Integers of one kind, cell by cell. -/
def Ints (k : IntKind) (W : World) (b off : Nat) (l : List Int) : Prop := ∀ j, j < l.length → W.cell? ⟨b, off + j, none⟩ = some (.int k (l.getD j 0))

/-- An argument that is integers of one kind. -/
structure IArg (k : IntKind) (W : World) (v : Value) (l : List Int) (a : Option Addr) (cap : Nat) : Prop where
  shape : v = .slice a l.length cap
  cells : l ≠ [] → ∃ b off, a = some ⟨b, off, none⟩ ∧ b < W.heap.size ∧ Ints k W b off l
  nilCap : a = none → cap = 0
  lenLe : l.length ≤ cap
  capLe : cap ≤ maxLen
  wf : ∀ x ∈ l, (Lit.int k x).wf = true

theorem Ints.of_cell {k : IntKind} {W W' : World} {b off : Nat} {l : List Int} (h : Ints k W b off l) (hc : ∀ o, W'.cell? ⟨b, o, none⟩ = W.cell? ⟨b, o, none⟩) : Ints k W' b off l := fun j hj => (hc _).trans (h j hj)

theorem Ints.stay {k : IntKind} {S : Nat → Prop} {W W' : World} {b off : Nat} {l : List Int} (h : Ints k W b off l) (hb : b < W.heap.size) (hs : Stay S W W') (hn : ¬ S b) : Ints k W' b off l := h.of_cell fun o => hs.cell (p := ⟨b, o, none⟩) hb hn

theorem Ints.take {k : IntKind} {W : World} {b off : Nat} {l : List Int} (h : Ints k W b off l) (n : Nat) : Ints k W b off (l.take n) := fun j hj => by
  rw [List.length_take] at hj
  rw [h j (by omega), List.getD_eq_getElem?_getD, List.getD_eq_getElem?_getD, List.getElem?_take_of_lt (by omega)]

theorem IArg.stay {k : IntKind} {S : Nat → Prop} {W W' : World} {v : Value} {l : List Int} {a : Option Addr} {cap : Nat} (h : IArg k W v l a cap) (hs : Stay S W W') (hn : ∀ b off, a = some ⟨b, off, none⟩ → ¬ S b) : IArg k W' v l a cap :=
  ⟨h.shape, fun hne => by obtain ⟨b, off, h1, h2, h3⟩ := h.cells hne; exact ⟨b, off, h1, Nat.lt_of_lt_of_le h2 hs.size, h3.stay h2 hs (hn b off h1)⟩, h.nilCap, h.lenLe, h.capLe, h.wf⟩

theorem IArg.stay0 {k : IntKind} {W W' : World} {v : Value} {l : List Int} {a : Option Addr} {cap : Nat} (h : IArg k W v l a cap) (hs : Stay (fun _ => False) W W') : IArg k W' v l a cap := h.stay hs (fun _ _ _ h => h)

theorem IArg.take {k : IntKind} {W : World} {v : Value} {l : List Int} {a : Option Addr} {cap : Nat} (h : IArg k W v l a cap) (n : Nat) (hn : n ≤ l.length) : IArg k W (.slice a n cap) (l.take n) a cap := by
  have hl : (l.take n).length = n := by rw [List.length_take]; omega
  refine ⟨by rw [hl], fun hne => ?_, h.nilCap, by have := h.lenLe; omega, h.capLe, fun x hx => h.wf x (List.mem_of_mem_take hx)⟩
  have : l ≠ [] := by rintro rfl; simp at hne
  obtain ⟨b, off, h1, h2, h3⟩ := h.cells this
  exact ⟨b, off, h1, h2, h3.take n⟩

theorem IArg.row {k : IntKind} {W : World} {v : Value} {l : List Int} {a : Option Addr} {cap : Nat} (h : IArg k W v l a cap) : IsRow W v (l.map (.int k ·)) := by
  obtain ⟨h1, h2, h3, h4, _⟩ := h
  subst h1
  by_cases hne : l = []
  · subst hne
    cases a with
    | none => left; exact ⟨by rw [h3 rfl]; rfl, rfl⟩
    | some ad => right; exact ⟨ad, 0, cap, rfl, rfl, fun j u hu => by simp at hu⟩
  · obtain ⟨b, off, rfl, _, hB⟩ := h2 hne
    right
    refine ⟨_, _, _, rfl, by simp, fun j u hu => ?_⟩
    rw [List.getElem?_map, Option.map_eq_some_iff] at hu
    obtain ⟨z, hz, rfl⟩ := hu
    have hj := (List.getElem?_eq_some_iff.1 hz).1
    rw [addr_add, hB j hj, List.getD_eq_getElem?_getD, hz]
    rfl

/-- Integers, opened. -/
theorem open_arg {H : Type} {enc : TypeId × Value → H} {P : Program} {W : World} {v : Value} {d : DataW H} {p : List MemPlace} {t e : TypeId} {k : IntKind} (ht : P.underlying t = some (.slice e)) (he : P.underlying e = some (.int k)) (hc1 : P.cellsOf e = 1)
    (hval : ∃ a len cap, v = .slice a len cap) (h : DataW.Trod enc P W 0 (fun _ => true) true t v d p) : ∃ l a cap, IArg k W v l a cap := by
  rcases open_zs ht he hc1 hval h with ⟨a, cap, rfl⟩ | ⟨b, off, cap, l, hne, rfl, hc, hm, hwf, hB⟩
  · obtain ⟨fuel, hf⟩ := h
    rcases open_ints ht he hc1 hf with ⟨h1, _⟩ | ⟨a', len, cap', zs, h1, _, h3, h4, _⟩
    · have e : (Value.slice a 0 cap) = .slice none 0 0 := by simpa [Value.cells] using h1
      refine ⟨[], a, cap, rfl, fun h => absurd rfl h, fun _ => ?_, by simp, ?_, fun x hx => by simp at hx⟩
      · cases e; rfl
      · cases e; simp
    · have e : (Value.slice a 0 cap) = .slice (some a') len cap' := by simpa [Value.cells] using h1
      refine ⟨[], a, cap, rfl, fun h => absurd rfl h, fun h => ?_, by simp, ?_, fun x hx => by simp at hx⟩
      · cases e; cases h
      · cases e; exact h4
  · have hb : b < W.heap.size := World.block_lt_of_cell? _ _ (hB 0 (List.length_pos_iff.2 hne))
    exact ⟨l, _, cap, rfl, fun _ => ⟨b, off, rfl, hb, hB⟩, (fun h => by cases h), hc, hm, hwf⟩

/-- An own row of integers is an argument. -/
theorem owned_arg {k : IntKind} {w : World} {base : Nat} {e : TypeId} {v : Value} {l : List Int} (h : w.ownsRow base e 1 v l.length (l.map (.int k ·))) (hw : ∀ x ∈ l, (Lit.int k x).wf = true) : ∃ a cap, IArg k w v l a cap ∧ ∀ b off, a = some ⟨b, off, none⟩ → base ≤ b := by
  have hlt := h.lt
  rcases h.2 with ⟨rfl, h0⟩ | ⟨g, cap, cur, rfl, hbg, hg, hnc, hcm, _⟩
  · have : l = [] := List.eq_nil_of_length_eq_zero h0
    subst this
    exact ⟨none, 0, ⟨rfl, fun h => absurd rfl h, fun _ => rfl, Nat.le_refl _, by unfold maxLen; omega, fun x hx => by simp at hx⟩, fun b off hb => by cases hb⟩
  · refine ⟨_, cap, ⟨rfl, fun _ => ⟨g, 0, rfl, (hlt g rfl).2, fun j hj => ?_⟩, (fun h => by cases h), hnc, hcm, hw⟩, fun b off hb => by cases hb; exact hbg⟩
    have := h.cells (g := g) rfl j (.int k (l.getD j 0)) (by rw [List.getElem?_map, List.getElem?_eq_getElem hj, List.getD_eq_getElem?_getD, List.getElem?_eq_getElem hj]; rfl)
    rwa [addr_add] at this

theorem one_ints (k : IntKind) (l : List Int) : ∀ u ∈ l.map (Value.int k ·), u.oneCell' = true := by
  intro u hu
  obtain ⟨z, _, rfl⟩ := List.mem_map.1 hu
  rfl

theorem wf_i32 {x : Int} (h : (Lit.int .i32 x).wf = true) : -2147483648 ≤ x ∧ x ≤ 2147483647 := by
  have z1 : IntKind.i32.min = -2147483648 := by decide
  have z2 : IntKind.i32.max = 2147483647 := by decide
  simp only [Lit.wf, decide_eq_true_eq, Bool.and_eq_true] at h
  omega

theorem wf_i64 {x : Int} (h : (Lit.int .i64 x).wf = true) : -9223372036854775808 ≤ x ∧ x ≤ 9223372036854775807 := by
  have z1 : IntKind.i64.min = -9223372036854775808 := by decide
  have z2 : IntKind.i64.max = 9223372036854775807 := by decide
  simp only [Lit.wf, decide_eq_true_eq, Bool.and_eq_true] at h
  omega

theorem wf_u8 {x : Int} (h : (Lit.int .u8 x).wf = true) : 0 ≤ x ∧ x < 256 := by
  have z1 : IntKind.u8.min = 0 := by decide
  have z2 : IntKind.u8.max = 255 := by decide
  simp only [Lit.wf, decide_eq_true_eq, Bool.and_eq_true] at h
  omega

/-- Of a law: true, and nothing that was there has turned. -/
def LawTrue (w : World) (e : Ending) (w' : World) : Prop := e = .returned (.bool true) ∧ Stay (fun _ => False) w w'

theorem LawTrue.below {w w' : World} {e : Ending} (h : LawTrue w e w') : Below w.heap.size w w' := h.2.below (Nat.le_refl _) (fun _ _ h => h)

/-- A value, and nothing that was there has turned. -/
def Gives (v : Value) (w : World) (e : Ending) (w' : World) : Prop := e = .returned v ∧ Stay (fun _ => False) w w'

/-- All arguments read as they did. -/
theorem all_stay {H : Type} {enc : TypeId × Value → H} {P : Program} (hl : laidOutB P = true) {W W' : World} (hb : Below W.heap.size W W') : ∀ (ts : List TypeId) (vs : List Value) (ds : List (DataW H)) (ps : List MemPlace),
    (∀ t ∈ ts, P.readableRec t = true ∧ t < P.types.size) → (∀ x ∈ ps, x.block < W.heap.size) → DataW.TrodAll enc P W 0 (fun _ => true) true ts vs ds ps → DataW.TrodAll enc P W' 0 (fun b => decide (b < W.heap.size)) true ts vs ds ps
  | [], [], [], _, _, _, h => h
  | t :: ts, v :: vs, d :: ds, ps, hr, hp, h => by
    obtain ⟨p, q, h1, h2, rfl⟩ := h
    exact ⟨p, q, Below.trod hl (hr t (by simp)).1 (hr t (by simp)).2 h1 hb (fun x hx => hp x (by simp [hx])), all_stay hl hb ts vs ds q (fun t ht => hr t (by simp [ht])) (fun x hx => hp x (by simp [hx])) h2, rfl⟩
  | [], _ :: _, _, _, _, _, h => by cases h
  | [], [], _ :: _, _, _, _, h => by cases h
  | _ :: _, [], _, _, _, _, h => by cases h
  | _ :: _, _ :: _, [], _, _, _, h => by cases h

/-- ALL THAT A LAW's STATEMENT ASKS BEHIND THE WALK. -/
theorem law_post {H : Type} {enc : TypeId × Value → H} {P : Program} {f : Func} {s : ChangeSpec} {apart fresh handsOn : Bool} {W W' : World} {args : Array Value} {ds gs : List (DataW H)} {before : List MemPlace} {tb : TypeId}
    (hl : laidOutB P = true) (hr : ∀ t ∈ f.params.toList, P.readableRec t = true ∧ t < P.types.size) (hbt : f.resultTypes = #[tb]) (hu : P.underlying tb = some .bool) (hv : s.vars = [])
    (hW : DataW.Whole enc P f.params.toList s.vars apart W args.toList ds gs before) (hfn : gs = [] → s.fn H ds = { results := [.lit (.bool true)], args := ds }) (hb : Below W.heap.size W W') : s.post enc P f apart fresh handsOn false W args (.bool true) W' := by
  have hold : ∀ p ∈ before, p.block < W.heap.size := fun p hp => hW.lt p hp
  have hW0 := hW
  obtain ⟨p, q, hA, hV, rfl, _, _⟩ := hW
  rw [hv] at hV
  have hg : gs = [] ∧ q = [] := by
    cases gs with
    | nil => exact ⟨rfl, hV⟩
    | cons _ _ => cases hV
  obtain ⟨rfl, rfl⟩ := hg
  have e := hfn rfl
  refine ⟨ds, [], p ++ [], [], p, [], hW0, ?_, ?_, ?_, World.keptBut_mono (fun x hx => ⟨hx, ?_⟩) (hb.frame (· ∈ p ++ [])), fun h => absurd h (by simp)⟩
  · rw [List.append_nil, e, hbt]
    exact trodAll_mk1 (shut_bool hu _)
  · rw [List.append_nil, e]
    exact all_stay hl hb _ _ _ _ hr (fun x hx => hold x (by simpa using hx)) hA
  · rw [List.append_nil, e, hv]
    rfl
  · simpa using hx

end Go.Proofs.Ytjfhmpjpdcckhaa

namespace Go.Proofs.Ytjfhmpjpdcckhaa
open Go.RowKit

section
variable {P : Program} {ops : Array Oper} {Q : Exit → Act → World → Prop} {md : Region.Mode} {S : World → Prop}

/-- The walk of a region by a plan: number and whether it only looks. -/
def wpMix (P : Program) (ops : Array Oper) (S : World → Prop) (Q : Exit → Act → World → Prop) : List (Nat × Bool) → Act → World → Prop
  | [], a, w => Q .normal a w
  | (i, true) :: r, a, w => ∃ o v, ops[i]? = some o ∧ YieldsIf P ops S o v a ∧ wpMix P ops S Q r (a.put o.dst v) w
  | (i, false) :: r, a, w => wpOp P ops Q i (fun a' w' => S w' ∧ wpMix P ops S Q r a' w') a w

/-- Is the plan one that serves every order? -/
def mixB (md : Region.Mode) (ops : Array Oper) : List (Nat × Bool) → Array Bool → Bool
  | [], listed => (Region.ready md ops listed).isEmpty
  | (i, true) :: r, listed => (Region.ready md ops listed).contains i && Region.free md ops listed i && mixB md ops r (listed.setIfInBounds i true)
  | (i, false) :: r, listed => (Region.ready md ops listed == [i]) && mixB md ops r (listed.setIfInBounds i true)

theorem anyH_of_mix (hs : Region.noSelect ops = true) (hQ : ∀ (c : _) (d : Option Tmp) (v : Value) (a : Act) (w : World), Q (.panic c) (a.put d v) w → Q (.panic c) a w) :
    ∀ (σ : List (Nat × Bool)) (listed : Array Bool) (a : Act) (w : World), mixB md ops σ listed = true → S w → wpMix P ops S Q σ a w → wpAnyH P md ops Q S σ.length listed a w
  | [], listed, a, w, hB, _, h => ⟨by simpa [mixB] using hB, h⟩
  | (i, true) :: r, listed, a, w, hB, hS, h => by
    simp only [mixB, Bool.and_eq_true] at hB
    obtain ⟨⟨h1, h2⟩, h3⟩ := hB
    obtain ⟨o, v, hi, hy, hr⟩ := h
    exact wpAnyH_take hi hs h2 h1 (fun c a w => hQ c o.dst v a w) hy hS (anyH_of_mix hs hQ r _ _ _ h3 hS hr)
  | (i, false) :: r, listed, a, w, hB, hS, h => by
    simp only [mixB, Bool.and_eq_true, beq_iff_eq] at hB
    obtain ⟨h1, h3⟩ := hB
    refine wpAnyH_all h1 (by simp) (fun j hj => ?_)
    obtain rfl : j = i := by simpa using hj
    exact wpOp_mono (fun a' w' h' => ⟨h'.1, anyH_of_mix hs hQ r _ a' w' h3 h'.1 h'.2⟩) h

theorem wp_region_mix {id : Nat} {a : Act} {w : World} (S : World → Prop) (σ : List (Nat × Bool)) (hm : P.follows .mixedOrders = true)
    (hB : (Region.noSelect ops && (σ.length == ops.size) && mixB .any ops σ (Array.replicate ops.size false)) = true)
    (hQ : ∀ (c : _) (d : Option Tmp) (v : Value) (a : Act) (w : World), Q (.panic c) (a.put d v) w → Q (.panic c) a w)
    (hS : S w.drew) (h : wpMix P ops S Q σ a w.drew) : (Code.region id ops true).wp P Q a w := by
  simp only [Bool.and_eq_true, beq_iff_eq] at hB
  obtain ⟨⟨h1, h2⟩, h3⟩ := hB
  refine wp_region_held (S := S) hm ?_
  rw [← h2]
  exact anyH_of_mix h1 hQ σ _ a _ (by rw [h2]; exact h3) hS h

theorem mix_nil {a : Act} {w : World} (h : Q .normal a w) : wpMix P ops S Q [] a w := h

/-- Begin: what follows stands behind a letter. -/
theorem mix_begin {σ : List (Nat × Bool)} {a : Act} {w : World} (h : ∀ K : Act → World → Prop, (∀ a w, wpMix P ops S Q σ a w → K a w) → K a w) : wpMix P ops S Q σ a w := h _ (fun _ _ h => h)

/-- An operation whose guard is not met. -/
theorem mix_skip {i : Nat} {b : Bool} {σ : List (Nat × Bool)} {K : Act → World → Prop} {a : Act} {w : World} (hK : ∀ a w, wpMix P ops S Q ((i, b) :: σ) a w → K a w) (d : Option Tmp) (hd : (ops[i]?).map (·.dst) = some d)
    (hg : (ops[i]?).map (fun o => Region.wanted o (yielded ops a.tmps)) = some false) (hS : S w) (h : ∀ K2 : Act → World → Prop, (∀ a w, wpMix P ops S Q σ a w → K2 a w) → K2 (a.put d undef) w) : K a w := by
  obtain ⟨o, hi, rfl⟩ := Option.map_eq_some_iff.1 hd
  rw [hi] at hg
  have hg' : Region.wanted o (yielded ops a.tmps) = false := by simpa using hg
  refine hK a w ?_
  cases b with
  | true => exact ⟨o, undef, hi, .inr ⟨hg', rfl⟩, h _ fun _ _ h => h⟩
  | false =>
    show wpOp P ops Q i _ a w
    unfold wpOp
    simp only [hi, hg', Bool.false_eq_true, if_false]
    exact ⟨hS, h _ fun _ _ h => h⟩

/-- An operation by what counts in a run. -/
def opr (d : Option Tmp) (x : Op) (ty : TypeId) : Oper := { dst := d, op := x, type := ty, pos := "", after := #[], guard := none }

theorem execOp_opr (ρ : Operand → Value) (o : Oper) : execOp ρ o = execOp ρ (opr o.dst o.op o.type) := by
  obtain ⟨d, x, ty, ps, af, g⟩ := o
  rfl

theorem opr_of {i : Nat} {d : Option Tmp} {x : Op} {ty : TypeId} (hi : (ops[i]?).map (fun o => (o.dst, o.op, o.type)) = some (d, x, ty)) {ρ : Array Value} {b : Bool} (hg : (ops[i]?).map (fun o => Region.wanted o (yielded ops ρ)) = some b) :
    ∃ o, ops[i]? = some o ∧ o.dst = d ∧ (∀ ρ, execOp ρ o = execOp ρ (opr d x ty)) ∧ Region.wanted o (yielded ops ρ) = b := by
  obtain ⟨o, ho, h⟩ := Option.map_eq_some_iff.1 hi
  obtain ⟨o', ho', h'⟩ := Option.map_eq_some_iff.1 hg
  obtain rfl : o' = o := Option.some.inj (ho'.symm.trans ho)
  simp only [Prod.mk.injEq] at h
  obtain ⟨rfl, rfl, rfl⟩ := h
  exact ⟨o', ho, rfl, fun ρ => execOp_opr ρ o', h'⟩

/-- An operation that only looks. -/
theorem mix_take {i : Nat} {σ : List (Nat × Bool)} {K : Act → World → Prop} {a : Act} {w : World} (hK : ∀ a w, wpMix P ops S Q ((i, true) :: σ) a w → K a w) (d : Option Tmp) (x : Op) (ty : TypeId) (v : Value)
    (hi : (ops[i]?).map (fun o => (o.dst, o.op, o.type)) = some (d, x, ty))
    (hg : (ops[i]?).map (fun o => Region.wanted o (yielded ops a.tmps)) = some true) (hv : ∀ w, S w → (execOp a.eval (opr d x ty)).run P w = .ok (.value v) w)
    (h : ∀ K2 : Act → World → Prop, (∀ a w, wpMix P ops S Q σ a w → K2 a w) → K2 (a.put d v) w) : K a w := by
  obtain ⟨o, h1, rfl, h3, h4⟩ := opr_of hi hg
  exact hK a w ⟨o, v, h1, .inl ⟨h4, fun w hw => by rw [h3]; exact hv w hw⟩, h _ fun _ _ h => h⟩

/-- A function with a body is entered. -/
theorem enters {P : Program} {f : FuncId} {fn : Func} (hf : P.funcs[f]? = some fn) (hn : (fn.name == "runtime.NumGoroutine") = false) (hb : fn.body.isNone = false) (args : Array Value) (w : World) : (callFunc f args).run P w = .ok (.enter f args) w := by
  have h1 : fn.name ≠ "runtime.NumGoroutine" := by simpa using hn
  have h2 : ¬ fn.body = none := by intro h; simp [h] at hb
  simp [callFunc, hf, h1, h2]

/-- A call of a Go function. -/
theorem mix_call {i : Nat} {σ : List (Nat × Bool)} {K : Act → World → Prop} {a : Act} {w : World} (hK : ∀ a w, wpMix P ops S Q ((i, false) :: σ) a w → K a w) (d : Option Tmp) (f : FuncId) (xs : Array Operand) (tys : Array TypeId) (ty : TypeId) (args : Array Value)
    (hi : (ops[i]?).map (fun o => (o.dst, o.op, o.type)) = some (d, .call { callee := .value (.func f), args := xs, argTypes := tys }, ty))
    (hg : (ops[i]?).map (fun o => Region.wanted o (yielded ops a.tmps)) = some true) (hf : ∀ args w, (callFunc f args).run P w = .ok (.enter f args) w) (ha : xs.map a.eval = args)
    (h : ∀ K2 : Act → World → Prop, (∀ a w, wpMix P ops S Q σ a w → K2 a w) → Calls P f args w fun e w' => ∃ v, e = .returned v ∧ S w' ∧ K2 (a.put d v) w') : K a w := by
  obtain ⟨o, h1, rfl, h3, h4⟩ := opr_of hi hg
  refine hK a w ?_
  show wpOp P ops Q i _ a w
  unfold wpOp
  simp only [h1, h4, if_true]
  refine .inl ?_
  unfold Oper.wp
  have he : (execOp a.eval o).run P w = .ok (.enter f args) w := by
    rw [h3]
    simp [execOp, opr, resolve, invoke, Act.eval, hf, ha, go_sem]
  rw [he]
  refine (h _ fun _ _ h => h).mono ?_
  rintro e w' ⟨v, rfl, h1, h2⟩
  exact ⟨h1, h2⟩

/-- Begin, where several may come up. -/
theorem any_begin {id : Nat} {a : Act} {w : World} (S : World → Prop) (hm : P.follows .mixedOrders = true)
    (h : ∀ K : Act → World → Prop, (∀ a w, wpAnyH P .any ops Q S ops.size (Array.replicate ops.size false) a w → K a w) → K a w.drew) : (Code.region id ops true).wp P Q a w :=
  wp_region_held (S := S) hm (h _ fun _ _ h => h)

theorem any_take {i fuel : Nat} {listed : Array Bool} {K : Act → World → Prop} {a : Act} {w : World} (hK : ∀ a w, wpAnyH P md ops Q S (fuel + 1) listed a w → K a w) (d : Option Tmp) (x : Op) (ty : TypeId) (v : Value)
    (hs : (Region.noSelect ops && Region.free md ops listed i && (Region.ready md ops listed).contains i) = true) (hQ : ∀ (c : _) (d : Option Tmp) (v : Value) (a : Act) (w : World), Q (.panic c) (a.put d v) w → Q (.panic c) a w)
    (hi : (ops[i]?).map (fun o => (o.dst, o.op, o.type)) = some (d, x, ty)) (hg : (ops[i]?).map (fun o => Region.wanted o (yielded ops a.tmps)) = some true)
    (hv : ∀ w, S w → (execOp a.eval (opr d x ty)).run P w = .ok (.value v) w) (hS : S w)
    (h : ∀ K2 : Act → World → Prop, (∀ a w, wpAnyH P md ops Q S fuel (listed.setIfInBounds i true) a w → K2 a w) → K2 (a.put d v) w) : K a w := by
  obtain ⟨o, h1, rfl, h3, h4⟩ := opr_of hi hg
  simp only [Bool.and_eq_true] at hs
  exact hK a w (wpAnyH_take h1 hs.1.1 hs.1.2 hs.2 (fun c a w => hQ c o.dst v a w) (.inl ⟨h4, fun w hw => by rw [h3]; exact hv w hw⟩) hS (h _ fun _ _ h => h))

/-- Of several operations each may come up. -/
theorem any_pick {rs : List Nat} {fuel : Nat} {listed : Array Bool} {K : Act → World → Prop} {a : Act} {w : World} (hK : ∀ a w, wpAnyH P md ops Q S (fuel + 1) listed a w → K a w) (hr : (Region.ready md ops listed == rs && !rs.isEmpty) = true)
    (h : ∀ K2 : Nat → Act → World → Prop, (∀ i ∈ rs, ∀ a w, S w → wpAnyH P md ops Q S fuel (listed.setIfInBounds i true) a w → K2 i a w) → ∀ i ∈ rs, wpOp P ops Q i (K2 i) a w) : K a w := by
  simp only [Bool.and_eq_true, beq_iff_eq] at hr
  exact hK a w (wpAnyH_all hr.1 (by rintro rfl; simp at hr) fun i hi => h (fun i a' w' => S w' ∧ wpAnyH P md ops Q S fuel (listed.setIfInBounds i true) a' w') (fun _ _ _ _ h1 h2 => ⟨h1, h2⟩) i hi)

theorem any_done {fuel : Nat} {listed : Array Bool} {K : Act → World → Prop} {a : Act} {w : World} (hK : ∀ a w, wpAnyH P md ops Q S fuel listed a w → K a w) (hr : (Region.ready md ops listed).isEmpty = true) (h : Q .normal a w) : K a w :=
  hK a w (wpAnyH_done (by simpa using hr) h _)

/-- Any operation that comes in its one order. -/
theorem mix_chain {i : Nat} {σ : List (Nat × Bool)} {K : Act → World → Prop} {a : Act} {w : World} (hK : ∀ a w, wpMix P ops S Q ((i, false) :: σ) a w → K a w)
    (h : ∀ K2 : Act → World → Prop, (∀ a w, S w → wpMix P ops S Q σ a w → K2 a w) → wpOp P ops Q i K2 a w) : K a w :=
  hK a w (h (fun a' w' => S w' ∧ wpMix P ops S Q σ a' w') (fun _ _ h1 h2 => ⟨h1, h2⟩))

/-- What follows, behind a letter. -/
theorem any_more {fuel : Nat} {listed : Array Bool} {a : Act} {w : World} (h : ∀ K : Act → World → Prop, (∀ a w, wpAnyH P md ops Q S fuel listed a w → K a w) → K a w) : wpAnyH P md ops Q S fuel listed a w := h _ fun _ _ h => h

/-- An operation as a piece of a plain walk. -/
theorem op_plain {i : Nat} {K : Act → World → Prop} {a : Act} {w : World} (d : Option Tmp) (x : Op) (ty : TypeId) (hi : (ops[i]?).map (fun o => (o.dst, o.op, o.type)) = some (d, x, ty))
    (hg : (ops[i]?).map (fun o => Region.wanted o (yielded ops a.tmps)) = some true) (h : wpList P #[] (Exit.then K Q) [{ dst := d, op := x, type := ty, pos := "", after := #[], guard := none }] a w) : wpOp P ops Q i K a w := by
  obtain ⟨o, h1, h2, h3, h4⟩ := opr_of hi hg
  unfold wpOp
  simp only [h1, h4, if_true]
  unfold wpList at h
  rw [if_pos (by simp [Region.wanted])] at h
  have he : ∀ ρ, execOp ρ o = execOp ρ { dst := d, op := x, type := ty, pos := "", after := #[], guard := none } := h3
  rcases h with h | ⟨h5, h6⟩
  · left
    unfold Oper.wp at *
    rw [he]
    revert h
    generalize (execOp a.eval { dst := d, op := x, type := ty, pos := "", after := #[], guard := none }).run P w = r
    intro h
    subst h2
    cases r with
    | ok n w' =>
      cases n <;> first | exact h | skip
    | halt s w' => cases s <;> exact h
  · right
    refine ⟨?_, h6⟩
    unfold Oper.asks at *
    rw [he]
    exact h5

/-- A slice that holds a row of elements of several cells each, nil included. -/
def IsRowS (w : World) (size : Nat) (v : Value) (m : Nat) (news : List Value) : Prop :=
  (v = .slice none 0 0 ∧ m = 0 ∧ news = []) ∨ ∃ ad c, v = .slice (some ad) m c ∧ news.length = m * size ∧ ∀ j u, news[j]? = some u → w.cell? (ad.add j) = some u

theorem owns_newS (w : World) (c : Array Value) (e : TypeId) (size n : Nat) (hc : c.size = n * size) (hm : n ≤ maxLen) : (w.alloc (.cells c e)).ownsRow w.heap.size e size (.slice (some ⟨w.heap.size, 0, none⟩) n n) n c.toList :=
  ⟨by simpa using hc, .inr ⟨w.heap.size, n, c, rfl, Nat.le_refl _, heap_alloc_new w _, Nat.le_refl _, hm, hc, List.take_of_length_le (by simp [hc])⟩⟩

theorem isRowS_new (w : World) (c : Array Value) (t : TypeId) (size n : Nat) (hc : c.size = n * size) : IsRowS (w.alloc (.cells c t)) size (.slice (some ⟨w.heap.size, 0, none⟩) n n) n c.toList := by
  refine Or.inr ⟨_, _, rfl, by simpa using hc, fun j u hu => ?_⟩
  rw [addr_add]
  have hj : c[j]? = some u := by simpa using hu
  simp [hj]

theorem IsRowS.stay {S : Nat → Prop} {w w' : World} {size : Nat} {v : Value} {m : Nat} {news : List Value} (h : IsRowS w size v m news) (hs : Stay S w w') (hn : ∀ k, v.ownBlock = some k → ¬ S k) : IsRowS w' size v m news := by
  rcases h with h | ⟨ad, c, rfl, hm, hc⟩
  · exact .inl h
  · exact .inr ⟨ad, c, rfl, hm, fun j u hu => (hs.cell (p := ad.add j) (World.block_lt_of_cell? _ _ (hc j u hu)) (by rw [show (ad.add j).block = ad.block by unfold Addr.add; split <;> rfl]; exact hn ad.block rfl)).trans (hc j u hu)⟩

/-- A row is appended to an own row, whatever the elements' size: only its block may have turned; where the new row lies. -/
theorem appS {P : Program} {ops : Array Oper} {rest : List Oper} {o : Oper} {a : Act} {Q : Exit → Act → World → Prop} (hgd : o.guard = none) (s x : Operand) (t : TypeId)
    (ho : o.op = .call { callee := .builtin .append, args := #[s, x], argTypes := #[t, t] }) {w : World} {base n m size bytes : Nat} {e : TypeId} {z v sv : Value} {xs news : List Value} (hu : P.underlying t = some (.slice e))
    (hinfo : (P.info? e).map (fun i => (i.zero, i.size, i.bytes)) = some (some z, size, bytes)) (hz : z.cells.size = size) (hs0 : 0 < size) (hby : bytes ≤ 1000)
    (hown : w.ownsRow base e size v n xs) (hs : a.eval s = v) (hsrc : IsRowS w size sv m news) (hx : a.eval x = sv) (h1 : ∀ u ∈ news, u.oneCell' = true) (hn : n + m ≤ 1000000) (hbase : base ≤ w.heap.size)
    (h : ∀ v' w', w'.ownsRow base e size v' (n + m) (xs ++ news) → Stay (fun k => v.ownBlock = some k) w w' → (v'.ownBlock = v.ownBlock ∨ v'.ownBlock = some w.heap.size) → wpList P ops Q rest (a.put o.dst v') w') : wpList P ops Q (o :: rest) a w := by
  obtain ⟨i, hi, hzz⟩ := Option.map_eq_some_iff.1 hinfo
  simp only [Prod.mk.injEq] at hzz
  obtain ⟨g1, g2, g3⟩ := hzz
  rcases hsrc with ⟨rfl, rfl, rfl⟩ | ⟨ad, c, rfl, hm, hc⟩
  · exact wpList_append_own_none hgd s x t ho base e i size hu hi v n xs hs hown hx (h v w (by simpa using hown) (Stay.refl _ _) (.inl rfl))
  · have hb : (n + m) * bytes ≤ 140737488355328 := Nat.le_trans (Nat.mul_le_mul hn hby) (by decide)
    exact wpList_append_own_at _ hgd s x t ho base e i z size bytes hu hi g1 g2 g3 hz hs0 v n xs hs hown ad _ c news hx hm hc h1 (by unfold maxLen; omega) hb hbase
      (fun v' w' h2 h3 _ h5 => h v' w' h2 ((Stay.refl _ w).grown h3 fun k hk _ => hk) h5)

end

end Go.Proofs.Ytjfhmpjpdcckhaa

namespace Go.Proofs.Ytjfhmpjpdcckhaa
open Go.RowKit

/-- A number of 64 bits. -/
def W64 (x : Int) : Prop := -9223372036854775808 ≤ x ∧ x ≤ 9223372036854775807

theorem bits_w64 (op : BinOp) (x y : Int) : W64 (bits op .i64 x y) := by
  unfold bits W64
  simp only [IntKind.wrap_i64]
  omega

theorem or_zero {x : Int} (h : W64 x) : bits .or .i64 x 0 = x := by
  have e : BitVec.ofInt 64 x ||| BitVec.ofInt 64 0 = BitVec.ofInt 64 x := by
    rw [show BitVec.ofInt 64 0 = 0#64 by decide]; simp
  show IntKind.i64.wrap ((BitVec.ofInt 64 x ||| BitVec.ofInt 64 0).toNat : Nat) = x
  rw [e, BitVec.toNat_ofInt, IntKind.wrap_i64]
  unfold W64 at h
  omega

theorem keep_cell {W w1 : World} {p : Addr} {v : Value} (hs : Stay (fun _ => False) W w1) (h : W.cell? p = some v) : w1.cell? p = some v := by
  rw [← h]; exact hs.cell (World.block_lt_of_cell? _ _ h) (fun h => h)

theorem keep_frozen {W w1 : World} {p : Addr} {v : Value} {b : Bool} (hs : Stay (fun _ => False) W w1) (h : W.cell? p = some v) (hf : W.frozen? p = b) : w1.frozen? p = b := by
  rw [← hf]; exact hs.frozen (World.block_lt_of_cell? _ _ h) (fun h => h)

theorem ret_bool {a b : Bool} (h : a = b) : Ending.returned (.bool a) = .returned (.bool b) := by rw [h]

theorem ret_int {a b : Int} (h : a = b) : Ending.returned (.int .i64 a) = .returned (.int .i64 b) := by rw [h]

/-- What a variable of a struct (or an array) of one-cell parts reads as. -/
theorem run_loadVar_cells {P : Program} (w : World) (g off : Nat) (ty : TypeId) (cs : List Value) (d : TypeDesc) (hc : ∀ j v, cs[j]? = some v → w.cell? ⟨g, off + j, none⟩ = some v)
    (hu : P.underlying ty = some d) (hd : (match d with | .struct _ | .array _ _ => true | _ => false) = true) (hi : (P.info? ty).map (·.size) = some cs.length) :
    (loadVar ty ⟨g, off, none⟩).run P w = .ok (.agg cs.toArray) w := by
  have hl : (loadCells ⟨g, off, none⟩ cs.length).run P w = .ok cs.toArray w :=
    run_loadCells_list (P := P) w ⟨g, off, none⟩ cs (fun j v hv => by
      have hadd : (⟨g, off, none⟩ : Addr).add j = ⟨g, off + j, none⟩ := by unfold Addr.add; split <;> simp_all
      rw [hadd]
      exact hc j v hv)
  cases hq : P.info? ty with
  | none => simp [hq] at hi
  | some i =>
    have hs : i.size = cs.length := by simpa [hq] using hi
    have hagg : (isAgg ty).run P w = .ok true w := by
      unfold isAgg
      rw [Sem.run_bind, run_underlying hu w]
      cases d <;> simp_all
    simp [loadVar, Sem.run_bind, hagg, sizeOf, typeInfo, hq, hs, hl]

/-- A result that lies in memory. -/
theorem results_cells {P : Program} {fn : Func} {p : Tmp} {ty : TypeId} (h : fn.results = #[.cell p ty]) (tmps : Array Value) (w : World) (g off : Nat) (cs : List Value) (d : TypeDesc)
    (hp : tmps.getD p undef = .pointer (some ⟨g, off, none⟩)) (hc : ∀ j v, cs[j]? = some v → w.cell? ⟨g, off + j, none⟩ = some v)
    (hu : P.underlying ty = some d) (hd : (match d with | .struct _ | .array _ _ => true | _ => false) = true) (hi : (P.info? ty).map (·.size) = some cs.length) :
    (results fn tmps).run P w = .ok (.agg cs.toArray) w := by
  have hp' : tmps[p]?.getD undef = .pointer (some ⟨g, off, none⟩) := by simpa using hp
  simp [results, h, hp', asAddr, run_loadVar_cells w g off ty cs d hc hu hd hi]

theorem and_255 (n : Int) : bits .and .i64 n 255 = n % 256 := by
  have h : (BitVec.ofInt 64 255).toNat = 2 ^ 8 - 1 := by decide
  have key : (BitVec.ofInt 64 n &&& BitVec.ofInt 64 255).toNat = (n % ((2 ^ 64 : Nat) : Int)).toNat % 2 ^ 8 := by
    rw [BitVec.toNat_and, BitVec.toNat_ofInt, h, Nat.and_two_pow_sub_one_eq_mod]
  show IntKind.i64.wrap ((BitVec.ofInt 64 n &&& BitVec.ofInt 64 255).toNat : Nat) = n % 256
  rw [key, IntKind.wrap_i64]
  omega

theorem ret_three {a b c x y z : Int} (h1 : a = x) (h2 : b = y) (h3 : c = z) : Ending.returned (.tuple #[.int .i64 a, .int .i64 b, .int .i64 c]) = .returned (.tuple #[.int .i64 x, .int .i64 y, .int .i64 z]) := by rw [h1, h2, h3]

theorem results_tmp4 {fn : Func} {t u v x : Tmp} (h : fn.results = #[.tmp t, .tmp u, .tmp v, .tmp x]) (tmps : Array Value) (P : Program) (w : World) :
    (results fn tmps).run P w = .ok (.tuple #[tmps.getD t undef, tmps.getD u undef, tmps.getD v undef, tmps.getD x undef]) w := by
  simp [results, h]

theorem or_add (k : Nat) (x y : Int) (hx : x % 2 ^ k = 0) (h0 : 0 ≤ x) (h1 : x < 4611686018427387904) (hy : 0 ≤ y) (hk : y < 2 ^ k) (h2 : y < 4611686018427387904) : bits .or .i64 x y = x + y := by
  obtain ⟨a, rfl⟩ := Int.eq_ofNat_of_zero_le h0
  obtain ⟨b, rfl⟩ := Int.eq_ofNat_of_zero_le hy
  have e1 : (BitVec.ofInt 64 ((a : Nat) : Int)).toNat = a := by rw [BitVec.toNat_ofInt]; omega
  have e2 : (BitVec.ofInt 64 ((b : Nat) : Int)).toNat = b := by rw [BitVec.toNat_ofInt]; omega
  have hb : b < 2 ^ k := by exact_mod_cast hk
  have ha : a % 2 ^ k = 0 := by exact_mod_cast hx
  have e3 : a ||| b = a + b := by
    have hm := Nat.div_add_mod a (2 ^ k)
    rw [ha, Nat.add_zero] at hm
    rw [← hm]
    exact (Nat.two_pow_add_eq_or_of_lt hb (a / 2 ^ k)).symm
  show IntKind.i64.wrap ((BitVec.ofInt 64 ((a : Nat) : Int) ||| BitVec.ofInt 64 ((b : Nat) : Int)).toNat : Nat) = _
  rw [BitVec.toNat_or, e1, e2, e3, IntKind.wrap_i64]
  omega

theorem ret_two {a b x y : Int} (h1 : a = x) (h2 : b = y) : Ending.returned (.tuple #[.int .i64 a, .int .i64 b]) = .returned (.tuple #[.int .i64 x, .int .i64 y]) := by rw [h1, h2]

theorem getD_mem {l : List Int} {j : Nat} (h : j < l.length) : l.getD j 0 ∈ l := by
  rw [List.getD_eq_getElem?_getD, List.getElem?_eq_getElem h]; exact List.getElem_mem h

theorem beq_f {x y : Int} (h : ¬ x = y) : (x == y) = false := by simpa using h

theorem beq_t {x y : Int} (h : x = y) : (x == y) = true := by simpa using h

theorem Ints.keep {k : IntKind} {W W' : World} {b off : Nat} {l : List Int} (h : Ints k W b off l) (hb : b < W.heap.size) (hs : Stay (fun _ => False) W W') : Ints k W' b off l := h.stay hb hs (fun h => h)

theorem drop_cons (l : List Int) (k : Nat) (h : k < l.length) : l.drop k = l.getD k 0 :: l.drop (k + 1) := by
  rw [List.getD_eq_getElem?_getD, List.getElem?_eq_getElem h]
  exact List.drop_eq_getElem_cons h

theorem Ints.drop {k : IntKind} {W : World} {b off : Nat} {l : List Int} (h : Ints k W b off l) (j : Nat) : Ints k W b (off + j) (l.drop j) := fun i hi => by
  rw [List.length_drop] at hi
  rw [Nat.add_assoc, h (j + i) (by omega)]
  simp [List.getD_eq_getElem?_getD, List.getElem?_drop]

theorem w64_wf {x : Int} (h : W64 x) : (Lit.int .i64 x).wf = true := by
  have z1 : IntKind.i64.min = -9223372036854775808 := by decide
  have z2 : IntKind.i64.max = 9223372036854775807 := by decide
  unfold W64 at h
  simp only [Lit.wf, decide_eq_true_eq, Bool.and_eq_true]
  omega

/-- A row of integers that can be read. -/
def Row (w : World) (t : Value) (l : List Int) : Prop := ∃ a cap, IArg .i64 w t l a cap

/-- A row of integers is handed back, and nothing that was there has turned. -/
def GivesRow (l : List Int) (w : World) (e : Ending) (w' : World) : Prop := ∃ t, e = .returned t ∧ Row w' t l ∧ Stay (fun _ => False) w w'

theorem Row.keep {w w' : World} {t : Value} {l : List Int} (h : Row w t l) (hs : Stay (fun _ => False) w w') : Row w' t l := by
  obtain ⟨a, cap, h⟩ := h
  exact ⟨a, cap, h.stay0 hs⟩

theorem row_nil (w : World) : Row w (.slice none 0 0) [] := ⟨none, 0, rfl, fun h => absurd rfl h, fun _ => rfl, Nat.le_refl _, by unfold maxLen; omega, fun x hx => by simp at hx⟩

theorem isRow_keep {w w' : World} {t : Value} {xs : List Value} (h : IsRow w t xs) (hs : Stay (fun _ => False) w w') : IsRow w' t xs := by
  rcases h with h | ⟨ad, m, c, h1, h2, h3⟩
  · exact .inl h
  · exact .inr ⟨ad, m, c, h1, h2, fun j u hu => keep_cell hs (h3 j u hu)⟩

/-- A block that an own row does not lie in. -/
def Apart (W : World) (v : Value) (k : Nat) : Prop := k < W.heap.size ∧ v.ownBlock ≠ some k

theorem Apart.alloc {W : World} {v : Value} {k : Nat} (h : Apart W v k) (o : Obj) : Apart (W.alloc o) v k := ⟨by have := h.1; simp; omega, h.2⟩

theorem Apart.fresh {W : World} {v : Value} {k : Nat} (h : Apart W v k) (o : Obj) : Apart (W.alloc o) (.slice (some ⟨W.heap.size, 0, none⟩) 0 0) k := ⟨by have := h.1; simp; omega, fun e => by have h1 := h.1; simp [Value.ownBlock] at e; omega⟩

theorem Apart.none (W : World) (o : Obj) : Apart (W.alloc o) (.slice Option.none 0 0) W.heap.size := ⟨by simp, fun e => by cases e⟩

theorem Apart.new {W : World} {v : Value} {base e s n : Nat} {xs : List Value} {o : Obj} (h : W.ownsRow base e s v n xs) : Apart (W.alloc o) v W.heap.size := ⟨by simp, fun hk => by have := (h.lt _ hk).2; omega⟩

theorem Apart.step {W W1 : World} {v v1 : Value} {k : Nat} {T : Nat → Prop} (h : Apart W v k) (hs : Stay T W W1) (hb : v1.ownBlock = v.ownBlock ∨ v1.ownBlock = some W.heap.size) : Apart W1 v1 k := by
  refine ⟨Nat.lt_of_lt_of_le h.1 hs.size, fun e => ?_⟩
  rcases hb with hb | hb
  · exact h.2 (hb ▸ e)
  · rw [e] at hb
    have := h.1
    cases hb
    omega

theorem isRowS_of {w : World} {v : Value} {news : List Value} (h : IsRow w v news) : IsRowS w 1 v news.length news := by
  rcases h with ⟨rfl, rfl⟩ | ⟨ad, m, c, rfl, rfl, hc⟩
  · exact .inl ⟨rfl, rfl, rfl⟩
  · exact .inr ⟨ad, c, rfl, by omega, hc⟩

theorem and_zero (f : Int) : bits .and .i64 f 0 = 0 := by
  show IntKind.i64.wrap ((BitVec.ofInt 64 f &&& BitVec.ofInt 64 0).toNat : Nat) = 0
  rw [show BitVec.ofInt 64 0 = 0#64 by decide]
  simp
  decide

theorem row_owned {w : World} {base e : Nat} {t : Value} {l : List Int} (h : w.ownsRow base e 1 t l.length (l.map (.int .i64 ·))) (hw : ∀ x ∈ l, W64 x) : Row w t l := by
  obtain ⟨a, cap, h, _⟩ := owned_arg h (fun x hx => w64_wf (hw x hx))
  exact ⟨a, cap, h⟩

theorem row_new (w : World) (cs : Array Value) (e : TypeId) (l : List Int) (n : Nat) (hn : cs.size = n) (hl : cs.toList = l.map (.int .i64 ·)) (hw : ∀ x ∈ l, W64 x) (hm : n ≤ maxLen) : Row (w.alloc (.cells cs e)) (.slice (some ⟨w.heap.size, 0, none⟩) n n) l := by
  subst hn
  have h := owns_new w cs e hm
  have ec : cs.size = l.length := by rw [← Array.length_toList, hl, List.length_map]
  rw [hl, ec] at h
  rw [ec]
  exact row_owned h hw

/-- The world behind a row that was made, and the own row in it. -/
theorem own_new {base e n : Nat} {t : Value} {vs : List Value} {w : World} (h : w.ownsRow base e 1 t n vs) (o : Obj) : (w.alloc o).ownsRow base e 1 t n vs := ((Stay.refl (fun _ => False) w).alloc o).owns h (fun _ _ h => h)

theorem own_base {base e n : Nat} {t : Value} {vs : List Value} {w : World} (h : w.ownsRow base e 1 t n vs) : ∀ k, t.ownBlock = some k → base ≤ k := fun k hk => (h.lt k hk).1

theorem row_joined {W : World} {base e n : Nat} {t : Value} {xs : List Value} {l : List Int} (h : W.ownsRow base e 1 t n xs) (hx : xs = l.map (.int .i64 ·)) (hw : ∀ x ∈ l, (Lit.int .i64 x).wf = true) : Row W t l := by
  have hn : n = l.length := by have := h.1; rw [hx] at this; simpa using this.symm
  subst hn hx
  obtain ⟨a, cap, h, _⟩ := owned_arg h hw
  exact ⟨a, cap, h⟩

end Go.Proofs.Ytjfhmpjpdcckhaa

namespace Go.Proofs.Ytjfhmpjpdcckhaa
open Go.ChangeShapes Go.WideShapes Go.ChangeAt Go.RowKit Go.Joins

theorem Try.laidOut : laidOutB Try.prog = true := by kernel_rfl
theorem Try.own : ownKnob Try.prog.godebug = none := by kernel_rfl

/-- Cells that are integers of these kinds, and fit. -/
def KInts : List IntKind → List Value → Prop
  | [], cs => cs = []
  | k :: ks, cs => ∃ n rest, cs = .int k n :: rest ∧ (Lit.int k n).wf = true ∧ KInts ks rest

theorem KInts.append : ∀ {a b : List IntKind} {xs ys : List Value}, KInts a xs → KInts b ys → KInts (a ++ b) (xs ++ ys)
  | [], _, xs, _, h, k => by
    have h' : xs = [] := h
    subst h'
    exact k
  | _ :: _, _, _, _, ⟨n, rest, e, hw, hr⟩, k => ⟨n, rest ++ _, by rw [e]; rfl, hw, KInts.append hr k⟩

def offsB (c : Field → Nat) : Nat → List Field → Bool
  | _, [] => true
  | o, f :: r => f.offset == o && offsB c (o + c f) r

theorem kints_go (c : Field → Nat) (K : Field → List IntKind) : ∀ (fs : List Field) (o : Nat) (cs : List Value), cs.length = o + (fs.map c).sum → offsB c o fs = true → (∀ f ∈ fs, KInts (K f) ((cs.drop f.offset).take (c f))) → KInts (fs.flatMap K) (cs.drop o)
  | [], o, cs, hl, _, _ => by
    simp at hl
    show cs.drop o = []
    rw [List.drop_of_length_le (by omega)]
  | f :: r, o, cs, hl, ho, h => by
    simp only [offsB, Bool.and_eq_true, beq_iff_eq] at ho
    have ih := kints_go c K r (o + c f) cs (by rw [hl, List.map_cons, List.sum_cons]; omega) ho.2 (fun g hg => h g (List.mem_cons_of_mem _ hg))
    have h0 := h f List.mem_cons_self
    rw [ho.1] at h0
    have := h0.append ih
    rw [← List.drop_drop, List.take_append_drop] at this
    rw [List.flatMap_cons]
    exact this

section
variable {H : Type} {enc : TypeId × Value → H} {P : Program} {w : World} {base : Nat} {sp : Nat → Bool} {held : Bool}

theorem kints_struct {t : TypeId} {fs : Array Field} (ht : P.underlying t = some (.struct fs)) (K : Field → List IntKind) (hl : P.cellsOf t = (fs.toList.map fun f => P.cellsOf f.type).sum) (ho : offsB (fun f => P.cellsOf f.type) 0 fs.toList = true)
    (hf : ∀ f ∈ fs.toList, ∀ (cs : List Value) (x : DataW H × List MemPlace) (fuel : Nat), DataW.trod enc P w base sp held fuel f.type cs = some x → KInts (K f) cs)
    (cs : List Value) (x : DataW H × List MemPlace) (fuel : Nat) (h : DataW.trod enc P w base sp held fuel t cs = some x) : KInts (fs.toList.flatMap K) cs := by
  obtain ⟨xs, n, _, _, hc, hn, hel⟩ := DataW.trod_struct ht h
  have := kints_go (fun f => P.cellsOf f.type) K fs.toList 0 cs (by rw [hc, hl]; omega) ho (fun f hm => by
    obtain ⟨i, hi⟩ := List.getElem?_of_mem hm
    have hi' : fs[i]? = some f := by simpa using hi
    have h1 := hel i f hi'
    have hlt : i < xs.length := by
      rw [hn]
      exact (Array.getElem?_eq_some_iff.1 hi').1
    rw [List.getElem?_eq_getElem hlt] at h1
    exact hf f hm _ _ _ h1)
  simpa using this

theorem kints_int {t : TypeId} {k : IntKind} (ht : P.underlying t = some (.int k)) (cs : List Value) (x : DataW H × List MemPlace) (fuel : Nat) (h : DataW.trod enc P w base sp held fuel t cs = some x) : KInts [k] cs := by
  obtain ⟨n, rfl, _, hw⟩ := DataW.trod_int ht h
  exact ⟨n, [], rfl, hw, rfl⟩

end

/-- The integer in a cell. -/
def intAt : Option Value → Int
  | some (.int _ n) => n
  | _ => 0

theorem kints_get : ∀ {ks : List IntKind} {cs : List Value}, KInts ks cs → ∀ (j : Nat) (k : IntKind), ks[j]? = some k → cs[j]? = some (.int k (intAt cs[j]?)) ∧ (Lit.int k (intAt cs[j]?)).wf = true
  | [], _, _, j, k, hj => by simp at hj
  | k0 :: ks, cs, ⟨n, rest, e, hw, hr⟩, 0, k, hj => by
    subst e
    cases hj
    exact ⟨rfl, hw⟩
  | k0 :: ks, cs, ⟨n, rest, e, hw, hr⟩, j + 1, k, hj => by
    subst e
    have := kints_get hr j k (by simpa using hj)
    simpa using this

/-- Structs of integers that came in, one by one. -/
structure Rows' (ks : List IntKind) (w : World) (ad : Option Addr) (n : Nat) (F : Nat → Nat → Int) : Prop where
  at' : ∀ i, i < n → ∃ b o, ad = some ⟨b, o, none⟩ ∧ ∀ (j : Nat) (k : IntKind), ks[j]? = some k → w.cell? ⟨b, o + i * ks.length + j, none⟩ = some (.int k (F i j))
  wf : ∀ i, i < n → ∀ (j : Nat) (k : IntKind), ks[j]? = some k → (Lit.int k (F i j)).wf = true
  le : (n : Int) ≤ 9223372036854775807

theorem Rows'.keep {ks : List IntKind} {w w1 : World} {ad : Option Addr} {n : Nat} {F : Nat → Nat → Int} (h : Rows' ks w ad n F) (hs : Stay (fun _ => False) w w1) : Rows' ks w1 ad n F :=
  ⟨fun i hi => by obtain ⟨b, o, h1, h2⟩ := h.at' i hi; exact ⟨b, o, h1, fun j k hj => keep_cell hs (h2 j k hj)⟩, h.wf, h.le⟩

theorem open_rows {H : Type} {enc : TypeId × Value → H} {P : Program} {W : World} {base : Nat} {v : Value} {d : DataW H} {p : List MemPlace} {t e : TypeId} {ks : List IntKind} {k0 : IntKind} (ht : P.underlying t = some (.slice e)) (hc : P.cellsOf e = ks.length) (h0 : ks[0]? = some k0)
    (kE : ∀ (cs : List Value) (x : DataW H × List MemPlace) (fuel : Nat), DataW.trod enc P W 0 (fun _ => true) true fuel e cs = some x → KInts ks cs)
    (hval : Value.okWide P W .any base t v) (h : DataW.Trod enc P W 0 (fun _ => true) true t v d p) : ∃ ad n cap F, v = .slice ad n cap ∧ Rows' ks W ad n F := by
  obtain ⟨a0, l0, c0, rfl⟩ := okWide_slice ht hval
  obtain ⟨fuel, hf⟩ := h
  rcases Go.Deep.open_slice ht hf with ⟨hcs, _⟩ | ⟨a, len, cap, m, n, D, Pl, hcs, _, hlc, hcm, hm, _, hx⟩
  · have e : (Value.slice a0 l0 c0) = .slice none 0 0 := by simpa [Value.cells] using hcs
    cases e
    exact ⟨none, 0, 0, fun _ _ => 0, rfl, fun i hi => absurd hi (Nat.not_lt_zero _), fun i hi => absurd hi (Nat.not_lt_zero _), by decide⟩
  · have e : (Value.slice a0 l0 c0) = .slice (some a) len cap := by simpa [Value.cells] using hcs
    cases e
    have hmm : l0 ≤ m := by rw [hm]; simpa using hlc
    have hlen : 0 < ks.length := (List.getElem?_eq_some_iff.1 h0).1
    obtain ⟨b, o, spo⟩ := a
    have hsp : 0 < l0 → spo = none := fun h1 => by
      obtain ⟨cs, g1, g2⟩ := hx 0 (by omega)
      rw [hc] at g1
      obtain ⟨_, hl, hcc⟩ := World.cells?_some g1
      have g3 := hcc 0 (by omega)
      rw [(kints_get (kE _ _ _ g2) 0 k0 h0).1] at g3
      simpa [Addr.add] using World.cell?_spot g3
    have key : ∀ i, i < l0 → ∃ f : Nat → Int, ∀ (j : Nat) (k : IntKind), ks[j]? = some k → W.cell? ((⟨b, o, spo⟩ : Addr).add (i * ks.length + j)) = some (.int k (f j)) ∧ (Lit.int k (f j)).wf = true := fun i hi => by
      obtain ⟨cs, g1, g2⟩ := hx i (by omega)
      rw [hc] at g1
      obtain ⟨_, hl, hcc⟩ := World.cells?_some g1
      refine ⟨fun j => intAt cs[j]?, fun j k hj => ?_⟩
      have hlt : j < ks.length := (List.getElem?_eq_some_iff.1 hj).1
      have g3 := hcc j (by omega)
      obtain ⟨g4, g5⟩ := kints_get (kE _ _ _ g2) j k hj
      rw [g4] at g3
      obtain rfl := hsp (by omega)
      rw [addr_add, addr_add] at g3
      rw [addr_add]
      exact ⟨by rw [← g3, Nat.add_assoc], g5⟩
    obtain ⟨F, hF⟩ := Go.Deep.choose_lt (α := Nat → Int) (p := fun i f => ∀ (j : Nat) (k : IntKind), ks[j]? = some k → W.cell? ((⟨b, o, spo⟩ : Addr).add (i * ks.length + j)) = some (.int k (f j)) ∧ (Lit.int k (f j)).wf = true) key
    refine ⟨some ⟨b, o, spo⟩, l0, c0, F, rfl, fun i hi => ?_, fun i hi j k hj => (hF i hi j k hj).2, by unfold maxLen at hcm; omega⟩
    obtain rfl := hsp (by omega)
    refine ⟨b, o, rfl, fun j k hj => ?_⟩
    have := (hF i hi j k hj).1
    rwa [addr_add, ← Nat.add_assoc] at this

theorem trodAll_five {H : Type} {enc : TypeId × Value → H} {P : Program} {w : World} {base : Nat} {spare : Nat → Bool} {held : Bool} {t t1 t2 t3 t4 : TypeId} {args : Array Value} {ds : List (DataW H)} {ps : List MemPlace} (h : DataW.TrodAll enc P w base spare held [t, t1, t2, t3, t4] args.toList ds ps) :
    ∃ v v1 v2 v3 v4 d d1 d2 d3 d4 p p1 p2 p3 p4, args = #[v, v1, v2, v3, v4] ∧ ds = [d, d1, d2, d3, d4] ∧ ps = p ++ p1 ++ p2 ++ p3 ++ p4 ∧ DataW.Trod enc P w base spare held t v d p ∧ DataW.Trod enc P w base spare held t1 v1 d1 p1 ∧ DataW.Trod enc P w base spare held t2 v2 d2 p2 ∧ DataW.Trod enc P w base spare held t3 v3 d3 p3 ∧ DataW.Trod enc P w base spare held t4 v4 d4 p4 := by
  obtain ⟨v, vs, d, ds', p, q, hargs, rfl, rfl, hd, hrest⟩ := trodAll_cons h
  obtain ⟨v1, vs', d1, ds'', p1, q', rfl, rfl, rfl, hd1, hrest1⟩ := trodAll_cons hrest
  obtain ⟨v2, vs'', d2, dsc, p2, q'', rfl, rfl, rfl, hd2, hrest2⟩ := trodAll_cons hrest1
  obtain ⟨v3, vs3, d3, ds3, p3, q3, rfl, rfl, rfl, hd3, hrest3⟩ := trodAll_cons hrest2
  obtain ⟨v4, vs4, d4, ds4, p4, q4, rfl, rfl, rfl, hd4, hrest4⟩ := trodAll_cons hrest3
  obtain ⟨rfl, rfl, rfl⟩ := trodAll_nil hrest4
  exact ⟨v, v1, v2, v3, v4, d, d1, d2, d3, d4, p, p1, p2, p3, p4, by cases args; simp_all, rfl, by simp, hd, hd1, hd2, hd3, hd4⟩

end Go.Proofs.Ytjfhmpjpdcckhaa

namespace Go.Proofs.Ytjfhmpjpdcckhaa
open Go.RowKit

theorem Stay.setCells {S : Nat → Prop} (b : Nat) : ∀ (vs : List Value) (o : Nat) {w w1 : World}, Stay S w w1 → S b → Stay S w (w1.setCells b o vs)
  | [], _, _, _, h, _ => h
  | _ :: r, o, _, _, h, hb => Stay.setCells b r (o + 1) (h.setCell (p := ⟨b, o, none⟩) hb _) hb

theorem Stay.trans2 {S T : Nat → Prop} {w w1 w2 : World} (h : Stay S w w1) (k : Stay T w1 w2) (e : ∀ j, j < w.heap.size → T j → S j) : Stay S w w2 :=
  ⟨k.os.trans h.os, k.tape.trans h.tape, k.output.trans h.output, Nat.le_trans h.size k.size, fun i hi hs => (k.block i (Nat.lt_of_lt_of_le hi h.size) (fun t => hs (e i hi t))).trans (h.block i hi hs)⟩

/-- A window of a block: elements of a size, room behind them. -/
def Win (w : World) (size : Nat) (v : Value) (n : Nat) (xs : List Value) : Prop :=
  xs.length = n * size ∧ ((v = .slice none 0 0 ∧ n = 0) ∨ ∃ g o cap, v = .slice (some ⟨g, o, none⟩) n cap ∧ n ≤ cap ∧ cap ≤ maxLen ∧ g < w.heap.size ∧ w.rangeAt g o xs ∧ w.there g o (cap * size))

theorem Win.nil (w : World) (size : Nat) : Win w size (.slice none 0 0) 0 [] := ⟨by simp, .inl ⟨rfl, rfl⟩⟩

theorem Win.lt {w : World} {size n : Nat} {v : Value} {xs : List Value} (h : Win w size v n xs) : ∀ j, v.ownBlock = some j → j < w.heap.size := by
  intro j hj
  rcases h.2 with ⟨rfl, _⟩ | ⟨g, o, cap, rfl, _, _, hg, _⟩
  · cases hj
  · cases hj; exact hg

theorem Win.stay {T : Nat → Prop} {w w1 : World} {size n : Nat} {v : Value} {xs : List Value} (h : Win w size v n xs) (hs : Stay T w w1) (hn : ∀ j, v.ownBlock = some j → ¬ T j) : Win w1 size v n xs := by
  refine ⟨h.1, ?_⟩
  rcases h.2 with h0 | ⟨g, o, cap, rfl, h1, h2, hg, h3, h4⟩
  · exact .inl h0
  · have hc : ∀ o, w1.cell? ⟨g, o, none⟩ = w.cell? ⟨g, o, none⟩ := fun o => hs.cell (p := ⟨g, o, none⟩) hg (hn g rfl)
    have hf : ∀ o, w1.frozen? ⟨g, o, none⟩ = w.frozen? ⟨g, o, none⟩ := fun o => hs.frozen (p := ⟨g, o, none⟩) hg (hn g rfl)
    exact .inr ⟨g, o, cap, rfl, h1, h2, Nat.lt_of_lt_of_le hg hs.size, fun j u hu => (hc _).trans (h3 j u hu), fun j hj => ⟨by rw [hc]; exact (h4 j hj).1, by rw [hf]; exact (h4 j hj).2⟩⟩

theorem Win.of_owns {w : World} {base e size n : Nat} {v : Value} {xs : List Value} (h : w.ownsRow base e size v n xs) (_hw : n * size = xs.length) : Win w size v n xs := by
  refine ⟨h.1, ?_⟩
  rcases h.2 with h0 | ⟨g, cap, cur, rfl, _, hg, h1, h2, h3, h4⟩
  · exact .inl h0
  · have hlt : g < w.heap.size := (Array.getElem?_eq_some_iff.1 hg).1
    refine .inr ⟨g, 0, cap, rfl, h1, h2, hlt, fun j u hu => ?_, fun j hj => ?_⟩
    · have := h.cells (g := g) rfl j u hu
      rwa [addr_add] at this
    · have hj' : j < cur.size := by omega
      constructor
      · rw [cell_of_row w g _ cur e (0, 0) hg, Nat.zero_add, Array.getElem?_eq_getElem hj']; rfl
      · simp [World.frozen?, hg]

/-- A window is a slice. -/
theorem Win.shape {w : World} {size n : Nat} {v : Value} {xs : List Value} (h : Win w size v n xs) : ∃ a cap, v = .slice a n cap ∧ n ≤ cap ∧ (a = none → cap = 0) := by
  rcases h.2 with ⟨rfl, rfl⟩ | ⟨g, o, cap, rfl, h1, _⟩
  · exact ⟨none, 0, rfl, Nat.le_refl _, fun _ => rfl⟩
  · exact ⟨_, cap, rfl, h1, (fun h => by cases h)⟩

/-- The first elements, to be read. -/
theorem Win.front {w : World} {size n k cap : Nat} {a : Option Addr} {xs : List Value} (h : Win w size (.slice a n cap) n xs) (hk : k ≤ n) : IsRowS w size (.slice a k cap) k (xs.take (k * size)) := by
  have hl := h.1
  rcases h.2 with ⟨h0, rfl⟩ | ⟨g, o, cap', h0, h1, _, hg, h3, _⟩
  · cases h0
    obtain rfl : k = 0 := by omega
    exact .inl ⟨rfl, rfl, by simp⟩
  · cases h0
    refine .inr ⟨_, _, rfl, ?_, fun j u hu => ?_⟩
    · rw [List.length_take, hl]
      exact Nat.min_eq_left (Nat.mul_le_mul_right _ hk)
    · rw [addr_add]
      rw [List.getElem?_take] at hu
      split at hu
      · exact h3 j u hu
      · cases hu

/-- What is left behind the first elements. -/
theorem Win.drop {w : World} {size n k cap : Nat} {a : Option Addr} {xs : List Value} (h : Win w size (.slice a n cap) n xs) (hk : k ≤ n) : Win w size (.slice (if cap = k then a else a.map (·.add (k * size))) (n - k) (cap - k)) (n - k) (xs.drop (k * size)) := by
  have hl := h.1
  refine ⟨by rw [List.length_drop, hl, Nat.sub_mul], ?_⟩
  rcases h.2 with ⟨h0, rfl⟩ | ⟨g, o, cap', h0, h1, h2, hg, h3, h4⟩
  · cases h0
    obtain rfl : k = 0 := by omega
    exact .inl ⟨rfl, rfl⟩
  · cases h0
    by_cases hc : cap = k
    · subst hc
      obtain rfl : n = cap := by omega
      rw [if_pos rfl]
      have hr : w.rangeAt g o (xs.drop (n * size)) := fun j u hu => by
        rw [List.getElem?_drop, List.getElem?_eq_none (by omega)] at hu
        cases hu
      have ht : w.there g o ((n - n) * size) := fun j hj => by
        rw [Nat.sub_self, Nat.zero_mul] at hj
        exact absurd hj (Nat.not_lt_zero j)
      exact .inr ⟨g, o, n - n, rfl, Nat.le_refl _, by omega, hg, hr, ht⟩
    · rw [if_neg hc]
      refine .inr ⟨g, o + k * size, cap - k, by simp [addr_add], by omega, by omega, hg, fun j u hu => ?_, fun j hj => ?_⟩
      · rw [List.getElem?_drop] at hu
        rw [Nat.add_assoc]
        exact h3 _ u hu
      · rw [Nat.sub_mul] at hj
        rw [Nat.add_assoc]
        exact h4 _ (by omega)

theorem Win.drop_block {n k cap size : Nat} {a : Option Addr} : ∀ j, (Value.slice (if cap = k then a else a.map (·.add (k * size))) (n - k) (cap - k)).ownBlock = some j → (Value.slice a n cap).ownBlock = some j := by
  intro j hj
  cases a with
  | none => split at hj <;> cases hj
  | some ad =>
    split at hj
    · exact hj
    · rw [← hj]
      show some ad.block = some (ad.add (k * size)).block
      rw [show (ad.add (k * size)).block = ad.block by unfold Addr.add; split <;> rfl]

section
variable {P : Program}

/-- Elements are appended to a window. -/
theorem run_append_win (w : World) (t ty e : TypeId) (size bytes : Nat) (z : Value) (ht : P.underlying t = some (.slice e)) (hinfo : (P.info? e).map (fun i => (i.zero, i.size, i.bytes)) = some (some z, size, bytes)) (hz : z.cells.size = size) (hs0 : 0 < size) (hby : bytes ≤ 1000)
    (v : Value) (n : Nat) (xs : List Value) (hwin : Win w size v n xs) (so : Option Addr) (m c : Nat) (news : List Value) (hl : news.length = m * size) (hsrc : ∀ ad, so = some ad → ∀ j u, news[j]? = some u → w.cell? (ad.add j) = some u) (h0 : so = none → m = 0) (h1 : ∀ u ∈ news, u.oneCell' = true) (hn : n + m ≤ 1000000) :
    ∃ v' w', (Builtin.append_ #[t, t] ty #[v, .slice so m c]).run P w = .ok v' w' ∧ Win w' size v' (n + m) (xs ++ news) ∧ Stay (fun j => v.ownBlock = some j) w w' ∧ (v'.ownBlock = v.ownBlock ∨ v'.ownBlock = some w.heap.size) := by
  obtain ⟨i, hi, hzz⟩ := Option.map_eq_some_iff.1 hinfo
  simp only [Prod.mk.injEq] at hzz
  obtain ⟨g1, rfl, rfl⟩ := hzz
  have hb : (n + m) * i.bytes ≤ 140737488355328 := Nat.le_trans (Nat.mul_le_mul hn hby) (by decide)
  have h63 : n + m ≤ maxLen := by unfold maxLen; omega
  have hlen : (xs ++ news).length = (n + m) * i.size := by rw [List.length_append, hwin.1, hl, Nat.add_mul]
  by_cases hm : m = 0
  · subst hm
    have : news = [] := List.eq_nil_of_length_eq_zero (by simpa using hl)
    subst this
    refine ⟨v, w, ?_, by simpa using hwin, Stay.refl _ _, .inl rfl⟩
    rcases hwin.2 with ⟨rfl, rfl⟩ | ⟨g, o, cap, rfl, hc, _⟩
    · cases so <;> simp [Builtin.append_, run_underlying ht, sizeOf, typeInfo, hi, Builtin.lenOf, Builtin.firstCells, loadCells, loadCellsFrom]
    · cases so <;> simp [Builtin.append_, run_underlying ht, sizeOf, typeInfo, hi, Builtin.lenOf, Builtin.firstCells, loadCells, loadCellsFrom, hc, storeCells]
  · obtain ⟨ad, rfl⟩ : ∃ ad, so = some ad := by
      cases so with
      | none => exact absurd (h0 rfl) hm
      | some ad => exact ⟨ad, rfl⟩
    have hnews := hsrc ad rfl
    rcases hwin.2 with ⟨rfl, rfl⟩ | ⟨g, o, cap, rfl, hc, hcm, hg, h3, h4⟩
    · obtain ⟨v', w', hr, h2, h3, _, h5⟩ := run_append_own_at (P := P) w w.heap.size t ty e i z i.size i.bytes ht hi g1 rfl rfl hz hs0 (.slice none 0 0) 0 [] (World.ownsRow_nil w _ e i.size) ad m c news hl hnews h1 h63 hb (Nat.le_refl _)
      have hx : xs = [] := List.eq_nil_of_length_eq_zero (by simpa using hwin.1)
      subst hx
      exact ⟨v', w', hr, Win.of_owns h2 h2.1.symm, (Stay.refl _ w).grown h3 (fun k hk _ => hk), h5⟩
    · by_cases hroom : n + m ≤ cap
      · have hth : w.there g (o + n * i.size) news.length := fun j hj => by
          have := h4 (n * i.size + j) (by
            have h6 := Nat.mul_le_mul_right i.size hroom
            rw [Nat.add_mul] at h6
            omega)
          rwa [← Nat.add_assoc] at this
        have hr := run_append_room_cells (P := P) w t ty e i ht hi g o n cap ad m c news hl hnews h1 hroom (fun j hj => (hth j hj).1) (fun j hj => (hth j hj).2)
        have hst : Stay (fun j => j = g) w (w.setCells g (o + n * i.size) news) := Stay.setCells g news _ (Stay.refl _ _) rfl
        refine ⟨_, _, hr, ⟨hlen, .inr ⟨g, o, cap, rfl, hroom, hcm, Nat.lt_of_lt_of_le hg hst.size, fun j u hu => ?_, World.there_setCells h4 _ _ _⟩⟩, hst.mono (fun j _ hj => by rw [hj]; rfl), .inl rfl⟩
        by_cases hj : j < xs.length
        · rw [List.getElem?_append_left hj] at hu
          exact World.rangeAt_setCells_apart h3 g _ news (.inr (.inl (by rw [hwin.1]; exact Nat.le_refl _))) j u hu
        · rw [List.getElem?_append_right (by omega)] at hu
          have := World.rangeAt_setCells_same w g (o + n * i.size) news hth (j - xs.length) u hu
          rwa [show o + n * i.size + (j - xs.length) = o + j by have := hwin.1; omega] at this
      · obtain ⟨v', w', hr, h2, h5⟩ := run_append_arg_grows (P := P) w t ty e i z i.size i.bytes ht hi g1 rfl rfl hz hs0 ⟨g, o, none⟩ n cap xs hwin.1 (fun j u hu => by rw [addr_add]; exact h3 j u hu) ad m c news hl hnews (by omega) h63 hb
        refine ⟨v', w', hr, Win.of_owns h2 h2.1.symm, (Stay.refl _ w).grown h5 (fun k hk _ => by cases hk), .inr ?_⟩
        obtain ⟨g', cap', hv', hb', _, hlt⟩ : ∃ g' cap', v' = .slice (some ⟨g', 0, none⟩) (n + m) cap' ∧ w.heap.size ≤ g' ∧ True ∧ g' = w.heap.size := by
          have hr2 := run_append_grow (P := P) w t ty e i z ht hi g1 ⟨g, o, none⟩ n cap xs hwin.1 (fun j u hu => by rw [addr_add]; exact h3 j u hu) ad m c news hl hnews (by omega) (by unfold maxLen at h63; omega) (growslice_fits (by omega) hb)
          rw [hr] at hr2
          simp only [Result.ok.injEq] at hr2
          exact ⟨w.heap.size, _, hr2.1, Nat.le_refl _, trivial, rfl⟩
        rw [hv', hlt]; rfl

theorem wpList_append_win {ops : Array Oper} {rest : List Oper} {o : Oper} {a : Act} {Q : Exit → Act → World → Prop} (hgd : o.guard = none) (s x : Operand) (t : TypeId)
    (ho : o.op = .call { callee := .builtin .append, args := #[s, x], argTypes := #[t, t] }) {w : World} {n m c size bytes : Nat} {e : TypeId} {z v : Value} {so : Option Addr} {xs news : List Value} (hu : P.underlying t = some (.slice e))
    (hinfo : (P.info? e).map (fun i => (i.zero, i.size, i.bytes)) = some (some z, size, bytes)) (hz : z.cells.size = size) (hs0 : 0 < size) (hby : bytes ≤ 1000)
    (hwin : Win w size v n xs) (hs : a.eval s = v) (hl : news.length = m * size) (hsrc : ∀ ad, so = some ad → ∀ j u, news[j]? = some u → w.cell? (ad.add j) = some u) (h0 : so = none → m = 0) (h1 : ∀ u ∈ news, u.oneCell' = true) (hn : n + m ≤ 1000000) (hx : a.eval x = .slice so m c)
    (h : ∀ v' w', Win w' size v' (n + m) (xs ++ news) → Stay (fun j => v.ownBlock = some j) w w' → (v'.ownBlock = v.ownBlock ∨ v'.ownBlock = some w.heap.size) → wpList P ops Q rest (a.put o.dst v') w') : wpList P ops Q (o :: rest) a w := by
  obtain ⟨v', w', hr, h2, h3, h4⟩ := run_append_win (P := P) w t o.type e size bytes z hu hinfo hz hs0 hby v n xs hwin so m c news hl hsrc h0 h1 hn
  refine wpList_plain hgd fun K hK => ?_
  unfold Oper.wp
  simp [execOp, ho, resolve, invoke, builtin, hs, hx, hr, Result.andThen]
  exact hK _ _ (h v' w' h2 h3 h4)

end

end Go.Proofs.Ytjfhmpjpdcckhaa
