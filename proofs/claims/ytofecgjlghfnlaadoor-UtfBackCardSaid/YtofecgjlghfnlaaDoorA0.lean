/-
  Blocks that stay: all but those of a set are as they were. Cells of plain data. No conditions.
-/
import Derived.Test.YtofecgjlghfnlaaDoorRows
import Derived.ProofKit
import Derived.Below
import Derived.Carry
import Derived.Laws.Cover2
import Derived.Deep.OwnRows
import Derived.Deep.Slices
import Derived.OpenShut
import Derived.LaidMore
import Derived.Deep.QuietTactic
import Derived.BigQuiet
namespace Go.Proofs.YtofecgjlghfnlaaDoor
open Go.RowKit

theorem hide' {p : Prop} (h : p) : Hid p := h

/-- All blocks that were there, but those of a set, are as they were. -/
structure Stay (S : Nat → Prop) (w w' : World) : Prop where
  os : w'.os = w.os
  tape : w'.tape = w.tape
  output : w'.output = w.output
  size : w.heap.size ≤ w'.heap.size
  block : ∀ k, k < w.heap.size → ¬ S k → w'.heap[k]? = w.heap[k]?

namespace Stay
variable {S T : Nat → Prop} {w w' w'' : World}

theorem refl (S : Nat → Prop) (w : World) : Stay S w w := ⟨rfl, rfl, rfl, Nat.le_refl _, fun _ _ _ => rfl⟩

theorem trans (h : Stay S w w') (k : Stay S w' w'') : Stay S w w'' :=
  ⟨k.os.trans h.os, k.tape.trans h.tape, k.output.trans h.output, Nat.le_trans h.size k.size, fun i hi hs => (k.block i (Nat.lt_of_lt_of_le hi h.size) hs).trans (h.block i hi hs)⟩

theorem mono (h : Stay S w w') (hS : ∀ k, k < w.heap.size → S k → T k) : Stay T w w' :=
  ⟨h.os, h.tape, h.output, h.size, fun k hk ht => h.block k hk (fun hs => ht (hS k hk hs))⟩

theorem drew (h : Stay S w w') : Stay S w w'.drew := ⟨h.os, h.tape, h.output, h.size, h.block⟩

theorem drewN (h : Stay S w w') (n : Nat) : Stay S w (w'.drewN n) := ⟨h.os, h.tape, h.output, h.size, h.block⟩

theorem of_below {B : Nat} (h : Below B w w') (hS : ∀ k, k < w.heap.size → B ≤ k → S k) : Stay S w w' :=
  ⟨h.os, h.tape, h.output, h.size, fun k hk hs => h.block k (Nat.lt_of_not_le fun hb => hs (hS k hk hb))⟩

theorem below {B : Nat} (h : Stay S w w') (hB : B ≤ w.heap.size) (hS : ∀ k, k < B → ¬ S k) : Below B w w' :=
  ⟨h.os, h.tape, h.output, h.size, fun k hk => h.block k (Nat.lt_of_lt_of_le hk hB) (hS k hk)⟩

theorem alloc (h : Stay S w w') (o : Obj) : Stay S w (w'.alloc o) :=
  h.trans ⟨rfl, rfl, rfl, by simp, fun k hk _ => Below.heap_alloc _ _ _ hk⟩

theorem setCell (h : Stay S w w') {p : Addr} (hp : S p.block) (u : Value) : Stay S w (w'.setCell p u) :=
  h.trans ⟨rfl, rfl, rfl, by simp [World.setCell], fun k _ hs => Below.heap_setCell _ _ _ _ (fun e => hs (e ▸ hp))⟩

/-- A store into a block that is new. -/
theorem setNew (h : Stay S w w') {p : Addr} (hp : w.heap.size ≤ p.block) (u : Value) : Stay S w (w'.setCell p u) :=
  ⟨h.os, h.tape, h.output, by simpa [World.setCell] using h.size, fun k hk hs => by rw [Below.heap_setCell _ _ _ _ (by omega)]; exact h.block k hk hs⟩

theorem grown {row : Option Nat} (h : Stay S w w') (hg : w'.grownBy w'' row) (hr : ∀ k, row = some k → k < w.heap.size → S k) : Stay S w w'' :=
  ⟨hg.os.trans h.os, hg.tape.trans h.tape, hg.output.trans h.output, Nat.le_trans h.size hg.size, fun k hk hs =>
    (hg.block k (Nat.lt_of_lt_of_le hk h.size) (fun e => hs (hr k e.symm hk))).trans (h.block k hk hs)⟩

theorem cell (h : Stay S w w') {p : Addr} (hp : p.block < w.heap.size) (hs : ¬ S p.block) : w'.cell? p = w.cell? p := World.cell?_of_block (w := w) (h.block p.block hp hs)

theorem frozen (h : Stay S w w') {p : Addr} (hp : p.block < w.heap.size) (hs : ¬ S p.block) : w'.frozen? p = w.frozen? p := World.frozen?_of_block (w := w) (h.block p.block hp hs)

theorem row (h : Stay S w w') {b : Nat} {t : TypeId} {n : Nat} {f : Nat → Value} (hr : w.rowIs b t n f) (hs : ¬ S b) : w'.rowIs b t n f := hr.of_block (h.block b hr.lt hs)

theorem owns (h : Stay S w w') {base : Nat} {e : TypeId} {size : Nat} {v : Value} {n : Nat} {xs : List Value} (hr : w.ownsRow base e size v n xs) (hs : ∀ k, v.ownBlock = some k → ¬ S k) : w'.ownsRow base e size v n xs := by
  have hlt := hr.lt
  refine ⟨hr.1, ?_⟩
  rcases hr.2 with hn | ⟨g, cap, cur, rfl, hb, hgg, rest⟩
  · exact .inl hn
  · exact .inr ⟨g, cap, cur, rfl, hb, by rw [h.block g (hlt g rfl).2 (hs g rfl)]; exact hgg, rest⟩

end Stay

/-- An own row, asked for from a lower base. -/
theorem ownsRow_base {w : World} {base base' : Nat} {e : TypeId} {size : Nat} {v : Value} {n : Nat} {xs : List Value} (h : w.ownsRow base e size v n xs) (hb : base' ≤ base) : w.ownsRow base' e size v n xs := by
  refine ⟨h.1, ?_⟩
  rcases h.2 with hn | ⟨g, cap, cur, rfl, hb', rest⟩
  · exact .inl hn
  · exact .inr ⟨g, cap, cur, rfl, Nat.le_trans hb hb', rest⟩

/-- The shape of an own row. -/
theorem ownsRow_shape {w : World} {base : Nat} {e : TypeId} {v : Value} {n : Nat} {xs : List Value} (h : w.ownsRow base e 1 v n xs) :
    ∃ a cap, v = .slice a n cap ∧ xs.length = n ∧ ∀ j u, xs[j]? = some u → ∃ g, a = some ⟨g, 0, none⟩ ∧ base ≤ g ∧ w.cell? ⟨g, j, none⟩ = some u := by
  have hl : xs.length = n := by simpa using h.1
  rcases h.2 with ⟨rfl, rfl⟩ | ⟨g, cap, cur, rfl, hb, hg, _⟩
  · exact ⟨none, 0, rfl, hl, fun j u hu => by rw [List.eq_nil_of_length_eq_zero hl] at hu; simp at hu⟩
  · refine ⟨some ⟨g, 0, none⟩, cap, rfl, hl, fun j u hu => ⟨g, rfl, hb, ?_⟩⟩
    have := h.cells (g := g) rfl j u hu
    rwa [show (⟨g, 0, none⟩ : Addr).add j = ⟨g, j, none⟩ from by unfold Addr.add; split <;> simp_all] at this

/-- The cells of a datum of integers alone. -/
def flat {H : Type} : Nat → DataW H → List Value
  | 0, _ => []
  | _ + 1, .lit (.int k n) => [.int k n]
  | f + 1, .agg ds => ds.flatMap (flat f)
  | _ + 1, _ => []

theorem flat_pieces {H : Type} (fuel c : Nat) : ∀ (xs : List (DataW H × List MemPlace)) (cs : List Value) (s : Nat), cs.length = s + xs.length * c →
    (∀ i x, xs[i]? = some x → (cs.drop (s + i * c)).take c = flat fuel x.1) → cs.drop s = (xs.map (·.1)).flatMap (flat fuel)
  | [], cs, s, hl, _ => by simp at hl; simp [hl]
  | x :: xs, cs, s, hl, h => by
    have h0 := h 0 x rfl
    have ih := flat_pieces fuel c xs cs (s + c) (by rw [hl, List.length_cons, Nat.succ_mul]; omega) (fun i y hy => by
      have := h (i + 1) y (by simpa using hy)
      rwa [show s + (i + 1) * c = s + c + i * c from by rw [Nat.succ_mul]; omega] at this)
    rw [List.map_cons, List.flatMap_cons, ← h0, ← ih, Nat.zero_mul, Nat.add_zero]
    conv => lhs; rw [← List.take_append_drop c (cs.drop s)]
    rw [List.drop_drop]

/-- An array whose elements' cells are known piece by piece. -/
theorem flat_array {H : Type} {enc : TypeId × Value → H} {P : Program} {w : World} {base : Nat} {sp : Nat → Bool} {held : Bool} {fuel n k : Nat} {t e : TypeId} {cs : List Value} {ds : List (DataW H)} {p : List MemPlace}
    (ht : P.underlying t = some (.array n e)) (hc : P.cellsOf t = n * P.cellsOf e)
    (he : ∀ (cs : List Value) (x : DataW H × List MemPlace) (fuel : Nat), DataW.trod enc P w base sp held fuel e cs = some x → cs = flat k x.1)
    (h : DataW.trod enc P w base sp held fuel t cs = some (.agg ds, p)) : cs = ds.flatMap (flat k) := by
  obtain ⟨xs, m, rfl, hx, hl, hn, hel⟩ := DataW.trod_array ht h
  simp only [Prod.mk.injEq, DataW.agg.injEq] at hx
  rw [hx.1]
  have := flat_pieces (H := H) k (P.cellsOf e) xs cs 0 (by rw [hl, hc, hn]; omega) (fun i x hi => by
    have hlt : i < n := by rw [← hn]; exact (List.getElem?_eq_some_iff.1 hi).1
    rw [Nat.zero_add]
    exact he _ _ _ ((hel i hlt).trans hi))
  simpa using this

theorem flat_any_array {H : Type} {enc : TypeId × Value → H} {P : Program} {w : World} {base : Nat} {sp : Nat → Bool} {held : Bool} {n k : Nat} {t e : TypeId}
    (ht : P.underlying t = some (.array n e)) (hc : P.cellsOf t = n * P.cellsOf e)
    (he : ∀ (cs : List Value) (x : DataW H × List MemPlace) (fuel : Nat), DataW.trod enc P w base sp held fuel e cs = some x → cs = flat k x.1)
    (cs : List Value) (x : DataW H × List MemPlace) (fuel : Nat) (h : DataW.trod enc P w base sp held fuel t cs = some x) : cs = flat (k + 1) x.1 := by
  obtain ⟨xs, m, rfl, hx, _⟩ := DataW.trod_array ht h
  subst hx
  exact flat_array ht hc he h

theorem flat_any_int {H : Type} {enc : TypeId × Value → H} {P : Program} {w : World} {base : Nat} {sp : Nat → Bool} {held : Bool} {t : TypeId} {k : IntKind} (j : Nat)
    (ht : P.underlying t = some (.int k)) (cs : List Value) (x : DataW H × List MemPlace) (fuel : Nat) (h : DataW.trod enc P w base sp held fuel t cs = some x) : cs = flat (j + 1) x.1 := by
  obtain ⟨n, rfl, rfl, _⟩ := DataW.trod_int ht h
  rfl

/-- A struct of two fields. -/
theorem flat_any_two {H : Type} {enc : TypeId × Value → H} {P : Program} {w : World} {base : Nat} {sp : Nat → Bool} {held : Bool} {k : Nat} {t : TypeId} {f0 f1 : Field}
    (ht : P.underlying t = some (.struct #[f0, f1])) (h0 : f0.offset = 0) (h1 : f1.offset = P.cellsOf f0.type) (hc : P.cellsOf t = P.cellsOf f0.type + P.cellsOf f1.type)
    (e0 : ∀ (cs : List Value) (x : DataW H × List MemPlace) (fuel : Nat), DataW.trod enc P w base sp held fuel f0.type cs = some x → cs = flat k x.1)
    (e1 : ∀ (cs : List Value) (x : DataW H × List MemPlace) (fuel : Nat), DataW.trod enc P w base sp held fuel f1.type cs = some x → cs = flat k x.1)
    (cs : List Value) (x : DataW H × List MemPlace) (fuel : Nat) (h : DataW.trod enc P w base sp held fuel t cs = some x) : cs = flat (k + 1) x.1 := by
  obtain ⟨xs, m, rfl, rfl, hl, hn, hel⟩ := DataW.trod_struct ht h
  match xs, hn with
  | [x0, x1], _ =>
    have a0 := e0 _ _ _ (hel 0 f0 rfl)
    have a1 := e1 _ _ _ (hel 1 f1 rfl)
    show cs = ([x0, x1].map (·.1)).flatMap (flat k)
    simp only [List.map_cons, List.map_nil, List.flatMap_cons, List.flatMap_nil, List.append_nil, ← a0, ← a1, h0, h1, List.drop_zero]
    rw [List.take_of_length_le (l := cs.drop _) (by rw [List.length_drop]; omega), List.take_append_drop]

end Go.Proofs.YtofecgjlghfnlaaDoor
