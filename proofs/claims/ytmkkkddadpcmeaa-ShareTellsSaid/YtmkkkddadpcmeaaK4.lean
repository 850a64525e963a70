/-
  The document's own answer for shares: what the call hands back, in whatever world; of 1 to 64 weights, each a word of 64 bits, and at most 512 cells.
-/
import Derived.Test.YtmkkkddadpcmeaaK3
namespace Go.Proofs.Ytmkkkddadpcmeaa
open Go.RowKit Ieee

def ilist (f : Nat → Nat) (k : Nat) : List Value := (List.range k).map fun j => .int .i64 (f j : Int)
theorem ilist_succ (f : Nat → Nat) (k : Nat) : ilist f (k + 1) = ilist f k ++ [.int .i64 (f k : Int)] := by
  unfold ilist
  rw [List.range_succ, List.map_append]
  rfl
theorem ilist_get (f : Nat → Nat) (k j : Nat) (h : j < k) : (ilist f k)[j]? = some (.int .i64 (f j : Int)) := by
  unfold ilist
  simp [h]

/-- Two lists of other kinds of elements share no block. -/
theorem own_ne {w : World} {base : Nat} {v8 v9 : Value} {i k : Nat} {l m : List Value} (h8 : w.ownsRow base 3 1 v8 i l) (h9 : w.ownsRow base 22 1 v9 k m) : v8.ownBlock = none ∨ v8.ownBlock ≠ v9.ownBlock := by
  rcases h8.2 with ⟨rfl, _⟩ | ⟨g, cap, cur, rfl, _, hg, _⟩
  · exact Or.inl rfl
  · right
    rcases h9.2 with ⟨rfl, _⟩ | ⟨g', cap', cur', rfl, _, hg', _⟩
    · simp [Value.ownBlock]
    · intro e
      simp only [Value.ownBlock, Option.some.injEq] at e
      subst e
      rw [hg] at hg'
      injection hg' with hg'
      injection hg' with _ h2
      cases h2

theorem own_ne' {w : World} {base : Nat} {v8 v9 : Value} {i k : Nat} {l m : List Value} (h8 : w.ownsRow base 3 1 v8 i l) (h9 : w.ownsRow base 22 1 v9 k m) : v9.ownBlock = none ∨ v9.ownBlock ≠ v8.ownBlock := by
  rcases own_ne h8 h9 with h | h
  · rw [h]
    cases hb : v9.ownBlock with
    | none => exact Or.inl rfl
    | some g => exact Or.inr (by simp)
  · exact Or.inr (fun e => h e.symm)

/-- In the midst of the two lists. -/
structure Two (w wr : World) (v8 v9 : Value) (i8 i9 : Nat) (O R : Nat → Nat) : Prop where
  own8 : wr.ownsRow w.heap.size 3 1 v8 i8 (ilist O i8)
  own9 : wr.ownsRow w.heap.size 22 1 v9 i9 (flist R i9)
  below : Below w.heap.size w wr

theorem Two.start (w wr : World) (h : Below w.heap.size w wr) (O R : Nat → Nat) : Two w wr (.slice none 0 0) (.slice none 0 0) 0 0 O R := ⟨World.ownsRow_nil _ _ _ _, World.ownsRow_nil _ _ _ _, h⟩
theorem Two.alloc {w wr : World} {v8 v9 : Value} {i8 i9 : Nat} {O R : Nat → Nat} (h : Two w wr v8 v9 i8 i9 O R) (o : Obj) : Two w (wr.alloc o) v8 v9 i8 i9 O R := ⟨h.own8.alloc o, h.own9.alloc o, h.below.alloc h.below.size o⟩
theorem Two.grow9 {w wr w' : World} {v8 v9 v' : Value} {i8 i9 : Nat} {O R : Nat → Nat} (h : Two w wr v8 v9 i8 i9 O R) (ho : w'.ownsRow w.heap.size 22 1 v' (i9 + 1) (flist R i9 ++ [.float .f64 (R i9)])) (hg : wr.grownBy w' v9.ownBlock) : Two w w' v8 v' i8 (i9 + 1) O R :=
  ⟨h.own8.kept hg (own_ne h.own8 h.own9), by rw [flist_succ]; exact ho, h.below.grown hg h.below.size fun k hk => (h.own9.lt k hk).1⟩
theorem Two.grow8 {w wr w' : World} {v8 v9 v' : Value} {i8 i9 : Nat} {O R : Nat → Nat} (h : Two w wr v8 v9 i8 i9 O R) (ho : w'.ownsRow w.heap.size 3 1 v' (i8 + 1) (ilist O i8 ++ [.int .i64 (O i8 : Int)])) (hg : wr.grownBy w' v8.ownBlock) : Two w w' v' v9 (i8 + 1) i9 O R :=
  ⟨by rw [ilist_succ]; exact ho, h.own9.kept hg (own_ne' h.own8 h.own9), h.below.grown hg h.below.size fun k hk => (h.own8.lt k hk).1⟩

theorem info4 : (Try.prog.info? 4).map (fun i => (i.zero, i.size, i.bytes)) = some (some (.bool false), 1, 1) := by kernel_rfl

theorem Order.congr {n : Nat} {R R' E : Nat → Nat} (h : Order n R E) (e : ∀ j, j < n → R' j = R j) : Order n R' E := by
  refine ⟨h.all, fun i j i1 i2 i3 => ?_⟩
  have := h.chain i j i1 i2 i3
  unfold Prec cfR at *
  rw [e _ ((h.all _).1 ⟨i, by omega, rfl⟩), e _ ((h.all _).1 ⟨j, i3, rfl⟩)]
  exact this

/-- In the midst of the dealing. -/
structure Deal (w1 wr : World) (g8 g9 gg n t : Nat) (O R E : Nat → Nat) (got : Nat → Bool) : Prop where
  out : ∀ j, j < n → wr.cell? ⟨g8, j, none⟩ = some (.int .i64 ((O j + turnsTo E n t j : Nat) : Int))
  free : ∀ j, wr.frozen? ⟨g8, j, none⟩ = false
  abv : ∀ j, j < n → wr.cell? ⟨g9, j, none⟩ = some (.float .f64 (R j))
  gots : wr.rowIs gg 4 n (fun j => .bool (got j))
  ne8 : g8 ≠ gg
  ne9 : g9 ≠ gg
  ne89 : g8 ≠ g9
  lt8 : g8 < wr.heap.size
  lt9 : g9 < wr.heap.size
  b8 : w1.heap.size ≤ g8
  bg : w1.heap.size ≤ gg
  below : Below w1.heap.size w1 wr

theorem Deal.drewN {w1 wr : World} {g8 g9 gg n t : Nat} {O R E : Nat → Nat} {got : Nat → Bool} (h : Deal w1 wr g8 g9 gg n t O R E got) (q : Nat) : Deal w1 (wr.drewN q) g8 g9 gg n t O R E got :=
  { h with below := ⟨h.below.os, h.below.tape, h.below.output, h.below.size, h.below.block⟩ }

theorem Deal.reset {w1 wr : World} {g8 g9 gg n t : Nat} {O R E : Nat → Nat} {got : Nat → Bool} (h : Deal w1 wr g8 g9 gg n t O R E got) : Deal w1 (wr.alloc (.cells (madeCells #[.bool false] n) 4)) g8 g9 wr.heap.size n t O R E (fun _ => false) where
  out j hj := (World.cell?_alloc_lt _ _ _ h.lt8).trans (h.out j hj)
  free j := (World.frozen?_of_block (w := wr) (Below.heap_alloc _ _ _ h.lt8)).trans (h.free j)
  abv j hj := (World.cell?_alloc_lt _ _ _ h.lt9).trans (h.abv j hj)
  gots := World.rowIs_made wr _ n 4
  ne8 := Nat.ne_of_lt h.lt8
  ne9 := Nat.ne_of_lt h.lt9
  ne89 := h.ne89
  lt8 := by have := h.lt8; simp; omega
  lt9 := by have := h.lt9; simp; omega
  b8 := h.b8
  bg := h.below.size
  below := h.below.alloc h.below.size _

theorem Deal.mark {w1 wr : World} {g8 g9 gg n t : Nat} {O R E : Nat → Nat} {got : Nat → Bool} (h : Deal w1 wr g8 g9 gg n t O R E got) (a : Nat) : Deal w1 (wr.setCell ⟨gg, a, none⟩ (.bool true)) g8 g9 gg n t O R E (fun j => if j = a then true else got j) where
  out j hj := (World.cell?_setCell_other _ _ _ _ (by intro e; injection e with e1; exact h.ne8 e1.symm)).trans (h.out j hj)
  free j := by rw [World.frozen?_setCell]; exact h.free j
  abv j hj := (World.cell?_setCell_other _ _ _ _ (by intro e; injection e with e1; exact h.ne9 e1.symm)).trans (h.abv j hj)
  gots := (h.gots.set a _).congr fun j _ => by
    show (if j = a then _ else _) = _
    by_cases e : j = a
    · simp [e]
    · simp [e]
  ne8 := h.ne8
  ne9 := h.ne9
  ne89 := h.ne89
  lt8 := by simpa [World.setCell] using h.lt8
  lt9 := by simpa [World.setCell] using h.lt9
  b8 := h.b8
  bg := h.bg
  below := h.below.setCell h.bg _

theorem Deal.inc {w1 wr : World} {g8 g9 gg n t : Nat} {O R E : Nat → Nat} {got : Nat → Bool} (h : Deal w1 wr g8 g9 gg n t O R E got) (ha : E (t % n) < n) : Deal w1 (wr.setCell ⟨g8, E (t % n), none⟩ (.int .i64 ((O (E (t % n)) + turnsTo E n t (E (t % n)) + 1 : Nat) : Int))) g8 g9 gg n (t + 1) O R E got where
  out j hj := by
    by_cases e : j = E (t % n)
    · subst e
      rw [World.cell?_setCell_same _ _ _ (h.out _ ha)]
      simp only [turnsTo, if_true]
      rfl
    · rw [World.cell?_setCell_other _ _ _ _ (by intro e2; injection e2 with _ e3; exact e e3.symm), h.out j hj]
      simp only [turnsTo]
      rw [if_neg (fun e2 => e e2.symm)]
      rfl
  free j := by rw [World.frozen?_setCell]; exact h.free j
  abv j hj := (World.cell?_setCell_other _ _ _ _ (by intro e; injection e with e1; exact h.ne89 e1)).trans (h.abv j hj)
  gots := h.gots.setOther (fun e => h.ne8 e.symm) _
  ne8 := h.ne8
  ne9 := h.ne9
  ne89 := h.ne89
  lt8 := by simpa [World.setCell] using h.lt8
  lt9 := by simpa [World.setCell] using h.lt9
  b8 := h.b8
  bg := h.bg
  below := h.below.setCell h.b8 _

/-- The two lists, once they are made. -/
theorem Two.lay {w1 wr : World} {v8 v9 : Value} {n : Nat} {O R : Nat → Nat} (h : Two w1 wr v8 v9 n n O R) (h0 : 0 < n) : ∃ g8 g9 c8 c9, v8 = .slice (some ⟨g8, 0, none⟩) n c8 ∧ v9 = .slice (some ⟨g9, 0, none⟩) n c9 ∧ w1.heap.size ≤ g8 ∧ g8 ≠ g9 ∧ g8 < wr.heap.size ∧ g9 < wr.heap.size ∧
    (∀ j, j < n → wr.cell? ⟨g8, j, none⟩ = some (.int .i64 (O j : Int))) ∧ (∀ j, wr.frozen? ⟨g8, j, none⟩ = false) ∧ ∀ j, j < n → wr.cell? ⟨g9, j, none⟩ = some (.float .f64 (R j)) := by
  have hne := own_ne h.own8 h.own9
  have o8 := h.own8
  have o9 := h.own9
  rcases h.own8.2 with ⟨_, e⟩ | ⟨g8, c8, cur8, rfl, hb8, hg8, _⟩
  · omega
  rcases h.own9.2 with ⟨_, e⟩ | ⟨g9, c9, cur9, rfl, _, hg9, _⟩
  · omega
  refine ⟨g8, g9, c8, c9, rfl, rfl, hb8, ?_, (Array.getElem?_eq_some_iff.1 hg8).1, (Array.getElem?_eq_some_iff.1 hg9).1, fun j hj => ?_, fun j => ?_, fun j hj => ?_⟩
  · rcases hne with h | h
    · cases h
    · intro e; subst e; exact h rfl
  · have := o8.cells (g := g8) rfl j _ (ilist_get O n j hj)
    rw [Addr.add_lit, Nat.zero_add] at this
    exact this
  · simp [World.frozen?, hg8]
  · have := o9.cells (g := g9) rfl j _ (flist_get R n j hj)
    rw [Addr.add_lit, Nat.zero_add] at this
    exact this

/-- 'int(q)' of a quota is its whole part. -/
theorem int_of_quo (x : Nat) (hx : x < infR) (hs : V x / U ≤ 512) : floatToIntVal .f64 x .i64 = some ((V x / U : Nat) : Int) := by
  unfold floatToIntVal Datum.toInt FloatKind.decode
  rw [show FloatKind.f64.format.read x = dbl.read x from rfl, int_part .zero cut_zero x hx]
  generalize V x / U = k at *
  have e : signed false k 0 = (k : Int) := by simp [signed]
  simp only [e]
  have z1 : IntKind.i64.min = -9223372036854775808 := by decide
  have z2 : IntKind.i64.max = 9223372036854775807 := by decide
  have m1 : IntKind.i64.min ≤ (k : Int) := by omega
  have m2 : (k : Int) ≤ IntKind.i64.max := by omega
  rw [if_pos ⟨m1, m2⟩]

/-- What the document's own answer for shares hands back. -/
def Shared (w : World) (n N : Nat) (T E : Nat → Nat) (e : Ending) (w' : World) : Prop :=
  ∃ B cap', w.heap.size ≤ B ∧ e = .returned (.slice (some ⟨B, 0, none⟩) n cap') ∧ (∀ j, j < n → w'.cell? ⟨B, j, none⟩ = some (.int .i64 (shareF N T n E j : Int))) ∧ Below w.heap.size w w'

end Go.Proofs.Ytmkkkddadpcmeaa
