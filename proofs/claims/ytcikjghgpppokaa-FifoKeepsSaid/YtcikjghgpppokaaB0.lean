/-
  A queue: its box, its ring, its numbers. No conditions.
-/
import Derived.Test.YtcikjghgpppokaaA2
namespace Go.Proofs.Ytcikjghgpppokaa
open Go.RowKit

/-- Qr, as a value. -/
structure Qr where
  l : Value
  f : Int
  n : Int
  r : Int
  k : Int
  p : Int
  z : Int

theorem Qr.same {a0 a1 a2 a3 a4 a5 a6 : _} {r : Qr} (h : r.l = a0 ∧ r.f = a1 ∧ r.n = a2 ∧ r.r = a3 ∧ r.k = a4 ∧ r.p = a5 ∧ r.z = a6) : r = ⟨a0, a1, a2, a3, a4, a5, a6⟩ := by
  obtain ⟨rfl, rfl, rfl, rfl, rfl, rfl, rfl⟩ := h
  rfl

theorem Qr.ret {a b : Qr} (h : a = b) : Ending.returned (.agg #[a.l, .int .i64 a.f, .int .i64 a.n, .int .i64 a.r, .int .i64 a.k, .int .i64 a.p, .int .i64 a.z]) = .returned (.agg #[b.l, .int .i64 b.f, .int .i64 b.n, .int .i64 b.r, .int .i64 b.k, .int .i64 b.p, .int .i64 b.z]) := by rw [h]

/-- A box that holds a Qr. -/
structure QBox (w : World) (b : Nat) (r : Qr) : Prop where
  c0 : w.cell? ⟨b, 0, none⟩ = some (r.l)
  c1 : w.cell? ⟨b, 1, none⟩ = some (.int .i64 r.f)
  c2 : w.cell? ⟨b, 2, none⟩ = some (.int .i64 r.n)
  c3 : w.cell? ⟨b, 3, none⟩ = some (.int .i64 r.r)
  c4 : w.cell? ⟨b, 4, none⟩ = some (.int .i64 r.k)
  c5 : w.cell? ⟨b, 5, none⟩ = some (.int .i64 r.p)
  c6 : w.cell? ⟨b, 6, none⟩ = some (.int .i64 r.z)
  f0 : w.frozen? ⟨b, 0, none⟩ = false
  f1 : w.frozen? ⟨b, 1, none⟩ = false
  f2 : w.frozen? ⟨b, 2, none⟩ = false
  f3 : w.frozen? ⟨b, 3, none⟩ = false
  f4 : w.frozen? ⟨b, 4, none⟩ = false
  f5 : w.frozen? ⟨b, 5, none⟩ = false
  f6 : w.frozen? ⟨b, 6, none⟩ = false

theorem QBox.lt {w : World} {b : Nat} {r : Qr} (h : QBox w b r) : b < w.heap.size := World.block_lt_of_cell? _ _ h.c0

theorem QBox.stay {T : Nat → Prop} {W w1 : World} {b : Nat} {r : Qr} (h : QBox W b r) (hs : Stay T W w1) (hn : ¬ T b) : QBox w1 b r := by
  have hb : b < W.heap.size := h.lt
  have c : ∀ o, w1.cell? ⟨b, o, none⟩ = W.cell? ⟨b, o, none⟩ := fun o => hs.cell (p := ⟨b, o, none⟩) hb hn
  have f : ∀ o, w1.frozen? ⟨b, o, none⟩ = W.frozen? ⟨b, o, none⟩ := fun o => hs.frozen (p := ⟨b, o, none⟩) hb hn
  exact ⟨(c 0).trans h.c0, (c 1).trans h.c1, (c 2).trans h.c2, (c 3).trans h.c3, (c 4).trans h.c4, (c 5).trans h.c5, (c 6).trans h.c6, (f 0).trans h.f0, (f 1).trans h.f1, (f 2).trans h.f2, (f 3).trans h.f3, (f 4).trans h.f4, (f 5).trans h.f5, (f 6).trans h.f6⟩

theorem QBox.keep {W w1 : World} {b : Nat} {r : Qr} (h : QBox W b r) (hs : Stay (fun _ => False) W w1) : QBox w1 b r := h.stay hs (fun h => h)

theorem QBox.alloc {w : World} {b : Nat} {r : Qr} (h : QBox w b r) (o : Obj) : QBox (w.alloc o) b r := h.keep ((Stay.refl _ _).alloc o)

theorem QBox.new {w : World} {b : Nat} (r : Qr) (h : w.heap.size = b) : QBox (w.alloc (.cells #[r.l, .int .i64 r.f, .int .i64 r.n, .int .i64 r.r, .int .i64 r.k, .int .i64 r.p, .int .i64 r.z] 36)) b r := by
  subst h
  constructor <;> simp

theorem QBox.cells {w : World} {b : Nat} {r : Qr} (h : QBox w b r) : ∀ (j : Nat) (v : Value), [r.l, .int .i64 r.f, .int .i64 r.n, .int .i64 r.r, .int .i64 r.k, .int .i64 r.p, .int .i64 r.z][j]? = some v → w.cell? ⟨b, 0 + j, none⟩ = some v := by
  intro j v hj
  match j, hj with
  | 0, hj => cases hj; exact h.c0
  | 1, hj => cases hj; exact h.c1
  | 2, hj => cases hj; exact h.c2
  | 3, hj => cases hj; exact h.c3
  | 4, hj => cases hj; exact h.c4
  | 5, hj => cases hj; exact h.c5
  | 6, hj => cases hj; exact h.c6

theorem results_QBox {fn : Func} {p : Tmp} (h : fn.results = #[.cell p 36]) (tmps : Array Value) (w : World) (g : Nat) (r : Qr) (hp : tmps.getD p undef = .pointer (some ⟨g, 0, none⟩)) (hb : QBox w g r) :
    (results fn tmps).run Try.prog w = .ok (.agg #[r.l, .int .i64 r.f, .int .i64 r.n, .int .i64 r.r, .int .i64 r.k, .int .i64 r.p, .int .i64 r.z]) w := results_cells h tmps w g 0 _ _ hp hb.cells Try.underlying36 rfl (by kernel_rfl)

/-- What a struct is behind a call, and nothing that was there has turned. -/
theorem QBox.ends {w W : World} {fn : Func} {p : Tmp} (h : fn.results = #[.cell p 36]) {tmps : Array Value} {r q : Qr} {g : Nat} (hp : tmps.getD p undef = .pointer (some ⟨g, 0, none⟩)) (hb : QBox W g r) (hq : r = q) (hs : Stay (fun _ => False) w W)
    {d : List Deferred} (hd : d = []) : bodyPost Try.prog fn (Gives (.agg #[q.l, .int .i64 q.f, .int .i64 q.n, .int .i64 q.r, .int .i64 q.k, .int .i64 q.p, .int .i64 q.z]) w) Exit.ret { tmps := tmps, defers := d } W := by
  subst hq hd
  exact bodyPost_ret (results_QBox h _ _ _ r hp hb) rfl ⟨rfl, hs⟩

/-- The world in which a box holds another one. -/
theorem QBox.put {w : World} {b : Nat} {r0 : Qr} (h : QBox w b r0) (r : Qr) : QBox (((((((w.setCell ⟨b, 0, none⟩ (r.l)).setCell ⟨b, 1, none⟩ (.int .i64 r.f)).setCell ⟨b, 2, none⟩ (.int .i64 r.n)).setCell ⟨b, 3, none⟩ (.int .i64 r.r)).setCell ⟨b, 4, none⟩ (.int .i64 r.k)).setCell ⟨b, 5, none⟩ (.int .i64 r.p)).setCell ⟨b, 6, none⟩ (.int .i64 r.z)) b r := by
  obtain ⟨h0, h1, h2, h3, h4, h5, h6, k0, k1, k2, k3, k4, k5, k6⟩ := h
  constructor <;> simp [go_sem, *]

theorem QBox.stay_put {S : Nat → Prop} {w w1 : World} {b : Nat} (h : Stay S w w1) (hb : w.heap.size ≤ b) (v0 v1 v2 v3 v4 v5 v6 : Value) : Stay S w (((((((w1.setCell ⟨b, 0, none⟩ v0).setCell ⟨b, 1, none⟩ v1).setCell ⟨b, 2, none⟩ v2).setCell ⟨b, 3, none⟩ v3).setCell ⟨b, 4, none⟩ v4).setCell ⟨b, 5, none⟩ v5).setCell ⟨b, 6, none⟩ v6) :=
  (((((((h.setNew hb v0).setNew hb v1).setNew hb v2).setNew hb v3).setNew hb v4).setNew hb v5).setNew hb v6)

theorem QBox.put0 {w : World} {b : Nat} {r : Qr} (h : QBox w b r) {x : Value} {q : Qr} (hq : q = ⟨x, r.f, r.n, r.r, r.k, r.p, r.z⟩) : QBox (w.setCell ⟨b, 0, none⟩ (x)) b q := by
  subst hq
  obtain ⟨h0, h1, h2, h3, h4, h5, h6, k0, k1, k2, k3, k4, k5, k6⟩ := h
  constructor <;> simp [go_sem, *]

theorem QBox.put1 {w : World} {b : Nat} {r : Qr} (h : QBox w b r) {x : Int} {q : Qr} (hq : q = ⟨r.l, x, r.n, r.r, r.k, r.p, r.z⟩) : QBox (w.setCell ⟨b, 1, none⟩ (.int .i64 x)) b q := by
  subst hq
  obtain ⟨h0, h1, h2, h3, h4, h5, h6, k0, k1, k2, k3, k4, k5, k6⟩ := h
  constructor <;> simp [go_sem, *]

theorem QBox.put2 {w : World} {b : Nat} {r : Qr} (h : QBox w b r) {x : Int} {q : Qr} (hq : q = ⟨r.l, r.f, x, r.r, r.k, r.p, r.z⟩) : QBox (w.setCell ⟨b, 2, none⟩ (.int .i64 x)) b q := by
  subst hq
  obtain ⟨h0, h1, h2, h3, h4, h5, h6, k0, k1, k2, k3, k4, k5, k6⟩ := h
  constructor <;> simp [go_sem, *]

theorem QBox.put3 {w : World} {b : Nat} {r : Qr} (h : QBox w b r) {x : Int} {q : Qr} (hq : q = ⟨r.l, r.f, r.n, x, r.k, r.p, r.z⟩) : QBox (w.setCell ⟨b, 3, none⟩ (.int .i64 x)) b q := by
  subst hq
  obtain ⟨h0, h1, h2, h3, h4, h5, h6, k0, k1, k2, k3, k4, k5, k6⟩ := h
  constructor <;> simp [go_sem, *]

theorem QBox.put4 {w : World} {b : Nat} {r : Qr} (h : QBox w b r) {x : Int} {q : Qr} (hq : q = ⟨r.l, r.f, r.n, r.r, x, r.p, r.z⟩) : QBox (w.setCell ⟨b, 4, none⟩ (.int .i64 x)) b q := by
  subst hq
  obtain ⟨h0, h1, h2, h3, h4, h5, h6, k0, k1, k2, k3, k4, k5, k6⟩ := h
  constructor <;> simp [go_sem, *]

theorem QBox.put5 {w : World} {b : Nat} {r : Qr} (h : QBox w b r) {x : Int} {q : Qr} (hq : q = ⟨r.l, r.f, r.n, r.r, r.k, x, r.z⟩) : QBox (w.setCell ⟨b, 5, none⟩ (.int .i64 x)) b q := by
  subst hq
  obtain ⟨h0, h1, h2, h3, h4, h5, h6, k0, k1, k2, k3, k4, k5, k6⟩ := h
  constructor <;> simp [go_sem, *]

theorem QBox.put6 {w : World} {b : Nat} {r : Qr} (h : QBox w b r) {x : Int} {q : Qr} (hq : q = ⟨r.l, r.f, r.n, r.r, r.k, r.p, x⟩) : QBox (w.setCell ⟨b, 6, none⟩ (.int .i64 x)) b q := by
  subst hq
  obtain ⟨h0, h1, h2, h3, h4, h5, h6, k0, k1, k2, k3, k4, k5, k6⟩ := h
  constructor <;> simp [go_sem, *]

theorem QBox.other {w : World} {b b' o : Nat} {r : Qr} {v : Value} (h : QBox w b r) (hb : b' ≠ b) : QBox (w.setCell ⟨b', o, none⟩ v) b r :=
  h.stay (T := fun k => k = b') ((Stay.refl (fun k => k = b') w).setCell (S := fun k => k = b') (p := ⟨b', o, none⟩) rfl v) (fun e => hb e.symm)

theorem run_load_QBox {a : Act} {o : Oper} {x : Operand} {w : World} {b : Nat} {r : Qr} (ho : o.op = .load 36 x) (hx : a.eval x = .pointer (some ⟨b, 0, none⟩)) (hb : QBox w b r) :
    (execOp a.eval o).run Try.prog w = .ok (.value (.agg #[r.l, .int .i64 r.f, .int .i64 r.n, .int .i64 r.r, .int .i64 r.k, .int .i64 r.p, .int .i64 r.z])) w := by
  unfold execOp
  simp only [ho, hx, Instr.loadAt, Instr.sureAddr, Sem.run_bind, Sem.run_pure, Result.andThen_ok]
  rw [run_loadVar_cells w b 0 36 _ _ hb.cells Try.underlying36 rfl (by kernel_rfl)]
  rfl

/-- One in the midst of a block. -/
structure QBoxAt (w : World) (g o : Nat) (r : Qr) : Prop where
  c0 : w.cell? ⟨g, o, none⟩ = some (r.l)
  c1 : w.cell? ⟨g, o + 1, none⟩ = some (.int .i64 r.f)
  c2 : w.cell? ⟨g, o + 2, none⟩ = some (.int .i64 r.n)
  c3 : w.cell? ⟨g, o + 3, none⟩ = some (.int .i64 r.r)
  c4 : w.cell? ⟨g, o + 4, none⟩ = some (.int .i64 r.k)
  c5 : w.cell? ⟨g, o + 5, none⟩ = some (.int .i64 r.p)
  c6 : w.cell? ⟨g, o + 6, none⟩ = some (.int .i64 r.z)

theorem QBoxAt.keep {W w1 : World} {g o : Nat} {r : Qr} (h : QBoxAt W g o r) (hs : Stay (fun _ => False) W w1) : QBoxAt w1 g o r := ⟨keep_cell hs h.c0, keep_cell hs h.c1, keep_cell hs h.c2, keep_cell hs h.c3, keep_cell hs h.c4, keep_cell hs h.c5, keep_cell hs h.c6⟩

theorem QBoxAt.cells {w : World} {g o : Nat} {r : Qr} (h : QBoxAt w g o r) : ∀ (j : Nat) (v : Value), [r.l, .int .i64 r.f, .int .i64 r.n, .int .i64 r.r, .int .i64 r.k, .int .i64 r.p, .int .i64 r.z][j]? = some v → w.cell? ⟨g, o + j, none⟩ = some v := by
  intro j v hj
  match j, hj with
  | 0, hj => cases hj; exact h.c0
  | 1, hj => cases hj; exact h.c1
  | 2, hj => cases hj; exact h.c2
  | 3, hj => cases hj; exact h.c3
  | 4, hj => cases hj; exact h.c4
  | 5, hj => cases hj; exact h.c5
  | 6, hj => cases hj; exact h.c6

theorem run_load_QBoxAt {a : Act} {p : Oper} {x : Operand} {w : World} {g o : Nat} {r : Qr} (ho : p.op = .load 36 x) (hx : a.eval x = .pointer (some ⟨g, o, none⟩)) (hb : QBoxAt w g o r) :
    (execOp a.eval p).run Try.prog w = .ok (.value (.agg #[r.l, .int .i64 r.f, .int .i64 r.n, .int .i64 r.r, .int .i64 r.k, .int .i64 r.p, .int .i64 r.z])) w := by
  unfold execOp
  simp only [ho, hx, Instr.loadAt, Instr.sureAddr, Sem.run_bind, Sem.run_pure, Result.andThen_ok]
  rw [run_loadVar_cells w g o 36 _ _ hb.cells Try.underlying36 rfl (by kernel_rfl)]
  rfl

/-- A queue: where it lies, its ring's slice, how many places the ring has, the first, how many numbers, the room, the kept number, the kept place, how many were lost. -/
structure Qu where
  b : Nat
  v : Value
  c : Nat
  f : Nat
  n : Nat
  r : Nat
  k : Int
  p : Nat
  z : Nat

def Qu.bx (q : Qu) : Qr := ⟨q.v, (q.f : Nat), (q.n : Nat), (q.r : Nat), q.k, (q.p : Nat), (q.z : Nat)⟩

/-- A ring: none, or a block of its own. -/
def RingAt (w : World) (b : Nat) (v : Value) (c : Nat) (g : Nat → Int) : Prop :=
  (v = .slice none 0 0 ∧ c = 0) ∨ ∃ rb, v = .slice (some ⟨rb, 0, none⟩) c c ∧ rb ≠ b ∧ 0 < c ∧ w.rowIs rb 3 c (fun i => .int .i64 (g i))

/-- A block of the queue's. -/
def Qu.own (q : Qu) (j : Nat) : Prop := j = q.b ∨ q.v.ownBlock = some j

/-- The queue and its numbers. -/
structure QAt (w : World) (q : Qu) (L : List Int) : Prop where
  box : QBox w q.b q.bx
  ring : ∃ g, RingAt w q.b q.v q.c g ∧ ∀ i, i < q.n → g ((q.f + i) % q.c) = L.getD i 0
  len : L.length = q.n
  f1 : q.f < q.c ∨ (q.f = 0 ∧ q.c = 0)
  n1 : q.n ≤ q.c
  c1 : q.c ≤ q.r + 1
  r1 : 1 ≤ q.r
  r2 : q.r ≤ 65536
  p1 : q.p ≤ q.n
  m1 : q.n ≤ q.r ∨ (0 < q.p ∧ q.n = q.r + 1)
  z1 : q.z ≤ 1000000

theorem QAt.stay {T : Nat → Prop} {w w1 : World} {q : Qu} {L : List Int} (h : QAt w q L) (hs : Stay T w w1) (hn : ∀ j, q.own j → ¬ T j) : QAt w1 q L := by
  refine ⟨h.box.stay hs (hn _ (.inl rfl)), ?_, h.len, h.f1, h.n1, h.c1, h.r1, h.r2, h.p1, h.m1, h.z1⟩
  obtain ⟨g, hg, he⟩ := h.ring
  refine ⟨g, ?_, he⟩
  rcases hg with hg | ⟨rb, e, h1, h2, h3⟩
  · exact .inl hg
  · exact .inr ⟨rb, e, h1, h2, hs.row h3 (hn rb (.inr (by rw [e]; rfl)))⟩

theorem QAt.keep {w w1 : World} {q : Qu} {L : List Int} (h : QAt w q L) (hs : Stay (fun _ => False) w w1) : QAt w1 q L := h.stay hs (fun _ _ h => h)

theorem QAt.lt {w : World} {q : Qu} {L : List Int} (h : QAt w q L) : ∀ j, q.own j → j < w.heap.size := by
  intro j hj
  rcases hj with rfl | hj
  · exact h.box.lt
  · obtain ⟨g, hg, _⟩ := h.ring
    rcases hg with ⟨e, _⟩ | ⟨rb, e, _, _, h3⟩
    · rw [e] at hj; cases hj
    · rw [e] at hj; cases hj; exact h3.lt

/-- Of a queue: what is new of it is new. -/
def Qu.from (q' q : Qu) (m : Nat) : Prop := q'.b = q.b ∧ ∀ j, q'.own j → q.own j ∨ m ≤ j

theorem Qu.from_refl (q : Qu) (m : Nat) : q.from q m := ⟨rfl, fun _ h => .inl h⟩

end Go.Proofs.Ytcikjghgpppokaa
