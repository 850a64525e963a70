/-
  Boxes: a write, a frame. No conditions.
-/
import Derived.Test.YtcealbdinbfegaaB3
namespace Go.Proofs.Ytcealbdinbfegaa
open Go.RowKit

/-- Wr, as a value. -/
structure Wr where
  x : Int
  y : Int
  r : Int
  fg : Int
  bg : Int
  fl : Int

theorem Wr.same {a0 a1 a2 a3 a4 a5 : _} {r : Wr} (h : r.x = a0 ∧ r.y = a1 ∧ r.r = a2 ∧ r.fg = a3 ∧ r.bg = a4 ∧ r.fl = a5) : r = ⟨a0, a1, a2, a3, a4, a5⟩ := by
  obtain ⟨rfl, rfl, rfl, rfl, rfl, rfl⟩ := h
  rfl

theorem Wr.ret {a b : Wr} (h : a = b) : Ending.returned (.agg #[.int .i64 a.x, .int .i64 a.y, .int .i32 a.r, .int .i64 a.fg, .int .i64 a.bg, .int .i64 a.fl]) = .returned (.agg #[.int .i64 b.x, .int .i64 b.y, .int .i32 b.r, .int .i64 b.fg, .int .i64 b.bg, .int .i64 b.fl]) := by rw [h]

/-- A box that holds a Wr. -/
structure WBox (w : World) (b : Nat) (r : Wr) : Prop where
  c0 : w.cell? ⟨b, 0, none⟩ = some (.int .i64 r.x)
  c1 : w.cell? ⟨b, 1, none⟩ = some (.int .i64 r.y)
  c2 : w.cell? ⟨b, 2, none⟩ = some (.int .i32 r.r)
  c3 : w.cell? ⟨b, 3, none⟩ = some (.int .i64 r.fg)
  c4 : w.cell? ⟨b, 4, none⟩ = some (.int .i64 r.bg)
  c5 : w.cell? ⟨b, 5, none⟩ = some (.int .i64 r.fl)
  f0 : w.frozen? ⟨b, 0, none⟩ = false
  f1 : w.frozen? ⟨b, 1, none⟩ = false
  f2 : w.frozen? ⟨b, 2, none⟩ = false
  f3 : w.frozen? ⟨b, 3, none⟩ = false
  f4 : w.frozen? ⟨b, 4, none⟩ = false
  f5 : w.frozen? ⟨b, 5, none⟩ = false

theorem WBox.lt {w : World} {b : Nat} {r : Wr} (h : WBox w b r) : b < w.heap.size := World.block_lt_of_cell? _ _ h.c0

theorem WBox.stay {T : Nat → Prop} {W w1 : World} {b : Nat} {r : Wr} (h : WBox W b r) (hs : Stay T W w1) (hn : ¬ T b) : WBox w1 b r := by
  have hb : b < W.heap.size := h.lt
  have c : ∀ o, w1.cell? ⟨b, o, none⟩ = W.cell? ⟨b, o, none⟩ := fun o => hs.cell (p := ⟨b, o, none⟩) hb hn
  have f : ∀ o, w1.frozen? ⟨b, o, none⟩ = W.frozen? ⟨b, o, none⟩ := fun o => hs.frozen (p := ⟨b, o, none⟩) hb hn
  exact ⟨(c 0).trans h.c0, (c 1).trans h.c1, (c 2).trans h.c2, (c 3).trans h.c3, (c 4).trans h.c4, (c 5).trans h.c5, (f 0).trans h.f0, (f 1).trans h.f1, (f 2).trans h.f2, (f 3).trans h.f3, (f 4).trans h.f4, (f 5).trans h.f5⟩

theorem WBox.keep {W w1 : World} {b : Nat} {r : Wr} (h : WBox W b r) (hs : Stay (fun _ => False) W w1) : WBox w1 b r := h.stay hs (fun h => h)

theorem WBox.alloc {w : World} {b : Nat} {r : Wr} (h : WBox w b r) (o : Obj) : WBox (w.alloc o) b r := h.keep ((Stay.refl _ _).alloc o)

theorem WBox.new {w : World} {b : Nat} (r : Wr) (h : w.heap.size = b) : WBox (w.alloc (.cells #[.int .i64 r.x, .int .i64 r.y, .int .i32 r.r, .int .i64 r.fg, .int .i64 r.bg, .int .i64 r.fl] 36)) b r := by
  subst h
  constructor <;> simp

theorem WBox.cells {w : World} {b : Nat} {r : Wr} (h : WBox w b r) : ∀ (j : Nat) (v : Value), [Value.int .i64 r.x, .int .i64 r.y, .int .i32 r.r, .int .i64 r.fg, .int .i64 r.bg, .int .i64 r.fl][j]? = some v → w.cell? ⟨b, 0 + j, none⟩ = some v := by
  intro j v hj
  match j, hj with
  | 0, hj => cases hj; exact h.c0
  | 1, hj => cases hj; exact h.c1
  | 2, hj => cases hj; exact h.c2
  | 3, hj => cases hj; exact h.c3
  | 4, hj => cases hj; exact h.c4
  | 5, hj => cases hj; exact h.c5

theorem results_WBox {fn : Func} {p : Tmp} (h : fn.results = #[.cell p 36]) (tmps : Array Value) (w : World) (g : Nat) (r : Wr) (hp : tmps.getD p undef = .pointer (some ⟨g, 0, none⟩)) (hb : WBox w g r) :
    (results fn tmps).run Try.prog w = .ok (.agg #[.int .i64 r.x, .int .i64 r.y, .int .i32 r.r, .int .i64 r.fg, .int .i64 r.bg, .int .i64 r.fl]) w := results_cells h tmps w g 0 _ _ hp hb.cells Try.underlying36 rfl (by kernel_rfl)

/-- What a struct is behind a call, and nothing that was there has turned. -/
theorem WBox.ends {w W : World} {fn : Func} {p : Tmp} (h : fn.results = #[.cell p 36]) {tmps : Array Value} {r q : Wr} {g : Nat} (hp : tmps.getD p undef = .pointer (some ⟨g, 0, none⟩)) (hb : WBox W g r) (hq : r = q) (hs : Stay (fun _ => False) w W)
    {d : List Deferred} (hd : d = []) : bodyPost Try.prog fn (Gives (.agg #[.int .i64 q.x, .int .i64 q.y, .int .i32 q.r, .int .i64 q.fg, .int .i64 q.bg, .int .i64 q.fl]) w) Exit.ret { tmps := tmps, defers := d } W := by
  subst hq hd
  exact bodyPost_ret (results_WBox h _ _ _ r hp hb) rfl ⟨rfl, hs⟩

/-- The world in which a box holds another one. -/
theorem WBox.put {w : World} {b : Nat} {r0 : Wr} (h : WBox w b r0) (r : Wr) : WBox ((((((w.setCell ⟨b, 0, none⟩ (.int .i64 r.x)).setCell ⟨b, 1, none⟩ (.int .i64 r.y)).setCell ⟨b, 2, none⟩ (.int .i32 r.r)).setCell ⟨b, 3, none⟩ (.int .i64 r.fg)).setCell ⟨b, 4, none⟩ (.int .i64 r.bg)).setCell ⟨b, 5, none⟩ (.int .i64 r.fl)) b r := by
  obtain ⟨h0, h1, h2, h3, h4, h5, k0, k1, k2, k3, k4, k5⟩ := h
  constructor <;> simp [go_sem, *]

theorem WBox.stay_put {S : Nat → Prop} {w w1 : World} {b : Nat} (h : Stay S w w1) (hb : w.heap.size ≤ b) (v0 v1 v2 v3 v4 v5 : Value) : Stay S w ((((((w1.setCell ⟨b, 0, none⟩ v0).setCell ⟨b, 1, none⟩ v1).setCell ⟨b, 2, none⟩ v2).setCell ⟨b, 3, none⟩ v3).setCell ⟨b, 4, none⟩ v4).setCell ⟨b, 5, none⟩ v5) :=
  ((((((h.setNew hb v0).setNew hb v1).setNew hb v2).setNew hb v3).setNew hb v4).setNew hb v5)

theorem WBox.put0 {w : World} {b : Nat} {r : Wr} (h : WBox w b r) {x : Int} {q : Wr} (hq : q = ⟨x, r.y, r.r, r.fg, r.bg, r.fl⟩) : WBox (w.setCell ⟨b, 0, none⟩ (.int .i64 x)) b q := by
  subst hq
  obtain ⟨h0, h1, h2, h3, h4, h5, k0, k1, k2, k3, k4, k5⟩ := h
  constructor <;> simp [go_sem, *]

theorem WBox.put1 {w : World} {b : Nat} {r : Wr} (h : WBox w b r) {x : Int} {q : Wr} (hq : q = ⟨r.x, x, r.r, r.fg, r.bg, r.fl⟩) : WBox (w.setCell ⟨b, 1, none⟩ (.int .i64 x)) b q := by
  subst hq
  obtain ⟨h0, h1, h2, h3, h4, h5, k0, k1, k2, k3, k4, k5⟩ := h
  constructor <;> simp [go_sem, *]

theorem WBox.put2 {w : World} {b : Nat} {r : Wr} (h : WBox w b r) {x : Int} {q : Wr} (hq : q = ⟨r.x, r.y, x, r.fg, r.bg, r.fl⟩) : WBox (w.setCell ⟨b, 2, none⟩ (.int .i32 x)) b q := by
  subst hq
  obtain ⟨h0, h1, h2, h3, h4, h5, k0, k1, k2, k3, k4, k5⟩ := h
  constructor <;> simp [go_sem, *]

theorem WBox.put3 {w : World} {b : Nat} {r : Wr} (h : WBox w b r) {x : Int} {q : Wr} (hq : q = ⟨r.x, r.y, r.r, x, r.bg, r.fl⟩) : WBox (w.setCell ⟨b, 3, none⟩ (.int .i64 x)) b q := by
  subst hq
  obtain ⟨h0, h1, h2, h3, h4, h5, k0, k1, k2, k3, k4, k5⟩ := h
  constructor <;> simp [go_sem, *]

theorem WBox.put4 {w : World} {b : Nat} {r : Wr} (h : WBox w b r) {x : Int} {q : Wr} (hq : q = ⟨r.x, r.y, r.r, r.fg, x, r.fl⟩) : WBox (w.setCell ⟨b, 4, none⟩ (.int .i64 x)) b q := by
  subst hq
  obtain ⟨h0, h1, h2, h3, h4, h5, k0, k1, k2, k3, k4, k5⟩ := h
  constructor <;> simp [go_sem, *]

theorem WBox.put5 {w : World} {b : Nat} {r : Wr} (h : WBox w b r) {x : Int} {q : Wr} (hq : q = ⟨r.x, r.y, r.r, r.fg, r.bg, x⟩) : WBox (w.setCell ⟨b, 5, none⟩ (.int .i64 x)) b q := by
  subst hq
  obtain ⟨h0, h1, h2, h3, h4, h5, k0, k1, k2, k3, k4, k5⟩ := h
  constructor <;> simp [go_sem, *]

theorem WBox.other {w : World} {b b' o : Nat} {r : Wr} {v : Value} (h : WBox w b r) (hb : b' ≠ b) : WBox (w.setCell ⟨b', o, none⟩ v) b r :=
  h.stay (T := fun k => k = b') ((Stay.refl (fun k => k = b') w).setCell (S := fun k => k = b') (p := ⟨b', o, none⟩) rfl v) (fun e => hb e.symm)

theorem run_load_WBox {a : Act} {o : Oper} {x : Operand} {w : World} {b : Nat} {r : Wr} (ho : o.op = .load 36 x) (hx : a.eval x = .pointer (some ⟨b, 0, none⟩)) (hb : WBox w b r) :
    (execOp a.eval o).run Try.prog w = .ok (.value (.agg #[.int .i64 r.x, .int .i64 r.y, .int .i32 r.r, .int .i64 r.fg, .int .i64 r.bg, .int .i64 r.fl])) w := by
  unfold execOp
  simp only [ho, hx, Instr.loadAt, Instr.sureAddr, Sem.run_bind, Sem.run_pure, Result.andThen_ok]
  rw [run_loadVar_cells w b 0 36 _ _ hb.cells Try.underlying36 rfl (by kernel_rfl)]
  rfl

/-- One in the midst of a block. -/
structure WBoxAt (w : World) (g o : Nat) (r : Wr) : Prop where
  c0 : w.cell? ⟨g, o, none⟩ = some (.int .i64 r.x)
  c1 : w.cell? ⟨g, o + 1, none⟩ = some (.int .i64 r.y)
  c2 : w.cell? ⟨g, o + 2, none⟩ = some (.int .i32 r.r)
  c3 : w.cell? ⟨g, o + 3, none⟩ = some (.int .i64 r.fg)
  c4 : w.cell? ⟨g, o + 4, none⟩ = some (.int .i64 r.bg)
  c5 : w.cell? ⟨g, o + 5, none⟩ = some (.int .i64 r.fl)

theorem WBoxAt.keep {W w1 : World} {g o : Nat} {r : Wr} (h : WBoxAt W g o r) (hs : Stay (fun _ => False) W w1) : WBoxAt w1 g o r := ⟨keep_cell hs h.c0, keep_cell hs h.c1, keep_cell hs h.c2, keep_cell hs h.c3, keep_cell hs h.c4, keep_cell hs h.c5⟩

theorem WBoxAt.cells {w : World} {g o : Nat} {r : Wr} (h : WBoxAt w g o r) : ∀ (j : Nat) (v : Value), [Value.int .i64 r.x, .int .i64 r.y, .int .i32 r.r, .int .i64 r.fg, .int .i64 r.bg, .int .i64 r.fl][j]? = some v → w.cell? ⟨g, o + j, none⟩ = some v := by
  intro j v hj
  match j, hj with
  | 0, hj => cases hj; exact h.c0
  | 1, hj => cases hj; exact h.c1
  | 2, hj => cases hj; exact h.c2
  | 3, hj => cases hj; exact h.c3
  | 4, hj => cases hj; exact h.c4
  | 5, hj => cases hj; exact h.c5

theorem run_load_WBoxAt {a : Act} {p : Oper} {x : Operand} {w : World} {g o : Nat} {r : Wr} (ho : p.op = .load 36 x) (hx : a.eval x = .pointer (some ⟨g, o, none⟩)) (hb : WBoxAt w g o r) :
    (execOp a.eval p).run Try.prog w = .ok (.value (.agg #[.int .i64 r.x, .int .i64 r.y, .int .i32 r.r, .int .i64 r.fg, .int .i64 r.bg, .int .i64 r.fl])) w := by
  unfold execOp
  simp only [ho, hx, Instr.loadAt, Instr.sureAddr, Sem.run_bind, Sem.run_pure, Result.andThen_ok]
  rw [run_loadVar_cells w g o 36 _ _ hb.cells Try.underlying36 rfl (by kernel_rfl)]
  rfl

/-- Fx, as a value. -/
structure Fx where
  g : Value
  v : Value

theorem Fx.same {a0 a1 : _} {r : Fx} (h : r.g = a0 ∧ r.v = a1) : r = ⟨a0, a1⟩ := by
  obtain ⟨rfl, rfl⟩ := h
  rfl

theorem Fx.ret {a b : Fx} (h : a = b) : Ending.returned (.agg #[a.g, a.v]) = .returned (.agg #[b.g, b.v]) := by rw [h]

/-- A box that holds a Fx. -/
structure FBox (w : World) (b : Nat) (r : Fx) : Prop where
  c0 : w.cell? ⟨b, 0, none⟩ = some (r.g)
  c1 : w.cell? ⟨b, 1, none⟩ = some (r.v)
  f0 : w.frozen? ⟨b, 0, none⟩ = false
  f1 : w.frozen? ⟨b, 1, none⟩ = false

theorem FBox.lt {w : World} {b : Nat} {r : Fx} (h : FBox w b r) : b < w.heap.size := World.block_lt_of_cell? _ _ h.c0

theorem FBox.stay {T : Nat → Prop} {W w1 : World} {b : Nat} {r : Fx} (h : FBox W b r) (hs : Stay T W w1) (hn : ¬ T b) : FBox w1 b r := by
  have hb : b < W.heap.size := h.lt
  have c : ∀ o, w1.cell? ⟨b, o, none⟩ = W.cell? ⟨b, o, none⟩ := fun o => hs.cell (p := ⟨b, o, none⟩) hb hn
  have f : ∀ o, w1.frozen? ⟨b, o, none⟩ = W.frozen? ⟨b, o, none⟩ := fun o => hs.frozen (p := ⟨b, o, none⟩) hb hn
  exact ⟨(c 0).trans h.c0, (c 1).trans h.c1, (f 0).trans h.f0, (f 1).trans h.f1⟩

theorem FBox.keep {W w1 : World} {b : Nat} {r : Fx} (h : FBox W b r) (hs : Stay (fun _ => False) W w1) : FBox w1 b r := h.stay hs (fun h => h)

theorem FBox.alloc {w : World} {b : Nat} {r : Fx} (h : FBox w b r) (o : Obj) : FBox (w.alloc o) b r := h.keep ((Stay.refl _ _).alloc o)

theorem FBox.new {w : World} {b : Nat} (r : Fx) (h : w.heap.size = b) : FBox (w.alloc (.cells #[r.g, r.v] 53)) b r := by
  subst h
  constructor <;> simp

theorem FBox.cells {w : World} {b : Nat} {r : Fx} (h : FBox w b r) : ∀ (j : Nat) (v : Value), [r.g, r.v][j]? = some v → w.cell? ⟨b, 0 + j, none⟩ = some v := by
  intro j v hj
  match j, hj with
  | 0, hj => cases hj; exact h.c0
  | 1, hj => cases hj; exact h.c1

theorem results_FBox {fn : Func} {p : Tmp} (h : fn.results = #[.cell p 53]) (tmps : Array Value) (w : World) (g : Nat) (r : Fx) (hp : tmps.getD p undef = .pointer (some ⟨g, 0, none⟩)) (hb : FBox w g r) :
    (results fn tmps).run Try.prog w = .ok (.agg #[r.g, r.v]) w := results_cells h tmps w g 0 _ _ hp hb.cells Try.underlying53 rfl (by kernel_rfl)

/-- What a struct is behind a call, and nothing that was there has turned. -/
theorem FBox.ends {w W : World} {fn : Func} {p : Tmp} (h : fn.results = #[.cell p 53]) {tmps : Array Value} {r q : Fx} {g : Nat} (hp : tmps.getD p undef = .pointer (some ⟨g, 0, none⟩)) (hb : FBox W g r) (hq : r = q) (hs : Stay (fun _ => False) w W)
    {d : List Deferred} (hd : d = []) : bodyPost Try.prog fn (Gives (.agg #[q.g, q.v]) w) Exit.ret { tmps := tmps, defers := d } W := by
  subst hq hd
  exact bodyPost_ret (results_FBox h _ _ _ r hp hb) rfl ⟨rfl, hs⟩

/-- The world in which a box holds another one. -/
theorem FBox.put {w : World} {b : Nat} {r0 : Fx} (h : FBox w b r0) (r : Fx) : FBox ((w.setCell ⟨b, 0, none⟩ (r.g)).setCell ⟨b, 1, none⟩ (r.v)) b r := by
  obtain ⟨h0, h1, k0, k1⟩ := h
  constructor <;> simp [go_sem, *]

theorem FBox.stay_put {S : Nat → Prop} {w w1 : World} {b : Nat} (h : Stay S w w1) (hb : w.heap.size ≤ b) (v0 v1 : Value) : Stay S w ((w1.setCell ⟨b, 0, none⟩ v0).setCell ⟨b, 1, none⟩ v1) :=
  ((h.setNew hb v0).setNew hb v1)

theorem FBox.put0 {w : World} {b : Nat} {r : Fx} (h : FBox w b r) {x : Value} {q : Fx} (hq : q = ⟨x, r.v⟩) : FBox (w.setCell ⟨b, 0, none⟩ (x)) b q := by
  subst hq
  obtain ⟨h0, h1, k0, k1⟩ := h
  constructor <;> simp [go_sem, *]

theorem FBox.put1 {w : World} {b : Nat} {r : Fx} (h : FBox w b r) {x : Value} {q : Fx} (hq : q = ⟨r.g, x⟩) : FBox (w.setCell ⟨b, 1, none⟩ (x)) b q := by
  subst hq
  obtain ⟨h0, h1, k0, k1⟩ := h
  constructor <;> simp [go_sem, *]

theorem FBox.other {w : World} {b b' o : Nat} {r : Fx} {v : Value} (h : FBox w b r) (hb : b' ≠ b) : FBox (w.setCell ⟨b', o, none⟩ v) b r :=
  h.stay (T := fun k => k = b') ((Stay.refl (fun k => k = b') w).setCell (S := fun k => k = b') (p := ⟨b', o, none⟩) rfl v) (fun e => hb e.symm)

theorem run_load_FBox {a : Act} {o : Oper} {x : Operand} {w : World} {b : Nat} {r : Fx} (ho : o.op = .load 53 x) (hx : a.eval x = .pointer (some ⟨b, 0, none⟩)) (hb : FBox w b r) :
    (execOp a.eval o).run Try.prog w = .ok (.value (.agg #[r.g, r.v])) w := by
  unfold execOp
  simp only [ho, hx, Instr.loadAt, Instr.sureAddr, Sem.run_bind, Sem.run_pure, Result.andThen_ok]
  rw [run_loadVar_cells w b 0 53 _ _ hb.cells Try.underlying53 rfl (by kernel_rfl)]
  rfl

/-- One in the midst of a block. -/
structure FBoxAt (w : World) (g o : Nat) (r : Fx) : Prop where
  c0 : w.cell? ⟨g, o, none⟩ = some (r.g)
  c1 : w.cell? ⟨g, o + 1, none⟩ = some (r.v)

theorem FBoxAt.keep {W w1 : World} {g o : Nat} {r : Fx} (h : FBoxAt W g o r) (hs : Stay (fun _ => False) W w1) : FBoxAt w1 g o r := ⟨keep_cell hs h.c0, keep_cell hs h.c1⟩

theorem FBoxAt.cells {w : World} {g o : Nat} {r : Fx} (h : FBoxAt w g o r) : ∀ (j : Nat) (v : Value), [r.g, r.v][j]? = some v → w.cell? ⟨g, o + j, none⟩ = some v := by
  intro j v hj
  match j, hj with
  | 0, hj => cases hj; exact h.c0
  | 1, hj => cases hj; exact h.c1

theorem run_load_FBoxAt {a : Act} {p : Oper} {x : Operand} {w : World} {g o : Nat} {r : Fx} (ho : p.op = .load 53 x) (hx : a.eval x = .pointer (some ⟨g, o, none⟩)) (hb : FBoxAt w g o r) :
    (execOp a.eval p).run Try.prog w = .ok (.value (.agg #[r.g, r.v])) w := by
  unfold execOp
  simp only [ho, hx, Instr.loadAt, Instr.sureAddr, Sem.run_bind, Sem.run_pure, Result.andThen_ok]
  rw [run_loadVar_cells w g o 53 _ _ hb.cells Try.underlying53 rfl (by kernel_rfl)]
  rfl

/-- A write's cell. -/
def Wr.cl (p : Wr) : Cl := ⟨p.r, p.fg, p.bg, p.fl⟩

/-- A write of a cell. -/
def Wr.of (x y : Int) (c : Cl) : Wr := ⟨x, y, c.r, c.fg, c.bg, c.fl⟩

def Wr.parts (p : Wr) : List Value := [.int .i64 p.x, .int .i64 p.y, .int .i32 p.r, .int .i64 p.fg, .int .i64 p.bg, .int .i64 p.fl]

/-- Writes, one behind the other. -/
def wrs (L : List Wr) : List Value := L.flatMap Wr.parts

theorem wrs_len (L : List Wr) : (wrs L).length = L.length * 6 := by
  induction L with
  | nil => rfl
  | cons p L ih =>
    show (Wr.parts p ++ wrs L).length = (L.length + 1) * 6
    rw [List.length_append, ih]
    show 6 + L.length * 6 = _
    omega

theorem wrs_append (L M : List Wr) : wrs (L ++ M) = wrs L ++ wrs M := by
  unfold wrs
  rw [List.flatMap_append]

theorem wrs_one (p : Wr) : wrs [p] = p.parts := by
  show p.parts ++ [] = p.parts
  rw [List.append_nil]

theorem wrs_cells (L : List Wr) : ∀ u ∈ wrs L, u.oneCell' = true := by
  intro u hu
  unfold wrs at hu
  obtain ⟨p, _, hp⟩ := List.mem_flatMap.1 hu
  simp only [Wr.parts, List.mem_cons, List.not_mem_nil, or_false] at hp
  rcases hp with rfl | rfl | rfl | rfl | rfl | rfl <;> rfl

theorem wrs_get : ∀ (L : List Wr) (k : Nat) (p : Wr), L[k]? = some p → ∀ j, j < 6 → (wrs L)[k * 6 + j]? = p.parts[j]?
  | q :: L, 0, p, h, j, hj => by
    cases h
    show (q.parts ++ wrs L)[0 * 6 + j]? = _
    rw [Nat.zero_mul, Nat.zero_add, List.getElem?_append_left (by show j < 6; exact hj)]
  | q :: L, k + 1, p, h, j, hj => by
    have ih := wrs_get L k p (by simpa using h) j hj
    show (q.parts ++ wrs L)[(k + 1) * 6 + j]? = _
    rw [List.getElem?_append_right (by show 6 ≤ _; omega), ← ih]
    congr 1
    show (k + 1) * 6 + j - 6 = _
    omega
  | [], k, p, h, j, hj => by simp at h

/-- A write of a row that can be read. -/
theorem wr_at {w : World} {g o c : Nat} {L : List Wr} {n : Nat} (h : IsRowS w 6 (.slice (some ⟨g, o, none⟩) n c) L.length (wrs L)) (k : Nat) (p : Wr) (hp : L[k]? = some p) : WBoxAt w g (o + k * 6) p := by
  rcases h with ⟨h, _⟩ | ⟨ad, cc, h, _, h3⟩
  · cases h
  · cases h
    have key : ∀ j, j < 6 → ∀ u, p.parts[j]? = some u → w.cell? ⟨g, o + k * 6 + j, none⟩ = some u := fun j hj u hu => by
      have := h3 (k * 6 + j) u ((wrs_get L k p hp j hj).trans hu)
      rw [addr_add] at this
      rw [Nat.add_assoc]
      exact this
    exact ⟨key 0 (by decide) _ rfl, key 1 (by decide) _ rfl, key 2 (by decide) _ rfl, key 3 (by decide) _ rfl, key 4 (by decide) _ rfl, key 5 (by decide) _ rfl⟩

theorem info36 : (Try.prog.info? 36).map (fun i => (i.zero, i.size, i.bytes)) = some (some (.agg #[.int .i64 0, .int .i64 0, .int .i32 0, .int .i64 0, .int .i64 0, .int .i64 0]), 6, 48) := by kernel_rfl

end Go.Proofs.Ytcealbdinbfegaa
