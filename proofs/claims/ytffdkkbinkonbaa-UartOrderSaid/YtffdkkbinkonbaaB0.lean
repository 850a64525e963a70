/-
  Boxes: a line, an item, the document's line, an act. No conditions.
-/
import Derived.Test.YtffdkkbinkonbaaA2
namespace Go.Proofs.Ytffdkkbinkonbaa
open Go.RowKit

/-- Lr, as a value. -/
structure Lr where
  r : Int
  v : Value
  s : Int
  u : Value
  o : Bool

theorem Lr.same {a0 a1 a2 a3 a4 : _} {r : Lr} (h : r.r = a0 ∧ r.v = a1 ∧ r.s = a2 ∧ r.u = a3 ∧ r.o = a4) : r = ⟨a0, a1, a2, a3, a4⟩ := by
  obtain ⟨rfl, rfl, rfl, rfl, rfl⟩ := h
  rfl

theorem Lr.ret {a b : Lr} (h : a = b) : Ending.returned (.agg #[.int .i64 a.r, a.v, .int .i64 a.s, a.u, .bool a.o]) = .returned (.agg #[.int .i64 b.r, b.v, .int .i64 b.s, b.u, .bool b.o]) := by rw [h]

/-- A box that holds a Lr. -/
structure LBox (w : World) (b : Nat) (r : Lr) : Prop where
  c0 : w.cell? ⟨b, 0, none⟩ = some (.int .i64 r.r)
  c1 : w.cell? ⟨b, 1, none⟩ = some (r.v)
  c2 : w.cell? ⟨b, 2, none⟩ = some (.int .i64 r.s)
  c3 : w.cell? ⟨b, 3, none⟩ = some (r.u)
  c4 : w.cell? ⟨b, 4, none⟩ = some (.bool r.o)
  f0 : w.frozen? ⟨b, 0, none⟩ = false
  f1 : w.frozen? ⟨b, 1, none⟩ = false
  f2 : w.frozen? ⟨b, 2, none⟩ = false
  f3 : w.frozen? ⟨b, 3, none⟩ = false
  f4 : w.frozen? ⟨b, 4, none⟩ = false

theorem LBox.lt {w : World} {b : Nat} {r : Lr} (h : LBox w b r) : b < w.heap.size := World.block_lt_of_cell? _ _ h.c0

theorem LBox.stay {T : Nat → Prop} {W w1 : World} {b : Nat} {r : Lr} (h : LBox W b r) (hs : Stay T W w1) (hn : ¬ T b) : LBox w1 b r := by
  have hb : b < W.heap.size := h.lt
  have c : ∀ o, w1.cell? ⟨b, o, none⟩ = W.cell? ⟨b, o, none⟩ := fun o => hs.cell (p := ⟨b, o, none⟩) hb hn
  have f : ∀ o, w1.frozen? ⟨b, o, none⟩ = W.frozen? ⟨b, o, none⟩ := fun o => hs.frozen (p := ⟨b, o, none⟩) hb hn
  exact ⟨(c 0).trans h.c0, (c 1).trans h.c1, (c 2).trans h.c2, (c 3).trans h.c3, (c 4).trans h.c4, (f 0).trans h.f0, (f 1).trans h.f1, (f 2).trans h.f2, (f 3).trans h.f3, (f 4).trans h.f4⟩

theorem LBox.keep {W w1 : World} {b : Nat} {r : Lr} (h : LBox W b r) (hs : Stay (fun _ => False) W w1) : LBox w1 b r := h.stay hs (fun h => h)

theorem LBox.alloc {w : World} {b : Nat} {r : Lr} (h : LBox w b r) (o : Obj) : LBox (w.alloc o) b r := h.keep ((Stay.refl _ _).alloc o)

theorem LBox.new {w : World} {b : Nat} (r : Lr) (h : w.heap.size = b) : LBox (w.alloc (.cells #[.int .i64 r.r, r.v, .int .i64 r.s, r.u, .bool r.o] 57)) b r := by
  subst h
  constructor <;> simp

theorem LBox.cells {w : World} {b : Nat} {r : Lr} (h : LBox w b r) : ∀ (j : Nat) (v : Value), [Value.int .i64 r.r, r.v, .int .i64 r.s, r.u, .bool r.o][j]? = some v → w.cell? ⟨b, 0 + j, none⟩ = some v := by
  intro j v hj
  match j, hj with
  | 0, hj => cases hj; exact h.c0
  | 1, hj => cases hj; exact h.c1
  | 2, hj => cases hj; exact h.c2
  | 3, hj => cases hj; exact h.c3
  | 4, hj => cases hj; exact h.c4

theorem results_LBox {fn : Func} {p : Tmp} (h : fn.results = #[.cell p 57]) (tmps : Array Value) (w : World) (g : Nat) (r : Lr) (hp : tmps.getD p undef = .pointer (some ⟨g, 0, none⟩)) (hb : LBox w g r) :
    (results fn tmps).run Try.prog w = .ok (.agg #[.int .i64 r.r, r.v, .int .i64 r.s, r.u, .bool r.o]) w := results_cells h tmps w g 0 _ _ hp hb.cells Try.underlying57 rfl (by kernel_rfl)

/-- What a struct is behind a call, and nothing that was there has turned. -/
theorem LBox.ends {w W : World} {fn : Func} {p : Tmp} (h : fn.results = #[.cell p 57]) {tmps : Array Value} {r q : Lr} {g : Nat} (hp : tmps.getD p undef = .pointer (some ⟨g, 0, none⟩)) (hb : LBox W g r) (hq : r = q) (hs : Stay (fun _ => False) w W)
    {d : List Deferred} (hd : d = []) : bodyPost Try.prog fn (Gives (.agg #[.int .i64 q.r, q.v, .int .i64 q.s, q.u, .bool q.o]) w) Exit.ret { tmps := tmps, defers := d } W := by
  subst hq hd
  exact bodyPost_ret (results_LBox h _ _ _ r hp hb) rfl ⟨rfl, hs⟩

/-- The world in which a box holds another one. -/
theorem LBox.put {w : World} {b : Nat} {r0 : Lr} (h : LBox w b r0) (r : Lr) : LBox (((((w.setCell ⟨b, 0, none⟩ (.int .i64 r.r)).setCell ⟨b, 1, none⟩ (r.v)).setCell ⟨b, 2, none⟩ (.int .i64 r.s)).setCell ⟨b, 3, none⟩ (r.u)).setCell ⟨b, 4, none⟩ (.bool r.o)) b r := by
  obtain ⟨h0, h1, h2, h3, h4, k0, k1, k2, k3, k4⟩ := h
  constructor <;> simp [go_sem, *]

theorem LBox.stay_put {S : Nat → Prop} {w w1 : World} {b : Nat} (h : Stay S w w1) (hb : w.heap.size ≤ b) (v0 v1 v2 v3 v4 : Value) : Stay S w (((((w1.setCell ⟨b, 0, none⟩ v0).setCell ⟨b, 1, none⟩ v1).setCell ⟨b, 2, none⟩ v2).setCell ⟨b, 3, none⟩ v3).setCell ⟨b, 4, none⟩ v4) :=
  (((((h.setNew hb v0).setNew hb v1).setNew hb v2).setNew hb v3).setNew hb v4)

theorem LBox.put0 {w : World} {b : Nat} {r : Lr} (h : LBox w b r) {x : Int} {q : Lr} (hq : q = ⟨x, r.v, r.s, r.u, r.o⟩) : LBox (w.setCell ⟨b, 0, none⟩ (.int .i64 x)) b q := by
  subst hq
  obtain ⟨h0, h1, h2, h3, h4, k0, k1, k2, k3, k4⟩ := h
  constructor <;> simp [go_sem, *]

theorem LBox.put1 {w : World} {b : Nat} {r : Lr} (h : LBox w b r) {x : Value} {q : Lr} (hq : q = ⟨r.r, x, r.s, r.u, r.o⟩) : LBox (w.setCell ⟨b, 1, none⟩ (x)) b q := by
  subst hq
  obtain ⟨h0, h1, h2, h3, h4, k0, k1, k2, k3, k4⟩ := h
  constructor <;> simp [go_sem, *]

theorem LBox.put2 {w : World} {b : Nat} {r : Lr} (h : LBox w b r) {x : Int} {q : Lr} (hq : q = ⟨r.r, r.v, x, r.u, r.o⟩) : LBox (w.setCell ⟨b, 2, none⟩ (.int .i64 x)) b q := by
  subst hq
  obtain ⟨h0, h1, h2, h3, h4, k0, k1, k2, k3, k4⟩ := h
  constructor <;> simp [go_sem, *]

theorem LBox.put3 {w : World} {b : Nat} {r : Lr} (h : LBox w b r) {x : Value} {q : Lr} (hq : q = ⟨r.r, r.v, r.s, x, r.o⟩) : LBox (w.setCell ⟨b, 3, none⟩ (x)) b q := by
  subst hq
  obtain ⟨h0, h1, h2, h3, h4, k0, k1, k2, k3, k4⟩ := h
  constructor <;> simp [go_sem, *]

theorem LBox.put4 {w : World} {b : Nat} {r : Lr} (h : LBox w b r) {x : Bool} {q : Lr} (hq : q = ⟨r.r, r.v, r.s, r.u, x⟩) : LBox (w.setCell ⟨b, 4, none⟩ (.bool x)) b q := by
  subst hq
  obtain ⟨h0, h1, h2, h3, h4, k0, k1, k2, k3, k4⟩ := h
  constructor <;> simp [go_sem, *]

theorem LBox.other {w : World} {b b' o : Nat} {r : Lr} {v : Value} (h : LBox w b r) (hb : b' ≠ b) : LBox (w.setCell ⟨b', o, none⟩ v) b r :=
  h.stay (T := fun k => k = b') ((Stay.refl (fun k => k = b') w).setCell (S := fun k => k = b') (p := ⟨b', o, none⟩) rfl v) (fun e => hb e.symm)

theorem run_load_LBox {a : Act} {o : Oper} {x : Operand} {w : World} {b : Nat} {r : Lr} (ho : o.op = .load 57 x) (hx : a.eval x = .pointer (some ⟨b, 0, none⟩)) (hb : LBox w b r) :
    (execOp a.eval o).run Try.prog w = .ok (.value (.agg #[.int .i64 r.r, r.v, .int .i64 r.s, r.u, .bool r.o])) w := by
  unfold execOp
  simp only [ho, hx, Instr.loadAt, Instr.sureAddr, Sem.run_bind, Sem.run_pure, Result.andThen_ok]
  rw [run_loadVar_cells w b 0 57 _ _ hb.cells Try.underlying57 rfl (by kernel_rfl)]
  rfl

/-- One in the midst of a block. -/
structure LBoxAt (w : World) (g o : Nat) (r : Lr) : Prop where
  c0 : w.cell? ⟨g, o, none⟩ = some (.int .i64 r.r)
  c1 : w.cell? ⟨g, o + 1, none⟩ = some (r.v)
  c2 : w.cell? ⟨g, o + 2, none⟩ = some (.int .i64 r.s)
  c3 : w.cell? ⟨g, o + 3, none⟩ = some (r.u)
  c4 : w.cell? ⟨g, o + 4, none⟩ = some (.bool r.o)

theorem LBoxAt.keep {W w1 : World} {g o : Nat} {r : Lr} (h : LBoxAt W g o r) (hs : Stay (fun _ => False) W w1) : LBoxAt w1 g o r := ⟨keep_cell hs h.c0, keep_cell hs h.c1, keep_cell hs h.c2, keep_cell hs h.c3, keep_cell hs h.c4⟩

theorem LBoxAt.cells {w : World} {g o : Nat} {r : Lr} (h : LBoxAt w g o r) : ∀ (j : Nat) (v : Value), [Value.int .i64 r.r, r.v, .int .i64 r.s, r.u, .bool r.o][j]? = some v → w.cell? ⟨g, o + j, none⟩ = some v := by
  intro j v hj
  match j, hj with
  | 0, hj => cases hj; exact h.c0
  | 1, hj => cases hj; exact h.c1
  | 2, hj => cases hj; exact h.c2
  | 3, hj => cases hj; exact h.c3
  | 4, hj => cases hj; exact h.c4

theorem run_load_LBoxAt {a : Act} {p : Oper} {x : Operand} {w : World} {g o : Nat} {r : Lr} (ho : p.op = .load 57 x) (hx : a.eval x = .pointer (some ⟨g, o, none⟩)) (hb : LBoxAt w g o r) :
    (execOp a.eval p).run Try.prog w = .ok (.value (.agg #[.int .i64 r.r, r.v, .int .i64 r.s, r.u, .bool r.o])) w := by
  unfold execOp
  simp only [ho, hx, Instr.loadAt, Instr.sureAddr, Sem.run_bind, Sem.run_pure, Result.andThen_ok]
  rw [run_loadVar_cells w g o 57 _ _ hb.cells Try.underlying57 rfl (by kernel_rfl)]
  rfl

/-- Ir, as a value. -/
structure Ir where
  b : Int
  f : Int

theorem Ir.same {a0 a1 : _} {r : Ir} (h : r.b = a0 ∧ r.f = a1) : r = ⟨a0, a1⟩ := by
  obtain ⟨rfl, rfl⟩ := h
  rfl

theorem Ir.ret {a b : Ir} (h : a = b) : Ending.returned (.agg #[.int .u8 a.b, .int .i64 a.f]) = .returned (.agg #[.int .u8 b.b, .int .i64 b.f]) := by rw [h]

/-- A box that holds a Ir. -/
structure IBox (w : World) (b : Nat) (r : Ir) : Prop where
  c0 : w.cell? ⟨b, 0, none⟩ = some (.int .u8 r.b)
  c1 : w.cell? ⟨b, 1, none⟩ = some (.int .i64 r.f)
  f0 : w.frozen? ⟨b, 0, none⟩ = false
  f1 : w.frozen? ⟨b, 1, none⟩ = false

theorem IBox.lt {w : World} {b : Nat} {r : Ir} (h : IBox w b r) : b < w.heap.size := World.block_lt_of_cell? _ _ h.c0

theorem IBox.stay {T : Nat → Prop} {W w1 : World} {b : Nat} {r : Ir} (h : IBox W b r) (hs : Stay T W w1) (hn : ¬ T b) : IBox w1 b r := by
  have hb : b < W.heap.size := h.lt
  have c : ∀ o, w1.cell? ⟨b, o, none⟩ = W.cell? ⟨b, o, none⟩ := fun o => hs.cell (p := ⟨b, o, none⟩) hb hn
  have f : ∀ o, w1.frozen? ⟨b, o, none⟩ = W.frozen? ⟨b, o, none⟩ := fun o => hs.frozen (p := ⟨b, o, none⟩) hb hn
  exact ⟨(c 0).trans h.c0, (c 1).trans h.c1, (f 0).trans h.f0, (f 1).trans h.f1⟩

theorem IBox.keep {W w1 : World} {b : Nat} {r : Ir} (h : IBox W b r) (hs : Stay (fun _ => False) W w1) : IBox w1 b r := h.stay hs (fun h => h)

theorem IBox.alloc {w : World} {b : Nat} {r : Ir} (h : IBox w b r) (o : Obj) : IBox (w.alloc o) b r := h.keep ((Stay.refl _ _).alloc o)

theorem IBox.new {w : World} {b : Nat} (r : Ir) (h : w.heap.size = b) : IBox (w.alloc (.cells #[.int .u8 r.b, .int .i64 r.f] 36)) b r := by
  subst h
  constructor <;> simp

theorem IBox.cells {w : World} {b : Nat} {r : Ir} (h : IBox w b r) : ∀ (j : Nat) (v : Value), [Value.int .u8 r.b, .int .i64 r.f][j]? = some v → w.cell? ⟨b, 0 + j, none⟩ = some v := by
  intro j v hj
  match j, hj with
  | 0, hj => cases hj; exact h.c0
  | 1, hj => cases hj; exact h.c1

theorem results_IBox {fn : Func} {p : Tmp} (h : fn.results = #[.cell p 36]) (tmps : Array Value) (w : World) (g : Nat) (r : Ir) (hp : tmps.getD p undef = .pointer (some ⟨g, 0, none⟩)) (hb : IBox w g r) :
    (results fn tmps).run Try.prog w = .ok (.agg #[.int .u8 r.b, .int .i64 r.f]) w := results_cells h tmps w g 0 _ _ hp hb.cells Try.underlying36 rfl (by kernel_rfl)

/-- What a struct is behind a call, and nothing that was there has turned. -/
theorem IBox.ends {w W : World} {fn : Func} {p : Tmp} (h : fn.results = #[.cell p 36]) {tmps : Array Value} {r q : Ir} {g : Nat} (hp : tmps.getD p undef = .pointer (some ⟨g, 0, none⟩)) (hb : IBox W g r) (hq : r = q) (hs : Stay (fun _ => False) w W)
    {d : List Deferred} (hd : d = []) : bodyPost Try.prog fn (Gives (.agg #[.int .u8 q.b, .int .i64 q.f]) w) Exit.ret { tmps := tmps, defers := d } W := by
  subst hq hd
  exact bodyPost_ret (results_IBox h _ _ _ r hp hb) rfl ⟨rfl, hs⟩

/-- The world in which a box holds another one. -/
theorem IBox.put {w : World} {b : Nat} {r0 : Ir} (h : IBox w b r0) (r : Ir) : IBox ((w.setCell ⟨b, 0, none⟩ (.int .u8 r.b)).setCell ⟨b, 1, none⟩ (.int .i64 r.f)) b r := by
  obtain ⟨h0, h1, k0, k1⟩ := h
  constructor <;> simp [go_sem, *]

theorem IBox.stay_put {S : Nat → Prop} {w w1 : World} {b : Nat} (h : Stay S w w1) (hb : w.heap.size ≤ b) (v0 v1 : Value) : Stay S w ((w1.setCell ⟨b, 0, none⟩ v0).setCell ⟨b, 1, none⟩ v1) :=
  ((h.setNew hb v0).setNew hb v1)

theorem IBox.put0 {w : World} {b : Nat} {r : Ir} (h : IBox w b r) {x : Int} {q : Ir} (hq : q = ⟨x, r.f⟩) : IBox (w.setCell ⟨b, 0, none⟩ (.int .u8 x)) b q := by
  subst hq
  obtain ⟨h0, h1, k0, k1⟩ := h
  constructor <;> simp [go_sem, *]

theorem IBox.put1 {w : World} {b : Nat} {r : Ir} (h : IBox w b r) {x : Int} {q : Ir} (hq : q = ⟨r.b, x⟩) : IBox (w.setCell ⟨b, 1, none⟩ (.int .i64 x)) b q := by
  subst hq
  obtain ⟨h0, h1, k0, k1⟩ := h
  constructor <;> simp [go_sem, *]

theorem IBox.other {w : World} {b b' o : Nat} {r : Ir} {v : Value} (h : IBox w b r) (hb : b' ≠ b) : IBox (w.setCell ⟨b', o, none⟩ v) b r :=
  h.stay (T := fun k => k = b') ((Stay.refl (fun k => k = b') w).setCell (S := fun k => k = b') (p := ⟨b', o, none⟩) rfl v) (fun e => hb e.symm)

theorem run_load_IBox {a : Act} {o : Oper} {x : Operand} {w : World} {b : Nat} {r : Ir} (ho : o.op = .load 36 x) (hx : a.eval x = .pointer (some ⟨b, 0, none⟩)) (hb : IBox w b r) :
    (execOp a.eval o).run Try.prog w = .ok (.value (.agg #[.int .u8 r.b, .int .i64 r.f])) w := by
  unfold execOp
  simp only [ho, hx, Instr.loadAt, Instr.sureAddr, Sem.run_bind, Sem.run_pure, Result.andThen_ok]
  rw [run_loadVar_cells w b 0 36 _ _ hb.cells Try.underlying36 rfl (by kernel_rfl)]
  rfl

/-- One in the midst of a block. -/
structure IBoxAt (w : World) (g o : Nat) (r : Ir) : Prop where
  c0 : w.cell? ⟨g, o, none⟩ = some (.int .u8 r.b)
  c1 : w.cell? ⟨g, o + 1, none⟩ = some (.int .i64 r.f)

theorem IBoxAt.keep {W w1 : World} {g o : Nat} {r : Ir} (h : IBoxAt W g o r) (hs : Stay (fun _ => False) W w1) : IBoxAt w1 g o r := ⟨keep_cell hs h.c0, keep_cell hs h.c1⟩

theorem IBoxAt.cells {w : World} {g o : Nat} {r : Ir} (h : IBoxAt w g o r) : ∀ (j : Nat) (v : Value), [Value.int .u8 r.b, .int .i64 r.f][j]? = some v → w.cell? ⟨g, o + j, none⟩ = some v := by
  intro j v hj
  match j, hj with
  | 0, hj => cases hj; exact h.c0
  | 1, hj => cases hj; exact h.c1

theorem run_load_IBoxAt {a : Act} {p : Oper} {x : Operand} {w : World} {g o : Nat} {r : Ir} (ho : p.op = .load 36 x) (hx : a.eval x = .pointer (some ⟨g, o, none⟩)) (hb : IBoxAt w g o r) :
    (execOp a.eval p).run Try.prog w = .ok (.value (.agg #[.int .u8 r.b, .int .i64 r.f])) w := by
  unfold execOp
  simp only [ho, hx, Instr.loadAt, Instr.sureAddr, Sem.run_bind, Sem.run_pure, Result.andThen_ok]
  rw [run_loadVar_cells w g o 36 _ _ hb.cells Try.underlying36 rfl (by kernel_rfl)]
  rfl

/-- Dr, as a value. -/
structure Dr where
  v : Value
  u : Value
  o : Bool

theorem Dr.same {a0 a1 a2 : _} {r : Dr} (h : r.v = a0 ∧ r.u = a1 ∧ r.o = a2) : r = ⟨a0, a1, a2⟩ := by
  obtain ⟨rfl, rfl, rfl⟩ := h
  rfl

theorem Dr.ret {a b : Dr} (h : a = b) : Ending.returned (.agg #[a.v, a.u, .bool a.o]) = .returned (.agg #[b.v, b.u, .bool b.o]) := by rw [h]

/-- A box that holds a Dr. -/
structure DBox (w : World) (b : Nat) (r : Dr) : Prop where
  c0 : w.cell? ⟨b, 0, none⟩ = some (r.v)
  c1 : w.cell? ⟨b, 1, none⟩ = some (r.u)
  c2 : w.cell? ⟨b, 2, none⟩ = some (.bool r.o)
  f0 : w.frozen? ⟨b, 0, none⟩ = false
  f1 : w.frozen? ⟨b, 1, none⟩ = false
  f2 : w.frozen? ⟨b, 2, none⟩ = false

theorem DBox.lt {w : World} {b : Nat} {r : Dr} (h : DBox w b r) : b < w.heap.size := World.block_lt_of_cell? _ _ h.c0

theorem DBox.stay {T : Nat → Prop} {W w1 : World} {b : Nat} {r : Dr} (h : DBox W b r) (hs : Stay T W w1) (hn : ¬ T b) : DBox w1 b r := by
  have hb : b < W.heap.size := h.lt
  have c : ∀ o, w1.cell? ⟨b, o, none⟩ = W.cell? ⟨b, o, none⟩ := fun o => hs.cell (p := ⟨b, o, none⟩) hb hn
  have f : ∀ o, w1.frozen? ⟨b, o, none⟩ = W.frozen? ⟨b, o, none⟩ := fun o => hs.frozen (p := ⟨b, o, none⟩) hb hn
  exact ⟨(c 0).trans h.c0, (c 1).trans h.c1, (c 2).trans h.c2, (f 0).trans h.f0, (f 1).trans h.f1, (f 2).trans h.f2⟩

theorem DBox.keep {W w1 : World} {b : Nat} {r : Dr} (h : DBox W b r) (hs : Stay (fun _ => False) W w1) : DBox w1 b r := h.stay hs (fun h => h)

theorem DBox.alloc {w : World} {b : Nat} {r : Dr} (h : DBox w b r) (o : Obj) : DBox (w.alloc o) b r := h.keep ((Stay.refl _ _).alloc o)

theorem DBox.new {w : World} {b : Nat} (r : Dr) (h : w.heap.size = b) : DBox (w.alloc (.cells #[r.v, r.u, .bool r.o] 29)) b r := by
  subst h
  constructor <;> simp

theorem DBox.cells {w : World} {b : Nat} {r : Dr} (h : DBox w b r) : ∀ (j : Nat) (v : Value), [r.v, r.u, .bool r.o][j]? = some v → w.cell? ⟨b, 0 + j, none⟩ = some v := by
  intro j v hj
  match j, hj with
  | 0, hj => cases hj; exact h.c0
  | 1, hj => cases hj; exact h.c1
  | 2, hj => cases hj; exact h.c2

theorem results_DBox {fn : Func} {p : Tmp} (h : fn.results = #[.cell p 29]) (tmps : Array Value) (w : World) (g : Nat) (r : Dr) (hp : tmps.getD p undef = .pointer (some ⟨g, 0, none⟩)) (hb : DBox w g r) :
    (results fn tmps).run Try.prog w = .ok (.agg #[r.v, r.u, .bool r.o]) w := results_cells h tmps w g 0 _ _ hp hb.cells Try.underlying29 rfl (by kernel_rfl)

/-- What a struct is behind a call, and nothing that was there has turned. -/
theorem DBox.ends {w W : World} {fn : Func} {p : Tmp} (h : fn.results = #[.cell p 29]) {tmps : Array Value} {r q : Dr} {g : Nat} (hp : tmps.getD p undef = .pointer (some ⟨g, 0, none⟩)) (hb : DBox W g r) (hq : r = q) (hs : Stay (fun _ => False) w W)
    {d : List Deferred} (hd : d = []) : bodyPost Try.prog fn (Gives (.agg #[q.v, q.u, .bool q.o]) w) Exit.ret { tmps := tmps, defers := d } W := by
  subst hq hd
  exact bodyPost_ret (results_DBox h _ _ _ r hp hb) rfl ⟨rfl, hs⟩

/-- The world in which a box holds another one. -/
theorem DBox.put {w : World} {b : Nat} {r0 : Dr} (h : DBox w b r0) (r : Dr) : DBox (((w.setCell ⟨b, 0, none⟩ (r.v)).setCell ⟨b, 1, none⟩ (r.u)).setCell ⟨b, 2, none⟩ (.bool r.o)) b r := by
  obtain ⟨h0, h1, h2, k0, k1, k2⟩ := h
  constructor <;> simp [go_sem, *]

theorem DBox.stay_put {S : Nat → Prop} {w w1 : World} {b : Nat} (h : Stay S w w1) (hb : w.heap.size ≤ b) (v0 v1 v2 : Value) : Stay S w (((w1.setCell ⟨b, 0, none⟩ v0).setCell ⟨b, 1, none⟩ v1).setCell ⟨b, 2, none⟩ v2) :=
  (((h.setNew hb v0).setNew hb v1).setNew hb v2)

theorem DBox.put0 {w : World} {b : Nat} {r : Dr} (h : DBox w b r) {x : Value} {q : Dr} (hq : q = ⟨x, r.u, r.o⟩) : DBox (w.setCell ⟨b, 0, none⟩ (x)) b q := by
  subst hq
  obtain ⟨h0, h1, h2, k0, k1, k2⟩ := h
  constructor <;> simp [go_sem, *]

theorem DBox.put1 {w : World} {b : Nat} {r : Dr} (h : DBox w b r) {x : Value} {q : Dr} (hq : q = ⟨r.v, x, r.o⟩) : DBox (w.setCell ⟨b, 1, none⟩ (x)) b q := by
  subst hq
  obtain ⟨h0, h1, h2, k0, k1, k2⟩ := h
  constructor <;> simp [go_sem, *]

theorem DBox.put2 {w : World} {b : Nat} {r : Dr} (h : DBox w b r) {x : Bool} {q : Dr} (hq : q = ⟨r.v, r.u, x⟩) : DBox (w.setCell ⟨b, 2, none⟩ (.bool x)) b q := by
  subst hq
  obtain ⟨h0, h1, h2, k0, k1, k2⟩ := h
  constructor <;> simp [go_sem, *]

theorem DBox.other {w : World} {b b' o : Nat} {r : Dr} {v : Value} (h : DBox w b r) (hb : b' ≠ b) : DBox (w.setCell ⟨b', o, none⟩ v) b r :=
  h.stay (T := fun k => k = b') ((Stay.refl (fun k => k = b') w).setCell (S := fun k => k = b') (p := ⟨b', o, none⟩) rfl v) (fun e => hb e.symm)

theorem run_load_DBox {a : Act} {o : Oper} {x : Operand} {w : World} {b : Nat} {r : Dr} (ho : o.op = .load 29 x) (hx : a.eval x = .pointer (some ⟨b, 0, none⟩)) (hb : DBox w b r) :
    (execOp a.eval o).run Try.prog w = .ok (.value (.agg #[r.v, r.u, .bool r.o])) w := by
  unfold execOp
  simp only [ho, hx, Instr.loadAt, Instr.sureAddr, Sem.run_bind, Sem.run_pure, Result.andThen_ok]
  rw [run_loadVar_cells w b 0 29 _ _ hb.cells Try.underlying29 rfl (by kernel_rfl)]
  rfl

/-- One in the midst of a block. -/
structure DBoxAt (w : World) (g o : Nat) (r : Dr) : Prop where
  c0 : w.cell? ⟨g, o, none⟩ = some (r.v)
  c1 : w.cell? ⟨g, o + 1, none⟩ = some (r.u)
  c2 : w.cell? ⟨g, o + 2, none⟩ = some (.bool r.o)

theorem DBoxAt.keep {W w1 : World} {g o : Nat} {r : Dr} (h : DBoxAt W g o r) (hs : Stay (fun _ => False) W w1) : DBoxAt w1 g o r := ⟨keep_cell hs h.c0, keep_cell hs h.c1, keep_cell hs h.c2⟩

theorem DBoxAt.cells {w : World} {g o : Nat} {r : Dr} (h : DBoxAt w g o r) : ∀ (j : Nat) (v : Value), [r.v, r.u, .bool r.o][j]? = some v → w.cell? ⟨g, o + j, none⟩ = some v := by
  intro j v hj
  match j, hj with
  | 0, hj => cases hj; exact h.c0
  | 1, hj => cases hj; exact h.c1
  | 2, hj => cases hj; exact h.c2

theorem run_load_DBoxAt {a : Act} {p : Oper} {x : Operand} {w : World} {g o : Nat} {r : Dr} (ho : p.op = .load 29 x) (hx : a.eval x = .pointer (some ⟨g, o, none⟩)) (hb : DBoxAt w g o r) :
    (execOp a.eval p).run Try.prog w = .ok (.value (.agg #[r.v, r.u, .bool r.o])) w := by
  unfold execOp
  simp only [ho, hx, Instr.loadAt, Instr.sureAddr, Sem.run_bind, Sem.run_pure, Result.andThen_ok]
  rw [run_loadVar_cells w g o 29 _ _ hb.cells Try.underlying29 rfl (by kernel_rfl)]
  rfl

/-- Ar, as a value. -/
structure Ar where
  d : Int
  n : Int
  l : Value

theorem Ar.same {a0 a1 a2 : _} {r : Ar} (h : r.d = a0 ∧ r.n = a1 ∧ r.l = a2) : r = ⟨a0, a1, a2⟩ := by
  obtain ⟨rfl, rfl, rfl⟩ := h
  rfl

theorem Ar.ret {a b : Ar} (h : a = b) : Ending.returned (.agg #[.int .i64 a.d, .int .i64 a.n, a.l]) = .returned (.agg #[.int .i64 b.d, .int .i64 b.n, b.l]) := by rw [h]

/-- A box that holds a Ar. -/
structure ABox (w : World) (b : Nat) (r : Ar) : Prop where
  c0 : w.cell? ⟨b, 0, none⟩ = some (.int .i64 r.d)
  c1 : w.cell? ⟨b, 1, none⟩ = some (.int .i64 r.n)
  c2 : w.cell? ⟨b, 2, none⟩ = some (r.l)
  f0 : w.frozen? ⟨b, 0, none⟩ = false
  f1 : w.frozen? ⟨b, 1, none⟩ = false
  f2 : w.frozen? ⟨b, 2, none⟩ = false

theorem ABox.lt {w : World} {b : Nat} {r : Ar} (h : ABox w b r) : b < w.heap.size := World.block_lt_of_cell? _ _ h.c0

theorem ABox.stay {T : Nat → Prop} {W w1 : World} {b : Nat} {r : Ar} (h : ABox W b r) (hs : Stay T W w1) (hn : ¬ T b) : ABox w1 b r := by
  have hb : b < W.heap.size := h.lt
  have c : ∀ o, w1.cell? ⟨b, o, none⟩ = W.cell? ⟨b, o, none⟩ := fun o => hs.cell (p := ⟨b, o, none⟩) hb hn
  have f : ∀ o, w1.frozen? ⟨b, o, none⟩ = W.frozen? ⟨b, o, none⟩ := fun o => hs.frozen (p := ⟨b, o, none⟩) hb hn
  exact ⟨(c 0).trans h.c0, (c 1).trans h.c1, (c 2).trans h.c2, (f 0).trans h.f0, (f 1).trans h.f1, (f 2).trans h.f2⟩

theorem ABox.keep {W w1 : World} {b : Nat} {r : Ar} (h : ABox W b r) (hs : Stay (fun _ => False) W w1) : ABox w1 b r := h.stay hs (fun h => h)

theorem ABox.alloc {w : World} {b : Nat} {r : Ar} (h : ABox w b r) (o : Obj) : ABox (w.alloc o) b r := h.keep ((Stay.refl _ _).alloc o)

theorem ABox.new {w : World} {b : Nat} (r : Ar) (h : w.heap.size = b) : ABox (w.alloc (.cells #[.int .i64 r.d, .int .i64 r.n, r.l] 31)) b r := by
  subst h
  constructor <;> simp

theorem ABox.cells {w : World} {b : Nat} {r : Ar} (h : ABox w b r) : ∀ (j : Nat) (v : Value), [Value.int .i64 r.d, .int .i64 r.n, r.l][j]? = some v → w.cell? ⟨b, 0 + j, none⟩ = some v := by
  intro j v hj
  match j, hj with
  | 0, hj => cases hj; exact h.c0
  | 1, hj => cases hj; exact h.c1
  | 2, hj => cases hj; exact h.c2

theorem results_ABox {fn : Func} {p : Tmp} (h : fn.results = #[.cell p 31]) (tmps : Array Value) (w : World) (g : Nat) (r : Ar) (hp : tmps.getD p undef = .pointer (some ⟨g, 0, none⟩)) (hb : ABox w g r) :
    (results fn tmps).run Try.prog w = .ok (.agg #[.int .i64 r.d, .int .i64 r.n, r.l]) w := results_cells h tmps w g 0 _ _ hp hb.cells Try.underlying31 rfl (by kernel_rfl)

/-- What a struct is behind a call, and nothing that was there has turned. -/
theorem ABox.ends {w W : World} {fn : Func} {p : Tmp} (h : fn.results = #[.cell p 31]) {tmps : Array Value} {r q : Ar} {g : Nat} (hp : tmps.getD p undef = .pointer (some ⟨g, 0, none⟩)) (hb : ABox W g r) (hq : r = q) (hs : Stay (fun _ => False) w W)
    {d : List Deferred} (hd : d = []) : bodyPost Try.prog fn (Gives (.agg #[.int .i64 q.d, .int .i64 q.n, q.l]) w) Exit.ret { tmps := tmps, defers := d } W := by
  subst hq hd
  exact bodyPost_ret (results_ABox h _ _ _ r hp hb) rfl ⟨rfl, hs⟩

/-- The world in which a box holds another one. -/
theorem ABox.put {w : World} {b : Nat} {r0 : Ar} (h : ABox w b r0) (r : Ar) : ABox (((w.setCell ⟨b, 0, none⟩ (.int .i64 r.d)).setCell ⟨b, 1, none⟩ (.int .i64 r.n)).setCell ⟨b, 2, none⟩ (r.l)) b r := by
  obtain ⟨h0, h1, h2, k0, k1, k2⟩ := h
  constructor <;> simp [go_sem, *]

theorem ABox.stay_put {S : Nat → Prop} {w w1 : World} {b : Nat} (h : Stay S w w1) (hb : w.heap.size ≤ b) (v0 v1 v2 : Value) : Stay S w (((w1.setCell ⟨b, 0, none⟩ v0).setCell ⟨b, 1, none⟩ v1).setCell ⟨b, 2, none⟩ v2) :=
  (((h.setNew hb v0).setNew hb v1).setNew hb v2)

theorem ABox.put0 {w : World} {b : Nat} {r : Ar} (h : ABox w b r) {x : Int} {q : Ar} (hq : q = ⟨x, r.n, r.l⟩) : ABox (w.setCell ⟨b, 0, none⟩ (.int .i64 x)) b q := by
  subst hq
  obtain ⟨h0, h1, h2, k0, k1, k2⟩ := h
  constructor <;> simp [go_sem, *]

theorem ABox.put1 {w : World} {b : Nat} {r : Ar} (h : ABox w b r) {x : Int} {q : Ar} (hq : q = ⟨r.d, x, r.l⟩) : ABox (w.setCell ⟨b, 1, none⟩ (.int .i64 x)) b q := by
  subst hq
  obtain ⟨h0, h1, h2, k0, k1, k2⟩ := h
  constructor <;> simp [go_sem, *]

theorem ABox.put2 {w : World} {b : Nat} {r : Ar} (h : ABox w b r) {x : Value} {q : Ar} (hq : q = ⟨r.d, r.n, x⟩) : ABox (w.setCell ⟨b, 2, none⟩ (x)) b q := by
  subst hq
  obtain ⟨h0, h1, h2, k0, k1, k2⟩ := h
  constructor <;> simp [go_sem, *]

theorem ABox.other {w : World} {b b' o : Nat} {r : Ar} {v : Value} (h : ABox w b r) (hb : b' ≠ b) : ABox (w.setCell ⟨b', o, none⟩ v) b r :=
  h.stay (T := fun k => k = b') ((Stay.refl (fun k => k = b') w).setCell (S := fun k => k = b') (p := ⟨b', o, none⟩) rfl v) (fun e => hb e.symm)

theorem run_load_ABox {a : Act} {o : Oper} {x : Operand} {w : World} {b : Nat} {r : Ar} (ho : o.op = .load 31 x) (hx : a.eval x = .pointer (some ⟨b, 0, none⟩)) (hb : ABox w b r) :
    (execOp a.eval o).run Try.prog w = .ok (.value (.agg #[.int .i64 r.d, .int .i64 r.n, r.l])) w := by
  unfold execOp
  simp only [ho, hx, Instr.loadAt, Instr.sureAddr, Sem.run_bind, Sem.run_pure, Result.andThen_ok]
  rw [run_loadVar_cells w b 0 31 _ _ hb.cells Try.underlying31 rfl (by kernel_rfl)]
  rfl

/-- One in the midst of a block. -/
structure ABoxAt (w : World) (g o : Nat) (r : Ar) : Prop where
  c0 : w.cell? ⟨g, o, none⟩ = some (.int .i64 r.d)
  c1 : w.cell? ⟨g, o + 1, none⟩ = some (.int .i64 r.n)
  c2 : w.cell? ⟨g, o + 2, none⟩ = some (r.l)

theorem ABoxAt.keep {W w1 : World} {g o : Nat} {r : Ar} (h : ABoxAt W g o r) (hs : Stay (fun _ => False) W w1) : ABoxAt w1 g o r := ⟨keep_cell hs h.c0, keep_cell hs h.c1, keep_cell hs h.c2⟩

theorem ABoxAt.cells {w : World} {g o : Nat} {r : Ar} (h : ABoxAt w g o r) : ∀ (j : Nat) (v : Value), [Value.int .i64 r.d, .int .i64 r.n, r.l][j]? = some v → w.cell? ⟨g, o + j, none⟩ = some v := by
  intro j v hj
  match j, hj with
  | 0, hj => cases hj; exact h.c0
  | 1, hj => cases hj; exact h.c1
  | 2, hj => cases hj; exact h.c2

theorem run_load_ABoxAt {a : Act} {p : Oper} {x : Operand} {w : World} {g o : Nat} {r : Ar} (ho : p.op = .load 31 x) (hx : a.eval x = .pointer (some ⟨g, o, none⟩)) (hb : ABoxAt w g o r) :
    (execOp a.eval p).run Try.prog w = .ok (.value (.agg #[.int .i64 r.d, .int .i64 r.n, r.l])) w := by
  unfold execOp
  simp only [ho, hx, Instr.loadAt, Instr.sureAddr, Sem.run_bind, Sem.run_pure, Result.andThen_ok]
  rw [run_loadVar_cells w g o 31 _ _ hb.cells Try.underlying31 rfl (by kernel_rfl)]
  rfl

end Go.Proofs.Ytffdkkbinkonbaa
