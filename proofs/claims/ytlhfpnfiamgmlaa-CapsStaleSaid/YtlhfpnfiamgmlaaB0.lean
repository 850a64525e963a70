/-
  Boxes: a slot, a name. No conditions.
-/
import Derived.Test.YtlhfpnfiamgmlaaA2
namespace Go.Proofs.Ytlhfpnfiamgmlaa
open Go.RowKit

/-- Sl, as a value. -/
structure Sl where
  gen : Int
  env : Int
  kind : Int
  obj : Int
  rights : Int
  of : Int

theorem Sl.same {a0 a1 a2 a3 a4 a5 : _} {r : Sl} (h : r.gen = a0 ∧ r.env = a1 ∧ r.kind = a2 ∧ r.obj = a3 ∧ r.rights = a4 ∧ r.of = a5) : r = ⟨a0, a1, a2, a3, a4, a5⟩ := by
  obtain ⟨rfl, rfl, rfl, rfl, rfl, rfl⟩ := h
  rfl

theorem Sl.ret {a b : Sl} (h : a = b) : Ending.returned (.agg #[.int .i64 a.gen, .int .i64 a.env, .int .i64 a.kind, .int .i64 a.obj, .int .i64 a.rights, .int .i64 a.of]) = .returned (.agg #[.int .i64 b.gen, .int .i64 b.env, .int .i64 b.kind, .int .i64 b.obj, .int .i64 b.rights, .int .i64 b.of]) := by rw [h]

/-- A box that holds a Sl. -/
structure SBox (w : World) (b : Nat) (r : Sl) : Prop where
  c0 : w.cell? ⟨b, 0, none⟩ = some (.int .i64 r.gen)
  c1 : w.cell? ⟨b, 1, none⟩ = some (.int .i64 r.env)
  c2 : w.cell? ⟨b, 2, none⟩ = some (.int .i64 r.kind)
  c3 : w.cell? ⟨b, 3, none⟩ = some (.int .i64 r.obj)
  c4 : w.cell? ⟨b, 4, none⟩ = some (.int .i64 r.rights)
  c5 : w.cell? ⟨b, 5, none⟩ = some (.int .i64 r.of)
  f0 : w.frozen? ⟨b, 0, none⟩ = false
  f1 : w.frozen? ⟨b, 1, none⟩ = false
  f2 : w.frozen? ⟨b, 2, none⟩ = false
  f3 : w.frozen? ⟨b, 3, none⟩ = false
  f4 : w.frozen? ⟨b, 4, none⟩ = false
  f5 : w.frozen? ⟨b, 5, none⟩ = false

theorem SBox.lt {w : World} {b : Nat} {r : Sl} (h : SBox w b r) : b < w.heap.size := World.block_lt_of_cell? _ _ h.c0

theorem SBox.stay {T : Nat → Prop} {W w1 : World} {b : Nat} {r : Sl} (h : SBox W b r) (hs : Stay T W w1) (hn : ¬ T b) : SBox w1 b r := by
  have hb : b < W.heap.size := h.lt
  have c : ∀ o, w1.cell? ⟨b, o, none⟩ = W.cell? ⟨b, o, none⟩ := fun o => hs.cell (p := ⟨b, o, none⟩) hb hn
  have f : ∀ o, w1.frozen? ⟨b, o, none⟩ = W.frozen? ⟨b, o, none⟩ := fun o => hs.frozen (p := ⟨b, o, none⟩) hb hn
  exact ⟨(c 0).trans h.c0, (c 1).trans h.c1, (c 2).trans h.c2, (c 3).trans h.c3, (c 4).trans h.c4, (c 5).trans h.c5, (f 0).trans h.f0, (f 1).trans h.f1, (f 2).trans h.f2, (f 3).trans h.f3, (f 4).trans h.f4, (f 5).trans h.f5⟩

theorem SBox.keep {W w1 : World} {b : Nat} {r : Sl} (h : SBox W b r) (hs : Stay (fun _ => False) W w1) : SBox w1 b r := h.stay hs (fun h => h)

theorem SBox.alloc {w : World} {b : Nat} {r : Sl} (h : SBox w b r) (o : Obj) : SBox (w.alloc o) b r := h.keep ((Stay.refl _ _).alloc o)

theorem SBox.new {w : World} {b : Nat} (r : Sl) (h : w.heap.size = b) : SBox (w.alloc (.cells #[.int .i64 r.gen, .int .i64 r.env, .int .i64 r.kind, .int .i64 r.obj, .int .i64 r.rights, .int .i64 r.of] 70)) b r := by
  subst h
  constructor <;> simp

theorem SBox.cells {w : World} {b : Nat} {r : Sl} (h : SBox w b r) : ∀ (j : Nat) (v : Value), [Value.int .i64 r.gen, .int .i64 r.env, .int .i64 r.kind, .int .i64 r.obj, .int .i64 r.rights, .int .i64 r.of][j]? = some v → w.cell? ⟨b, 0 + j, none⟩ = some v := by
  intro j v hj
  match j, hj with
  | 0, hj => cases hj; exact h.c0
  | 1, hj => cases hj; exact h.c1
  | 2, hj => cases hj; exact h.c2
  | 3, hj => cases hj; exact h.c3
  | 4, hj => cases hj; exact h.c4
  | 5, hj => cases hj; exact h.c5

theorem results_SBox {fn : Func} {p : Tmp} (h : fn.results = #[.cell p 70]) (tmps : Array Value) (w : World) (g : Nat) (r : Sl) (hp : tmps.getD p undef = .pointer (some ⟨g, 0, none⟩)) (hb : SBox w g r) :
    (results fn tmps).run Try.prog w = .ok (.agg #[.int .i64 r.gen, .int .i64 r.env, .int .i64 r.kind, .int .i64 r.obj, .int .i64 r.rights, .int .i64 r.of]) w := results_cells h tmps w g 0 _ _ hp hb.cells Try.underlying70 rfl (by kernel_rfl)

/-- What a struct is behind a call, and nothing that was there has turned. -/
theorem SBox.ends {w W : World} {fn : Func} {p : Tmp} (h : fn.results = #[.cell p 70]) {tmps : Array Value} {r q : Sl} {g : Nat} (hp : tmps.getD p undef = .pointer (some ⟨g, 0, none⟩)) (hb : SBox W g r) (hq : r = q) (hs : Stay (fun _ => False) w W)
    {d : List Deferred} (hd : d = []) : bodyPost Try.prog fn (Gives (.agg #[.int .i64 q.gen, .int .i64 q.env, .int .i64 q.kind, .int .i64 q.obj, .int .i64 q.rights, .int .i64 q.of]) w) Exit.ret { tmps := tmps, defers := d } W := by
  subst hq hd
  exact bodyPost_ret (results_SBox h _ _ _ r hp hb) rfl ⟨rfl, hs⟩

/-- The world in which a box holds another one. -/
theorem SBox.put {w : World} {b : Nat} {r0 : Sl} (h : SBox w b r0) (r : Sl) : SBox ((((((w.setCell ⟨b, 0, none⟩ (.int .i64 r.gen)).setCell ⟨b, 1, none⟩ (.int .i64 r.env)).setCell ⟨b, 2, none⟩ (.int .i64 r.kind)).setCell ⟨b, 3, none⟩ (.int .i64 r.obj)).setCell ⟨b, 4, none⟩ (.int .i64 r.rights)).setCell ⟨b, 5, none⟩ (.int .i64 r.of)) b r := by
  obtain ⟨h0, h1, h2, h3, h4, h5, k0, k1, k2, k3, k4, k5⟩ := h
  constructor <;> simp [go_sem, *]

theorem SBox.stay_put {S : Nat → Prop} {w w1 : World} {b : Nat} (h : Stay S w w1) (hb : w.heap.size ≤ b) (v0 v1 v2 v3 v4 v5 : Value) : Stay S w ((((((w1.setCell ⟨b, 0, none⟩ v0).setCell ⟨b, 1, none⟩ v1).setCell ⟨b, 2, none⟩ v2).setCell ⟨b, 3, none⟩ v3).setCell ⟨b, 4, none⟩ v4).setCell ⟨b, 5, none⟩ v5) :=
  ((((((h.setNew hb v0).setNew hb v1).setNew hb v2).setNew hb v3).setNew hb v4).setNew hb v5)

theorem SBox.put0 {w : World} {b : Nat} {r : Sl} (h : SBox w b r) {x : Int} {q : Sl} (hq : q = ⟨x, r.env, r.kind, r.obj, r.rights, r.of⟩) : SBox (w.setCell ⟨b, 0, none⟩ (.int .i64 x)) b q := by
  subst hq
  obtain ⟨h0, h1, h2, h3, h4, h5, k0, k1, k2, k3, k4, k5⟩ := h
  constructor <;> simp [go_sem, *]

theorem SBox.put1 {w : World} {b : Nat} {r : Sl} (h : SBox w b r) {x : Int} {q : Sl} (hq : q = ⟨r.gen, x, r.kind, r.obj, r.rights, r.of⟩) : SBox (w.setCell ⟨b, 1, none⟩ (.int .i64 x)) b q := by
  subst hq
  obtain ⟨h0, h1, h2, h3, h4, h5, k0, k1, k2, k3, k4, k5⟩ := h
  constructor <;> simp [go_sem, *]

theorem SBox.put2 {w : World} {b : Nat} {r : Sl} (h : SBox w b r) {x : Int} {q : Sl} (hq : q = ⟨r.gen, r.env, x, r.obj, r.rights, r.of⟩) : SBox (w.setCell ⟨b, 2, none⟩ (.int .i64 x)) b q := by
  subst hq
  obtain ⟨h0, h1, h2, h3, h4, h5, k0, k1, k2, k3, k4, k5⟩ := h
  constructor <;> simp [go_sem, *]

theorem SBox.put3 {w : World} {b : Nat} {r : Sl} (h : SBox w b r) {x : Int} {q : Sl} (hq : q = ⟨r.gen, r.env, r.kind, x, r.rights, r.of⟩) : SBox (w.setCell ⟨b, 3, none⟩ (.int .i64 x)) b q := by
  subst hq
  obtain ⟨h0, h1, h2, h3, h4, h5, k0, k1, k2, k3, k4, k5⟩ := h
  constructor <;> simp [go_sem, *]

theorem SBox.put4 {w : World} {b : Nat} {r : Sl} (h : SBox w b r) {x : Int} {q : Sl} (hq : q = ⟨r.gen, r.env, r.kind, r.obj, x, r.of⟩) : SBox (w.setCell ⟨b, 4, none⟩ (.int .i64 x)) b q := by
  subst hq
  obtain ⟨h0, h1, h2, h3, h4, h5, k0, k1, k2, k3, k4, k5⟩ := h
  constructor <;> simp [go_sem, *]

theorem SBox.put5 {w : World} {b : Nat} {r : Sl} (h : SBox w b r) {x : Int} {q : Sl} (hq : q = ⟨r.gen, r.env, r.kind, r.obj, r.rights, x⟩) : SBox (w.setCell ⟨b, 5, none⟩ (.int .i64 x)) b q := by
  subst hq
  obtain ⟨h0, h1, h2, h3, h4, h5, k0, k1, k2, k3, k4, k5⟩ := h
  constructor <;> simp [go_sem, *]

theorem SBox.other {w : World} {b b' o : Nat} {r : Sl} {v : Value} (h : SBox w b r) (hb : b' ≠ b) : SBox (w.setCell ⟨b', o, none⟩ v) b r :=
  h.stay (T := fun k => k = b') ((Stay.refl (fun k => k = b') w).setCell (S := fun k => k = b') (p := ⟨b', o, none⟩) rfl v) (fun e => hb e.symm)

theorem run_load_SBox {a : Act} {o : Oper} {x : Operand} {w : World} {b : Nat} {r : Sl} (ho : o.op = .load 70 x) (hx : a.eval x = .pointer (some ⟨b, 0, none⟩)) (hb : SBox w b r) :
    (execOp a.eval o).run Try.prog w = .ok (.value (.agg #[.int .i64 r.gen, .int .i64 r.env, .int .i64 r.kind, .int .i64 r.obj, .int .i64 r.rights, .int .i64 r.of])) w := by
  unfold execOp
  simp only [ho, hx, Instr.loadAt, Instr.sureAddr, Sem.run_bind, Sem.run_pure, Result.andThen_ok]
  rw [run_loadVar_cells w b 0 70 _ _ hb.cells Try.underlying70 rfl (by kernel_rfl)]
  rfl

/-- One in the midst of a block. -/
structure SBoxAt (w : World) (g o : Nat) (r : Sl) : Prop where
  c0 : w.cell? ⟨g, o, none⟩ = some (.int .i64 r.gen)
  c1 : w.cell? ⟨g, o + 1, none⟩ = some (.int .i64 r.env)
  c2 : w.cell? ⟨g, o + 2, none⟩ = some (.int .i64 r.kind)
  c3 : w.cell? ⟨g, o + 3, none⟩ = some (.int .i64 r.obj)
  c4 : w.cell? ⟨g, o + 4, none⟩ = some (.int .i64 r.rights)
  c5 : w.cell? ⟨g, o + 5, none⟩ = some (.int .i64 r.of)

theorem SBoxAt.keep {W w1 : World} {g o : Nat} {r : Sl} (h : SBoxAt W g o r) (hs : Stay (fun _ => False) W w1) : SBoxAt w1 g o r := ⟨keep_cell hs h.c0, keep_cell hs h.c1, keep_cell hs h.c2, keep_cell hs h.c3, keep_cell hs h.c4, keep_cell hs h.c5⟩

theorem SBoxAt.cells {w : World} {g o : Nat} {r : Sl} (h : SBoxAt w g o r) : ∀ (j : Nat) (v : Value), [Value.int .i64 r.gen, .int .i64 r.env, .int .i64 r.kind, .int .i64 r.obj, .int .i64 r.rights, .int .i64 r.of][j]? = some v → w.cell? ⟨g, o + j, none⟩ = some v := by
  intro j v hj
  match j, hj with
  | 0, hj => cases hj; exact h.c0
  | 1, hj => cases hj; exact h.c1
  | 2, hj => cases hj; exact h.c2
  | 3, hj => cases hj; exact h.c3
  | 4, hj => cases hj; exact h.c4
  | 5, hj => cases hj; exact h.c5

theorem run_load_SBoxAt {a : Act} {p : Oper} {x : Operand} {w : World} {g o : Nat} {r : Sl} (ho : p.op = .load 70 x) (hx : a.eval x = .pointer (some ⟨g, o, none⟩)) (hb : SBoxAt w g o r) :
    (execOp a.eval p).run Try.prog w = .ok (.value (.agg #[.int .i64 r.gen, .int .i64 r.env, .int .i64 r.kind, .int .i64 r.obj, .int .i64 r.rights, .int .i64 r.of])) w := by
  unfold execOp
  simp only [ho, hx, Instr.loadAt, Instr.sureAddr, Sem.run_bind, Sem.run_pure, Result.andThen_ok]
  rw [run_loadVar_cells w g o 70 _ _ hb.cells Try.underlying70 rfl (by kernel_rfl)]
  rfl

/-- Nm, as a value. -/
structure Nm where
  slot : Int
  gen : Int

theorem Nm.same {a0 a1 : _} {r : Nm} (h : r.slot = a0 ∧ r.gen = a1) : r = ⟨a0, a1⟩ := by
  obtain ⟨rfl, rfl⟩ := h
  rfl

theorem Nm.ret {a b : Nm} (h : a = b) : Ending.returned (.agg #[.int .i64 a.slot, .int .i64 a.gen]) = .returned (.agg #[.int .i64 b.slot, .int .i64 b.gen]) := by rw [h]

/-- A box that holds a Nm. -/
structure NBox (w : World) (b : Nat) (r : Nm) : Prop where
  c0 : w.cell? ⟨b, 0, none⟩ = some (.int .i64 r.slot)
  c1 : w.cell? ⟨b, 1, none⟩ = some (.int .i64 r.gen)
  f0 : w.frozen? ⟨b, 0, none⟩ = false
  f1 : w.frozen? ⟨b, 1, none⟩ = false

theorem NBox.lt {w : World} {b : Nat} {r : Nm} (h : NBox w b r) : b < w.heap.size := World.block_lt_of_cell? _ _ h.c0

theorem NBox.stay {T : Nat → Prop} {W w1 : World} {b : Nat} {r : Nm} (h : NBox W b r) (hs : Stay T W w1) (hn : ¬ T b) : NBox w1 b r := by
  have hb : b < W.heap.size := h.lt
  have c : ∀ o, w1.cell? ⟨b, o, none⟩ = W.cell? ⟨b, o, none⟩ := fun o => hs.cell (p := ⟨b, o, none⟩) hb hn
  have f : ∀ o, w1.frozen? ⟨b, o, none⟩ = W.frozen? ⟨b, o, none⟩ := fun o => hs.frozen (p := ⟨b, o, none⟩) hb hn
  exact ⟨(c 0).trans h.c0, (c 1).trans h.c1, (f 0).trans h.f0, (f 1).trans h.f1⟩

theorem NBox.keep {W w1 : World} {b : Nat} {r : Nm} (h : NBox W b r) (hs : Stay (fun _ => False) W w1) : NBox w1 b r := h.stay hs (fun h => h)

theorem NBox.alloc {w : World} {b : Nat} {r : Nm} (h : NBox w b r) (o : Obj) : NBox (w.alloc o) b r := h.keep ((Stay.refl _ _).alloc o)

theorem NBox.new {w : World} {b : Nat} (r : Nm) (h : w.heap.size = b) : NBox (w.alloc (.cells #[.int .i64 r.slot, .int .i64 r.gen] 30)) b r := by
  subst h
  constructor <;> simp

theorem NBox.cells {w : World} {b : Nat} {r : Nm} (h : NBox w b r) : ∀ (j : Nat) (v : Value), [Value.int .i64 r.slot, .int .i64 r.gen][j]? = some v → w.cell? ⟨b, 0 + j, none⟩ = some v := by
  intro j v hj
  match j, hj with
  | 0, hj => cases hj; exact h.c0
  | 1, hj => cases hj; exact h.c1

theorem results_NBox {fn : Func} {p : Tmp} (h : fn.results = #[.cell p 30]) (tmps : Array Value) (w : World) (g : Nat) (r : Nm) (hp : tmps.getD p undef = .pointer (some ⟨g, 0, none⟩)) (hb : NBox w g r) :
    (results fn tmps).run Try.prog w = .ok (.agg #[.int .i64 r.slot, .int .i64 r.gen]) w := results_cells h tmps w g 0 _ _ hp hb.cells Try.underlying30 rfl (by kernel_rfl)

/-- What a struct is behind a call, and nothing that was there has turned. -/
theorem NBox.ends {w W : World} {fn : Func} {p : Tmp} (h : fn.results = #[.cell p 30]) {tmps : Array Value} {r q : Nm} {g : Nat} (hp : tmps.getD p undef = .pointer (some ⟨g, 0, none⟩)) (hb : NBox W g r) (hq : r = q) (hs : Stay (fun _ => False) w W)
    {d : List Deferred} (hd : d = []) : bodyPost Try.prog fn (Gives (.agg #[.int .i64 q.slot, .int .i64 q.gen]) w) Exit.ret { tmps := tmps, defers := d } W := by
  subst hq hd
  exact bodyPost_ret (results_NBox h _ _ _ r hp hb) rfl ⟨rfl, hs⟩

/-- The world in which a box holds another one. -/
theorem NBox.put {w : World} {b : Nat} {r0 : Nm} (h : NBox w b r0) (r : Nm) : NBox ((w.setCell ⟨b, 0, none⟩ (.int .i64 r.slot)).setCell ⟨b, 1, none⟩ (.int .i64 r.gen)) b r := by
  obtain ⟨h0, h1, k0, k1⟩ := h
  constructor <;> simp [go_sem, *]

theorem NBox.stay_put {S : Nat → Prop} {w w1 : World} {b : Nat} (h : Stay S w w1) (hb : w.heap.size ≤ b) (v0 v1 : Value) : Stay S w ((w1.setCell ⟨b, 0, none⟩ v0).setCell ⟨b, 1, none⟩ v1) :=
  ((h.setNew hb v0).setNew hb v1)

theorem NBox.put0 {w : World} {b : Nat} {r : Nm} (h : NBox w b r) {x : Int} {q : Nm} (hq : q = ⟨x, r.gen⟩) : NBox (w.setCell ⟨b, 0, none⟩ (.int .i64 x)) b q := by
  subst hq
  obtain ⟨h0, h1, k0, k1⟩ := h
  constructor <;> simp [go_sem, *]

theorem NBox.put1 {w : World} {b : Nat} {r : Nm} (h : NBox w b r) {x : Int} {q : Nm} (hq : q = ⟨r.slot, x⟩) : NBox (w.setCell ⟨b, 1, none⟩ (.int .i64 x)) b q := by
  subst hq
  obtain ⟨h0, h1, k0, k1⟩ := h
  constructor <;> simp [go_sem, *]

theorem NBox.other {w : World} {b b' o : Nat} {r : Nm} {v : Value} (h : NBox w b r) (hb : b' ≠ b) : NBox (w.setCell ⟨b', o, none⟩ v) b r :=
  h.stay (T := fun k => k = b') ((Stay.refl (fun k => k = b') w).setCell (S := fun k => k = b') (p := ⟨b', o, none⟩) rfl v) (fun e => hb e.symm)

theorem run_load_NBox {a : Act} {o : Oper} {x : Operand} {w : World} {b : Nat} {r : Nm} (ho : o.op = .load 30 x) (hx : a.eval x = .pointer (some ⟨b, 0, none⟩)) (hb : NBox w b r) :
    (execOp a.eval o).run Try.prog w = .ok (.value (.agg #[.int .i64 r.slot, .int .i64 r.gen])) w := by
  unfold execOp
  simp only [ho, hx, Instr.loadAt, Instr.sureAddr, Sem.run_bind, Sem.run_pure, Result.andThen_ok]
  rw [run_loadVar_cells w b 0 30 _ _ hb.cells Try.underlying30 rfl (by kernel_rfl)]
  rfl

/-- One in the midst of a block. -/
structure NBoxAt (w : World) (g o : Nat) (r : Nm) : Prop where
  c0 : w.cell? ⟨g, o, none⟩ = some (.int .i64 r.slot)
  c1 : w.cell? ⟨g, o + 1, none⟩ = some (.int .i64 r.gen)

theorem NBoxAt.keep {W w1 : World} {g o : Nat} {r : Nm} (h : NBoxAt W g o r) (hs : Stay (fun _ => False) W w1) : NBoxAt w1 g o r := ⟨keep_cell hs h.c0, keep_cell hs h.c1⟩

theorem NBoxAt.cells {w : World} {g o : Nat} {r : Nm} (h : NBoxAt w g o r) : ∀ (j : Nat) (v : Value), [Value.int .i64 r.slot, .int .i64 r.gen][j]? = some v → w.cell? ⟨g, o + j, none⟩ = some v := by
  intro j v hj
  match j, hj with
  | 0, hj => cases hj; exact h.c0
  | 1, hj => cases hj; exact h.c1

theorem run_load_NBoxAt {a : Act} {p : Oper} {x : Operand} {w : World} {g o : Nat} {r : Nm} (ho : p.op = .load 30 x) (hx : a.eval x = .pointer (some ⟨g, o, none⟩)) (hb : NBoxAt w g o r) :
    (execOp a.eval p).run Try.prog w = .ok (.value (.agg #[.int .i64 r.slot, .int .i64 r.gen])) w := by
  unfold execOp
  simp only [ho, hx, Instr.loadAt, Instr.sureAddr, Sem.run_bind, Sem.run_pure, Result.andThen_ok]
  rw [run_loadVar_cells w g o 30 _ _ hb.cells Try.underlying30 rfl (by kernel_rfl)]
  rfl

def Sl.zero : Sl := ⟨0, 0, 0, 0, 0, 0⟩

end Go.Proofs.Ytlhfpnfiamgmlaa
