/-
  Boxes: a window, a stack, an act, a drawing. No conditions.
  A view of a window: its boxes. No conditions.
-/
import Derived.Test.YticccknocjnkpaaG1
namespace Go.Proofs.Yticccknocjnkpaa
open Go.RowKit

/-- Wn, as a value. -/
structure Wn where
  id : Int
  env : Int
  x : Int
  y : Int
  w : Int
  h : Int
  hid : Bool

theorem Wn.same {a0 a1 a2 a3 a4 a5 a6 : _} {r : Wn} (h : r.id = a0 ∧ r.env = a1 ∧ r.x = a2 ∧ r.y = a3 ∧ r.w = a4 ∧ r.h = a5 ∧ r.hid = a6) : r = ⟨a0, a1, a2, a3, a4, a5, a6⟩ := by
  obtain ⟨rfl, rfl, rfl, rfl, rfl, rfl, rfl⟩ := h
  rfl

theorem Wn.ret {a b : Wn} (h : a = b) : Ending.returned (.agg #[.int .i64 a.id, .int .i64 a.env, .int .i64 a.x, .int .i64 a.y, .int .i64 a.w, .int .i64 a.h, .bool a.hid]) = .returned (.agg #[.int .i64 b.id, .int .i64 b.env, .int .i64 b.x, .int .i64 b.y, .int .i64 b.w, .int .i64 b.h, .bool b.hid]) := by rw [h]

/-- A box that holds a Wn. -/
structure NBox (w : World) (b : Nat) (r : Wn) : Prop where
  c0 : w.cell? ⟨b, 0, none⟩ = some (.int .i64 r.id)
  c1 : w.cell? ⟨b, 1, none⟩ = some (.int .i64 r.env)
  c2 : w.cell? ⟨b, 2, none⟩ = some (.int .i64 r.x)
  c3 : w.cell? ⟨b, 3, none⟩ = some (.int .i64 r.y)
  c4 : w.cell? ⟨b, 4, none⟩ = some (.int .i64 r.w)
  c5 : w.cell? ⟨b, 5, none⟩ = some (.int .i64 r.h)
  c6 : w.cell? ⟨b, 6, none⟩ = some (.bool r.hid)
  f0 : w.frozen? ⟨b, 0, none⟩ = false
  f1 : w.frozen? ⟨b, 1, none⟩ = false
  f2 : w.frozen? ⟨b, 2, none⟩ = false
  f3 : w.frozen? ⟨b, 3, none⟩ = false
  f4 : w.frozen? ⟨b, 4, none⟩ = false
  f5 : w.frozen? ⟨b, 5, none⟩ = false
  f6 : w.frozen? ⟨b, 6, none⟩ = false

theorem NBox.lt {w : World} {b : Nat} {r : Wn} (h : NBox w b r) : b < w.heap.size := World.block_lt_of_cell? _ _ h.c0

theorem NBox.stay {T : Nat → Prop} {W w1 : World} {b : Nat} {r : Wn} (h : NBox W b r) (hs : Stay T W w1) (hn : ¬ T b) : NBox w1 b r := by
  have hb : b < W.heap.size := h.lt
  have c : ∀ o, w1.cell? ⟨b, o, none⟩ = W.cell? ⟨b, o, none⟩ := fun o => hs.cell (p := ⟨b, o, none⟩) hb hn
  have f : ∀ o, w1.frozen? ⟨b, o, none⟩ = W.frozen? ⟨b, o, none⟩ := fun o => hs.frozen (p := ⟨b, o, none⟩) hb hn
  exact ⟨(c 0).trans h.c0, (c 1).trans h.c1, (c 2).trans h.c2, (c 3).trans h.c3, (c 4).trans h.c4, (c 5).trans h.c5, (c 6).trans h.c6, (f 0).trans h.f0, (f 1).trans h.f1, (f 2).trans h.f2, (f 3).trans h.f3, (f 4).trans h.f4, (f 5).trans h.f5, (f 6).trans h.f6⟩

theorem NBox.keep {W w1 : World} {b : Nat} {r : Wn} (h : NBox W b r) (hs : Stay (fun _ => False) W w1) : NBox w1 b r := h.stay hs (fun h => h)

theorem NBox.alloc {w : World} {b : Nat} {r : Wn} (h : NBox w b r) (o : Obj) : NBox (w.alloc o) b r := h.keep ((Stay.refl _ _).alloc o)

theorem NBox.new {w : World} {b : Nat} (r : Wn) (h : w.heap.size = b) : NBox (w.alloc (.cells #[.int .i64 r.id, .int .i64 r.env, .int .i64 r.x, .int .i64 r.y, .int .i64 r.w, .int .i64 r.h, .bool r.hid] 78)) b r := by
  subst h
  constructor <;> simp

theorem NBox.cells {w : World} {b : Nat} {r : Wn} (h : NBox w b r) : ∀ (j : Nat) (v : Value), [Value.int .i64 r.id, .int .i64 r.env, .int .i64 r.x, .int .i64 r.y, .int .i64 r.w, .int .i64 r.h, .bool r.hid][j]? = some v → w.cell? ⟨b, 0 + j, none⟩ = some v := by
  intro j v hj
  match j, hj with
  | 0, hj => cases hj; exact h.c0
  | 1, hj => cases hj; exact h.c1
  | 2, hj => cases hj; exact h.c2
  | 3, hj => cases hj; exact h.c3
  | 4, hj => cases hj; exact h.c4
  | 5, hj => cases hj; exact h.c5
  | 6, hj => cases hj; exact h.c6

theorem results_NBox {fn : Func} {p : Tmp} (h : fn.results = #[.cell p 78]) (tmps : Array Value) (w : World) (g : Nat) (r : Wn) (hp : tmps.getD p undef = .pointer (some ⟨g, 0, none⟩)) (hb : NBox w g r) :
    (results fn tmps).run Try.prog w = .ok (.agg #[.int .i64 r.id, .int .i64 r.env, .int .i64 r.x, .int .i64 r.y, .int .i64 r.w, .int .i64 r.h, .bool r.hid]) w := results_cells h tmps w g 0 _ _ hp hb.cells Try.underlying78 rfl (by kernel_rfl)

/-- What a struct is behind a call, and nothing that was there has turned. -/
theorem NBox.ends {w W : World} {fn : Func} {p : Tmp} (h : fn.results = #[.cell p 78]) {tmps : Array Value} {r q : Wn} {g : Nat} (hp : tmps.getD p undef = .pointer (some ⟨g, 0, none⟩)) (hb : NBox W g r) (hq : r = q) (hs : Stay (fun _ => False) w W)
    {d : List Deferred} (hd : d = []) : bodyPost Try.prog fn (Gives (.agg #[.int .i64 q.id, .int .i64 q.env, .int .i64 q.x, .int .i64 q.y, .int .i64 q.w, .int .i64 q.h, .bool q.hid]) w) Exit.ret { tmps := tmps, defers := d } W := by
  subst hq hd
  exact bodyPost_ret (results_NBox h _ _ _ r hp hb) rfl ⟨rfl, hs⟩

/-- The world in which a box holds another one. -/
theorem NBox.put {w : World} {b : Nat} {r0 : Wn} (h : NBox w b r0) (r : Wn) : NBox (((((((w.setCell ⟨b, 0, none⟩ (.int .i64 r.id)).setCell ⟨b, 1, none⟩ (.int .i64 r.env)).setCell ⟨b, 2, none⟩ (.int .i64 r.x)).setCell ⟨b, 3, none⟩ (.int .i64 r.y)).setCell ⟨b, 4, none⟩ (.int .i64 r.w)).setCell ⟨b, 5, none⟩ (.int .i64 r.h)).setCell ⟨b, 6, none⟩ (.bool r.hid)) b r := by
  obtain ⟨h0, h1, h2, h3, h4, h5, h6, k0, k1, k2, k3, k4, k5, k6⟩ := h
  constructor <;> simp [go_sem, *]

theorem NBox.stay_put {S : Nat → Prop} {w w1 : World} {b : Nat} (h : Stay S w w1) (hb : w.heap.size ≤ b) (v0 v1 v2 v3 v4 v5 v6 : Value) : Stay S w (((((((w1.setCell ⟨b, 0, none⟩ v0).setCell ⟨b, 1, none⟩ v1).setCell ⟨b, 2, none⟩ v2).setCell ⟨b, 3, none⟩ v3).setCell ⟨b, 4, none⟩ v4).setCell ⟨b, 5, none⟩ v5).setCell ⟨b, 6, none⟩ v6) :=
  (((((((h.setNew hb v0).setNew hb v1).setNew hb v2).setNew hb v3).setNew hb v4).setNew hb v5).setNew hb v6)

theorem NBox.put0 {w : World} {b : Nat} {r : Wn} (h : NBox w b r) {x : Int} {q : Wn} (hq : q = ⟨x, r.env, r.x, r.y, r.w, r.h, r.hid⟩) : NBox (w.setCell ⟨b, 0, none⟩ (.int .i64 x)) b q := by
  subst hq
  obtain ⟨h0, h1, h2, h3, h4, h5, h6, k0, k1, k2, k3, k4, k5, k6⟩ := h
  constructor <;> simp [go_sem, *]

theorem NBox.put1 {w : World} {b : Nat} {r : Wn} (h : NBox w b r) {x : Int} {q : Wn} (hq : q = ⟨r.id, x, r.x, r.y, r.w, r.h, r.hid⟩) : NBox (w.setCell ⟨b, 1, none⟩ (.int .i64 x)) b q := by
  subst hq
  obtain ⟨h0, h1, h2, h3, h4, h5, h6, k0, k1, k2, k3, k4, k5, k6⟩ := h
  constructor <;> simp [go_sem, *]

theorem NBox.put2 {w : World} {b : Nat} {r : Wn} (h : NBox w b r) {x : Int} {q : Wn} (hq : q = ⟨r.id, r.env, x, r.y, r.w, r.h, r.hid⟩) : NBox (w.setCell ⟨b, 2, none⟩ (.int .i64 x)) b q := by
  subst hq
  obtain ⟨h0, h1, h2, h3, h4, h5, h6, k0, k1, k2, k3, k4, k5, k6⟩ := h
  constructor <;> simp [go_sem, *]

theorem NBox.put3 {w : World} {b : Nat} {r : Wn} (h : NBox w b r) {x : Int} {q : Wn} (hq : q = ⟨r.id, r.env, r.x, x, r.w, r.h, r.hid⟩) : NBox (w.setCell ⟨b, 3, none⟩ (.int .i64 x)) b q := by
  subst hq
  obtain ⟨h0, h1, h2, h3, h4, h5, h6, k0, k1, k2, k3, k4, k5, k6⟩ := h
  constructor <;> simp [go_sem, *]

theorem NBox.put4 {w : World} {b : Nat} {r : Wn} (h : NBox w b r) {x : Int} {q : Wn} (hq : q = ⟨r.id, r.env, r.x, r.y, x, r.h, r.hid⟩) : NBox (w.setCell ⟨b, 4, none⟩ (.int .i64 x)) b q := by
  subst hq
  obtain ⟨h0, h1, h2, h3, h4, h5, h6, k0, k1, k2, k3, k4, k5, k6⟩ := h
  constructor <;> simp [go_sem, *]

theorem NBox.put5 {w : World} {b : Nat} {r : Wn} (h : NBox w b r) {x : Int} {q : Wn} (hq : q = ⟨r.id, r.env, r.x, r.y, r.w, x, r.hid⟩) : NBox (w.setCell ⟨b, 5, none⟩ (.int .i64 x)) b q := by
  subst hq
  obtain ⟨h0, h1, h2, h3, h4, h5, h6, k0, k1, k2, k3, k4, k5, k6⟩ := h
  constructor <;> simp [go_sem, *]

theorem NBox.put6 {w : World} {b : Nat} {r : Wn} (h : NBox w b r) {x : Bool} {q : Wn} (hq : q = ⟨r.id, r.env, r.x, r.y, r.w, r.h, x⟩) : NBox (w.setCell ⟨b, 6, none⟩ (.bool x)) b q := by
  subst hq
  obtain ⟨h0, h1, h2, h3, h4, h5, h6, k0, k1, k2, k3, k4, k5, k6⟩ := h
  constructor <;> simp [go_sem, *]

theorem NBox.other {w : World} {b b' o : Nat} {r : Wn} {v : Value} (h : NBox w b r) (hb : b' ≠ b) : NBox (w.setCell ⟨b', o, none⟩ v) b r :=
  h.stay (T := fun k => k = b') ((Stay.refl (fun k => k = b') w).setCell (S := fun k => k = b') (p := ⟨b', o, none⟩) rfl v) (fun e => hb e.symm)

theorem run_load_NBox {a : Act} {o : Oper} {x : Operand} {w : World} {b : Nat} {r : Wn} (ho : o.op = .load 78 x) (hx : a.eval x = .pointer (some ⟨b, 0, none⟩)) (hb : NBox w b r) :
    (execOp a.eval o).run Try.prog w = .ok (.value (.agg #[.int .i64 r.id, .int .i64 r.env, .int .i64 r.x, .int .i64 r.y, .int .i64 r.w, .int .i64 r.h, .bool r.hid])) w := by
  unfold execOp
  simp only [ho, hx, Instr.loadAt, Instr.sureAddr, Sem.run_bind, Sem.run_pure, Result.andThen_ok]
  rw [run_loadVar_cells w b 0 78 _ _ hb.cells Try.underlying78 rfl (by kernel_rfl)]
  rfl

/-- One in the midst of a block. -/
structure NBoxAt (w : World) (g o : Nat) (r : Wn) : Prop where
  c0 : w.cell? ⟨g, o, none⟩ = some (.int .i64 r.id)
  c1 : w.cell? ⟨g, o + 1, none⟩ = some (.int .i64 r.env)
  c2 : w.cell? ⟨g, o + 2, none⟩ = some (.int .i64 r.x)
  c3 : w.cell? ⟨g, o + 3, none⟩ = some (.int .i64 r.y)
  c4 : w.cell? ⟨g, o + 4, none⟩ = some (.int .i64 r.w)
  c5 : w.cell? ⟨g, o + 5, none⟩ = some (.int .i64 r.h)
  c6 : w.cell? ⟨g, o + 6, none⟩ = some (.bool r.hid)

theorem NBoxAt.keep {W w1 : World} {g o : Nat} {r : Wn} (h : NBoxAt W g o r) (hs : Stay (fun _ => False) W w1) : NBoxAt w1 g o r := ⟨keep_cell hs h.c0, keep_cell hs h.c1, keep_cell hs h.c2, keep_cell hs h.c3, keep_cell hs h.c4, keep_cell hs h.c5, keep_cell hs h.c6⟩

theorem NBoxAt.cells {w : World} {g o : Nat} {r : Wn} (h : NBoxAt w g o r) : ∀ (j : Nat) (v : Value), [Value.int .i64 r.id, .int .i64 r.env, .int .i64 r.x, .int .i64 r.y, .int .i64 r.w, .int .i64 r.h, .bool r.hid][j]? = some v → w.cell? ⟨g, o + j, none⟩ = some v := by
  intro j v hj
  match j, hj with
  | 0, hj => cases hj; exact h.c0
  | 1, hj => cases hj; exact h.c1
  | 2, hj => cases hj; exact h.c2
  | 3, hj => cases hj; exact h.c3
  | 4, hj => cases hj; exact h.c4
  | 5, hj => cases hj; exact h.c5
  | 6, hj => cases hj; exact h.c6

theorem run_load_NBoxAt {a : Act} {p : Oper} {x : Operand} {w : World} {g o : Nat} {r : Wn} (ho : p.op = .load 78 x) (hx : a.eval x = .pointer (some ⟨g, o, none⟩)) (hb : NBoxAt w g o r) :
    (execOp a.eval p).run Try.prog w = .ok (.value (.agg #[.int .i64 r.id, .int .i64 r.env, .int .i64 r.x, .int .i64 r.y, .int .i64 r.w, .int .i64 r.h, .bool r.hid])) w := by
  unfold execOp
  simp only [ho, hx, Instr.loadAt, Instr.sureAddr, Sem.run_bind, Sem.run_pure, Result.andThen_ok]
  rw [run_loadVar_cells w g o 78 _ _ hb.cells Try.underlying78 rfl (by kernel_rfl)]
  rfl

/-- Kr, as a value. -/
structure Kr where
  x : Int
  y : Int
  w : Int
  h : Int
  v : Value
  m : Int

theorem Kr.same {a0 a1 a2 a3 a4 a5 : _} {r : Kr} (h : r.x = a0 ∧ r.y = a1 ∧ r.w = a2 ∧ r.h = a3 ∧ r.v = a4 ∧ r.m = a5) : r = ⟨a0, a1, a2, a3, a4, a5⟩ := by
  obtain ⟨rfl, rfl, rfl, rfl, rfl, rfl⟩ := h
  rfl

theorem Kr.ret {a b : Kr} (h : a = b) : Ending.returned (.agg #[.int .i64 a.x, .int .i64 a.y, .int .i64 a.w, .int .i64 a.h, a.v, .int .i64 a.m]) = .returned (.agg #[.int .i64 b.x, .int .i64 b.y, .int .i64 b.w, .int .i64 b.h, b.v, .int .i64 b.m]) := by rw [h]

/-- A box that holds a Kr. -/
structure KBox (w : World) (b : Nat) (r : Kr) : Prop where
  c0 : w.cell? ⟨b, 0, none⟩ = some (.int .i64 r.x)
  c1 : w.cell? ⟨b, 1, none⟩ = some (.int .i64 r.y)
  c2 : w.cell? ⟨b, 2, none⟩ = some (.int .i64 r.w)
  c3 : w.cell? ⟨b, 3, none⟩ = some (.int .i64 r.h)
  c4 : w.cell? ⟨b, 4, none⟩ = some (r.v)
  c5 : w.cell? ⟨b, 5, none⟩ = some (.int .i64 r.m)
  f0 : w.frozen? ⟨b, 0, none⟩ = false
  f1 : w.frozen? ⟨b, 1, none⟩ = false
  f2 : w.frozen? ⟨b, 2, none⟩ = false
  f3 : w.frozen? ⟨b, 3, none⟩ = false
  f4 : w.frozen? ⟨b, 4, none⟩ = false
  f5 : w.frozen? ⟨b, 5, none⟩ = false

theorem KBox.lt {w : World} {b : Nat} {r : Kr} (h : KBox w b r) : b < w.heap.size := World.block_lt_of_cell? _ _ h.c0

theorem KBox.stay {T : Nat → Prop} {W w1 : World} {b : Nat} {r : Kr} (h : KBox W b r) (hs : Stay T W w1) (hn : ¬ T b) : KBox w1 b r := by
  have hb : b < W.heap.size := h.lt
  have c : ∀ o, w1.cell? ⟨b, o, none⟩ = W.cell? ⟨b, o, none⟩ := fun o => hs.cell (p := ⟨b, o, none⟩) hb hn
  have f : ∀ o, w1.frozen? ⟨b, o, none⟩ = W.frozen? ⟨b, o, none⟩ := fun o => hs.frozen (p := ⟨b, o, none⟩) hb hn
  exact ⟨(c 0).trans h.c0, (c 1).trans h.c1, (c 2).trans h.c2, (c 3).trans h.c3, (c 4).trans h.c4, (c 5).trans h.c5, (f 0).trans h.f0, (f 1).trans h.f1, (f 2).trans h.f2, (f 3).trans h.f3, (f 4).trans h.f4, (f 5).trans h.f5⟩

theorem KBox.keep {W w1 : World} {b : Nat} {r : Kr} (h : KBox W b r) (hs : Stay (fun _ => False) W w1) : KBox w1 b r := h.stay hs (fun h => h)

theorem KBox.alloc {w : World} {b : Nat} {r : Kr} (h : KBox w b r) (o : Obj) : KBox (w.alloc o) b r := h.keep ((Stay.refl _ _).alloc o)

theorem KBox.new {w : World} {b : Nat} (r : Kr) (h : w.heap.size = b) : KBox (w.alloc (.cells #[.int .i64 r.x, .int .i64 r.y, .int .i64 r.w, .int .i64 r.h, r.v, .int .i64 r.m] 72)) b r := by
  subst h
  constructor <;> simp

theorem KBox.cells {w : World} {b : Nat} {r : Kr} (h : KBox w b r) : ∀ (j : Nat) (v : Value), [Value.int .i64 r.x, .int .i64 r.y, .int .i64 r.w, .int .i64 r.h, r.v, .int .i64 r.m][j]? = some v → w.cell? ⟨b, 0 + j, none⟩ = some v := by
  intro j v hj
  match j, hj with
  | 0, hj => cases hj; exact h.c0
  | 1, hj => cases hj; exact h.c1
  | 2, hj => cases hj; exact h.c2
  | 3, hj => cases hj; exact h.c3
  | 4, hj => cases hj; exact h.c4
  | 5, hj => cases hj; exact h.c5

theorem results_KBox {fn : Func} {p : Tmp} (h : fn.results = #[.cell p 72]) (tmps : Array Value) (w : World) (g : Nat) (r : Kr) (hp : tmps.getD p undef = .pointer (some ⟨g, 0, none⟩)) (hb : KBox w g r) :
    (results fn tmps).run Try.prog w = .ok (.agg #[.int .i64 r.x, .int .i64 r.y, .int .i64 r.w, .int .i64 r.h, r.v, .int .i64 r.m]) w := results_cells h tmps w g 0 _ _ hp hb.cells Try.underlying72 rfl (by kernel_rfl)

/-- What a struct is behind a call, and nothing that was there has turned. -/
theorem KBox.ends {w W : World} {fn : Func} {p : Tmp} (h : fn.results = #[.cell p 72]) {tmps : Array Value} {r q : Kr} {g : Nat} (hp : tmps.getD p undef = .pointer (some ⟨g, 0, none⟩)) (hb : KBox W g r) (hq : r = q) (hs : Stay (fun _ => False) w W)
    {d : List Deferred} (hd : d = []) : bodyPost Try.prog fn (Gives (.agg #[.int .i64 q.x, .int .i64 q.y, .int .i64 q.w, .int .i64 q.h, q.v, .int .i64 q.m]) w) Exit.ret { tmps := tmps, defers := d } W := by
  subst hq hd
  exact bodyPost_ret (results_KBox h _ _ _ r hp hb) rfl ⟨rfl, hs⟩

/-- The world in which a box holds another one. -/
theorem KBox.put {w : World} {b : Nat} {r0 : Kr} (h : KBox w b r0) (r : Kr) : KBox ((((((w.setCell ⟨b, 0, none⟩ (.int .i64 r.x)).setCell ⟨b, 1, none⟩ (.int .i64 r.y)).setCell ⟨b, 2, none⟩ (.int .i64 r.w)).setCell ⟨b, 3, none⟩ (.int .i64 r.h)).setCell ⟨b, 4, none⟩ (r.v)).setCell ⟨b, 5, none⟩ (.int .i64 r.m)) b r := by
  obtain ⟨h0, h1, h2, h3, h4, h5, k0, k1, k2, k3, k4, k5⟩ := h
  constructor <;> simp [go_sem, *]

theorem KBox.stay_put {S : Nat → Prop} {w w1 : World} {b : Nat} (h : Stay S w w1) (hb : w.heap.size ≤ b) (v0 v1 v2 v3 v4 v5 : Value) : Stay S w ((((((w1.setCell ⟨b, 0, none⟩ v0).setCell ⟨b, 1, none⟩ v1).setCell ⟨b, 2, none⟩ v2).setCell ⟨b, 3, none⟩ v3).setCell ⟨b, 4, none⟩ v4).setCell ⟨b, 5, none⟩ v5) :=
  ((((((h.setNew hb v0).setNew hb v1).setNew hb v2).setNew hb v3).setNew hb v4).setNew hb v5)

theorem KBox.put0 {w : World} {b : Nat} {r : Kr} (h : KBox w b r) {x : Int} {q : Kr} (hq : q = ⟨x, r.y, r.w, r.h, r.v, r.m⟩) : KBox (w.setCell ⟨b, 0, none⟩ (.int .i64 x)) b q := by
  subst hq
  obtain ⟨h0, h1, h2, h3, h4, h5, k0, k1, k2, k3, k4, k5⟩ := h
  constructor <;> simp [go_sem, *]

theorem KBox.put1 {w : World} {b : Nat} {r : Kr} (h : KBox w b r) {x : Int} {q : Kr} (hq : q = ⟨r.x, x, r.w, r.h, r.v, r.m⟩) : KBox (w.setCell ⟨b, 1, none⟩ (.int .i64 x)) b q := by
  subst hq
  obtain ⟨h0, h1, h2, h3, h4, h5, k0, k1, k2, k3, k4, k5⟩ := h
  constructor <;> simp [go_sem, *]

theorem KBox.put2 {w : World} {b : Nat} {r : Kr} (h : KBox w b r) {x : Int} {q : Kr} (hq : q = ⟨r.x, r.y, x, r.h, r.v, r.m⟩) : KBox (w.setCell ⟨b, 2, none⟩ (.int .i64 x)) b q := by
  subst hq
  obtain ⟨h0, h1, h2, h3, h4, h5, k0, k1, k2, k3, k4, k5⟩ := h
  constructor <;> simp [go_sem, *]

theorem KBox.put3 {w : World} {b : Nat} {r : Kr} (h : KBox w b r) {x : Int} {q : Kr} (hq : q = ⟨r.x, r.y, r.w, x, r.v, r.m⟩) : KBox (w.setCell ⟨b, 3, none⟩ (.int .i64 x)) b q := by
  subst hq
  obtain ⟨h0, h1, h2, h3, h4, h5, k0, k1, k2, k3, k4, k5⟩ := h
  constructor <;> simp [go_sem, *]

theorem KBox.put4 {w : World} {b : Nat} {r : Kr} (h : KBox w b r) {x : Value} {q : Kr} (hq : q = ⟨r.x, r.y, r.w, r.h, x, r.m⟩) : KBox (w.setCell ⟨b, 4, none⟩ (x)) b q := by
  subst hq
  obtain ⟨h0, h1, h2, h3, h4, h5, k0, k1, k2, k3, k4, k5⟩ := h
  constructor <;> simp [go_sem, *]

theorem KBox.put5 {w : World} {b : Nat} {r : Kr} (h : KBox w b r) {x : Int} {q : Kr} (hq : q = ⟨r.x, r.y, r.w, r.h, r.v, x⟩) : KBox (w.setCell ⟨b, 5, none⟩ (.int .i64 x)) b q := by
  subst hq
  obtain ⟨h0, h1, h2, h3, h4, h5, k0, k1, k2, k3, k4, k5⟩ := h
  constructor <;> simp [go_sem, *]

theorem KBox.other {w : World} {b b' o : Nat} {r : Kr} {v : Value} (h : KBox w b r) (hb : b' ≠ b) : KBox (w.setCell ⟨b', o, none⟩ v) b r :=
  h.stay (T := fun k => k = b') ((Stay.refl (fun k => k = b') w).setCell (S := fun k => k = b') (p := ⟨b', o, none⟩) rfl v) (fun e => hb e.symm)

theorem run_load_KBox {a : Act} {o : Oper} {x : Operand} {w : World} {b : Nat} {r : Kr} (ho : o.op = .load 72 x) (hx : a.eval x = .pointer (some ⟨b, 0, none⟩)) (hb : KBox w b r) :
    (execOp a.eval o).run Try.prog w = .ok (.value (.agg #[.int .i64 r.x, .int .i64 r.y, .int .i64 r.w, .int .i64 r.h, r.v, .int .i64 r.m])) w := by
  unfold execOp
  simp only [ho, hx, Instr.loadAt, Instr.sureAddr, Sem.run_bind, Sem.run_pure, Result.andThen_ok]
  rw [run_loadVar_cells w b 0 72 _ _ hb.cells Try.underlying72 rfl (by kernel_rfl)]
  rfl

/-- One in the midst of a block. -/
structure KBoxAt (w : World) (g o : Nat) (r : Kr) : Prop where
  c0 : w.cell? ⟨g, o, none⟩ = some (.int .i64 r.x)
  c1 : w.cell? ⟨g, o + 1, none⟩ = some (.int .i64 r.y)
  c2 : w.cell? ⟨g, o + 2, none⟩ = some (.int .i64 r.w)
  c3 : w.cell? ⟨g, o + 3, none⟩ = some (.int .i64 r.h)
  c4 : w.cell? ⟨g, o + 4, none⟩ = some (r.v)
  c5 : w.cell? ⟨g, o + 5, none⟩ = some (.int .i64 r.m)

theorem KBoxAt.keep {W w1 : World} {g o : Nat} {r : Kr} (h : KBoxAt W g o r) (hs : Stay (fun _ => False) W w1) : KBoxAt w1 g o r := ⟨keep_cell hs h.c0, keep_cell hs h.c1, keep_cell hs h.c2, keep_cell hs h.c3, keep_cell hs h.c4, keep_cell hs h.c5⟩

theorem KBoxAt.cells {w : World} {g o : Nat} {r : Kr} (h : KBoxAt w g o r) : ∀ (j : Nat) (v : Value), [Value.int .i64 r.x, .int .i64 r.y, .int .i64 r.w, .int .i64 r.h, r.v, .int .i64 r.m][j]? = some v → w.cell? ⟨g, o + j, none⟩ = some v := by
  intro j v hj
  match j, hj with
  | 0, hj => cases hj; exact h.c0
  | 1, hj => cases hj; exact h.c1
  | 2, hj => cases hj; exact h.c2
  | 3, hj => cases hj; exact h.c3
  | 4, hj => cases hj; exact h.c4
  | 5, hj => cases hj; exact h.c5

theorem run_load_KBoxAt {a : Act} {p : Oper} {x : Operand} {w : World} {g o : Nat} {r : Kr} (ho : p.op = .load 72 x) (hx : a.eval x = .pointer (some ⟨g, o, none⟩)) (hb : KBoxAt w g o r) :
    (execOp a.eval p).run Try.prog w = .ok (.value (.agg #[.int .i64 r.x, .int .i64 r.y, .int .i64 r.w, .int .i64 r.h, r.v, .int .i64 r.m])) w := by
  unfold execOp
  simp only [ho, hx, Instr.loadAt, Instr.sureAddr, Sem.run_bind, Sem.run_pure, Result.andThen_ok]
  rw [run_loadVar_cells w g o 72 _ _ hb.cells Try.underlying72 rfl (by kernel_rfl)]
  rfl

/-- Ac, as a value. -/
structure Ac where
  d : Int
  e : Int
  i : Int
  x : Int
  y : Int
  w : Int
  h : Int

theorem Ac.same {a0 a1 a2 a3 a4 a5 a6 : _} {r : Ac} (h : r.d = a0 ∧ r.e = a1 ∧ r.i = a2 ∧ r.x = a3 ∧ r.y = a4 ∧ r.w = a5 ∧ r.h = a6) : r = ⟨a0, a1, a2, a3, a4, a5, a6⟩ := by
  obtain ⟨rfl, rfl, rfl, rfl, rfl, rfl, rfl⟩ := h
  rfl

theorem Ac.ret {a b : Ac} (h : a = b) : Ending.returned (.agg #[.int .i64 a.d, .int .i64 a.e, .int .i64 a.i, .int .i64 a.x, .int .i64 a.y, .int .i64 a.w, .int .i64 a.h]) = .returned (.agg #[.int .i64 b.d, .int .i64 b.e, .int .i64 b.i, .int .i64 b.x, .int .i64 b.y, .int .i64 b.w, .int .i64 b.h]) := by rw [h]

/-- A box that holds a Ac. -/
structure ABox (w : World) (b : Nat) (r : Ac) : Prop where
  c0 : w.cell? ⟨b, 0, none⟩ = some (.int .i64 r.d)
  c1 : w.cell? ⟨b, 1, none⟩ = some (.int .i64 r.e)
  c2 : w.cell? ⟨b, 2, none⟩ = some (.int .i64 r.i)
  c3 : w.cell? ⟨b, 3, none⟩ = some (.int .i64 r.x)
  c4 : w.cell? ⟨b, 4, none⟩ = some (.int .i64 r.y)
  c5 : w.cell? ⟨b, 5, none⟩ = some (.int .i64 r.w)
  c6 : w.cell? ⟨b, 6, none⟩ = some (.int .i64 r.h)
  f0 : w.frozen? ⟨b, 0, none⟩ = false
  f1 : w.frozen? ⟨b, 1, none⟩ = false
  f2 : w.frozen? ⟨b, 2, none⟩ = false
  f3 : w.frozen? ⟨b, 3, none⟩ = false
  f4 : w.frozen? ⟨b, 4, none⟩ = false
  f5 : w.frozen? ⟨b, 5, none⟩ = false
  f6 : w.frozen? ⟨b, 6, none⟩ = false

theorem ABox.lt {w : World} {b : Nat} {r : Ac} (h : ABox w b r) : b < w.heap.size := World.block_lt_of_cell? _ _ h.c0

theorem ABox.stay {T : Nat → Prop} {W w1 : World} {b : Nat} {r : Ac} (h : ABox W b r) (hs : Stay T W w1) (hn : ¬ T b) : ABox w1 b r := by
  have hb : b < W.heap.size := h.lt
  have c : ∀ o, w1.cell? ⟨b, o, none⟩ = W.cell? ⟨b, o, none⟩ := fun o => hs.cell (p := ⟨b, o, none⟩) hb hn
  have f : ∀ o, w1.frozen? ⟨b, o, none⟩ = W.frozen? ⟨b, o, none⟩ := fun o => hs.frozen (p := ⟨b, o, none⟩) hb hn
  exact ⟨(c 0).trans h.c0, (c 1).trans h.c1, (c 2).trans h.c2, (c 3).trans h.c3, (c 4).trans h.c4, (c 5).trans h.c5, (c 6).trans h.c6, (f 0).trans h.f0, (f 1).trans h.f1, (f 2).trans h.f2, (f 3).trans h.f3, (f 4).trans h.f4, (f 5).trans h.f5, (f 6).trans h.f6⟩

theorem ABox.keep {W w1 : World} {b : Nat} {r : Ac} (h : ABox W b r) (hs : Stay (fun _ => False) W w1) : ABox w1 b r := h.stay hs (fun h => h)

theorem ABox.alloc {w : World} {b : Nat} {r : Ac} (h : ABox w b r) (o : Obj) : ABox (w.alloc o) b r := h.keep ((Stay.refl _ _).alloc o)

theorem ABox.new {w : World} {b : Nat} (r : Ac) (h : w.heap.size = b) : ABox (w.alloc (.cells #[.int .i64 r.d, .int .i64 r.e, .int .i64 r.i, .int .i64 r.x, .int .i64 r.y, .int .i64 r.w, .int .i64 r.h] 74)) b r := by
  subst h
  constructor <;> simp

theorem ABox.cells {w : World} {b : Nat} {r : Ac} (h : ABox w b r) : ∀ (j : Nat) (v : Value), [Value.int .i64 r.d, .int .i64 r.e, .int .i64 r.i, .int .i64 r.x, .int .i64 r.y, .int .i64 r.w, .int .i64 r.h][j]? = some v → w.cell? ⟨b, 0 + j, none⟩ = some v := by
  intro j v hj
  match j, hj with
  | 0, hj => cases hj; exact h.c0
  | 1, hj => cases hj; exact h.c1
  | 2, hj => cases hj; exact h.c2
  | 3, hj => cases hj; exact h.c3
  | 4, hj => cases hj; exact h.c4
  | 5, hj => cases hj; exact h.c5
  | 6, hj => cases hj; exact h.c6

theorem results_ABox {fn : Func} {p : Tmp} (h : fn.results = #[.cell p 74]) (tmps : Array Value) (w : World) (g : Nat) (r : Ac) (hp : tmps.getD p undef = .pointer (some ⟨g, 0, none⟩)) (hb : ABox w g r) :
    (results fn tmps).run Try.prog w = .ok (.agg #[.int .i64 r.d, .int .i64 r.e, .int .i64 r.i, .int .i64 r.x, .int .i64 r.y, .int .i64 r.w, .int .i64 r.h]) w := results_cells h tmps w g 0 _ _ hp hb.cells Try.underlying74 rfl (by kernel_rfl)

/-- What a struct is behind a call, and nothing that was there has turned. -/
theorem ABox.ends {w W : World} {fn : Func} {p : Tmp} (h : fn.results = #[.cell p 74]) {tmps : Array Value} {r q : Ac} {g : Nat} (hp : tmps.getD p undef = .pointer (some ⟨g, 0, none⟩)) (hb : ABox W g r) (hq : r = q) (hs : Stay (fun _ => False) w W)
    {d : List Deferred} (hd : d = []) : bodyPost Try.prog fn (Gives (.agg #[.int .i64 q.d, .int .i64 q.e, .int .i64 q.i, .int .i64 q.x, .int .i64 q.y, .int .i64 q.w, .int .i64 q.h]) w) Exit.ret { tmps := tmps, defers := d } W := by
  subst hq hd
  exact bodyPost_ret (results_ABox h _ _ _ r hp hb) rfl ⟨rfl, hs⟩

/-- The world in which a box holds another one. -/
theorem ABox.put {w : World} {b : Nat} {r0 : Ac} (h : ABox w b r0) (r : Ac) : ABox (((((((w.setCell ⟨b, 0, none⟩ (.int .i64 r.d)).setCell ⟨b, 1, none⟩ (.int .i64 r.e)).setCell ⟨b, 2, none⟩ (.int .i64 r.i)).setCell ⟨b, 3, none⟩ (.int .i64 r.x)).setCell ⟨b, 4, none⟩ (.int .i64 r.y)).setCell ⟨b, 5, none⟩ (.int .i64 r.w)).setCell ⟨b, 6, none⟩ (.int .i64 r.h)) b r := by
  obtain ⟨h0, h1, h2, h3, h4, h5, h6, k0, k1, k2, k3, k4, k5, k6⟩ := h
  constructor <;> simp [go_sem, *]

theorem ABox.stay_put {S : Nat → Prop} {w w1 : World} {b : Nat} (h : Stay S w w1) (hb : w.heap.size ≤ b) (v0 v1 v2 v3 v4 v5 v6 : Value) : Stay S w (((((((w1.setCell ⟨b, 0, none⟩ v0).setCell ⟨b, 1, none⟩ v1).setCell ⟨b, 2, none⟩ v2).setCell ⟨b, 3, none⟩ v3).setCell ⟨b, 4, none⟩ v4).setCell ⟨b, 5, none⟩ v5).setCell ⟨b, 6, none⟩ v6) :=
  (((((((h.setNew hb v0).setNew hb v1).setNew hb v2).setNew hb v3).setNew hb v4).setNew hb v5).setNew hb v6)

theorem ABox.put0 {w : World} {b : Nat} {r : Ac} (h : ABox w b r) {x : Int} {q : Ac} (hq : q = ⟨x, r.e, r.i, r.x, r.y, r.w, r.h⟩) : ABox (w.setCell ⟨b, 0, none⟩ (.int .i64 x)) b q := by
  subst hq
  obtain ⟨h0, h1, h2, h3, h4, h5, h6, k0, k1, k2, k3, k4, k5, k6⟩ := h
  constructor <;> simp [go_sem, *]

theorem ABox.put1 {w : World} {b : Nat} {r : Ac} (h : ABox w b r) {x : Int} {q : Ac} (hq : q = ⟨r.d, x, r.i, r.x, r.y, r.w, r.h⟩) : ABox (w.setCell ⟨b, 1, none⟩ (.int .i64 x)) b q := by
  subst hq
  obtain ⟨h0, h1, h2, h3, h4, h5, h6, k0, k1, k2, k3, k4, k5, k6⟩ := h
  constructor <;> simp [go_sem, *]

theorem ABox.put2 {w : World} {b : Nat} {r : Ac} (h : ABox w b r) {x : Int} {q : Ac} (hq : q = ⟨r.d, r.e, x, r.x, r.y, r.w, r.h⟩) : ABox (w.setCell ⟨b, 2, none⟩ (.int .i64 x)) b q := by
  subst hq
  obtain ⟨h0, h1, h2, h3, h4, h5, h6, k0, k1, k2, k3, k4, k5, k6⟩ := h
  constructor <;> simp [go_sem, *]

theorem ABox.put3 {w : World} {b : Nat} {r : Ac} (h : ABox w b r) {x : Int} {q : Ac} (hq : q = ⟨r.d, r.e, r.i, x, r.y, r.w, r.h⟩) : ABox (w.setCell ⟨b, 3, none⟩ (.int .i64 x)) b q := by
  subst hq
  obtain ⟨h0, h1, h2, h3, h4, h5, h6, k0, k1, k2, k3, k4, k5, k6⟩ := h
  constructor <;> simp [go_sem, *]

theorem ABox.put4 {w : World} {b : Nat} {r : Ac} (h : ABox w b r) {x : Int} {q : Ac} (hq : q = ⟨r.d, r.e, r.i, r.x, x, r.w, r.h⟩) : ABox (w.setCell ⟨b, 4, none⟩ (.int .i64 x)) b q := by
  subst hq
  obtain ⟨h0, h1, h2, h3, h4, h5, h6, k0, k1, k2, k3, k4, k5, k6⟩ := h
  constructor <;> simp [go_sem, *]

theorem ABox.put5 {w : World} {b : Nat} {r : Ac} (h : ABox w b r) {x : Int} {q : Ac} (hq : q = ⟨r.d, r.e, r.i, r.x, r.y, x, r.h⟩) : ABox (w.setCell ⟨b, 5, none⟩ (.int .i64 x)) b q := by
  subst hq
  obtain ⟨h0, h1, h2, h3, h4, h5, h6, k0, k1, k2, k3, k4, k5, k6⟩ := h
  constructor <;> simp [go_sem, *]

theorem ABox.put6 {w : World} {b : Nat} {r : Ac} (h : ABox w b r) {x : Int} {q : Ac} (hq : q = ⟨r.d, r.e, r.i, r.x, r.y, r.w, x⟩) : ABox (w.setCell ⟨b, 6, none⟩ (.int .i64 x)) b q := by
  subst hq
  obtain ⟨h0, h1, h2, h3, h4, h5, h6, k0, k1, k2, k3, k4, k5, k6⟩ := h
  constructor <;> simp [go_sem, *]

theorem ABox.other {w : World} {b b' o : Nat} {r : Ac} {v : Value} (h : ABox w b r) (hb : b' ≠ b) : ABox (w.setCell ⟨b', o, none⟩ v) b r :=
  h.stay (T := fun k => k = b') ((Stay.refl (fun k => k = b') w).setCell (S := fun k => k = b') (p := ⟨b', o, none⟩) rfl v) (fun e => hb e.symm)

theorem run_load_ABox {a : Act} {o : Oper} {x : Operand} {w : World} {b : Nat} {r : Ac} (ho : o.op = .load 74 x) (hx : a.eval x = .pointer (some ⟨b, 0, none⟩)) (hb : ABox w b r) :
    (execOp a.eval o).run Try.prog w = .ok (.value (.agg #[.int .i64 r.d, .int .i64 r.e, .int .i64 r.i, .int .i64 r.x, .int .i64 r.y, .int .i64 r.w, .int .i64 r.h])) w := by
  unfold execOp
  simp only [ho, hx, Instr.loadAt, Instr.sureAddr, Sem.run_bind, Sem.run_pure, Result.andThen_ok]
  rw [run_loadVar_cells w b 0 74 _ _ hb.cells Try.underlying74 rfl (by kernel_rfl)]
  rfl

/-- One in the midst of a block. -/
structure ABoxAt (w : World) (g o : Nat) (r : Ac) : Prop where
  c0 : w.cell? ⟨g, o, none⟩ = some (.int .i64 r.d)
  c1 : w.cell? ⟨g, o + 1, none⟩ = some (.int .i64 r.e)
  c2 : w.cell? ⟨g, o + 2, none⟩ = some (.int .i64 r.i)
  c3 : w.cell? ⟨g, o + 3, none⟩ = some (.int .i64 r.x)
  c4 : w.cell? ⟨g, o + 4, none⟩ = some (.int .i64 r.y)
  c5 : w.cell? ⟨g, o + 5, none⟩ = some (.int .i64 r.w)
  c6 : w.cell? ⟨g, o + 6, none⟩ = some (.int .i64 r.h)

theorem ABoxAt.keep {W w1 : World} {g o : Nat} {r : Ac} (h : ABoxAt W g o r) (hs : Stay (fun _ => False) W w1) : ABoxAt w1 g o r := ⟨keep_cell hs h.c0, keep_cell hs h.c1, keep_cell hs h.c2, keep_cell hs h.c3, keep_cell hs h.c4, keep_cell hs h.c5, keep_cell hs h.c6⟩

theorem ABoxAt.cells {w : World} {g o : Nat} {r : Ac} (h : ABoxAt w g o r) : ∀ (j : Nat) (v : Value), [Value.int .i64 r.d, .int .i64 r.e, .int .i64 r.i, .int .i64 r.x, .int .i64 r.y, .int .i64 r.w, .int .i64 r.h][j]? = some v → w.cell? ⟨g, o + j, none⟩ = some v := by
  intro j v hj
  match j, hj with
  | 0, hj => cases hj; exact h.c0
  | 1, hj => cases hj; exact h.c1
  | 2, hj => cases hj; exact h.c2
  | 3, hj => cases hj; exact h.c3
  | 4, hj => cases hj; exact h.c4
  | 5, hj => cases hj; exact h.c5
  | 6, hj => cases hj; exact h.c6

theorem run_load_ABoxAt {a : Act} {p : Oper} {x : Operand} {w : World} {g o : Nat} {r : Ac} (ho : p.op = .load 74 x) (hx : a.eval x = .pointer (some ⟨g, o, none⟩)) (hb : ABoxAt w g o r) :
    (execOp a.eval p).run Try.prog w = .ok (.value (.agg #[.int .i64 r.d, .int .i64 r.e, .int .i64 r.i, .int .i64 r.x, .int .i64 r.y, .int .i64 r.w, .int .i64 r.h])) w := by
  unfold execOp
  simp only [ho, hx, Instr.loadAt, Instr.sureAddr, Sem.run_bind, Sem.run_pure, Result.andThen_ok]
  rw [run_loadVar_cells w g o 74 _ _ hb.cells Try.underlying74 rfl (by kernel_rfl)]
  rfl

/-- Dr, as a value. -/
structure Dr where
  d : Int
  i : Int
  x : Int
  y : Int
  p : Int
  q : Int
  w : Int
  h : Int
  l : Value

theorem Dr.same {a0 a1 a2 a3 a4 a5 a6 a7 a8 : _} {r : Dr} (h : r.d = a0 ∧ r.i = a1 ∧ r.x = a2 ∧ r.y = a3 ∧ r.p = a4 ∧ r.q = a5 ∧ r.w = a6 ∧ r.h = a7 ∧ r.l = a8) : r = ⟨a0, a1, a2, a3, a4, a5, a6, a7, a8⟩ := by
  obtain ⟨rfl, rfl, rfl, rfl, rfl, rfl, rfl, rfl, rfl⟩ := h
  rfl

theorem Dr.ret {a b : Dr} (h : a = b) : Ending.returned (.agg #[.int .i64 a.d, .int .i64 a.i, .int .i64 a.x, .int .i64 a.y, .int .i64 a.p, .int .i64 a.q, .int .i64 a.w, .int .i64 a.h, a.l]) = .returned (.agg #[.int .i64 b.d, .int .i64 b.i, .int .i64 b.x, .int .i64 b.y, .int .i64 b.p, .int .i64 b.q, .int .i64 b.w, .int .i64 b.h, b.l]) := by rw [h]

/-- A box that holds a Dr. -/
structure DBox (w : World) (b : Nat) (r : Dr) : Prop where
  c0 : w.cell? ⟨b, 0, none⟩ = some (.int .i64 r.d)
  c1 : w.cell? ⟨b, 1, none⟩ = some (.int .i64 r.i)
  c2 : w.cell? ⟨b, 2, none⟩ = some (.int .i64 r.x)
  c3 : w.cell? ⟨b, 3, none⟩ = some (.int .i64 r.y)
  c4 : w.cell? ⟨b, 4, none⟩ = some (.int .i64 r.p)
  c5 : w.cell? ⟨b, 5, none⟩ = some (.int .i64 r.q)
  c6 : w.cell? ⟨b, 6, none⟩ = some (.int .i64 r.w)
  c7 : w.cell? ⟨b, 7, none⟩ = some (.int .i64 r.h)
  c8 : w.cell? ⟨b, 8, none⟩ = some (r.l)
  f0 : w.frozen? ⟨b, 0, none⟩ = false
  f1 : w.frozen? ⟨b, 1, none⟩ = false
  f2 : w.frozen? ⟨b, 2, none⟩ = false
  f3 : w.frozen? ⟨b, 3, none⟩ = false
  f4 : w.frozen? ⟨b, 4, none⟩ = false
  f5 : w.frozen? ⟨b, 5, none⟩ = false
  f6 : w.frozen? ⟨b, 6, none⟩ = false
  f7 : w.frozen? ⟨b, 7, none⟩ = false
  f8 : w.frozen? ⟨b, 8, none⟩ = false

theorem DBox.lt {w : World} {b : Nat} {r : Dr} (h : DBox w b r) : b < w.heap.size := World.block_lt_of_cell? _ _ h.c0

theorem DBox.stay {T : Nat → Prop} {W w1 : World} {b : Nat} {r : Dr} (h : DBox W b r) (hs : Stay T W w1) (hn : ¬ T b) : DBox w1 b r := by
  have hb : b < W.heap.size := h.lt
  have c : ∀ o, w1.cell? ⟨b, o, none⟩ = W.cell? ⟨b, o, none⟩ := fun o => hs.cell (p := ⟨b, o, none⟩) hb hn
  have f : ∀ o, w1.frozen? ⟨b, o, none⟩ = W.frozen? ⟨b, o, none⟩ := fun o => hs.frozen (p := ⟨b, o, none⟩) hb hn
  exact ⟨(c 0).trans h.c0, (c 1).trans h.c1, (c 2).trans h.c2, (c 3).trans h.c3, (c 4).trans h.c4, (c 5).trans h.c5, (c 6).trans h.c6, (c 7).trans h.c7, (c 8).trans h.c8, (f 0).trans h.f0, (f 1).trans h.f1, (f 2).trans h.f2, (f 3).trans h.f3, (f 4).trans h.f4, (f 5).trans h.f5, (f 6).trans h.f6, (f 7).trans h.f7, (f 8).trans h.f8⟩

theorem DBox.keep {W w1 : World} {b : Nat} {r : Dr} (h : DBox W b r) (hs : Stay (fun _ => False) W w1) : DBox w1 b r := h.stay hs (fun h => h)

theorem DBox.alloc {w : World} {b : Nat} {r : Dr} (h : DBox w b r) (o : Obj) : DBox (w.alloc o) b r := h.keep ((Stay.refl _ _).alloc o)

theorem DBox.new {w : World} {b : Nat} (r : Dr) (h : w.heap.size = b) : DBox (w.alloc (.cells #[.int .i64 r.d, .int .i64 r.i, .int .i64 r.x, .int .i64 r.y, .int .i64 r.p, .int .i64 r.q, .int .i64 r.w, .int .i64 r.h, r.l] 43)) b r := by
  subst h
  constructor <;> simp

theorem DBox.cells {w : World} {b : Nat} {r : Dr} (h : DBox w b r) : ∀ (j : Nat) (v : Value), [Value.int .i64 r.d, .int .i64 r.i, .int .i64 r.x, .int .i64 r.y, .int .i64 r.p, .int .i64 r.q, .int .i64 r.w, .int .i64 r.h, r.l][j]? = some v → w.cell? ⟨b, 0 + j, none⟩ = some v := by
  intro j v hj
  match j, hj with
  | 0, hj => cases hj; exact h.c0
  | 1, hj => cases hj; exact h.c1
  | 2, hj => cases hj; exact h.c2
  | 3, hj => cases hj; exact h.c3
  | 4, hj => cases hj; exact h.c4
  | 5, hj => cases hj; exact h.c5
  | 6, hj => cases hj; exact h.c6
  | 7, hj => cases hj; exact h.c7
  | 8, hj => cases hj; exact h.c8

theorem results_DBox {fn : Func} {p : Tmp} (h : fn.results = #[.cell p 43]) (tmps : Array Value) (w : World) (g : Nat) (r : Dr) (hp : tmps.getD p undef = .pointer (some ⟨g, 0, none⟩)) (hb : DBox w g r) :
    (results fn tmps).run Try.prog w = .ok (.agg #[.int .i64 r.d, .int .i64 r.i, .int .i64 r.x, .int .i64 r.y, .int .i64 r.p, .int .i64 r.q, .int .i64 r.w, .int .i64 r.h, r.l]) w := results_cells h tmps w g 0 _ _ hp hb.cells Try.underlying43 rfl (by kernel_rfl)

/-- What a struct is behind a call, and nothing that was there has turned. -/
theorem DBox.ends {w W : World} {fn : Func} {p : Tmp} (h : fn.results = #[.cell p 43]) {tmps : Array Value} {r q : Dr} {g : Nat} (hp : tmps.getD p undef = .pointer (some ⟨g, 0, none⟩)) (hb : DBox W g r) (hq : r = q) (hs : Stay (fun _ => False) w W)
    {d : List Deferred} (hd : d = []) : bodyPost Try.prog fn (Gives (.agg #[.int .i64 q.d, .int .i64 q.i, .int .i64 q.x, .int .i64 q.y, .int .i64 q.p, .int .i64 q.q, .int .i64 q.w, .int .i64 q.h, q.l]) w) Exit.ret { tmps := tmps, defers := d } W := by
  subst hq hd
  exact bodyPost_ret (results_DBox h _ _ _ r hp hb) rfl ⟨rfl, hs⟩

/-- The world in which a box holds another one. -/
theorem DBox.put {w : World} {b : Nat} {r0 : Dr} (h : DBox w b r0) (r : Dr) : DBox (((((((((w.setCell ⟨b, 0, none⟩ (.int .i64 r.d)).setCell ⟨b, 1, none⟩ (.int .i64 r.i)).setCell ⟨b, 2, none⟩ (.int .i64 r.x)).setCell ⟨b, 3, none⟩ (.int .i64 r.y)).setCell ⟨b, 4, none⟩ (.int .i64 r.p)).setCell ⟨b, 5, none⟩ (.int .i64 r.q)).setCell ⟨b, 6, none⟩ (.int .i64 r.w)).setCell ⟨b, 7, none⟩ (.int .i64 r.h)).setCell ⟨b, 8, none⟩ (r.l)) b r := by
  obtain ⟨h0, h1, h2, h3, h4, h5, h6, h7, h8, k0, k1, k2, k3, k4, k5, k6, k7, k8⟩ := h
  constructor <;> simp [go_sem, *]

theorem DBox.stay_put {S : Nat → Prop} {w w1 : World} {b : Nat} (h : Stay S w w1) (hb : w.heap.size ≤ b) (v0 v1 v2 v3 v4 v5 v6 v7 v8 : Value) : Stay S w (((((((((w1.setCell ⟨b, 0, none⟩ v0).setCell ⟨b, 1, none⟩ v1).setCell ⟨b, 2, none⟩ v2).setCell ⟨b, 3, none⟩ v3).setCell ⟨b, 4, none⟩ v4).setCell ⟨b, 5, none⟩ v5).setCell ⟨b, 6, none⟩ v6).setCell ⟨b, 7, none⟩ v7).setCell ⟨b, 8, none⟩ v8) :=
  (((((((((h.setNew hb v0).setNew hb v1).setNew hb v2).setNew hb v3).setNew hb v4).setNew hb v5).setNew hb v6).setNew hb v7).setNew hb v8)

theorem DBox.put0 {w : World} {b : Nat} {r : Dr} (h : DBox w b r) {x : Int} {q : Dr} (hq : q = ⟨x, r.i, r.x, r.y, r.p, r.q, r.w, r.h, r.l⟩) : DBox (w.setCell ⟨b, 0, none⟩ (.int .i64 x)) b q := by
  subst hq
  obtain ⟨h0, h1, h2, h3, h4, h5, h6, h7, h8, k0, k1, k2, k3, k4, k5, k6, k7, k8⟩ := h
  constructor <;> simp [go_sem, *]

theorem DBox.put1 {w : World} {b : Nat} {r : Dr} (h : DBox w b r) {x : Int} {q : Dr} (hq : q = ⟨r.d, x, r.x, r.y, r.p, r.q, r.w, r.h, r.l⟩) : DBox (w.setCell ⟨b, 1, none⟩ (.int .i64 x)) b q := by
  subst hq
  obtain ⟨h0, h1, h2, h3, h4, h5, h6, h7, h8, k0, k1, k2, k3, k4, k5, k6, k7, k8⟩ := h
  constructor <;> simp [go_sem, *]

theorem DBox.put2 {w : World} {b : Nat} {r : Dr} (h : DBox w b r) {x : Int} {q : Dr} (hq : q = ⟨r.d, r.i, x, r.y, r.p, r.q, r.w, r.h, r.l⟩) : DBox (w.setCell ⟨b, 2, none⟩ (.int .i64 x)) b q := by
  subst hq
  obtain ⟨h0, h1, h2, h3, h4, h5, h6, h7, h8, k0, k1, k2, k3, k4, k5, k6, k7, k8⟩ := h
  constructor <;> simp [go_sem, *]

theorem DBox.put3 {w : World} {b : Nat} {r : Dr} (h : DBox w b r) {x : Int} {q : Dr} (hq : q = ⟨r.d, r.i, r.x, x, r.p, r.q, r.w, r.h, r.l⟩) : DBox (w.setCell ⟨b, 3, none⟩ (.int .i64 x)) b q := by
  subst hq
  obtain ⟨h0, h1, h2, h3, h4, h5, h6, h7, h8, k0, k1, k2, k3, k4, k5, k6, k7, k8⟩ := h
  constructor <;> simp [go_sem, *]

theorem DBox.put4 {w : World} {b : Nat} {r : Dr} (h : DBox w b r) {x : Int} {q : Dr} (hq : q = ⟨r.d, r.i, r.x, r.y, x, r.q, r.w, r.h, r.l⟩) : DBox (w.setCell ⟨b, 4, none⟩ (.int .i64 x)) b q := by
  subst hq
  obtain ⟨h0, h1, h2, h3, h4, h5, h6, h7, h8, k0, k1, k2, k3, k4, k5, k6, k7, k8⟩ := h
  constructor <;> simp [go_sem, *]

theorem DBox.put5 {w : World} {b : Nat} {r : Dr} (h : DBox w b r) {x : Int} {q : Dr} (hq : q = ⟨r.d, r.i, r.x, r.y, r.p, x, r.w, r.h, r.l⟩) : DBox (w.setCell ⟨b, 5, none⟩ (.int .i64 x)) b q := by
  subst hq
  obtain ⟨h0, h1, h2, h3, h4, h5, h6, h7, h8, k0, k1, k2, k3, k4, k5, k6, k7, k8⟩ := h
  constructor <;> simp [go_sem, *]

theorem DBox.put6 {w : World} {b : Nat} {r : Dr} (h : DBox w b r) {x : Int} {q : Dr} (hq : q = ⟨r.d, r.i, r.x, r.y, r.p, r.q, x, r.h, r.l⟩) : DBox (w.setCell ⟨b, 6, none⟩ (.int .i64 x)) b q := by
  subst hq
  obtain ⟨h0, h1, h2, h3, h4, h5, h6, h7, h8, k0, k1, k2, k3, k4, k5, k6, k7, k8⟩ := h
  constructor <;> simp [go_sem, *]

theorem DBox.put7 {w : World} {b : Nat} {r : Dr} (h : DBox w b r) {x : Int} {q : Dr} (hq : q = ⟨r.d, r.i, r.x, r.y, r.p, r.q, r.w, x, r.l⟩) : DBox (w.setCell ⟨b, 7, none⟩ (.int .i64 x)) b q := by
  subst hq
  obtain ⟨h0, h1, h2, h3, h4, h5, h6, h7, h8, k0, k1, k2, k3, k4, k5, k6, k7, k8⟩ := h
  constructor <;> simp [go_sem, *]

theorem DBox.put8 {w : World} {b : Nat} {r : Dr} (h : DBox w b r) {x : Value} {q : Dr} (hq : q = ⟨r.d, r.i, r.x, r.y, r.p, r.q, r.w, r.h, x⟩) : DBox (w.setCell ⟨b, 8, none⟩ (x)) b q := by
  subst hq
  obtain ⟨h0, h1, h2, h3, h4, h5, h6, h7, h8, k0, k1, k2, k3, k4, k5, k6, k7, k8⟩ := h
  constructor <;> simp [go_sem, *]

theorem DBox.other {w : World} {b b' o : Nat} {r : Dr} {v : Value} (h : DBox w b r) (hb : b' ≠ b) : DBox (w.setCell ⟨b', o, none⟩ v) b r :=
  h.stay (T := fun k => k = b') ((Stay.refl (fun k => k = b') w).setCell (S := fun k => k = b') (p := ⟨b', o, none⟩) rfl v) (fun e => hb e.symm)

theorem run_load_DBox {a : Act} {o : Oper} {x : Operand} {w : World} {b : Nat} {r : Dr} (ho : o.op = .load 43 x) (hx : a.eval x = .pointer (some ⟨b, 0, none⟩)) (hb : DBox w b r) :
    (execOp a.eval o).run Try.prog w = .ok (.value (.agg #[.int .i64 r.d, .int .i64 r.i, .int .i64 r.x, .int .i64 r.y, .int .i64 r.p, .int .i64 r.q, .int .i64 r.w, .int .i64 r.h, r.l])) w := by
  unfold execOp
  simp only [ho, hx, Instr.loadAt, Instr.sureAddr, Sem.run_bind, Sem.run_pure, Result.andThen_ok]
  rw [run_loadVar_cells w b 0 43 _ _ hb.cells Try.underlying43 rfl (by kernel_rfl)]
  rfl

/-- One in the midst of a block. -/
structure DBoxAt (w : World) (g o : Nat) (r : Dr) : Prop where
  c0 : w.cell? ⟨g, o, none⟩ = some (.int .i64 r.d)
  c1 : w.cell? ⟨g, o + 1, none⟩ = some (.int .i64 r.i)
  c2 : w.cell? ⟨g, o + 2, none⟩ = some (.int .i64 r.x)
  c3 : w.cell? ⟨g, o + 3, none⟩ = some (.int .i64 r.y)
  c4 : w.cell? ⟨g, o + 4, none⟩ = some (.int .i64 r.p)
  c5 : w.cell? ⟨g, o + 5, none⟩ = some (.int .i64 r.q)
  c6 : w.cell? ⟨g, o + 6, none⟩ = some (.int .i64 r.w)
  c7 : w.cell? ⟨g, o + 7, none⟩ = some (.int .i64 r.h)
  c8 : w.cell? ⟨g, o + 8, none⟩ = some (r.l)

theorem DBoxAt.keep {W w1 : World} {g o : Nat} {r : Dr} (h : DBoxAt W g o r) (hs : Stay (fun _ => False) W w1) : DBoxAt w1 g o r := ⟨keep_cell hs h.c0, keep_cell hs h.c1, keep_cell hs h.c2, keep_cell hs h.c3, keep_cell hs h.c4, keep_cell hs h.c5, keep_cell hs h.c6, keep_cell hs h.c7, keep_cell hs h.c8⟩

theorem DBoxAt.cells {w : World} {g o : Nat} {r : Dr} (h : DBoxAt w g o r) : ∀ (j : Nat) (v : Value), [Value.int .i64 r.d, .int .i64 r.i, .int .i64 r.x, .int .i64 r.y, .int .i64 r.p, .int .i64 r.q, .int .i64 r.w, .int .i64 r.h, r.l][j]? = some v → w.cell? ⟨g, o + j, none⟩ = some v := by
  intro j v hj
  match j, hj with
  | 0, hj => cases hj; exact h.c0
  | 1, hj => cases hj; exact h.c1
  | 2, hj => cases hj; exact h.c2
  | 3, hj => cases hj; exact h.c3
  | 4, hj => cases hj; exact h.c4
  | 5, hj => cases hj; exact h.c5
  | 6, hj => cases hj; exact h.c6
  | 7, hj => cases hj; exact h.c7
  | 8, hj => cases hj; exact h.c8

theorem run_load_DBoxAt {a : Act} {p : Oper} {x : Operand} {w : World} {g o : Nat} {r : Dr} (ho : p.op = .load 43 x) (hx : a.eval x = .pointer (some ⟨g, o, none⟩)) (hb : DBoxAt w g o r) :
    (execOp a.eval p).run Try.prog w = .ok (.value (.agg #[.int .i64 r.d, .int .i64 r.i, .int .i64 r.x, .int .i64 r.y, .int .i64 r.p, .int .i64 r.q, .int .i64 r.w, .int .i64 r.h, r.l])) w := by
  unfold execOp
  simp only [ho, hx, Instr.loadAt, Instr.sureAddr, Sem.run_bind, Sem.run_pure, Result.andThen_ok]
  rw [run_loadVar_cells w g o 43 _ _ hb.cells Try.underlying43 rfl (by kernel_rfl)]
  rfl

end Go.Proofs.Yticccknocjnkpaa

namespace Go.Proofs.Yticccknocjnkpaa
open Go.RowKit

/-- Vw, as a value. -/
structure Vw where
  s : Value
  id : Int
  env : Int
  x : Int
  y : Int
  w : Int
  h : Int
  hid : Bool
  tx : Int
  ty : Int
  tw : Int
  th : Int

theorem Vw.same {a0 a1 a2 a3 a4 a5 a6 a7 a8 a9 a10 a11 : _} {r : Vw} (h : r.s = a0 ∧ r.id = a1 ∧ r.env = a2 ∧ r.x = a3 ∧ r.y = a4 ∧ r.w = a5 ∧ r.h = a6 ∧ r.hid = a7 ∧ r.tx = a8 ∧ r.ty = a9 ∧ r.tw = a10 ∧ r.th = a11) : r = ⟨a0, a1, a2, a3, a4, a5, a6, a7, a8, a9, a10, a11⟩ := by
  obtain ⟨rfl, rfl, rfl, rfl, rfl, rfl, rfl, rfl, rfl, rfl, rfl, rfl⟩ := h
  rfl

theorem Vw.ret {a b : Vw} (h : a = b) : Ending.returned (.agg #[a.s, .int .i64 a.id, .int .i64 a.env, .int .i64 a.x, .int .i64 a.y, .int .i64 a.w, .int .i64 a.h, .bool a.hid, .int .i64 a.tx, .int .i64 a.ty, .int .i64 a.tw, .int .i64 a.th]) = .returned (.agg #[b.s, .int .i64 b.id, .int .i64 b.env, .int .i64 b.x, .int .i64 b.y, .int .i64 b.w, .int .i64 b.h, .bool b.hid, .int .i64 b.tx, .int .i64 b.ty, .int .i64 b.tw, .int .i64 b.th]) := by rw [h]

/-- A box that holds a Vw. -/
structure VBox (w : World) (b : Nat) (r : Vw) : Prop where
  c0 : w.cell? ⟨b, 0, none⟩ = some (r.s)
  c1 : w.cell? ⟨b, 1, none⟩ = some (.int .i64 r.id)
  c2 : w.cell? ⟨b, 2, none⟩ = some (.int .i64 r.env)
  c3 : w.cell? ⟨b, 3, none⟩ = some (.int .i64 r.x)
  c4 : w.cell? ⟨b, 4, none⟩ = some (.int .i64 r.y)
  c5 : w.cell? ⟨b, 5, none⟩ = some (.int .i64 r.w)
  c6 : w.cell? ⟨b, 6, none⟩ = some (.int .i64 r.h)
  c7 : w.cell? ⟨b, 7, none⟩ = some (.bool r.hid)
  c8 : w.cell? ⟨b, 8, none⟩ = some (.int .i64 r.tx)
  c9 : w.cell? ⟨b, 9, none⟩ = some (.int .i64 r.ty)
  c10 : w.cell? ⟨b, 10, none⟩ = some (.int .i64 r.tw)
  c11 : w.cell? ⟨b, 11, none⟩ = some (.int .i64 r.th)
  f0 : w.frozen? ⟨b, 0, none⟩ = false
  f1 : w.frozen? ⟨b, 1, none⟩ = false
  f2 : w.frozen? ⟨b, 2, none⟩ = false
  f3 : w.frozen? ⟨b, 3, none⟩ = false
  f4 : w.frozen? ⟨b, 4, none⟩ = false
  f5 : w.frozen? ⟨b, 5, none⟩ = false
  f6 : w.frozen? ⟨b, 6, none⟩ = false
  f7 : w.frozen? ⟨b, 7, none⟩ = false
  f8 : w.frozen? ⟨b, 8, none⟩ = false
  f9 : w.frozen? ⟨b, 9, none⟩ = false
  f10 : w.frozen? ⟨b, 10, none⟩ = false
  f11 : w.frozen? ⟨b, 11, none⟩ = false

theorem VBox.lt {w : World} {b : Nat} {r : Vw} (h : VBox w b r) : b < w.heap.size := World.block_lt_of_cell? _ _ h.c0

theorem VBox.stay {T : Nat → Prop} {W w1 : World} {b : Nat} {r : Vw} (h : VBox W b r) (hs : Stay T W w1) (hn : ¬ T b) : VBox w1 b r := by
  have hb : b < W.heap.size := h.lt
  have c : ∀ o, w1.cell? ⟨b, o, none⟩ = W.cell? ⟨b, o, none⟩ := fun o => hs.cell (p := ⟨b, o, none⟩) hb hn
  have f : ∀ o, w1.frozen? ⟨b, o, none⟩ = W.frozen? ⟨b, o, none⟩ := fun o => hs.frozen (p := ⟨b, o, none⟩) hb hn
  exact ⟨(c 0).trans h.c0, (c 1).trans h.c1, (c 2).trans h.c2, (c 3).trans h.c3, (c 4).trans h.c4, (c 5).trans h.c5, (c 6).trans h.c6, (c 7).trans h.c7, (c 8).trans h.c8, (c 9).trans h.c9, (c 10).trans h.c10, (c 11).trans h.c11, (f 0).trans h.f0, (f 1).trans h.f1, (f 2).trans h.f2, (f 3).trans h.f3, (f 4).trans h.f4, (f 5).trans h.f5, (f 6).trans h.f6, (f 7).trans h.f7, (f 8).trans h.f8, (f 9).trans h.f9, (f 10).trans h.f10, (f 11).trans h.f11⟩

theorem VBox.keep {W w1 : World} {b : Nat} {r : Vw} (h : VBox W b r) (hs : Stay (fun _ => False) W w1) : VBox w1 b r := h.stay hs (fun h => h)

theorem VBox.alloc {w : World} {b : Nat} {r : Vw} (h : VBox w b r) (o : Obj) : VBox (w.alloc o) b r := h.keep ((Stay.refl _ _).alloc o)

theorem VBox.new {w : World} {b : Nat} (r : Vw) (h : w.heap.size = b) : VBox (w.alloc (.cells #[r.s, .int .i64 r.id, .int .i64 r.env, .int .i64 r.x, .int .i64 r.y, .int .i64 r.w, .int .i64 r.h, .bool r.hid, .int .i64 r.tx, .int .i64 r.ty, .int .i64 r.tw, .int .i64 r.th] 92)) b r := by
  subst h
  constructor <;> simp

theorem VBox.cells {w : World} {b : Nat} {r : Vw} (h : VBox w b r) : ∀ (j : Nat) (v : Value), [r.s, .int .i64 r.id, .int .i64 r.env, .int .i64 r.x, .int .i64 r.y, .int .i64 r.w, .int .i64 r.h, .bool r.hid, .int .i64 r.tx, .int .i64 r.ty, .int .i64 r.tw, .int .i64 r.th][j]? = some v → w.cell? ⟨b, 0 + j, none⟩ = some v := by
  intro j v hj
  match j, hj with
  | 0, hj => cases hj; exact h.c0
  | 1, hj => cases hj; exact h.c1
  | 2, hj => cases hj; exact h.c2
  | 3, hj => cases hj; exact h.c3
  | 4, hj => cases hj; exact h.c4
  | 5, hj => cases hj; exact h.c5
  | 6, hj => cases hj; exact h.c6
  | 7, hj => cases hj; exact h.c7
  | 8, hj => cases hj; exact h.c8
  | 9, hj => cases hj; exact h.c9
  | 10, hj => cases hj; exact h.c10
  | 11, hj => cases hj; exact h.c11

theorem results_VBox {fn : Func} {p : Tmp} (h : fn.results = #[.cell p 92]) (tmps : Array Value) (w : World) (g : Nat) (r : Vw) (hp : tmps.getD p undef = .pointer (some ⟨g, 0, none⟩)) (hb : VBox w g r) :
    (results fn tmps).run Try.prog w = .ok (.agg #[r.s, .int .i64 r.id, .int .i64 r.env, .int .i64 r.x, .int .i64 r.y, .int .i64 r.w, .int .i64 r.h, .bool r.hid, .int .i64 r.tx, .int .i64 r.ty, .int .i64 r.tw, .int .i64 r.th]) w := results_cells h tmps w g 0 _ _ hp hb.cells Try.underlying92 rfl (by kernel_rfl)

/-- What a struct is behind a call, and nothing that was there has turned. -/
theorem VBox.ends {w W : World} {fn : Func} {p : Tmp} (h : fn.results = #[.cell p 92]) {tmps : Array Value} {r q : Vw} {g : Nat} (hp : tmps.getD p undef = .pointer (some ⟨g, 0, none⟩)) (hb : VBox W g r) (hq : r = q) (hs : Stay (fun _ => False) w W)
    {d : List Deferred} (hd : d = []) : bodyPost Try.prog fn (Gives (.agg #[q.s, .int .i64 q.id, .int .i64 q.env, .int .i64 q.x, .int .i64 q.y, .int .i64 q.w, .int .i64 q.h, .bool q.hid, .int .i64 q.tx, .int .i64 q.ty, .int .i64 q.tw, .int .i64 q.th]) w) Exit.ret { tmps := tmps, defers := d } W := by
  subst hq hd
  exact bodyPost_ret (results_VBox h _ _ _ r hp hb) rfl ⟨rfl, hs⟩

/-- The world in which a box holds another one. -/
theorem VBox.put {w : World} {b : Nat} {r0 : Vw} (h : VBox w b r0) (r : Vw) : VBox ((((((((((((w.setCell ⟨b, 0, none⟩ (r.s)).setCell ⟨b, 1, none⟩ (.int .i64 r.id)).setCell ⟨b, 2, none⟩ (.int .i64 r.env)).setCell ⟨b, 3, none⟩ (.int .i64 r.x)).setCell ⟨b, 4, none⟩ (.int .i64 r.y)).setCell ⟨b, 5, none⟩ (.int .i64 r.w)).setCell ⟨b, 6, none⟩ (.int .i64 r.h)).setCell ⟨b, 7, none⟩ (.bool r.hid)).setCell ⟨b, 8, none⟩ (.int .i64 r.tx)).setCell ⟨b, 9, none⟩ (.int .i64 r.ty)).setCell ⟨b, 10, none⟩ (.int .i64 r.tw)).setCell ⟨b, 11, none⟩ (.int .i64 r.th)) b r := by
  obtain ⟨h0, h1, h2, h3, h4, h5, h6, h7, h8, h9, h10, h11, k0, k1, k2, k3, k4, k5, k6, k7, k8, k9, k10, k11⟩ := h
  constructor <;> simp [go_sem, *]

theorem VBox.stay_put {S : Nat → Prop} {w w1 : World} {b : Nat} (h : Stay S w w1) (hb : w.heap.size ≤ b) (v0 v1 v2 v3 v4 v5 v6 v7 v8 v9 v10 v11 : Value) : Stay S w ((((((((((((w1.setCell ⟨b, 0, none⟩ v0).setCell ⟨b, 1, none⟩ v1).setCell ⟨b, 2, none⟩ v2).setCell ⟨b, 3, none⟩ v3).setCell ⟨b, 4, none⟩ v4).setCell ⟨b, 5, none⟩ v5).setCell ⟨b, 6, none⟩ v6).setCell ⟨b, 7, none⟩ v7).setCell ⟨b, 8, none⟩ v8).setCell ⟨b, 9, none⟩ v9).setCell ⟨b, 10, none⟩ v10).setCell ⟨b, 11, none⟩ v11) :=
  ((((((((((((h.setNew hb v0).setNew hb v1).setNew hb v2).setNew hb v3).setNew hb v4).setNew hb v5).setNew hb v6).setNew hb v7).setNew hb v8).setNew hb v9).setNew hb v10).setNew hb v11)

theorem VBox.put0 {w : World} {b : Nat} {r : Vw} (h : VBox w b r) {x : Value} {q : Vw} (hq : q = ⟨x, r.id, r.env, r.x, r.y, r.w, r.h, r.hid, r.tx, r.ty, r.tw, r.th⟩) : VBox (w.setCell ⟨b, 0, none⟩ (x)) b q := by
  subst hq
  obtain ⟨h0, h1, h2, h3, h4, h5, h6, h7, h8, h9, h10, h11, k0, k1, k2, k3, k4, k5, k6, k7, k8, k9, k10, k11⟩ := h
  constructor <;> simp [go_sem, *]

theorem VBox.put1 {w : World} {b : Nat} {r : Vw} (h : VBox w b r) {x : Int} {q : Vw} (hq : q = ⟨r.s, x, r.env, r.x, r.y, r.w, r.h, r.hid, r.tx, r.ty, r.tw, r.th⟩) : VBox (w.setCell ⟨b, 1, none⟩ (.int .i64 x)) b q := by
  subst hq
  obtain ⟨h0, h1, h2, h3, h4, h5, h6, h7, h8, h9, h10, h11, k0, k1, k2, k3, k4, k5, k6, k7, k8, k9, k10, k11⟩ := h
  constructor <;> simp [go_sem, *]

theorem VBox.put2 {w : World} {b : Nat} {r : Vw} (h : VBox w b r) {x : Int} {q : Vw} (hq : q = ⟨r.s, r.id, x, r.x, r.y, r.w, r.h, r.hid, r.tx, r.ty, r.tw, r.th⟩) : VBox (w.setCell ⟨b, 2, none⟩ (.int .i64 x)) b q := by
  subst hq
  obtain ⟨h0, h1, h2, h3, h4, h5, h6, h7, h8, h9, h10, h11, k0, k1, k2, k3, k4, k5, k6, k7, k8, k9, k10, k11⟩ := h
  constructor <;> simp [go_sem, *]

theorem VBox.put3 {w : World} {b : Nat} {r : Vw} (h : VBox w b r) {x : Int} {q : Vw} (hq : q = ⟨r.s, r.id, r.env, x, r.y, r.w, r.h, r.hid, r.tx, r.ty, r.tw, r.th⟩) : VBox (w.setCell ⟨b, 3, none⟩ (.int .i64 x)) b q := by
  subst hq
  obtain ⟨h0, h1, h2, h3, h4, h5, h6, h7, h8, h9, h10, h11, k0, k1, k2, k3, k4, k5, k6, k7, k8, k9, k10, k11⟩ := h
  constructor <;> simp [go_sem, *]

theorem VBox.put4 {w : World} {b : Nat} {r : Vw} (h : VBox w b r) {x : Int} {q : Vw} (hq : q = ⟨r.s, r.id, r.env, r.x, x, r.w, r.h, r.hid, r.tx, r.ty, r.tw, r.th⟩) : VBox (w.setCell ⟨b, 4, none⟩ (.int .i64 x)) b q := by
  subst hq
  obtain ⟨h0, h1, h2, h3, h4, h5, h6, h7, h8, h9, h10, h11, k0, k1, k2, k3, k4, k5, k6, k7, k8, k9, k10, k11⟩ := h
  constructor <;> simp [go_sem, *]

theorem VBox.put5 {w : World} {b : Nat} {r : Vw} (h : VBox w b r) {x : Int} {q : Vw} (hq : q = ⟨r.s, r.id, r.env, r.x, r.y, x, r.h, r.hid, r.tx, r.ty, r.tw, r.th⟩) : VBox (w.setCell ⟨b, 5, none⟩ (.int .i64 x)) b q := by
  subst hq
  obtain ⟨h0, h1, h2, h3, h4, h5, h6, h7, h8, h9, h10, h11, k0, k1, k2, k3, k4, k5, k6, k7, k8, k9, k10, k11⟩ := h
  constructor <;> simp [go_sem, *]

theorem VBox.put6 {w : World} {b : Nat} {r : Vw} (h : VBox w b r) {x : Int} {q : Vw} (hq : q = ⟨r.s, r.id, r.env, r.x, r.y, r.w, x, r.hid, r.tx, r.ty, r.tw, r.th⟩) : VBox (w.setCell ⟨b, 6, none⟩ (.int .i64 x)) b q := by
  subst hq
  obtain ⟨h0, h1, h2, h3, h4, h5, h6, h7, h8, h9, h10, h11, k0, k1, k2, k3, k4, k5, k6, k7, k8, k9, k10, k11⟩ := h
  constructor <;> simp [go_sem, *]

theorem VBox.put7 {w : World} {b : Nat} {r : Vw} (h : VBox w b r) {x : Bool} {q : Vw} (hq : q = ⟨r.s, r.id, r.env, r.x, r.y, r.w, r.h, x, r.tx, r.ty, r.tw, r.th⟩) : VBox (w.setCell ⟨b, 7, none⟩ (.bool x)) b q := by
  subst hq
  obtain ⟨h0, h1, h2, h3, h4, h5, h6, h7, h8, h9, h10, h11, k0, k1, k2, k3, k4, k5, k6, k7, k8, k9, k10, k11⟩ := h
  constructor <;> simp [go_sem, *]

theorem VBox.put8 {w : World} {b : Nat} {r : Vw} (h : VBox w b r) {x : Int} {q : Vw} (hq : q = ⟨r.s, r.id, r.env, r.x, r.y, r.w, r.h, r.hid, x, r.ty, r.tw, r.th⟩) : VBox (w.setCell ⟨b, 8, none⟩ (.int .i64 x)) b q := by
  subst hq
  obtain ⟨h0, h1, h2, h3, h4, h5, h6, h7, h8, h9, h10, h11, k0, k1, k2, k3, k4, k5, k6, k7, k8, k9, k10, k11⟩ := h
  constructor <;> simp [go_sem, *]

theorem VBox.put9 {w : World} {b : Nat} {r : Vw} (h : VBox w b r) {x : Int} {q : Vw} (hq : q = ⟨r.s, r.id, r.env, r.x, r.y, r.w, r.h, r.hid, r.tx, x, r.tw, r.th⟩) : VBox (w.setCell ⟨b, 9, none⟩ (.int .i64 x)) b q := by
  subst hq
  obtain ⟨h0, h1, h2, h3, h4, h5, h6, h7, h8, h9, h10, h11, k0, k1, k2, k3, k4, k5, k6, k7, k8, k9, k10, k11⟩ := h
  constructor <;> simp [go_sem, *]

theorem VBox.put10 {w : World} {b : Nat} {r : Vw} (h : VBox w b r) {x : Int} {q : Vw} (hq : q = ⟨r.s, r.id, r.env, r.x, r.y, r.w, r.h, r.hid, r.tx, r.ty, x, r.th⟩) : VBox (w.setCell ⟨b, 10, none⟩ (.int .i64 x)) b q := by
  subst hq
  obtain ⟨h0, h1, h2, h3, h4, h5, h6, h7, h8, h9, h10, h11, k0, k1, k2, k3, k4, k5, k6, k7, k8, k9, k10, k11⟩ := h
  constructor <;> simp [go_sem, *]

theorem VBox.put11 {w : World} {b : Nat} {r : Vw} (h : VBox w b r) {x : Int} {q : Vw} (hq : q = ⟨r.s, r.id, r.env, r.x, r.y, r.w, r.h, r.hid, r.tx, r.ty, r.tw, x⟩) : VBox (w.setCell ⟨b, 11, none⟩ (.int .i64 x)) b q := by
  subst hq
  obtain ⟨h0, h1, h2, h3, h4, h5, h6, h7, h8, h9, h10, h11, k0, k1, k2, k3, k4, k5, k6, k7, k8, k9, k10, k11⟩ := h
  constructor <;> simp [go_sem, *]

theorem VBox.other {w : World} {b b' o : Nat} {r : Vw} {v : Value} (h : VBox w b r) (hb : b' ≠ b) : VBox (w.setCell ⟨b', o, none⟩ v) b r :=
  h.stay (T := fun k => k = b') ((Stay.refl (fun k => k = b') w).setCell (S := fun k => k = b') (p := ⟨b', o, none⟩) rfl v) (fun e => hb e.symm)

theorem run_load_VBox {a : Act} {o : Oper} {x : Operand} {w : World} {b : Nat} {r : Vw} (ho : o.op = .load 92 x) (hx : a.eval x = .pointer (some ⟨b, 0, none⟩)) (hb : VBox w b r) :
    (execOp a.eval o).run Try.prog w = .ok (.value (.agg #[r.s, .int .i64 r.id, .int .i64 r.env, .int .i64 r.x, .int .i64 r.y, .int .i64 r.w, .int .i64 r.h, .bool r.hid, .int .i64 r.tx, .int .i64 r.ty, .int .i64 r.tw, .int .i64 r.th])) w := by
  unfold execOp
  simp only [ho, hx, Instr.loadAt, Instr.sureAddr, Sem.run_bind, Sem.run_pure, Result.andThen_ok]
  rw [run_loadVar_cells w b 0 92 _ _ hb.cells Try.underlying92 rfl (by kernel_rfl)]
  rfl

/-- One in the midst of a block. -/
structure VBoxAt (w : World) (g o : Nat) (r : Vw) : Prop where
  c0 : w.cell? ⟨g, o, none⟩ = some (r.s)
  c1 : w.cell? ⟨g, o + 1, none⟩ = some (.int .i64 r.id)
  c2 : w.cell? ⟨g, o + 2, none⟩ = some (.int .i64 r.env)
  c3 : w.cell? ⟨g, o + 3, none⟩ = some (.int .i64 r.x)
  c4 : w.cell? ⟨g, o + 4, none⟩ = some (.int .i64 r.y)
  c5 : w.cell? ⟨g, o + 5, none⟩ = some (.int .i64 r.w)
  c6 : w.cell? ⟨g, o + 6, none⟩ = some (.int .i64 r.h)
  c7 : w.cell? ⟨g, o + 7, none⟩ = some (.bool r.hid)
  c8 : w.cell? ⟨g, o + 8, none⟩ = some (.int .i64 r.tx)
  c9 : w.cell? ⟨g, o + 9, none⟩ = some (.int .i64 r.ty)
  c10 : w.cell? ⟨g, o + 10, none⟩ = some (.int .i64 r.tw)
  c11 : w.cell? ⟨g, o + 11, none⟩ = some (.int .i64 r.th)

theorem VBoxAt.keep {W w1 : World} {g o : Nat} {r : Vw} (h : VBoxAt W g o r) (hs : Stay (fun _ => False) W w1) : VBoxAt w1 g o r := ⟨keep_cell hs h.c0, keep_cell hs h.c1, keep_cell hs h.c2, keep_cell hs h.c3, keep_cell hs h.c4, keep_cell hs h.c5, keep_cell hs h.c6, keep_cell hs h.c7, keep_cell hs h.c8, keep_cell hs h.c9, keep_cell hs h.c10, keep_cell hs h.c11⟩

theorem VBoxAt.cells {w : World} {g o : Nat} {r : Vw} (h : VBoxAt w g o r) : ∀ (j : Nat) (v : Value), [r.s, .int .i64 r.id, .int .i64 r.env, .int .i64 r.x, .int .i64 r.y, .int .i64 r.w, .int .i64 r.h, .bool r.hid, .int .i64 r.tx, .int .i64 r.ty, .int .i64 r.tw, .int .i64 r.th][j]? = some v → w.cell? ⟨g, o + j, none⟩ = some v := by
  intro j v hj
  match j, hj with
  | 0, hj => cases hj; exact h.c0
  | 1, hj => cases hj; exact h.c1
  | 2, hj => cases hj; exact h.c2
  | 3, hj => cases hj; exact h.c3
  | 4, hj => cases hj; exact h.c4
  | 5, hj => cases hj; exact h.c5
  | 6, hj => cases hj; exact h.c6
  | 7, hj => cases hj; exact h.c7
  | 8, hj => cases hj; exact h.c8
  | 9, hj => cases hj; exact h.c9
  | 10, hj => cases hj; exact h.c10
  | 11, hj => cases hj; exact h.c11

theorem run_load_VBoxAt {a : Act} {p : Oper} {x : Operand} {w : World} {g o : Nat} {r : Vw} (ho : p.op = .load 92 x) (hx : a.eval x = .pointer (some ⟨g, o, none⟩)) (hb : VBoxAt w g o r) :
    (execOp a.eval p).run Try.prog w = .ok (.value (.agg #[r.s, .int .i64 r.id, .int .i64 r.env, .int .i64 r.x, .int .i64 r.y, .int .i64 r.w, .int .i64 r.h, .bool r.hid, .int .i64 r.tx, .int .i64 r.ty, .int .i64 r.tw, .int .i64 r.th])) w := by
  unfold execOp
  simp only [ho, hx, Instr.loadAt, Instr.sureAddr, Sem.run_bind, Sem.run_pure, Result.andThen_ok]
  rw [run_loadVar_cells w g o 92 _ _ hb.cells Try.underlying92 rfl (by kernel_rfl)]
  rfl

end Go.Proofs.Yticccknocjnkpaa
