/-
  A message and a ring in boxes. No conditions.
-/
import Derived.Test.YtabalnjbfhngnaaA3
namespace Go.Proofs.Ytabalnjbfhngnaa
open Go.RowKit

/-- Mr, as a value. -/
structure Mr where
  f : Int
  v : Value

theorem Mr.same {a0 a1 : _} {r : Mr} (h : r.f = a0 ∧ r.v = a1) : r = ⟨a0, a1⟩ := by
  obtain ⟨rfl, rfl⟩ := h
  rfl

theorem Mr.ret {a b : Mr} (h : a = b) : Ending.returned (.agg #[.int .i64 a.f, a.v]) = .returned (.agg #[.int .i64 b.f, b.v]) := by rw [h]

/-- A box that holds a Mr. -/
structure MBox (w : World) (b : Nat) (r : Mr) : Prop where
  c0 : w.cell? ⟨b, 0, none⟩ = some (.int .i64 r.f)
  c1 : w.cell? ⟨b, 1, none⟩ = some (r.v)
  f0 : w.frozen? ⟨b, 0, none⟩ = false
  f1 : w.frozen? ⟨b, 1, none⟩ = false

theorem MBox.lt {w : World} {b : Nat} {r : Mr} (h : MBox w b r) : b < w.heap.size := World.block_lt_of_cell? _ _ h.c0

theorem MBox.stay {T : Nat → Prop} {W w1 : World} {b : Nat} {r : Mr} (h : MBox W b r) (hs : Stay T W w1) (hn : ¬ T b) : MBox w1 b r := by
  have hb : b < W.heap.size := h.lt
  have c : ∀ o, w1.cell? ⟨b, o, none⟩ = W.cell? ⟨b, o, none⟩ := fun o => hs.cell (p := ⟨b, o, none⟩) hb hn
  have f : ∀ o, w1.frozen? ⟨b, o, none⟩ = W.frozen? ⟨b, o, none⟩ := fun o => hs.frozen (p := ⟨b, o, none⟩) hb hn
  exact ⟨(c 0).trans h.c0, (c 1).trans h.c1, (f 0).trans h.f0, (f 1).trans h.f1⟩

theorem MBox.keep {W w1 : World} {b : Nat} {r : Mr} (h : MBox W b r) (hs : Stay (fun _ => False) W w1) : MBox w1 b r := h.stay hs (fun h => h)

theorem MBox.alloc {w : World} {b : Nat} {r : Mr} (h : MBox w b r) (o : Obj) : MBox (w.alloc o) b r := h.keep ((Stay.refl _ _).alloc o)

theorem MBox.new {w : World} {b : Nat} (r : Mr) (h : w.heap.size = b) : MBox (w.alloc (.cells #[.int .i64 r.f, r.v] 28)) b r := by
  subst h
  constructor <;> simp

theorem MBox.cells {w : World} {b : Nat} {r : Mr} (h : MBox w b r) : ∀ (j : Nat) (v : Value), [Value.int .i64 r.f, r.v][j]? = some v → w.cell? ⟨b, 0 + j, none⟩ = some v := by
  intro j v hj
  match j, hj with
  | 0, hj => cases hj; exact h.c0
  | 1, hj => cases hj; exact h.c1

theorem results_MBox {fn : Func} {p : Tmp} (h : fn.results = #[.cell p 28]) (tmps : Array Value) (w : World) (g : Nat) (r : Mr) (hp : tmps.getD p undef = .pointer (some ⟨g, 0, none⟩)) (hb : MBox w g r) :
    (results fn tmps).run Try.prog w = .ok (.agg #[.int .i64 r.f, r.v]) w := results_cells h tmps w g 0 _ _ hp hb.cells Try.underlying28 rfl (by kernel_rfl)

/-- What a struct is behind a call, and nothing that was there has turned. -/
theorem MBox.ends {w W : World} {fn : Func} {p : Tmp} (h : fn.results = #[.cell p 28]) {tmps : Array Value} {r q : Mr} {g : Nat} (hp : tmps.getD p undef = .pointer (some ⟨g, 0, none⟩)) (hb : MBox W g r) (hq : r = q) (hs : Stay (fun _ => False) w W)
    {d : List Deferred} (hd : d = []) : bodyPost Try.prog fn (Gives (.agg #[.int .i64 q.f, q.v]) w) Exit.ret { tmps := tmps, defers := d } W := by
  subst hq hd
  exact bodyPost_ret (results_MBox h _ _ _ r hp hb) rfl ⟨rfl, hs⟩

/-- The world in which a box holds another one. -/
theorem MBox.put {w : World} {b : Nat} {r0 : Mr} (h : MBox w b r0) (r : Mr) : MBox ((w.setCell ⟨b, 0, none⟩ (.int .i64 r.f)).setCell ⟨b, 1, none⟩ (r.v)) b r := by
  obtain ⟨h0, h1, k0, k1⟩ := h
  constructor <;> simp [go_sem, *]

theorem MBox.stay_put {S : Nat → Prop} {w w1 : World} {b : Nat} (h : Stay S w w1) (hb : w.heap.size ≤ b) (v0 v1 : Value) : Stay S w ((w1.setCell ⟨b, 0, none⟩ v0).setCell ⟨b, 1, none⟩ v1) :=
  ((h.setNew hb v0).setNew hb v1)

theorem MBox.put0 {w : World} {b : Nat} {r : Mr} (h : MBox w b r) {x : Int} {q : Mr} (hq : q = ⟨x, r.v⟩) : MBox (w.setCell ⟨b, 0, none⟩ (.int .i64 x)) b q := by
  subst hq
  obtain ⟨h0, h1, k0, k1⟩ := h
  constructor <;> simp [go_sem, *]

theorem MBox.put1 {w : World} {b : Nat} {r : Mr} (h : MBox w b r) {x : Value} {q : Mr} (hq : q = ⟨r.f, x⟩) : MBox (w.setCell ⟨b, 1, none⟩ (x)) b q := by
  subst hq
  obtain ⟨h0, h1, k0, k1⟩ := h
  constructor <;> simp [go_sem, *]

theorem MBox.other {w : World} {b b' o : Nat} {r : Mr} {v : Value} (h : MBox w b r) (hb : b' ≠ b) : MBox (w.setCell ⟨b', o, none⟩ v) b r :=
  h.stay (T := fun k => k = b') ((Stay.refl (fun k => k = b') w).setCell (S := fun k => k = b') (p := ⟨b', o, none⟩) rfl v) (fun e => hb e.symm)

theorem run_load_MBox {a : Act} {o : Oper} {x : Operand} {w : World} {b : Nat} {r : Mr} (ho : o.op = .load 28 x) (hx : a.eval x = .pointer (some ⟨b, 0, none⟩)) (hb : MBox w b r) :
    (execOp a.eval o).run Try.prog w = .ok (.value (.agg #[.int .i64 r.f, r.v])) w := by
  unfold execOp
  simp only [ho, hx, Instr.loadAt, Instr.sureAddr, Sem.run_bind, Sem.run_pure, Result.andThen_ok]
  rw [run_loadVar_cells w b 0 28 _ _ hb.cells Try.underlying28 rfl (by kernel_rfl)]
  rfl

/-- One in the midst of a block. -/
structure MBoxAt (w : World) (g o : Nat) (r : Mr) : Prop where
  c0 : w.cell? ⟨g, o, none⟩ = some (.int .i64 r.f)
  c1 : w.cell? ⟨g, o + 1, none⟩ = some (r.v)

theorem MBoxAt.keep {W w1 : World} {g o : Nat} {r : Mr} (h : MBoxAt W g o r) (hs : Stay (fun _ => False) W w1) : MBoxAt w1 g o r := ⟨keep_cell hs h.c0, keep_cell hs h.c1⟩

theorem MBoxAt.cells {w : World} {g o : Nat} {r : Mr} (h : MBoxAt w g o r) : ∀ (j : Nat) (v : Value), [Value.int .i64 r.f, r.v][j]? = some v → w.cell? ⟨g, o + j, none⟩ = some v := by
  intro j v hj
  match j, hj with
  | 0, hj => cases hj; exact h.c0
  | 1, hj => cases hj; exact h.c1

theorem run_load_MBoxAt {a : Act} {p : Oper} {x : Operand} {w : World} {g o : Nat} {r : Mr} (ho : p.op = .load 28 x) (hx : a.eval x = .pointer (some ⟨g, o, none⟩)) (hb : MBoxAt w g o r) :
    (execOp a.eval p).run Try.prog w = .ok (.value (.agg #[.int .i64 r.f, r.v])) w := by
  unfold execOp
  simp only [ho, hx, Instr.loadAt, Instr.sureAddr, Sem.run_bind, Sem.run_pure, Result.andThen_ok]
  rw [run_loadVar_cells w g o 28 _ _ hb.cells Try.underlying28 rfl (by kernel_rfl)]
  rfl


/-- Rr, as a value. -/
structure Rr where
  p : Value
  f : Int
  n : Int

theorem Rr.same {a0 a1 a2 : _} {r : Rr} (h : r.p = a0 ∧ r.f = a1 ∧ r.n = a2) : r = ⟨a0, a1, a2⟩ := by
  obtain ⟨rfl, rfl, rfl⟩ := h
  rfl

theorem Rr.ret {a b : Rr} (h : a = b) : Ending.returned (.agg #[a.p, .int .i64 a.f, .int .i64 a.n]) = .returned (.agg #[b.p, .int .i64 b.f, .int .i64 b.n]) := by rw [h]

/-- A box that holds a Rr. -/
structure RBox (w : World) (b : Nat) (r : Rr) : Prop where
  c0 : w.cell? ⟨b, 0, none⟩ = some (r.p)
  c1 : w.cell? ⟨b, 1, none⟩ = some (.int .i64 r.f)
  c2 : w.cell? ⟨b, 2, none⟩ = some (.int .i64 r.n)
  f0 : w.frozen? ⟨b, 0, none⟩ = false
  f1 : w.frozen? ⟨b, 1, none⟩ = false
  f2 : w.frozen? ⟨b, 2, none⟩ = false

theorem RBox.lt {w : World} {b : Nat} {r : Rr} (h : RBox w b r) : b < w.heap.size := World.block_lt_of_cell? _ _ h.c0

theorem RBox.stay {T : Nat → Prop} {W w1 : World} {b : Nat} {r : Rr} (h : RBox W b r) (hs : Stay T W w1) (hn : ¬ T b) : RBox w1 b r := by
  have hb : b < W.heap.size := h.lt
  have c : ∀ o, w1.cell? ⟨b, o, none⟩ = W.cell? ⟨b, o, none⟩ := fun o => hs.cell (p := ⟨b, o, none⟩) hb hn
  have f : ∀ o, w1.frozen? ⟨b, o, none⟩ = W.frozen? ⟨b, o, none⟩ := fun o => hs.frozen (p := ⟨b, o, none⟩) hb hn
  exact ⟨(c 0).trans h.c0, (c 1).trans h.c1, (c 2).trans h.c2, (f 0).trans h.f0, (f 1).trans h.f1, (f 2).trans h.f2⟩

theorem RBox.keep {W w1 : World} {b : Nat} {r : Rr} (h : RBox W b r) (hs : Stay (fun _ => False) W w1) : RBox w1 b r := h.stay hs (fun h => h)

theorem RBox.alloc {w : World} {b : Nat} {r : Rr} (h : RBox w b r) (o : Obj) : RBox (w.alloc o) b r := h.keep ((Stay.refl _ _).alloc o)

theorem RBox.new {w : World} {b : Nat} (r : Rr) (h : w.heap.size = b) : RBox (w.alloc (.cells #[r.p, .int .i64 r.f, .int .i64 r.n] 42)) b r := by
  subst h
  constructor <;> simp

theorem RBox.cells {w : World} {b : Nat} {r : Rr} (h : RBox w b r) : ∀ (j : Nat) (v : Value), [r.p, .int .i64 r.f, .int .i64 r.n][j]? = some v → w.cell? ⟨b, 0 + j, none⟩ = some v := by
  intro j v hj
  match j, hj with
  | 0, hj => cases hj; exact h.c0
  | 1, hj => cases hj; exact h.c1
  | 2, hj => cases hj; exact h.c2

theorem results_RBox {fn : Func} {p : Tmp} (h : fn.results = #[.cell p 42]) (tmps : Array Value) (w : World) (g : Nat) (r : Rr) (hp : tmps.getD p undef = .pointer (some ⟨g, 0, none⟩)) (hb : RBox w g r) :
    (results fn tmps).run Try.prog w = .ok (.agg #[r.p, .int .i64 r.f, .int .i64 r.n]) w := results_cells h tmps w g 0 _ _ hp hb.cells Try.underlying42 rfl (by kernel_rfl)

/-- What a struct is behind a call, and nothing that was there has turned. -/
theorem RBox.ends {w W : World} {fn : Func} {p : Tmp} (h : fn.results = #[.cell p 42]) {tmps : Array Value} {r q : Rr} {g : Nat} (hp : tmps.getD p undef = .pointer (some ⟨g, 0, none⟩)) (hb : RBox W g r) (hq : r = q) (hs : Stay (fun _ => False) w W)
    {d : List Deferred} (hd : d = []) : bodyPost Try.prog fn (Gives (.agg #[q.p, .int .i64 q.f, .int .i64 q.n]) w) Exit.ret { tmps := tmps, defers := d } W := by
  subst hq hd
  exact bodyPost_ret (results_RBox h _ _ _ r hp hb) rfl ⟨rfl, hs⟩

/-- The world in which a box holds another one. -/
theorem RBox.put {w : World} {b : Nat} {r0 : Rr} (h : RBox w b r0) (r : Rr) : RBox (((w.setCell ⟨b, 0, none⟩ (r.p)).setCell ⟨b, 1, none⟩ (.int .i64 r.f)).setCell ⟨b, 2, none⟩ (.int .i64 r.n)) b r := by
  obtain ⟨h0, h1, h2, k0, k1, k2⟩ := h
  constructor <;> simp [go_sem, *]

theorem RBox.stay_put {S : Nat → Prop} {w w1 : World} {b : Nat} (h : Stay S w w1) (hb : w.heap.size ≤ b) (v0 v1 v2 : Value) : Stay S w (((w1.setCell ⟨b, 0, none⟩ v0).setCell ⟨b, 1, none⟩ v1).setCell ⟨b, 2, none⟩ v2) :=
  (((h.setNew hb v0).setNew hb v1).setNew hb v2)

theorem RBox.put0 {w : World} {b : Nat} {r : Rr} (h : RBox w b r) {x : Value} {q : Rr} (hq : q = ⟨x, r.f, r.n⟩) : RBox (w.setCell ⟨b, 0, none⟩ (x)) b q := by
  subst hq
  obtain ⟨h0, h1, h2, k0, k1, k2⟩ := h
  constructor <;> simp [go_sem, *]

theorem RBox.put1 {w : World} {b : Nat} {r : Rr} (h : RBox w b r) {x : Int} {q : Rr} (hq : q = ⟨r.p, x, r.n⟩) : RBox (w.setCell ⟨b, 1, none⟩ (.int .i64 x)) b q := by
  subst hq
  obtain ⟨h0, h1, h2, k0, k1, k2⟩ := h
  constructor <;> simp [go_sem, *]

theorem RBox.put2 {w : World} {b : Nat} {r : Rr} (h : RBox w b r) {x : Int} {q : Rr} (hq : q = ⟨r.p, r.f, x⟩) : RBox (w.setCell ⟨b, 2, none⟩ (.int .i64 x)) b q := by
  subst hq
  obtain ⟨h0, h1, h2, k0, k1, k2⟩ := h
  constructor <;> simp [go_sem, *]

theorem RBox.other {w : World} {b b' o : Nat} {r : Rr} {v : Value} (h : RBox w b r) (hb : b' ≠ b) : RBox (w.setCell ⟨b', o, none⟩ v) b r :=
  h.stay (T := fun k => k = b') ((Stay.refl (fun k => k = b') w).setCell (S := fun k => k = b') (p := ⟨b', o, none⟩) rfl v) (fun e => hb e.symm)

theorem run_load_RBox {a : Act} {o : Oper} {x : Operand} {w : World} {b : Nat} {r : Rr} (ho : o.op = .load 42 x) (hx : a.eval x = .pointer (some ⟨b, 0, none⟩)) (hb : RBox w b r) :
    (execOp a.eval o).run Try.prog w = .ok (.value (.agg #[r.p, .int .i64 r.f, .int .i64 r.n])) w := by
  unfold execOp
  simp only [ho, hx, Instr.loadAt, Instr.sureAddr, Sem.run_bind, Sem.run_pure, Result.andThen_ok]
  rw [run_loadVar_cells w b 0 42 _ _ hb.cells Try.underlying42 rfl (by kernel_rfl)]
  rfl

/-- One in the midst of a block. -/
structure RBoxAt (w : World) (g o : Nat) (r : Rr) : Prop where
  c0 : w.cell? ⟨g, o, none⟩ = some (r.p)
  c1 : w.cell? ⟨g, o + 1, none⟩ = some (.int .i64 r.f)
  c2 : w.cell? ⟨g, o + 2, none⟩ = some (.int .i64 r.n)

theorem RBoxAt.keep {W w1 : World} {g o : Nat} {r : Rr} (h : RBoxAt W g o r) (hs : Stay (fun _ => False) W w1) : RBoxAt w1 g o r := ⟨keep_cell hs h.c0, keep_cell hs h.c1, keep_cell hs h.c2⟩

theorem RBoxAt.cells {w : World} {g o : Nat} {r : Rr} (h : RBoxAt w g o r) : ∀ (j : Nat) (v : Value), [r.p, .int .i64 r.f, .int .i64 r.n][j]? = some v → w.cell? ⟨g, o + j, none⟩ = some v := by
  intro j v hj
  match j, hj with
  | 0, hj => cases hj; exact h.c0
  | 1, hj => cases hj; exact h.c1
  | 2, hj => cases hj; exact h.c2

theorem run_load_RBoxAt {a : Act} {p : Oper} {x : Operand} {w : World} {g o : Nat} {r : Rr} (ho : p.op = .load 42 x) (hx : a.eval x = .pointer (some ⟨g, o, none⟩)) (hb : RBoxAt w g o r) :
    (execOp a.eval p).run Try.prog w = .ok (.value (.agg #[r.p, .int .i64 r.f, .int .i64 r.n])) w := by
  unfold execOp
  simp only [ho, hx, Instr.loadAt, Instr.sureAddr, Sem.run_bind, Sem.run_pure, Result.andThen_ok]
  rw [run_loadVar_cells w g o 42 _ _ hb.cells Try.underlying42 rfl (by kernel_rfl)]
  rfl


end Go.Proofs.Ytabalnjbfhngnaa
