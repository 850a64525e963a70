/-
  Cells and the document's grids, by value, in boxes. No conditions.
-/
import Derived.Test.YtcealbdinbfegaaA2
namespace Go.Proofs.Ytcealbdinbfegaa
open Go.RowKit

/-- Cl, as a value. -/
structure Cl where
  r : Int
  fg : Int
  bg : Int
  fl : Int

theorem Cl.same {a0 a1 a2 a3 : _} {r : Cl} (h : r.r = a0 ∧ r.fg = a1 ∧ r.bg = a2 ∧ r.fl = a3) : r = ⟨a0, a1, a2, a3⟩ := by
  obtain ⟨rfl, rfl, rfl, rfl⟩ := h
  rfl

theorem Cl.ret {a b : Cl} (h : a = b) : Ending.returned (.agg #[.int .i32 a.r, .int .i64 a.fg, .int .i64 a.bg, .int .i64 a.fl]) = .returned (.agg #[.int .i32 b.r, .int .i64 b.fg, .int .i64 b.bg, .int .i64 b.fl]) := by rw [h]

/-- A box that holds a Cl. -/
structure BoxC (w : World) (b : Nat) (r : Cl) : Prop where
  c0 : w.cell? ⟨b, 0, none⟩ = some (.int .i32 r.r)
  c1 : w.cell? ⟨b, 1, none⟩ = some (.int .i64 r.fg)
  c2 : w.cell? ⟨b, 2, none⟩ = some (.int .i64 r.bg)
  c3 : w.cell? ⟨b, 3, none⟩ = some (.int .i64 r.fl)
  f0 : w.frozen? ⟨b, 0, none⟩ = false
  f1 : w.frozen? ⟨b, 1, none⟩ = false
  f2 : w.frozen? ⟨b, 2, none⟩ = false
  f3 : w.frozen? ⟨b, 3, none⟩ = false

theorem BoxC.lt {w : World} {b : Nat} {r : Cl} (h : BoxC w b r) : b < w.heap.size := World.block_lt_of_cell? _ _ h.c0

theorem BoxC.stay {T : Nat → Prop} {W w1 : World} {b : Nat} {r : Cl} (h : BoxC W b r) (hs : Stay T W w1) (hn : ¬ T b) : BoxC w1 b r := by
  have hb : b < W.heap.size := h.lt
  have c : ∀ o, w1.cell? ⟨b, o, none⟩ = W.cell? ⟨b, o, none⟩ := fun o => hs.cell (p := ⟨b, o, none⟩) hb hn
  have f : ∀ o, w1.frozen? ⟨b, o, none⟩ = W.frozen? ⟨b, o, none⟩ := fun o => hs.frozen (p := ⟨b, o, none⟩) hb hn
  exact ⟨(c 0).trans h.c0, (c 1).trans h.c1, (c 2).trans h.c2, (c 3).trans h.c3, (f 0).trans h.f0, (f 1).trans h.f1, (f 2).trans h.f2, (f 3).trans h.f3⟩

theorem BoxC.keep {W w1 : World} {b : Nat} {r : Cl} (h : BoxC W b r) (hs : Stay (fun _ => False) W w1) : BoxC w1 b r := h.stay hs (fun h => h)

theorem BoxC.alloc {w : World} {b : Nat} {r : Cl} (h : BoxC w b r) (o : Obj) : BoxC (w.alloc o) b r := h.keep ((Stay.refl _ _).alloc o)

theorem BoxC.new {w : World} {b : Nat} (r : Cl) (h : w.heap.size = b) : BoxC (w.alloc (.cells #[.int .i32 r.r, .int .i64 r.fg, .int .i64 r.bg, .int .i64 r.fl] 34)) b r := by
  subst h
  constructor <;> simp

theorem BoxC.cells {w : World} {b : Nat} {r : Cl} (h : BoxC w b r) : ∀ (j : Nat) (v : Value), [Value.int .i32 r.r, .int .i64 r.fg, .int .i64 r.bg, .int .i64 r.fl][j]? = some v → w.cell? ⟨b, 0 + j, none⟩ = some v := by
  intro j v hj
  match j, hj with
  | 0, hj => cases hj; exact h.c0
  | 1, hj => cases hj; exact h.c1
  | 2, hj => cases hj; exact h.c2
  | 3, hj => cases hj; exact h.c3

theorem results_BoxC {fn : Func} {p : Tmp} (h : fn.results = #[.cell p 34]) (tmps : Array Value) (w : World) (g : Nat) (r : Cl) (hp : tmps.getD p undef = .pointer (some ⟨g, 0, none⟩)) (hb : BoxC w g r) :
    (results fn tmps).run Try.prog w = .ok (.agg #[.int .i32 r.r, .int .i64 r.fg, .int .i64 r.bg, .int .i64 r.fl]) w := results_cells h tmps w g 0 _ _ hp hb.cells Try.underlying34 rfl (by kernel_rfl)

/-- What a struct is behind a call, and nothing that was there has turned. -/
theorem BoxC.ends {w W : World} {fn : Func} {p : Tmp} (h : fn.results = #[.cell p 34]) {tmps : Array Value} {r q : Cl} {g : Nat} (hp : tmps.getD p undef = .pointer (some ⟨g, 0, none⟩)) (hb : BoxC W g r) (hq : r = q) (hs : Stay (fun _ => False) w W)
    {d : List Deferred} (hd : d = []) : bodyPost Try.prog fn (Gives (.agg #[.int .i32 q.r, .int .i64 q.fg, .int .i64 q.bg, .int .i64 q.fl]) w) Exit.ret { tmps := tmps, defers := d } W := by
  subst hq hd
  exact bodyPost_ret (results_BoxC h _ _ _ r hp hb) rfl ⟨rfl, hs⟩

/-- The world in which a box holds another one. -/
theorem BoxC.put {w : World} {b : Nat} {r0 : Cl} (h : BoxC w b r0) (r : Cl) : BoxC ((((w.setCell ⟨b, 0, none⟩ (.int .i32 r.r)).setCell ⟨b, 1, none⟩ (.int .i64 r.fg)).setCell ⟨b, 2, none⟩ (.int .i64 r.bg)).setCell ⟨b, 3, none⟩ (.int .i64 r.fl)) b r := by
  obtain ⟨h0, h1, h2, h3, k0, k1, k2, k3⟩ := h
  constructor <;> simp [go_sem, *]

theorem BoxC.stay_put {S : Nat → Prop} {w w1 : World} {b : Nat} (h : Stay S w w1) (hb : w.heap.size ≤ b) (v0 v1 v2 v3 : Value) : Stay S w ((((w1.setCell ⟨b, 0, none⟩ v0).setCell ⟨b, 1, none⟩ v1).setCell ⟨b, 2, none⟩ v2).setCell ⟨b, 3, none⟩ v3) :=
  ((((h.setNew hb v0).setNew hb v1).setNew hb v2).setNew hb v3)

theorem BoxC.put0 {w : World} {b : Nat} {r : Cl} (h : BoxC w b r) {x : Int} {q : Cl} (hq : q = ⟨x, r.fg, r.bg, r.fl⟩) : BoxC (w.setCell ⟨b, 0, none⟩ (.int .i32 x)) b q := by
  subst hq
  obtain ⟨h0, h1, h2, h3, k0, k1, k2, k3⟩ := h
  constructor <;> simp [go_sem, *]

theorem BoxC.put1 {w : World} {b : Nat} {r : Cl} (h : BoxC w b r) {x : Int} {q : Cl} (hq : q = ⟨r.r, x, r.bg, r.fl⟩) : BoxC (w.setCell ⟨b, 1, none⟩ (.int .i64 x)) b q := by
  subst hq
  obtain ⟨h0, h1, h2, h3, k0, k1, k2, k3⟩ := h
  constructor <;> simp [go_sem, *]

theorem BoxC.put2 {w : World} {b : Nat} {r : Cl} (h : BoxC w b r) {x : Int} {q : Cl} (hq : q = ⟨r.r, r.fg, x, r.fl⟩) : BoxC (w.setCell ⟨b, 2, none⟩ (.int .i64 x)) b q := by
  subst hq
  obtain ⟨h0, h1, h2, h3, k0, k1, k2, k3⟩ := h
  constructor <;> simp [go_sem, *]

theorem BoxC.put3 {w : World} {b : Nat} {r : Cl} (h : BoxC w b r) {x : Int} {q : Cl} (hq : q = ⟨r.r, r.fg, r.bg, x⟩) : BoxC (w.setCell ⟨b, 3, none⟩ (.int .i64 x)) b q := by
  subst hq
  obtain ⟨h0, h1, h2, h3, k0, k1, k2, k3⟩ := h
  constructor <;> simp [go_sem, *]

theorem BoxC.other {w : World} {b b' o : Nat} {r : Cl} {v : Value} (h : BoxC w b r) (hb : b' ≠ b) : BoxC (w.setCell ⟨b', o, none⟩ v) b r :=
  h.stay (T := fun k => k = b') ((Stay.refl (fun k => k = b') w).setCell (S := fun k => k = b') (p := ⟨b', o, none⟩) rfl v) (fun e => hb e.symm)

theorem run_load_BoxC {a : Act} {o : Oper} {x : Operand} {w : World} {b : Nat} {r : Cl} (ho : o.op = .load 34 x) (hx : a.eval x = .pointer (some ⟨b, 0, none⟩)) (hb : BoxC w b r) :
    (execOp a.eval o).run Try.prog w = .ok (.value (.agg #[.int .i32 r.r, .int .i64 r.fg, .int .i64 r.bg, .int .i64 r.fl])) w := by
  unfold execOp
  simp only [ho, hx, Instr.loadAt, Instr.sureAddr, Sem.run_bind, Sem.run_pure, Result.andThen_ok]
  rw [run_loadVar_cells w b 0 34 _ _ hb.cells Try.underlying34 rfl (by kernel_rfl)]
  rfl

/-- One in the midst of a block. -/
structure BoxCAt (w : World) (g o : Nat) (r : Cl) : Prop where
  c0 : w.cell? ⟨g, o, none⟩ = some (.int .i32 r.r)
  c1 : w.cell? ⟨g, o + 1, none⟩ = some (.int .i64 r.fg)
  c2 : w.cell? ⟨g, o + 2, none⟩ = some (.int .i64 r.bg)
  c3 : w.cell? ⟨g, o + 3, none⟩ = some (.int .i64 r.fl)

theorem BoxCAt.keep {W w1 : World} {g o : Nat} {r : Cl} (h : BoxCAt W g o r) (hs : Stay (fun _ => False) W w1) : BoxCAt w1 g o r := ⟨keep_cell hs h.c0, keep_cell hs h.c1, keep_cell hs h.c2, keep_cell hs h.c3⟩

theorem BoxCAt.cells {w : World} {g o : Nat} {r : Cl} (h : BoxCAt w g o r) : ∀ (j : Nat) (v : Value), [Value.int .i32 r.r, .int .i64 r.fg, .int .i64 r.bg, .int .i64 r.fl][j]? = some v → w.cell? ⟨g, o + j, none⟩ = some v := by
  intro j v hj
  match j, hj with
  | 0, hj => cases hj; exact h.c0
  | 1, hj => cases hj; exact h.c1
  | 2, hj => cases hj; exact h.c2
  | 3, hj => cases hj; exact h.c3

theorem run_load_BoxCAt {a : Act} {p : Oper} {x : Operand} {w : World} {g o : Nat} {r : Cl} (ho : p.op = .load 34 x) (hx : a.eval x = .pointer (some ⟨g, o, none⟩)) (hb : BoxCAt w g o r) :
    (execOp a.eval p).run Try.prog w = .ok (.value (.agg #[.int .i32 r.r, .int .i64 r.fg, .int .i64 r.bg, .int .i64 r.fl])) w := by
  unfold execOp
  simp only [ho, hx, Instr.loadAt, Instr.sureAddr, Sem.run_bind, Sem.run_pure, Result.andThen_ok]
  rw [run_loadVar_cells w g o 34 _ _ hb.cells Try.underlying34 rfl (by kernel_rfl)]
  rfl

/-- G3, as a value. -/
structure G3 where
  w : Int
  h : Int
  l : Value

theorem G3.same {a0 a1 a2 : _} {r : G3} (h : r.w = a0 ∧ r.h = a1 ∧ r.l = a2) : r = ⟨a0, a1, a2⟩ := by
  obtain ⟨rfl, rfl, rfl⟩ := h
  rfl

theorem G3.ret {a b : G3} (h : a = b) : Ending.returned (.agg #[.int .i64 a.w, .int .i64 a.h, a.l]) = .returned (.agg #[.int .i64 b.w, .int .i64 b.h, b.l]) := by rw [h]

/-- A box that holds a G3. -/
structure BoxG (w : World) (b : Nat) (r : G3) : Prop where
  c0 : w.cell? ⟨b, 0, none⟩ = some (.int .i64 r.w)
  c1 : w.cell? ⟨b, 1, none⟩ = some (.int .i64 r.h)
  c2 : w.cell? ⟨b, 2, none⟩ = some (r.l)
  f0 : w.frozen? ⟨b, 0, none⟩ = false
  f1 : w.frozen? ⟨b, 1, none⟩ = false
  f2 : w.frozen? ⟨b, 2, none⟩ = false

theorem BoxG.lt {w : World} {b : Nat} {r : G3} (h : BoxG w b r) : b < w.heap.size := World.block_lt_of_cell? _ _ h.c0

theorem BoxG.stay {T : Nat → Prop} {W w1 : World} {b : Nat} {r : G3} (h : BoxG W b r) (hs : Stay T W w1) (hn : ¬ T b) : BoxG w1 b r := by
  have hb : b < W.heap.size := h.lt
  have c : ∀ o, w1.cell? ⟨b, o, none⟩ = W.cell? ⟨b, o, none⟩ := fun o => hs.cell (p := ⟨b, o, none⟩) hb hn
  have f : ∀ o, w1.frozen? ⟨b, o, none⟩ = W.frozen? ⟨b, o, none⟩ := fun o => hs.frozen (p := ⟨b, o, none⟩) hb hn
  exact ⟨(c 0).trans h.c0, (c 1).trans h.c1, (c 2).trans h.c2, (f 0).trans h.f0, (f 1).trans h.f1, (f 2).trans h.f2⟩

theorem BoxG.keep {W w1 : World} {b : Nat} {r : G3} (h : BoxG W b r) (hs : Stay (fun _ => False) W w1) : BoxG w1 b r := h.stay hs (fun h => h)

theorem BoxG.alloc {w : World} {b : Nat} {r : G3} (h : BoxG w b r) (o : Obj) : BoxG (w.alloc o) b r := h.keep ((Stay.refl _ _).alloc o)

theorem BoxG.new {w : World} {b : Nat} (r : G3) (h : w.heap.size = b) : BoxG (w.alloc (.cells #[.int .i64 r.w, .int .i64 r.h, r.l] 28)) b r := by
  subst h
  constructor <;> simp

theorem BoxG.cells {w : World} {b : Nat} {r : G3} (h : BoxG w b r) : ∀ (j : Nat) (v : Value), [Value.int .i64 r.w, .int .i64 r.h, r.l][j]? = some v → w.cell? ⟨b, 0 + j, none⟩ = some v := by
  intro j v hj
  match j, hj with
  | 0, hj => cases hj; exact h.c0
  | 1, hj => cases hj; exact h.c1
  | 2, hj => cases hj; exact h.c2

theorem results_BoxG {fn : Func} {p : Tmp} (h : fn.results = #[.cell p 28]) (tmps : Array Value) (w : World) (g : Nat) (r : G3) (hp : tmps.getD p undef = .pointer (some ⟨g, 0, none⟩)) (hb : BoxG w g r) :
    (results fn tmps).run Try.prog w = .ok (.agg #[.int .i64 r.w, .int .i64 r.h, r.l]) w := results_cells h tmps w g 0 _ _ hp hb.cells Try.underlying28 rfl (by kernel_rfl)

/-- What a struct is behind a call, and nothing that was there has turned. -/
theorem BoxG.ends {w W : World} {fn : Func} {p : Tmp} (h : fn.results = #[.cell p 28]) {tmps : Array Value} {r q : G3} {g : Nat} (hp : tmps.getD p undef = .pointer (some ⟨g, 0, none⟩)) (hb : BoxG W g r) (hq : r = q) (hs : Stay (fun _ => False) w W)
    {d : List Deferred} (hd : d = []) : bodyPost Try.prog fn (Gives (.agg #[.int .i64 q.w, .int .i64 q.h, q.l]) w) Exit.ret { tmps := tmps, defers := d } W := by
  subst hq hd
  exact bodyPost_ret (results_BoxG h _ _ _ r hp hb) rfl ⟨rfl, hs⟩

/-- The world in which a box holds another one. -/
theorem BoxG.put {w : World} {b : Nat} {r0 : G3} (h : BoxG w b r0) (r : G3) : BoxG (((w.setCell ⟨b, 0, none⟩ (.int .i64 r.w)).setCell ⟨b, 1, none⟩ (.int .i64 r.h)).setCell ⟨b, 2, none⟩ (r.l)) b r := by
  obtain ⟨h0, h1, h2, k0, k1, k2⟩ := h
  constructor <;> simp [go_sem, *]

theorem BoxG.stay_put {S : Nat → Prop} {w w1 : World} {b : Nat} (h : Stay S w w1) (hb : w.heap.size ≤ b) (v0 v1 v2 : Value) : Stay S w (((w1.setCell ⟨b, 0, none⟩ v0).setCell ⟨b, 1, none⟩ v1).setCell ⟨b, 2, none⟩ v2) :=
  (((h.setNew hb v0).setNew hb v1).setNew hb v2)

theorem BoxG.put0 {w : World} {b : Nat} {r : G3} (h : BoxG w b r) {x : Int} {q : G3} (hq : q = ⟨x, r.h, r.l⟩) : BoxG (w.setCell ⟨b, 0, none⟩ (.int .i64 x)) b q := by
  subst hq
  obtain ⟨h0, h1, h2, k0, k1, k2⟩ := h
  constructor <;> simp [go_sem, *]

theorem BoxG.put1 {w : World} {b : Nat} {r : G3} (h : BoxG w b r) {x : Int} {q : G3} (hq : q = ⟨r.w, x, r.l⟩) : BoxG (w.setCell ⟨b, 1, none⟩ (.int .i64 x)) b q := by
  subst hq
  obtain ⟨h0, h1, h2, k0, k1, k2⟩ := h
  constructor <;> simp [go_sem, *]

theorem BoxG.put2 {w : World} {b : Nat} {r : G3} (h : BoxG w b r) {x : Value} {q : G3} (hq : q = ⟨r.w, r.h, x⟩) : BoxG (w.setCell ⟨b, 2, none⟩ (x)) b q := by
  subst hq
  obtain ⟨h0, h1, h2, k0, k1, k2⟩ := h
  constructor <;> simp [go_sem, *]

theorem BoxG.other {w : World} {b b' o : Nat} {r : G3} {v : Value} (h : BoxG w b r) (hb : b' ≠ b) : BoxG (w.setCell ⟨b', o, none⟩ v) b r :=
  h.stay (T := fun k => k = b') ((Stay.refl (fun k => k = b') w).setCell (S := fun k => k = b') (p := ⟨b', o, none⟩) rfl v) (fun e => hb e.symm)

theorem run_load_BoxG {a : Act} {o : Oper} {x : Operand} {w : World} {b : Nat} {r : G3} (ho : o.op = .load 28 x) (hx : a.eval x = .pointer (some ⟨b, 0, none⟩)) (hb : BoxG w b r) :
    (execOp a.eval o).run Try.prog w = .ok (.value (.agg #[.int .i64 r.w, .int .i64 r.h, r.l])) w := by
  unfold execOp
  simp only [ho, hx, Instr.loadAt, Instr.sureAddr, Sem.run_bind, Sem.run_pure, Result.andThen_ok]
  rw [run_loadVar_cells w b 0 28 _ _ hb.cells Try.underlying28 rfl (by kernel_rfl)]
  rfl

/-- One in the midst of a block. -/
structure BoxGAt (w : World) (g o : Nat) (r : G3) : Prop where
  c0 : w.cell? ⟨g, o, none⟩ = some (.int .i64 r.w)
  c1 : w.cell? ⟨g, o + 1, none⟩ = some (.int .i64 r.h)
  c2 : w.cell? ⟨g, o + 2, none⟩ = some (r.l)

theorem BoxGAt.keep {W w1 : World} {g o : Nat} {r : G3} (h : BoxGAt W g o r) (hs : Stay (fun _ => False) W w1) : BoxGAt w1 g o r := ⟨keep_cell hs h.c0, keep_cell hs h.c1, keep_cell hs h.c2⟩

theorem BoxGAt.cells {w : World} {g o : Nat} {r : G3} (h : BoxGAt w g o r) : ∀ (j : Nat) (v : Value), [Value.int .i64 r.w, .int .i64 r.h, r.l][j]? = some v → w.cell? ⟨g, o + j, none⟩ = some v := by
  intro j v hj
  match j, hj with
  | 0, hj => cases hj; exact h.c0
  | 1, hj => cases hj; exact h.c1
  | 2, hj => cases hj; exact h.c2

theorem run_load_BoxGAt {a : Act} {p : Oper} {x : Operand} {w : World} {g o : Nat} {r : G3} (ho : p.op = .load 28 x) (hx : a.eval x = .pointer (some ⟨g, o, none⟩)) (hb : BoxGAt w g o r) :
    (execOp a.eval p).run Try.prog w = .ok (.value (.agg #[.int .i64 r.w, .int .i64 r.h, r.l])) w := by
  unfold execOp
  simp only [ho, hx, Instr.loadAt, Instr.sureAddr, Sem.run_bind, Sem.run_pure, Result.andThen_ok]
  rw [run_loadVar_cells w g o 28 _ _ hb.cells Try.underlying28 rfl (by kernel_rfl)]
  rfl

/-- Two cells are the same if their numbers are. -/
@[reducible] def Cl.dec (a b : Cl) : Decidable (a = b) := decidable_of_iff (a.r = b.r ∧ a.fg = b.fg ∧ a.bg = b.bg ∧ a.fl = b.fl) ⟨fun h => by
    obtain ⟨x, y, w, k⟩ := a
    obtain ⟨x', y', w', k'⟩ := b
    simp only at h
    obtain ⟨rfl, rfl, rfl, rfl⟩ := h
    rfl, fun h => by subst h; exact ⟨rfl, rfl, rfl, rfl⟩⟩

attribute [instance] Cl.dec

/-- The blank cell. -/
def Cl.zero : Cl := ⟨0, 0, 0, 0⟩

end Go.Proofs.Ytcealbdinbfegaa
