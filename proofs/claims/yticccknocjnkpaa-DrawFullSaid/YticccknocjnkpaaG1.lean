/-
  Cells and the document's grids, by value, in boxes. No conditions.
  Rows of cells in memory, by an index function. No conditions.
  Grids in memory. No conditions.
  Windows of own rows: what is cut off, what is appended. No conditions.
  Boxes: a write, a frame. No conditions.
-/
import Derived.Test.YticccknocjnkpaaG0
import Derived.Deep.MidRow
import Derived.Laws.OwnMore
import Derived.ArgAppend
import Derived.Maps.AppendAt
namespace Go.Proofs.Yticccknocjnkpaa
open Go.RowKit

/-- Cl, as a value. -/
structure Cl where
  r : Int
  fg : Int
  bg : Int
  fl : Int

theorem Cl.same {a0 a1 a2 a3 : _} {r : Cl} (h : r.r = a0 ∧ r.fg = a1 ∧ r.bg = a2 ∧ r.fl = a3) : r = ⟨a0, a1, a2, a3⟩ := by
  obtain ⟨rfl, rfl, rfl, rfl⟩ := h
  rfl

theorem Cl.ret {a b : Cl} (h : a = b) : Ending.returned (.agg #[.int .i32 a.r, .int .i64 a.fg, .int .i64 a.bg, .int .i64 a.fl]) = .returned (.agg #[.int .i32 b.r, .int .i64 b.fg, .int .i64 b.bg, .int .i64 b.fl]) := by rw [h]

/-- A box that holds a Cl. -/
structure BoxC (w : World) (b : Nat) (r : Cl) : Prop where
  c0 : w.cell? ⟨b, 0, none⟩ = some (.int .i32 r.r)
  c1 : w.cell? ⟨b, 1, none⟩ = some (.int .i64 r.fg)
  c2 : w.cell? ⟨b, 2, none⟩ = some (.int .i64 r.bg)
  c3 : w.cell? ⟨b, 3, none⟩ = some (.int .i64 r.fl)
  f0 : w.frozen? ⟨b, 0, none⟩ = false
  f1 : w.frozen? ⟨b, 1, none⟩ = false
  f2 : w.frozen? ⟨b, 2, none⟩ = false
  f3 : w.frozen? ⟨b, 3, none⟩ = false

theorem BoxC.lt {w : World} {b : Nat} {r : Cl} (h : BoxC w b r) : b < w.heap.size := World.block_lt_of_cell? _ _ h.c0

theorem BoxC.stay {T : Nat → Prop} {W w1 : World} {b : Nat} {r : Cl} (h : BoxC W b r) (hs : Stay T W w1) (hn : ¬ T b) : BoxC w1 b r := by
  have hb : b < W.heap.size := h.lt
  have c : ∀ o, w1.cell? ⟨b, o, none⟩ = W.cell? ⟨b, o, none⟩ := fun o => hs.cell (p := ⟨b, o, none⟩) hb hn
  have f : ∀ o, w1.frozen? ⟨b, o, none⟩ = W.frozen? ⟨b, o, none⟩ := fun o => hs.frozen (p := ⟨b, o, none⟩) hb hn
  exact ⟨(c 0).trans h.c0, (c 1).trans h.c1, (c 2).trans h.c2, (c 3).trans h.c3, (f 0).trans h.f0, (f 1).trans h.f1, (f 2).trans h.f2, (f 3).trans h.f3⟩

theorem BoxC.keep {W w1 : World} {b : Nat} {r : Cl} (h : BoxC W b r) (hs : Stay (fun _ => False) W w1) : BoxC w1 b r := h.stay hs (fun h => h)

theorem BoxC.alloc {w : World} {b : Nat} {r : Cl} (h : BoxC w b r) (o : Obj) : BoxC (w.alloc o) b r := h.keep ((Stay.refl _ _).alloc o)

theorem BoxC.new {w : World} {b : Nat} (r : Cl) (h : w.heap.size = b) : BoxC (w.alloc (.cells #[.int .i32 r.r, .int .i64 r.fg, .int .i64 r.bg, .int .i64 r.fl] 53)) b r := by
  subst h
  constructor <;> simp

theorem BoxC.cells {w : World} {b : Nat} {r : Cl} (h : BoxC w b r) : ∀ (j : Nat) (v : Value), [Value.int .i32 r.r, .int .i64 r.fg, .int .i64 r.bg, .int .i64 r.fl][j]? = some v → w.cell? ⟨b, 0 + j, none⟩ = some v := by
  intro j v hj
  match j, hj with
  | 0, hj => cases hj; exact h.c0
  | 1, hj => cases hj; exact h.c1
  | 2, hj => cases hj; exact h.c2
  | 3, hj => cases hj; exact h.c3

theorem results_BoxC {fn : Func} {p : Tmp} (h : fn.results = #[.cell p 53]) (tmps : Array Value) (w : World) (g : Nat) (r : Cl) (hp : tmps.getD p undef = .pointer (some ⟨g, 0, none⟩)) (hb : BoxC w g r) :
    (results fn tmps).run Try.prog w = .ok (.agg #[.int .i32 r.r, .int .i64 r.fg, .int .i64 r.bg, .int .i64 r.fl]) w := results_cells h tmps w g 0 _ _ hp hb.cells Try.underlying53 rfl (by kernel_rfl)

/-- What a struct is behind a call, and nothing that was there has turned. -/
theorem BoxC.ends {w W : World} {fn : Func} {p : Tmp} (h : fn.results = #[.cell p 53]) {tmps : Array Value} {r q : Cl} {g : Nat} (hp : tmps.getD p undef = .pointer (some ⟨g, 0, none⟩)) (hb : BoxC W g r) (hq : r = q) (hs : Stay (fun _ => False) w W)
    {d : List Deferred} (hd : d = []) : bodyPost Try.prog fn (Gives (.agg #[.int .i32 q.r, .int .i64 q.fg, .int .i64 q.bg, .int .i64 q.fl]) w) Exit.ret { tmps := tmps, defers := d } W := by
  subst hq hd
  exact bodyPost_ret (results_BoxC h _ _ _ r hp hb) rfl ⟨rfl, hs⟩

/-- The world in which a box holds another one. -/
theorem BoxC.put {w : World} {b : Nat} {r0 : Cl} (h : BoxC w b r0) (r : Cl) : BoxC ((((w.setCell ⟨b, 0, none⟩ (.int .i32 r.r)).setCell ⟨b, 1, none⟩ (.int .i64 r.fg)).setCell ⟨b, 2, none⟩ (.int .i64 r.bg)).setCell ⟨b, 3, none⟩ (.int .i64 r.fl)) b r := by
  obtain ⟨h0, h1, h2, h3, k0, k1, k2, k3⟩ := h
  constructor <;> simp [go_sem, *]

theorem BoxC.stay_put {S : Nat → Prop} {w w1 : World} {b : Nat} (h : Stay S w w1) (hb : w.heap.size ≤ b) (v0 v1 v2 v3 : Value) : Stay S w ((((w1.setCell ⟨b, 0, none⟩ v0).setCell ⟨b, 1, none⟩ v1).setCell ⟨b, 2, none⟩ v2).setCell ⟨b, 3, none⟩ v3) :=
  ((((h.setNew hb v0).setNew hb v1).setNew hb v2).setNew hb v3)

theorem BoxC.put0 {w : World} {b : Nat} {r : Cl} (h : BoxC w b r) {x : Int} {q : Cl} (hq : q = ⟨x, r.fg, r.bg, r.fl⟩) : BoxC (w.setCell ⟨b, 0, none⟩ (.int .i32 x)) b q := by
  subst hq
  obtain ⟨h0, h1, h2, h3, k0, k1, k2, k3⟩ := h
  constructor <;> simp [go_sem, *]

theorem BoxC.put1 {w : World} {b : Nat} {r : Cl} (h : BoxC w b r) {x : Int} {q : Cl} (hq : q = ⟨r.r, x, r.bg, r.fl⟩) : BoxC (w.setCell ⟨b, 1, none⟩ (.int .i64 x)) b q := by
  subst hq
  obtain ⟨h0, h1, h2, h3, k0, k1, k2, k3⟩ := h
  constructor <;> simp [go_sem, *]

theorem BoxC.put2 {w : World} {b : Nat} {r : Cl} (h : BoxC w b r) {x : Int} {q : Cl} (hq : q = ⟨r.r, r.fg, x, r.fl⟩) : BoxC (w.setCell ⟨b, 2, none⟩ (.int .i64 x)) b q := by
  subst hq
  obtain ⟨h0, h1, h2, h3, k0, k1, k2, k3⟩ := h
  constructor <;> simp [go_sem, *]

theorem BoxC.put3 {w : World} {b : Nat} {r : Cl} (h : BoxC w b r) {x : Int} {q : Cl} (hq : q = ⟨r.r, r.fg, r.bg, x⟩) : BoxC (w.setCell ⟨b, 3, none⟩ (.int .i64 x)) b q := by
  subst hq
  obtain ⟨h0, h1, h2, h3, k0, k1, k2, k3⟩ := h
  constructor <;> simp [go_sem, *]

theorem BoxC.other {w : World} {b b' o : Nat} {r : Cl} {v : Value} (h : BoxC w b r) (hb : b' ≠ b) : BoxC (w.setCell ⟨b', o, none⟩ v) b r :=
  h.stay (T := fun k => k = b') ((Stay.refl (fun k => k = b') w).setCell (S := fun k => k = b') (p := ⟨b', o, none⟩) rfl v) (fun e => hb e.symm)

theorem run_load_BoxC {a : Act} {o : Oper} {x : Operand} {w : World} {b : Nat} {r : Cl} (ho : o.op = .load 53 x) (hx : a.eval x = .pointer (some ⟨b, 0, none⟩)) (hb : BoxC w b r) :
    (execOp a.eval o).run Try.prog w = .ok (.value (.agg #[.int .i32 r.r, .int .i64 r.fg, .int .i64 r.bg, .int .i64 r.fl])) w := by
  unfold execOp
  simp only [ho, hx, Instr.loadAt, Instr.sureAddr, Sem.run_bind, Sem.run_pure, Result.andThen_ok]
  rw [run_loadVar_cells w b 0 53 _ _ hb.cells Try.underlying53 rfl (by kernel_rfl)]
  rfl

/-- One in the midst of a block. -/
structure BoxCAt (w : World) (g o : Nat) (r : Cl) : Prop where
  c0 : w.cell? ⟨g, o, none⟩ = some (.int .i32 r.r)
  c1 : w.cell? ⟨g, o + 1, none⟩ = some (.int .i64 r.fg)
  c2 : w.cell? ⟨g, o + 2, none⟩ = some (.int .i64 r.bg)
  c3 : w.cell? ⟨g, o + 3, none⟩ = some (.int .i64 r.fl)

theorem BoxCAt.keep {W w1 : World} {g o : Nat} {r : Cl} (h : BoxCAt W g o r) (hs : Stay (fun _ => False) W w1) : BoxCAt w1 g o r := ⟨keep_cell hs h.c0, keep_cell hs h.c1, keep_cell hs h.c2, keep_cell hs h.c3⟩

theorem BoxCAt.cells {w : World} {g o : Nat} {r : Cl} (h : BoxCAt w g o r) : ∀ (j : Nat) (v : Value), [Value.int .i32 r.r, .int .i64 r.fg, .int .i64 r.bg, .int .i64 r.fl][j]? = some v → w.cell? ⟨g, o + j, none⟩ = some v := by
  intro j v hj
  match j, hj with
  | 0, hj => cases hj; exact h.c0
  | 1, hj => cases hj; exact h.c1
  | 2, hj => cases hj; exact h.c2
  | 3, hj => cases hj; exact h.c3

theorem run_load_BoxCAt {a : Act} {p : Oper} {x : Operand} {w : World} {g o : Nat} {r : Cl} (ho : p.op = .load 53 x) (hx : a.eval x = .pointer (some ⟨g, o, none⟩)) (hb : BoxCAt w g o r) :
    (execOp a.eval p).run Try.prog w = .ok (.value (.agg #[.int .i32 r.r, .int .i64 r.fg, .int .i64 r.bg, .int .i64 r.fl])) w := by
  unfold execOp
  simp only [ho, hx, Instr.loadAt, Instr.sureAddr, Sem.run_bind, Sem.run_pure, Result.andThen_ok]
  rw [run_loadVar_cells w g o 53 _ _ hb.cells Try.underlying53 rfl (by kernel_rfl)]
  rfl

/-- G3, as a value. -/
structure G3 where
  w : Int
  h : Int
  l : Value

theorem G3.same {a0 a1 a2 : _} {r : G3} (h : r.w = a0 ∧ r.h = a1 ∧ r.l = a2) : r = ⟨a0, a1, a2⟩ := by
  obtain ⟨rfl, rfl, rfl⟩ := h
  rfl

theorem G3.ret {a b : G3} (h : a = b) : Ending.returned (.agg #[.int .i64 a.w, .int .i64 a.h, a.l]) = .returned (.agg #[.int .i64 b.w, .int .i64 b.h, b.l]) := by rw [h]

/-- A box that holds a G3. -/
structure BoxG (w : World) (b : Nat) (r : G3) : Prop where
  c0 : w.cell? ⟨b, 0, none⟩ = some (.int .i64 r.w)
  c1 : w.cell? ⟨b, 1, none⟩ = some (.int .i64 r.h)
  c2 : w.cell? ⟨b, 2, none⟩ = some (r.l)
  f0 : w.frozen? ⟨b, 0, none⟩ = false
  f1 : w.frozen? ⟨b, 1, none⟩ = false
  f2 : w.frozen? ⟨b, 2, none⟩ = false

theorem BoxG.lt {w : World} {b : Nat} {r : G3} (h : BoxG w b r) : b < w.heap.size := World.block_lt_of_cell? _ _ h.c0

theorem BoxG.stay {T : Nat → Prop} {W w1 : World} {b : Nat} {r : G3} (h : BoxG W b r) (hs : Stay T W w1) (hn : ¬ T b) : BoxG w1 b r := by
  have hb : b < W.heap.size := h.lt
  have c : ∀ o, w1.cell? ⟨b, o, none⟩ = W.cell? ⟨b, o, none⟩ := fun o => hs.cell (p := ⟨b, o, none⟩) hb hn
  have f : ∀ o, w1.frozen? ⟨b, o, none⟩ = W.frozen? ⟨b, o, none⟩ := fun o => hs.frozen (p := ⟨b, o, none⟩) hb hn
  exact ⟨(c 0).trans h.c0, (c 1).trans h.c1, (c 2).trans h.c2, (f 0).trans h.f0, (f 1).trans h.f1, (f 2).trans h.f2⟩

theorem BoxG.keep {W w1 : World} {b : Nat} {r : G3} (h : BoxG W b r) (hs : Stay (fun _ => False) W w1) : BoxG w1 b r := h.stay hs (fun h => h)

theorem BoxG.alloc {w : World} {b : Nat} {r : G3} (h : BoxG w b r) (o : Obj) : BoxG (w.alloc o) b r := h.keep ((Stay.refl _ _).alloc o)

theorem BoxG.new {w : World} {b : Nat} (r : G3) (h : w.heap.size = b) : BoxG (w.alloc (.cells #[.int .i64 r.w, .int .i64 r.h, r.l] 35)) b r := by
  subst h
  constructor <;> simp

theorem BoxG.cells {w : World} {b : Nat} {r : G3} (h : BoxG w b r) : ∀ (j : Nat) (v : Value), [Value.int .i64 r.w, .int .i64 r.h, r.l][j]? = some v → w.cell? ⟨b, 0 + j, none⟩ = some v := by
  intro j v hj
  match j, hj with
  | 0, hj => cases hj; exact h.c0
  | 1, hj => cases hj; exact h.c1
  | 2, hj => cases hj; exact h.c2

theorem results_BoxG {fn : Func} {p : Tmp} (h : fn.results = #[.cell p 35]) (tmps : Array Value) (w : World) (g : Nat) (r : G3) (hp : tmps.getD p undef = .pointer (some ⟨g, 0, none⟩)) (hb : BoxG w g r) :
    (results fn tmps).run Try.prog w = .ok (.agg #[.int .i64 r.w, .int .i64 r.h, r.l]) w := results_cells h tmps w g 0 _ _ hp hb.cells Try.underlying35 rfl (by kernel_rfl)

/-- What a struct is behind a call, and nothing that was there has turned. -/
theorem BoxG.ends {w W : World} {fn : Func} {p : Tmp} (h : fn.results = #[.cell p 35]) {tmps : Array Value} {r q : G3} {g : Nat} (hp : tmps.getD p undef = .pointer (some ⟨g, 0, none⟩)) (hb : BoxG W g r) (hq : r = q) (hs : Stay (fun _ => False) w W)
    {d : List Deferred} (hd : d = []) : bodyPost Try.prog fn (Gives (.agg #[.int .i64 q.w, .int .i64 q.h, q.l]) w) Exit.ret { tmps := tmps, defers := d } W := by
  subst hq hd
  exact bodyPost_ret (results_BoxG h _ _ _ r hp hb) rfl ⟨rfl, hs⟩

/-- The world in which a box holds another one. -/
theorem BoxG.put {w : World} {b : Nat} {r0 : G3} (h : BoxG w b r0) (r : G3) : BoxG (((w.setCell ⟨b, 0, none⟩ (.int .i64 r.w)).setCell ⟨b, 1, none⟩ (.int .i64 r.h)).setCell ⟨b, 2, none⟩ (r.l)) b r := by
  obtain ⟨h0, h1, h2, k0, k1, k2⟩ := h
  constructor <;> simp [go_sem, *]

theorem BoxG.stay_put {S : Nat → Prop} {w w1 : World} {b : Nat} (h : Stay S w w1) (hb : w.heap.size ≤ b) (v0 v1 v2 : Value) : Stay S w (((w1.setCell ⟨b, 0, none⟩ v0).setCell ⟨b, 1, none⟩ v1).setCell ⟨b, 2, none⟩ v2) :=
  (((h.setNew hb v0).setNew hb v1).setNew hb v2)

theorem BoxG.put0 {w : World} {b : Nat} {r : G3} (h : BoxG w b r) {x : Int} {q : G3} (hq : q = ⟨x, r.h, r.l⟩) : BoxG (w.setCell ⟨b, 0, none⟩ (.int .i64 x)) b q := by
  subst hq
  obtain ⟨h0, h1, h2, k0, k1, k2⟩ := h
  constructor <;> simp [go_sem, *]

theorem BoxG.put1 {w : World} {b : Nat} {r : G3} (h : BoxG w b r) {x : Int} {q : G3} (hq : q = ⟨r.w, x, r.l⟩) : BoxG (w.setCell ⟨b, 1, none⟩ (.int .i64 x)) b q := by
  subst hq
  obtain ⟨h0, h1, h2, k0, k1, k2⟩ := h
  constructor <;> simp [go_sem, *]

theorem BoxG.put2 {w : World} {b : Nat} {r : G3} (h : BoxG w b r) {x : Value} {q : G3} (hq : q = ⟨r.w, r.h, x⟩) : BoxG (w.setCell ⟨b, 2, none⟩ (x)) b q := by
  subst hq
  obtain ⟨h0, h1, h2, k0, k1, k2⟩ := h
  constructor <;> simp [go_sem, *]

theorem BoxG.other {w : World} {b b' o : Nat} {r : G3} {v : Value} (h : BoxG w b r) (hb : b' ≠ b) : BoxG (w.setCell ⟨b', o, none⟩ v) b r :=
  h.stay (T := fun k => k = b') ((Stay.refl (fun k => k = b') w).setCell (S := fun k => k = b') (p := ⟨b', o, none⟩) rfl v) (fun e => hb e.symm)

theorem run_load_BoxG {a : Act} {o : Oper} {x : Operand} {w : World} {b : Nat} {r : G3} (ho : o.op = .load 35 x) (hx : a.eval x = .pointer (some ⟨b, 0, none⟩)) (hb : BoxG w b r) :
    (execOp a.eval o).run Try.prog w = .ok (.value (.agg #[.int .i64 r.w, .int .i64 r.h, r.l])) w := by
  unfold execOp
  simp only [ho, hx, Instr.loadAt, Instr.sureAddr, Sem.run_bind, Sem.run_pure, Result.andThen_ok]
  rw [run_loadVar_cells w b 0 35 _ _ hb.cells Try.underlying35 rfl (by kernel_rfl)]
  rfl

/-- One in the midst of a block. -/
structure BoxGAt (w : World) (g o : Nat) (r : G3) : Prop where
  c0 : w.cell? ⟨g, o, none⟩ = some (.int .i64 r.w)
  c1 : w.cell? ⟨g, o + 1, none⟩ = some (.int .i64 r.h)
  c2 : w.cell? ⟨g, o + 2, none⟩ = some (r.l)

theorem BoxGAt.keep {W w1 : World} {g o : Nat} {r : G3} (h : BoxGAt W g o r) (hs : Stay (fun _ => False) W w1) : BoxGAt w1 g o r := ⟨keep_cell hs h.c0, keep_cell hs h.c1, keep_cell hs h.c2⟩

theorem BoxGAt.cells {w : World} {g o : Nat} {r : G3} (h : BoxGAt w g o r) : ∀ (j : Nat) (v : Value), [Value.int .i64 r.w, .int .i64 r.h, r.l][j]? = some v → w.cell? ⟨g, o + j, none⟩ = some v := by
  intro j v hj
  match j, hj with
  | 0, hj => cases hj; exact h.c0
  | 1, hj => cases hj; exact h.c1
  | 2, hj => cases hj; exact h.c2

theorem run_load_BoxGAt {a : Act} {p : Oper} {x : Operand} {w : World} {g o : Nat} {r : G3} (ho : p.op = .load 35 x) (hx : a.eval x = .pointer (some ⟨g, o, none⟩)) (hb : BoxGAt w g o r) :
    (execOp a.eval p).run Try.prog w = .ok (.value (.agg #[.int .i64 r.w, .int .i64 r.h, r.l])) w := by
  unfold execOp
  simp only [ho, hx, Instr.loadAt, Instr.sureAddr, Sem.run_bind, Sem.run_pure, Result.andThen_ok]
  rw [run_loadVar_cells w g o 35 _ _ hb.cells Try.underlying35 rfl (by kernel_rfl)]
  rfl

/-- Two cells are the same if their numbers are. -/
@[reducible] def Cl.dec (a b : Cl) : Decidable (a = b) := decidable_of_iff (a.r = b.r ∧ a.fg = b.fg ∧ a.bg = b.bg ∧ a.fl = b.fl) ⟨fun h => by
    obtain ⟨x, y, w, k⟩ := a
    obtain ⟨x', y', w', k'⟩ := b
    simp only at h
    obtain ⟨rfl, rfl, rfl, rfl⟩ := h
    rfl, fun h => by subst h; exact ⟨rfl, rfl, rfl, rfl⟩⟩

attribute [instance] Cl.dec

/-- The blank cell. -/
def Cl.zero : Cl := ⟨0, 0, 0, 0⟩

end Go.Proofs.Yticccknocjnkpaa

namespace Go.Proofs.Yticccknocjnkpaa
open Go.RowKit

/-- A cell's parts. -/
def Cl.parts (c : Cl) : List Value := [.int .i32 c.r, .int .i64 c.fg, .int .i64 c.bg, .int .i64 c.fl]

theorem Cl.parts_one (c : Cl) : ∀ v ∈ c.parts, v.oneCell' = true := by
  intro v hv
  simp only [Cl.parts, List.mem_cons, List.not_mem_nil, or_false] at hv
  rcases hv with rfl | rfl | rfl | rfl <;> rfl

theorem Cl.all_one (c : Cl) : (#[Value.int .i32 c.r, .int .i64 c.fg, .int .i64 c.bg, .int .i64 c.fl] : Array Value).all (fun x => x.oneCell') = true := by simp [Value.oneCell']

/-- A cell that lies in a block, and may be written. -/
def CAt (w : World) (b o : Nat) (c : Cl) : Prop := w.rangeAt b o c.parts ∧ w.there b o 4

/-- The first n cells of a block. -/
def Pix (w : World) (b n : Nat) (f : Nat → Cl) : Prop := ∀ i, i < n → CAt w b (i * 4) (f i)

theorem CAt.lt {w : World} {b o : Nat} {c : Cl} (h : CAt w b o c) : b < w.heap.size := World.block_lt_of_cell? _ _ (h.1 0 _ rfl)

theorem CAt.stay {T : Nat → Prop} {w w1 : World} {b o : Nat} {c : Cl} (h : CAt w b o c) (hs : Stay T w w1) (hn : ¬ T b) : CAt w1 b o c :=
  ⟨fun j v hv => (hs.cell (p := ⟨b, o + j, none⟩) h.lt hn).trans (h.1 j v hv), fun j hj => by
    rw [hs.cell (p := ⟨b, o + j, none⟩) h.lt hn, hs.frozen (p := ⟨b, o + j, none⟩) h.lt hn]; exact h.2 j hj⟩

theorem Pix.stay {T : Nat → Prop} {w w1 : World} {b n : Nat} {f : Nat → Cl} (h : Pix w b n f) (hs : Stay T w w1) (hn : ¬ T b) : Pix w1 b n f := fun i hi => (h i hi).stay hs hn

theorem Pix.keep {w w1 : World} {b n : Nat} {f : Nat → Cl} (h : Pix w b n f) (hs : Stay (fun _ => False) w w1) : Pix w1 b n f := h.stay hs (fun h => h)

theorem Pix.congr {w : World} {b n : Nat} {f g : Nat → Cl} (h : Pix w b n f) (e : ∀ i, i < n → f i = g i) : Pix w b n g := fun i hi => by rw [← e i hi]; exact h i hi

theorem Pix.lt {w : World} {b n : Nat} {f : Nat → Cl} (h : Pix w b n f) (hn : 0 < n) : b < w.heap.size := (h 0 hn).lt

theorem Stay.setCells {S : Nat → Prop} (b : Nat) : ∀ (vs : List Value) (o : Nat) {w w1 : World}, Stay S w w1 → S b → Stay S w (w1.setCells b o vs)
  | [], _, _, _, h, _ => h
  | v :: r, o, _, _, h, hb => Stay.setCells b r (o + 1) (h.setCell (p := ⟨b, o, none⟩) hb v) hb

theorem Stay.setCellsNew {S : Nat → Prop} (b : Nat) : ∀ (vs : List Value) (o : Nat) {w w1 : World}, Stay S w w1 → w.heap.size ≤ b → Stay S w (w1.setCells b o vs)
  | [], _, _, _, h, _ => h
  | v :: r, o, _, _, h, hb => Stay.setCellsNew b r (o + 1) (h.setNew (p := ⟨b, o, none⟩) hb v) hb

/-- One cell is set. -/
theorem Pix.set {w : World} {b n : Nat} {f : Nat → Cl} (h : Pix w b n f) (k : Nat) (c : Cl) : Pix (w.setCells b (k * 4) c.parts) b n (fun i => if i = k then c else f i) := by
  intro i hi
  have hl : c.parts.length = 4 := rfl
  by_cases hk : i = k
  · subst hk
    simp only [if_pos]
    exact ⟨World.rangeAt_setCells_same w b (i * 4) c.parts (h i hi).2, World.there_setCells (h i hi).2 _ _ _⟩
  · simp only [if_neg hk]
    refine ⟨World.rangeAt_setCells_apart (h i hi).1 b (k * 4) c.parts (.inr ?_), World.there_setCells (h i hi).2 _ _ _⟩
    have : (f i).parts.length = 4 := rfl
    omega

/-- The parts of cells, one behind the other. -/
def seg (n : Nat) (f : Nat → Cl) : List Value := (List.range n).flatMap (fun i => (f i).parts)

theorem seg_succ (n : Nat) (f : Nat → Cl) : seg (n + 1) f = seg n f ++ (f n).parts := by
  unfold seg
  rw [List.range_succ, List.flatMap_append]
  simp

theorem seg_length (f : Nat → Cl) : ∀ n, (seg n f).length = n * 4
  | 0 => rfl
  | n + 1 => by rw [seg_succ, List.length_append, seg_length f n]; show _ + 4 = _; omega

theorem seg_get (f : Nat → Cl) (i j : Nat) (hj : j < 4) : ∀ n, i < n → (seg n f)[i * 4 + j]? = (f i).parts[j]?
  | 0, h => absurd h (Nat.not_lt_zero _)
  | n + 1, h => by
    rw [seg_succ]
    by_cases hi : i < n
    · rw [List.getElem?_append_left (by rw [seg_length]; omega)]
      exact seg_get f i j hj n hi
    · obtain rfl : i = n := by omega
      rw [List.getElem?_append_right (by rw [seg_length]; omega), seg_length]
      congr 1
      omega

theorem seg_at (f : Nat → Cl) (n k : Nat) (v : Value) (h : (seg n f)[k]? = some v) : ∃ i j, k = i * 4 + j ∧ i < n ∧ j < 4 ∧ (f i).parts[j]? = some v := by
  have hk : k < n * 4 := by
    have := (List.getElem?_eq_some_iff.1 h).1
    rwa [seg_length] at this
  refine ⟨k / 4, k % 4, by omega, by omega, by omega, ?_⟩
  rw [← seg_get f (k / 4) (k % 4) (by omega) n (by omega), ← h]
  congr 1
  omega

theorem seg_one (n : Nat) (f : Nat → Cl) : ∀ v ∈ seg n f, v.oneCell' = true := by
  intro v hv
  obtain ⟨i, _, h⟩ := List.mem_flatMap.1 hv
  exact Cl.parts_one _ v h

theorem seg_congr {f g : Nat → Cl} : ∀ {n : Nat}, (∀ i, i < n → f i = g i) → seg n f = seg n g
  | 0, _ => rfl
  | n + 1, h => by rw [seg_succ, seg_succ, seg_congr (fun i hi => h i (by omega)), h n (by omega)]

/-- What a copy reads. -/
theorem Pix.src {w : World} {b n : Nat} {f : Nat → Cl} (h : Pix w b n f) (s m : Nat) (hm : s + m ≤ n) : ∀ j v, (seg m (fun i => f (s + i)))[j]? = some v → w.cell? ⟨b, s * 4 + j, none⟩ = some v := by
  intro j v hv
  obtain ⟨i, k, rfl, hi, hk, hp⟩ := seg_at _ _ _ _ hv
  have := (h (s + i) (by omega)).1 k v hp
  rwa [show (s + i) * 4 + k = s * 4 + (i * 4 + k) by omega] at this

theorem Pix.there {w : World} {b n : Nat} {f : Nat → Cl} (h : Pix w b n f) (s m : Nat) (hm : s + m ≤ n) : w.there b (s * 4) (m * 4) := by
  intro j hj
  have := (h (s + j / 4) (by omega)).2 (j % 4) (by omega)
  rwa [show (s + j / 4) * 4 + j % 4 = s * 4 + j by omega] at this

/-- Cells are written, one behind the other. -/
theorem Pix.copy {w : World} {b n : Nat} {f : Nat → Cl} (h : Pix w b n f) (k m : Nat) (g : Nat → Cl) (hm : k + m ≤ n) : Pix (w.setCells b (k * 4) (seg m g)) b n (fun i => if k ≤ i ∧ i < k + m then g (i - k) else f i) := by
  intro i hi
  have hl := seg_length g m
  by_cases hk : k ≤ i ∧ i < k + m
  · simp only [if_pos hk]
    refine ⟨fun j v hv => ?_, World.there_setCells (h i hi).2 _ _ _⟩
    have hj : j < 4 := (List.getElem?_eq_some_iff.1 hv).1
    have e : i * 4 + j = k * 4 + ((i - k) * 4 + j) := by omega
    have ht := h.there k m hm
    have hlt : (i - k) * 4 + j < (seg m g).length := by rw [hl]; omega
    rw [e, World.cell?_setCells_in b (seg m g) (k * 4) w (fun j hj => (ht j (by rwa [hl] at hj)).1) _ hlt]
    have := seg_get g (i - k) j hj m (by omega)
    rw [List.getElem?_eq_getElem hlt, hv] at this
    exact this
  · simp only [if_neg hk]
    refine ⟨World.rangeAt_setCells_apart (h i hi).1 b (k * 4) _ (.inr ?_), World.there_setCells (h i hi).2 _ _ _⟩
    have : (f i).parts.length = 4 := rfl
    rw [hl]
    omega

/-- An own row's cells. -/
theorem Pix.of_owns {w : World} {base e n g cap : Nat} {f : Nat → Cl} (h : w.ownsRow base e 4 (.slice (some ⟨g, 0, none⟩) n cap) n (seg n f)) : Pix w g n f := by
  intro i hi
  have c : ∀ j, j < 4 → w.cell? ⟨g, i * 4 + j, none⟩ = (f i).parts[j]? := fun j hj => by rw [h.cellAt (i * 4 + j) (by omega), seg_get f i j hj n hi]
  refine ⟨fun j v hv => ?_, fun j hj => ⟨?_, h.frozenAt _⟩⟩
  · rw [c j (List.getElem?_eq_some_iff.1 hv).1, hv]
  · rw [c j hj]
    match j, hj with
    | 0, _ => rfl
    | 1, _ => rfl
    | 2, _ => rfl
    | 3, _ => rfl

theorem Pix.row {w : World} {b n : Nat} {f : Nat → Cl} (h : Pix w b n f) (s m c : Nat) (hm : s + m ≤ n) : IsRowS w 4 (.slice (some ⟨b, s * 4, none⟩) m c) m (seg m (fun i => f (s + i))) :=
  .inr ⟨_, c, rfl, seg_length _ _, fun j u hu => by rw [addr_add]; exact h.src s m hm j u hu⟩

theorem made_seg (n : Nat) : (madeCells (Cl.zero.parts.toArray) (n * 4)).toList = seg n (fun _ => Cl.zero) := by
  apply List.ext_getElem?
  intro k
  by_cases hk : k < n * 4
  · have e := seg_get (fun _ => Cl.zero) (k / 4) (k % 4) (by omega) n (by omega)
    rw [show k / 4 * 4 + k % 4 = k by omega] at e
    rw [e]
    simp [madeCells, hk, Cl.parts]
    have : k % 4 < 4 := by omega
    match k % 4, this with
    | 0, _ => rfl
    | 1, _ => rfl
    | 2, _ => rfl
    | 3, _ => rfl
  · have hl := seg_length (fun _ => Cl.zero) n
    rw [List.getElem?_eq_none (by simp [madeCells]; omega), List.getElem?_eq_none (by omega)]

theorem Pix.made (w : World) (n : Nat) (hm : n ≤ maxLen) : Pix (w.alloc (.cells (madeCells (Cl.zero.parts.toArray) (n * 4)) 53)) w.heap.size n (fun _ => Cl.zero) := by
  have h := owns_newS w (madeCells (Cl.zero.parts.toArray) (n * 4)) 53 4 n (by simp [madeCells]) hm
  rw [made_seg] at h
  exact Pix.of_owns h

end Go.Proofs.Yticccknocjnkpaa

namespace Go.Proofs.Yticccknocjnkpaa
open Go.RowKit

/-- Where a grid lies, and its size. -/
structure Gr where
  g : Nat
  br : Nat
  bc : Nat
  w : Nat
  h : Nat

/-- A grid that lies in memory, and its cells, row by row. -/
structure GridAt (W : World) (G : Gr) (f : Nat → Cl) : Prop where
  top : W.cell? ⟨G.g, 0, none⟩ = some (.slice (some ⟨G.br, 0, none⟩) G.h G.h)
  rows : ∀ y, y < G.h → W.cell? ⟨G.br, y, none⟩ = some (.slice (some ⟨G.bc, y * G.w * 4, none⟩) G.w (G.w * G.h - y * G.w))
  pix : Pix W G.bc (G.w * G.h) f
  w1 : 1 ≤ G.w
  w2 : G.w ≤ 512
  h1 : 1 ≤ G.h
  h2 : G.h ≤ 512
  ne1 : G.g ≠ G.bc
  ne2 : G.br ≠ G.bc

/-- A block that a grid does not lie in. -/
def Gr.off (G : Gr) (b : Nat) : Prop := G.g ≠ b ∧ G.br ≠ b ∧ G.bc ≠ b

/-- A grid that lies behind a block. -/
def Gr.above (G : Gr) (B : Nat) : Prop := B ≤ G.g ∧ B ≤ G.br ∧ B ≤ G.bc

theorem GridAt.size {W : World} {G : Gr} {f : Nat → Cl} (h : GridAt W G f) : 0 < G.w * G.h := Nat.mul_pos h.w1 h.h1

theorem GridAt.lt {W : World} {G : Gr} {f : Nat → Cl} (h : GridAt W G f) : G.g < W.heap.size ∧ G.br < W.heap.size ∧ G.bc < W.heap.size :=
  ⟨World.block_lt_of_cell? _ _ h.top, World.block_lt_of_cell? _ _ (h.rows 0 h.h1), h.pix.lt h.size⟩

theorem GridAt.stay {T : Nat → Prop} {W W1 : World} {G : Gr} {f : Nat → Cl} (h : GridAt W G f) (hs : Stay T W W1) (n1 : ¬ T G.g) (n2 : ¬ T G.br) (n3 : ¬ T G.bc) : GridAt W1 G f :=
  ⟨(hs.cell (p := ⟨G.g, 0, none⟩) h.lt.1 n1).trans h.top, fun y hy => (hs.cell (p := ⟨G.br, y, none⟩) h.lt.2.1 n2).trans (h.rows y hy), h.pix.stay hs n3, h.w1, h.w2, h.h1, h.h2, h.ne1, h.ne2⟩

theorem GridAt.keep {W W1 : World} {G : Gr} {f : Nat → Cl} (h : GridAt W G f) (hs : Stay (fun _ => False) W W1) : GridAt W1 G f := h.stay hs (fun h => h) (fun h => h) (fun h => h)

theorem GridAt.apart {W W1 : World} {G : Gr} {f : Nat → Cl} {b : Nat} (h : GridAt W G f) (hs : Stay (fun k => k = b) W W1) (ho : G.off b) : GridAt W1 G f := h.stay hs ho.1 ho.2.1 ho.2.2

theorem GridAt.congr {W : World} {G : Gr} {f g : Nat → Cl} (h : GridAt W G f) (e : ∀ i, i < G.w * G.h → f i = g i) : GridAt W G g :=
  ⟨h.top, h.rows, h.pix.congr e, h.w1, h.w2, h.h1, h.h2, h.ne1, h.ne2⟩

theorem GridAt.off_new {W : World} {G : Gr} {f : Nat → Cl} (h : GridAt W G f) {b : Nat} (hb : W.heap.size ≤ b) : G.off b := by
  have := h.lt
  unfold Gr.off
  omega

/-- One cell is set. -/
theorem GridAt.put {W : World} {G : Gr} {f : Nat → Cl} (h : GridAt W G f) (k : Nat) (c : Cl) : GridAt (W.setCells G.bc (k * 4) c.parts) G (fun i => if i = k then c else f i) := by
  have hs : Stay (fun k => k = G.bc) W (W.setCells G.bc (k * 4) c.parts) := (Stay.refl (fun k => k = G.bc) W).setCells G.bc _ _ rfl
  exact ⟨(hs.cell (p := ⟨G.g, 0, none⟩) h.lt.1 h.ne1).trans h.top, fun y hy => (hs.cell (p := ⟨G.br, y, none⟩) h.lt.2.1 h.ne2).trans (h.rows y hy), h.pix.set k c, h.w1, h.w2, h.h1, h.h2, h.ne1, h.ne2⟩

/-- Cells are written, one behind the other. -/
theorem GridAt.copy {W : World} {G : Gr} {f : Nat → Cl} (h : GridAt W G f) (k m : Nat) (g : Nat → Cl) (hm : k + m ≤ G.w * G.h) : GridAt (W.setCells G.bc (k * 4) (seg m g)) G (fun i => if k ≤ i ∧ i < k + m then g (i - k) else f i) := by
  have hs : Stay (fun k => k = G.bc) W (W.setCells G.bc (k * 4) (seg m g)) := (Stay.refl (fun k => k = G.bc) W).setCells G.bc _ _ rfl
  exact ⟨(hs.cell (p := ⟨G.g, 0, none⟩) h.lt.1 h.ne1).trans h.top, fun y hy => (hs.cell (p := ⟨G.br, y, none⟩) h.lt.2.1 h.ne2).trans (h.rows y hy), h.pix.copy k m g hm, h.w1, h.w2, h.h1, h.h2, h.ne1, h.ne2⟩

/-- A cell's place lies in its grid. -/
theorem idx_lt {w h x y : Nat} (hx : x < w) (hy : y < h) : y * w + x < w * h := by
  have := Nat.mul_le_mul_right w (show y + 1 ≤ h by omega)
  rw [Nat.succ_mul] at this
  rw [Nat.mul_comm w h]
  omega

/-- A place tells its row and its column. -/
theorem idx_inj {w x y x' y' : Nat} (hx : x < w) (hx' : x' < w) (h : y * w + x = y' * w + x') : x = x' ∧ y = y' := by
  have e1 : (y * w + x) / w = y := by rw [Nat.mul_comm, Nat.mul_add_div (by omega), Nat.div_eq_of_lt hx, Nat.add_zero]
  have e2 : (y' * w + x') / w = y' := by rw [Nat.mul_comm, Nat.mul_add_div (by omega), Nat.div_eq_of_lt hx', Nat.add_zero]
  have hy : y = y' := by rw [← e1, h, e2]
  subst hy
  exact ⟨by omega, rfl⟩

theorem idx_iff {w x y x' y' : Nat} (hx : x < w) (hx' : x' < w) : y * w + x = y' * w + x' ↔ x = x' ∧ y = y' :=
  ⟨idx_inj hx hx', fun ⟨h1, h2⟩ => by rw [h1, h2]⟩

end Go.Proofs.Yticccknocjnkpaa

namespace Go.Proofs.Yticccknocjnkpaa
open Go.RowKit

theorem Stay.trans2 {S T : Nat → Prop} {w w1 w2 : World} (h : Stay S w w1) (k : Stay T w1 w2) (e : ∀ j, j < w.heap.size → T j → S j) : Stay S w w2 :=
  ⟨k.os.trans h.os, k.tape.trans h.tape, k.output.trans h.output, Nat.le_trans h.size k.size, fun i hi hs => (k.block i (Nat.lt_of_lt_of_le hi h.size) (fun t => hs (e i hi t))).trans (h.block i hi hs)⟩

/-- A window of a block: elements of a size, room behind them. -/
def Win (w : World) (size : Nat) (v : Value) (n : Nat) (xs : List Value) : Prop :=
  xs.length = n * size ∧ ((v = .slice none 0 0 ∧ n = 0) ∨ ∃ g o cap, v = .slice (some ⟨g, o, none⟩) n cap ∧ n ≤ cap ∧ cap ≤ maxLen ∧ g < w.heap.size ∧ w.rangeAt g o xs ∧ w.there g o (cap * size))

theorem Win.nil (w : World) (size : Nat) : Win w size (.slice none 0 0) 0 [] := ⟨by simp, .inl ⟨rfl, rfl⟩⟩

theorem Win.lt {w : World} {size n : Nat} {v : Value} {xs : List Value} (h : Win w size v n xs) : ∀ j, v.ownBlock = some j → j < w.heap.size := by
  intro j hj
  rcases h.2 with ⟨rfl, _⟩ | ⟨g, o, cap, rfl, _, _, hg, _⟩
  · cases hj
  · cases hj; exact hg

theorem Win.stay {T : Nat → Prop} {w w1 : World} {size n : Nat} {v : Value} {xs : List Value} (h : Win w size v n xs) (hs : Stay T w w1) (hn : ∀ j, v.ownBlock = some j → ¬ T j) : Win w1 size v n xs := by
  refine ⟨h.1, ?_⟩
  rcases h.2 with h0 | ⟨g, o, cap, rfl, h1, h2, hg, h3, h4⟩
  · exact .inl h0
  · have hc : ∀ o, w1.cell? ⟨g, o, none⟩ = w.cell? ⟨g, o, none⟩ := fun o => hs.cell (p := ⟨g, o, none⟩) hg (hn g rfl)
    have hf : ∀ o, w1.frozen? ⟨g, o, none⟩ = w.frozen? ⟨g, o, none⟩ := fun o => hs.frozen (p := ⟨g, o, none⟩) hg (hn g rfl)
    exact .inr ⟨g, o, cap, rfl, h1, h2, Nat.lt_of_lt_of_le hg hs.size, fun j u hu => (hc _).trans (h3 j u hu), fun j hj => ⟨by rw [hc]; exact (h4 j hj).1, by rw [hf]; exact (h4 j hj).2⟩⟩

theorem Win.of_owns {w : World} {base e size n : Nat} {v : Value} {xs : List Value} (h : w.ownsRow base e size v n xs) (_hw : n * size = xs.length) : Win w size v n xs := by
  refine ⟨h.1, ?_⟩
  rcases h.2 with h0 | ⟨g, cap, cur, rfl, _, hg, h1, h2, h3, h4⟩
  · exact .inl h0
  · have hlt : g < w.heap.size := (Array.getElem?_eq_some_iff.1 hg).1
    refine .inr ⟨g, 0, cap, rfl, h1, h2, hlt, fun j u hu => ?_, fun j hj => ?_⟩
    · have := h.cells (g := g) rfl j u hu
      rwa [addr_add] at this
    · have hj' : j < cur.size := by omega
      constructor
      · rw [cell_of_row w g _ cur e (0, 0) hg, Nat.zero_add, Array.getElem?_eq_getElem hj']; rfl
      · simp [World.frozen?, hg]

/-- A window is a slice. -/
theorem Win.shape {w : World} {size n : Nat} {v : Value} {xs : List Value} (h : Win w size v n xs) : ∃ a cap, v = .slice a n cap ∧ n ≤ cap ∧ (a = none → cap = 0) := by
  rcases h.2 with ⟨rfl, rfl⟩ | ⟨g, o, cap, rfl, h1, _⟩
  · exact ⟨none, 0, rfl, Nat.le_refl _, fun _ => rfl⟩
  · exact ⟨_, cap, rfl, h1, (fun h => by cases h)⟩

/-- The first elements, to be read. -/
theorem Win.front {w : World} {size n k cap : Nat} {a : Option Addr} {xs : List Value} (h : Win w size (.slice a n cap) n xs) (hk : k ≤ n) : IsRowS w size (.slice a k cap) k (xs.take (k * size)) := by
  have hl := h.1
  rcases h.2 with ⟨h0, rfl⟩ | ⟨g, o, cap', h0, h1, _, hg, h3, _⟩
  · cases h0
    obtain rfl : k = 0 := by omega
    exact .inl ⟨rfl, rfl, by simp⟩
  · cases h0
    refine .inr ⟨_, _, rfl, ?_, fun j u hu => ?_⟩
    · rw [List.length_take, hl]
      exact Nat.min_eq_left (Nat.mul_le_mul_right _ hk)
    · rw [addr_add]
      rw [List.getElem?_take] at hu
      split at hu
      · exact h3 j u hu
      · cases hu

/-- What is left behind the first elements. -/
theorem Win.drop {w : World} {size n k cap : Nat} {a : Option Addr} {xs : List Value} (h : Win w size (.slice a n cap) n xs) (hk : k ≤ n) : Win w size (.slice (if cap = k then a else a.map (·.add (k * size))) (n - k) (cap - k)) (n - k) (xs.drop (k * size)) := by
  have hl := h.1
  refine ⟨by rw [List.length_drop, hl, Nat.sub_mul], ?_⟩
  rcases h.2 with ⟨h0, rfl⟩ | ⟨g, o, cap', h0, h1, h2, hg, h3, h4⟩
  · cases h0
    obtain rfl : k = 0 := by omega
    exact .inl ⟨rfl, rfl⟩
  · cases h0
    by_cases hc : cap = k
    · subst hc
      obtain rfl : n = cap := by omega
      rw [if_pos rfl]
      have hr : w.rangeAt g o (xs.drop (n * size)) := fun j u hu => by
        rw [List.getElem?_drop, List.getElem?_eq_none (by omega)] at hu
        cases hu
      have ht : w.there g o ((n - n) * size) := fun j hj => by
        rw [Nat.sub_self, Nat.zero_mul] at hj
        exact absurd hj (Nat.not_lt_zero j)
      exact .inr ⟨g, o, n - n, rfl, Nat.le_refl _, by omega, hg, hr, ht⟩
    · rw [if_neg hc]
      refine .inr ⟨g, o + k * size, cap - k, by simp [addr_add], by omega, by omega, hg, fun j u hu => ?_, fun j hj => ?_⟩
      · rw [List.getElem?_drop] at hu
        rw [Nat.add_assoc]
        exact h3 _ u hu
      · rw [Nat.sub_mul] at hj
        rw [Nat.add_assoc]
        exact h4 _ (by omega)

theorem Win.drop_block {n k cap size : Nat} {a : Option Addr} : ∀ j, (Value.slice (if cap = k then a else a.map (·.add (k * size))) (n - k) (cap - k)).ownBlock = some j → (Value.slice a n cap).ownBlock = some j := by
  intro j hj
  cases a with
  | none => split at hj <;> cases hj
  | some ad =>
    split at hj
    · exact hj
    · rw [← hj]
      show some ad.block = some (ad.add (k * size)).block
      rw [show (ad.add (k * size)).block = ad.block by unfold Addr.add; split <;> rfl]

section
variable {P : Program}

/-- Elements are appended to a window. -/
theorem run_append_win (w : World) (t ty e : TypeId) (size bytes : Nat) (z : Value) (ht : P.underlying t = some (.slice e)) (hinfo : (P.info? e).map (fun i => (i.zero, i.size, i.bytes)) = some (some z, size, bytes)) (hz : z.cells.size = size) (hs0 : 0 < size) (hby : bytes ≤ 1000)
    (v : Value) (n : Nat) (xs : List Value) (hwin : Win w size v n xs) (so : Option Addr) (m c : Nat) (news : List Value) (hl : news.length = m * size) (hsrc : ∀ ad, so = some ad → ∀ j u, news[j]? = some u → w.cell? (ad.add j) = some u) (h0 : so = none → m = 0) (h1 : ∀ u ∈ news, u.oneCell' = true) (hn : n + m ≤ 1000000) :
    ∃ v' w', (Builtin.append_ #[t, t] ty #[v, .slice so m c]).run P w = .ok v' w' ∧ Win w' size v' (n + m) (xs ++ news) ∧ Stay (fun j => v.ownBlock = some j) w w' ∧ (v'.ownBlock = v.ownBlock ∨ v'.ownBlock = some w.heap.size) := by
  obtain ⟨i, hi, hzz⟩ := Option.map_eq_some_iff.1 hinfo
  simp only [Prod.mk.injEq] at hzz
  obtain ⟨g1, rfl, rfl⟩ := hzz
  have hb : (n + m) * i.bytes ≤ 140737488355328 := Nat.le_trans (Nat.mul_le_mul hn hby) (by decide)
  have h63 : n + m ≤ maxLen := by unfold maxLen; omega
  have hlen : (xs ++ news).length = (n + m) * i.size := by rw [List.length_append, hwin.1, hl, Nat.add_mul]
  by_cases hm : m = 0
  · subst hm
    have : news = [] := List.eq_nil_of_length_eq_zero (by simpa using hl)
    subst this
    refine ⟨v, w, ?_, by simpa using hwin, Stay.refl _ _, .inl rfl⟩
    rcases hwin.2 with ⟨rfl, rfl⟩ | ⟨g, o, cap, rfl, hc, _⟩
    · cases so <;> simp [Builtin.append_, run_underlying ht, sizeOf, typeInfo, hi, Builtin.lenOf, Builtin.firstCells, loadCells, loadCellsFrom]
    · cases so <;> simp [Builtin.append_, run_underlying ht, sizeOf, typeInfo, hi, Builtin.lenOf, Builtin.firstCells, loadCells, loadCellsFrom, hc, storeCells]
  · obtain ⟨ad, rfl⟩ : ∃ ad, so = some ad := by
      cases so with
      | none => exact absurd (h0 rfl) hm
      | some ad => exact ⟨ad, rfl⟩
    have hnews := hsrc ad rfl
    rcases hwin.2 with ⟨rfl, rfl⟩ | ⟨g, o, cap, rfl, hc, hcm, hg, h3, h4⟩
    · obtain ⟨v', w', hr, h2, h3, _, h5⟩ := run_append_own_at (P := P) w w.heap.size t ty e i z i.size i.bytes ht hi g1 rfl rfl hz hs0 (.slice none 0 0) 0 [] (World.ownsRow_nil w _ e i.size) ad m c news hl hnews h1 h63 hb (Nat.le_refl _)
      have hx : xs = [] := List.eq_nil_of_length_eq_zero (by simpa using hwin.1)
      subst hx
      exact ⟨v', w', hr, Win.of_owns h2 h2.1.symm, (Stay.refl _ w).grown h3 (fun k hk _ => hk), h5⟩
    · by_cases hroom : n + m ≤ cap
      · have hth : w.there g (o + n * i.size) news.length := fun j hj => by
          have := h4 (n * i.size + j) (by
            have h6 := Nat.mul_le_mul_right i.size hroom
            rw [Nat.add_mul] at h6
            omega)
          rwa [← Nat.add_assoc] at this
        have hr := run_append_room_cells (P := P) w t ty e i ht hi g o n cap ad m c news hl hnews h1 hroom (fun j hj => (hth j hj).1) (fun j hj => (hth j hj).2)
        have hst : Stay (fun j => j = g) w (w.setCells g (o + n * i.size) news) := Stay.setCells g news _ (Stay.refl _ _) rfl
        refine ⟨_, _, hr, ⟨hlen, .inr ⟨g, o, cap, rfl, hroom, hcm, Nat.lt_of_lt_of_le hg hst.size, fun j u hu => ?_, World.there_setCells h4 _ _ _⟩⟩, hst.mono (fun j _ hj => by rw [hj]; rfl), .inl rfl⟩
        by_cases hj : j < xs.length
        · rw [List.getElem?_append_left hj] at hu
          exact World.rangeAt_setCells_apart h3 g _ news (.inr (.inl (by rw [hwin.1]; exact Nat.le_refl _))) j u hu
        · rw [List.getElem?_append_right (by omega)] at hu
          have := World.rangeAt_setCells_same w g (o + n * i.size) news hth (j - xs.length) u hu
          rwa [show o + n * i.size + (j - xs.length) = o + j by have := hwin.1; omega] at this
      · obtain ⟨v', w', hr, h2, h5⟩ := run_append_arg_grows (P := P) w t ty e i z i.size i.bytes ht hi g1 rfl rfl hz hs0 ⟨g, o, none⟩ n cap xs hwin.1 (fun j u hu => by rw [addr_add]; exact h3 j u hu) ad m c news hl hnews (by omega) h63 hb
        refine ⟨v', w', hr, Win.of_owns h2 h2.1.symm, (Stay.refl _ w).grown h5 (fun k hk _ => by cases hk), .inr ?_⟩
        obtain ⟨g', cap', hv', hb', _, hlt⟩ : ∃ g' cap', v' = .slice (some ⟨g', 0, none⟩) (n + m) cap' ∧ w.heap.size ≤ g' ∧ True ∧ g' = w.heap.size := by
          have hr2 := run_append_grow (P := P) w t ty e i z ht hi g1 ⟨g, o, none⟩ n cap xs hwin.1 (fun j u hu => by rw [addr_add]; exact h3 j u hu) ad m c news hl hnews (by omega) (by unfold maxLen at h63; omega) (growslice_fits (by omega) hb)
          rw [hr] at hr2
          simp only [Result.ok.injEq] at hr2
          exact ⟨w.heap.size, _, hr2.1, Nat.le_refl _, trivial, rfl⟩
        rw [hv', hlt]; rfl

theorem wpList_append_win {ops : Array Oper} {rest : List Oper} {o : Oper} {a : Act} {Q : Exit → Act → World → Prop} (hgd : o.guard = none) (s x : Operand) (t : TypeId)
    (ho : o.op = .call { callee := .builtin .append, args := #[s, x], argTypes := #[t, t] }) {w : World} {n m c size bytes : Nat} {e : TypeId} {z v : Value} {so : Option Addr} {xs news : List Value} (hu : P.underlying t = some (.slice e))
    (hinfo : (P.info? e).map (fun i => (i.zero, i.size, i.bytes)) = some (some z, size, bytes)) (hz : z.cells.size = size) (hs0 : 0 < size) (hby : bytes ≤ 1000)
    (hwin : Win w size v n xs) (hs : a.eval s = v) (hl : news.length = m * size) (hsrc : ∀ ad, so = some ad → ∀ j u, news[j]? = some u → w.cell? (ad.add j) = some u) (h0 : so = none → m = 0) (h1 : ∀ u ∈ news, u.oneCell' = true) (hn : n + m ≤ 1000000) (hx : a.eval x = .slice so m c)
    (h : ∀ v' w', Win w' size v' (n + m) (xs ++ news) → Stay (fun j => v.ownBlock = some j) w w' → (v'.ownBlock = v.ownBlock ∨ v'.ownBlock = some w.heap.size) → wpList P ops Q rest (a.put o.dst v') w') : wpList P ops Q (o :: rest) a w := by
  obtain ⟨v', w', hr, h2, h3, h4⟩ := run_append_win (P := P) w t o.type e size bytes z hu hinfo hz hs0 hby v n xs hwin so m c news hl hsrc h0 h1 hn
  refine wpList_plain hgd fun K hK => ?_
  unfold Oper.wp
  simp [execOp, ho, resolve, invoke, builtin, hs, hx, hr, Result.andThen]
  exact hK _ _ (h v' w' h2 h3 h4)

end

end Go.Proofs.Yticccknocjnkpaa

namespace Go.Proofs.Yticccknocjnkpaa
open Go.RowKit

/-- Wr, as a value. -/
structure Wr where
  x : Int
  y : Int
  r : Int
  fg : Int
  bg : Int
  fl : Int

theorem Wr.same {a0 a1 a2 a3 a4 a5 : _} {r : Wr} (h : r.x = a0 ∧ r.y = a1 ∧ r.r = a2 ∧ r.fg = a3 ∧ r.bg = a4 ∧ r.fl = a5) : r = ⟨a0, a1, a2, a3, a4, a5⟩ := by
  obtain ⟨rfl, rfl, rfl, rfl, rfl, rfl⟩ := h
  rfl

theorem Wr.ret {a b : Wr} (h : a = b) : Ending.returned (.agg #[.int .i64 a.x, .int .i64 a.y, .int .i32 a.r, .int .i64 a.fg, .int .i64 a.bg, .int .i64 a.fl]) = .returned (.agg #[.int .i64 b.x, .int .i64 b.y, .int .i32 b.r, .int .i64 b.fg, .int .i64 b.bg, .int .i64 b.fl]) := by rw [h]

/-- A box that holds a Wr. -/
structure WBox (w : World) (b : Nat) (r : Wr) : Prop where
  c0 : w.cell? ⟨b, 0, none⟩ = some (.int .i64 r.x)
  c1 : w.cell? ⟨b, 1, none⟩ = some (.int .i64 r.y)
  c2 : w.cell? ⟨b, 2, none⟩ = some (.int .i32 r.r)
  c3 : w.cell? ⟨b, 3, none⟩ = some (.int .i64 r.fg)
  c4 : w.cell? ⟨b, 4, none⟩ = some (.int .i64 r.bg)
  c5 : w.cell? ⟨b, 5, none⟩ = some (.int .i64 r.fl)
  f0 : w.frozen? ⟨b, 0, none⟩ = false
  f1 : w.frozen? ⟨b, 1, none⟩ = false
  f2 : w.frozen? ⟨b, 2, none⟩ = false
  f3 : w.frozen? ⟨b, 3, none⟩ = false
  f4 : w.frozen? ⟨b, 4, none⟩ = false
  f5 : w.frozen? ⟨b, 5, none⟩ = false

theorem WBox.lt {w : World} {b : Nat} {r : Wr} (h : WBox w b r) : b < w.heap.size := World.block_lt_of_cell? _ _ h.c0

theorem WBox.stay {T : Nat → Prop} {W w1 : World} {b : Nat} {r : Wr} (h : WBox W b r) (hs : Stay T W w1) (hn : ¬ T b) : WBox w1 b r := by
  have hb : b < W.heap.size := h.lt
  have c : ∀ o, w1.cell? ⟨b, o, none⟩ = W.cell? ⟨b, o, none⟩ := fun o => hs.cell (p := ⟨b, o, none⟩) hb hn
  have f : ∀ o, w1.frozen? ⟨b, o, none⟩ = W.frozen? ⟨b, o, none⟩ := fun o => hs.frozen (p := ⟨b, o, none⟩) hb hn
  exact ⟨(c 0).trans h.c0, (c 1).trans h.c1, (c 2).trans h.c2, (c 3).trans h.c3, (c 4).trans h.c4, (c 5).trans h.c5, (f 0).trans h.f0, (f 1).trans h.f1, (f 2).trans h.f2, (f 3).trans h.f3, (f 4).trans h.f4, (f 5).trans h.f5⟩

theorem WBox.keep {W w1 : World} {b : Nat} {r : Wr} (h : WBox W b r) (hs : Stay (fun _ => False) W w1) : WBox w1 b r := h.stay hs (fun h => h)

theorem WBox.alloc {w : World} {b : Nat} {r : Wr} (h : WBox w b r) (o : Obj) : WBox (w.alloc o) b r := h.keep ((Stay.refl _ _).alloc o)

theorem WBox.new {w : World} {b : Nat} (r : Wr) (h : w.heap.size = b) : WBox (w.alloc (.cells #[.int .i64 r.x, .int .i64 r.y, .int .i32 r.r, .int .i64 r.fg, .int .i64 r.bg, .int .i64 r.fl] 59)) b r := by
  subst h
  constructor <;> simp

theorem WBox.cells {w : World} {b : Nat} {r : Wr} (h : WBox w b r) : ∀ (j : Nat) (v : Value), [Value.int .i64 r.x, .int .i64 r.y, .int .i32 r.r, .int .i64 r.fg, .int .i64 r.bg, .int .i64 r.fl][j]? = some v → w.cell? ⟨b, 0 + j, none⟩ = some v := by
  intro j v hj
  match j, hj with
  | 0, hj => cases hj; exact h.c0
  | 1, hj => cases hj; exact h.c1
  | 2, hj => cases hj; exact h.c2
  | 3, hj => cases hj; exact h.c3
  | 4, hj => cases hj; exact h.c4
  | 5, hj => cases hj; exact h.c5

theorem results_WBox {fn : Func} {p : Tmp} (h : fn.results = #[.cell p 59]) (tmps : Array Value) (w : World) (g : Nat) (r : Wr) (hp : tmps.getD p undef = .pointer (some ⟨g, 0, none⟩)) (hb : WBox w g r) :
    (results fn tmps).run Try.prog w = .ok (.agg #[.int .i64 r.x, .int .i64 r.y, .int .i32 r.r, .int .i64 r.fg, .int .i64 r.bg, .int .i64 r.fl]) w := results_cells h tmps w g 0 _ _ hp hb.cells Try.underlying59 rfl (by kernel_rfl)

/-- What a struct is behind a call, and nothing that was there has turned. -/
theorem WBox.ends {w W : World} {fn : Func} {p : Tmp} (h : fn.results = #[.cell p 59]) {tmps : Array Value} {r q : Wr} {g : Nat} (hp : tmps.getD p undef = .pointer (some ⟨g, 0, none⟩)) (hb : WBox W g r) (hq : r = q) (hs : Stay (fun _ => False) w W)
    {d : List Deferred} (hd : d = []) : bodyPost Try.prog fn (Gives (.agg #[.int .i64 q.x, .int .i64 q.y, .int .i32 q.r, .int .i64 q.fg, .int .i64 q.bg, .int .i64 q.fl]) w) Exit.ret { tmps := tmps, defers := d } W := by
  subst hq hd
  exact bodyPost_ret (results_WBox h _ _ _ r hp hb) rfl ⟨rfl, hs⟩

/-- The world in which a box holds another one. -/
theorem WBox.put {w : World} {b : Nat} {r0 : Wr} (h : WBox w b r0) (r : Wr) : WBox ((((((w.setCell ⟨b, 0, none⟩ (.int .i64 r.x)).setCell ⟨b, 1, none⟩ (.int .i64 r.y)).setCell ⟨b, 2, none⟩ (.int .i32 r.r)).setCell ⟨b, 3, none⟩ (.int .i64 r.fg)).setCell ⟨b, 4, none⟩ (.int .i64 r.bg)).setCell ⟨b, 5, none⟩ (.int .i64 r.fl)) b r := by
  obtain ⟨h0, h1, h2, h3, h4, h5, k0, k1, k2, k3, k4, k5⟩ := h
  constructor <;> simp [go_sem, *]

theorem WBox.stay_put {S : Nat → Prop} {w w1 : World} {b : Nat} (h : Stay S w w1) (hb : w.heap.size ≤ b) (v0 v1 v2 v3 v4 v5 : Value) : Stay S w ((((((w1.setCell ⟨b, 0, none⟩ v0).setCell ⟨b, 1, none⟩ v1).setCell ⟨b, 2, none⟩ v2).setCell ⟨b, 3, none⟩ v3).setCell ⟨b, 4, none⟩ v4).setCell ⟨b, 5, none⟩ v5) :=
  ((((((h.setNew hb v0).setNew hb v1).setNew hb v2).setNew hb v3).setNew hb v4).setNew hb v5)

theorem WBox.put0 {w : World} {b : Nat} {r : Wr} (h : WBox w b r) {x : Int} {q : Wr} (hq : q = ⟨x, r.y, r.r, r.fg, r.bg, r.fl⟩) : WBox (w.setCell ⟨b, 0, none⟩ (.int .i64 x)) b q := by
  subst hq
  obtain ⟨h0, h1, h2, h3, h4, h5, k0, k1, k2, k3, k4, k5⟩ := h
  constructor <;> simp [go_sem, *]

theorem WBox.put1 {w : World} {b : Nat} {r : Wr} (h : WBox w b r) {x : Int} {q : Wr} (hq : q = ⟨r.x, x, r.r, r.fg, r.bg, r.fl⟩) : WBox (w.setCell ⟨b, 1, none⟩ (.int .i64 x)) b q := by
  subst hq
  obtain ⟨h0, h1, h2, h3, h4, h5, k0, k1, k2, k3, k4, k5⟩ := h
  constructor <;> simp [go_sem, *]

theorem WBox.put2 {w : World} {b : Nat} {r : Wr} (h : WBox w b r) {x : Int} {q : Wr} (hq : q = ⟨r.x, r.y, x, r.fg, r.bg, r.fl⟩) : WBox (w.setCell ⟨b, 2, none⟩ (.int .i32 x)) b q := by
  subst hq
  obtain ⟨h0, h1, h2, h3, h4, h5, k0, k1, k2, k3, k4, k5⟩ := h
  constructor <;> simp [go_sem, *]

theorem WBox.put3 {w : World} {b : Nat} {r : Wr} (h : WBox w b r) {x : Int} {q : Wr} (hq : q = ⟨r.x, r.y, r.r, x, r.bg, r.fl⟩) : WBox (w.setCell ⟨b, 3, none⟩ (.int .i64 x)) b q := by
  subst hq
  obtain ⟨h0, h1, h2, h3, h4, h5, k0, k1, k2, k3, k4, k5⟩ := h
  constructor <;> simp [go_sem, *]

theorem WBox.put4 {w : World} {b : Nat} {r : Wr} (h : WBox w b r) {x : Int} {q : Wr} (hq : q = ⟨r.x, r.y, r.r, r.fg, x, r.fl⟩) : WBox (w.setCell ⟨b, 4, none⟩ (.int .i64 x)) b q := by
  subst hq
  obtain ⟨h0, h1, h2, h3, h4, h5, k0, k1, k2, k3, k4, k5⟩ := h
  constructor <;> simp [go_sem, *]

theorem WBox.put5 {w : World} {b : Nat} {r : Wr} (h : WBox w b r) {x : Int} {q : Wr} (hq : q = ⟨r.x, r.y, r.r, r.fg, r.bg, x⟩) : WBox (w.setCell ⟨b, 5, none⟩ (.int .i64 x)) b q := by
  subst hq
  obtain ⟨h0, h1, h2, h3, h4, h5, k0, k1, k2, k3, k4, k5⟩ := h
  constructor <;> simp [go_sem, *]

theorem WBox.other {w : World} {b b' o : Nat} {r : Wr} {v : Value} (h : WBox w b r) (hb : b' ≠ b) : WBox (w.setCell ⟨b', o, none⟩ v) b r :=
  h.stay (T := fun k => k = b') ((Stay.refl (fun k => k = b') w).setCell (S := fun k => k = b') (p := ⟨b', o, none⟩) rfl v) (fun e => hb e.symm)

theorem run_load_WBox {a : Act} {o : Oper} {x : Operand} {w : World} {b : Nat} {r : Wr} (ho : o.op = .load 59 x) (hx : a.eval x = .pointer (some ⟨b, 0, none⟩)) (hb : WBox w b r) :
    (execOp a.eval o).run Try.prog w = .ok (.value (.agg #[.int .i64 r.x, .int .i64 r.y, .int .i32 r.r, .int .i64 r.fg, .int .i64 r.bg, .int .i64 r.fl])) w := by
  unfold execOp
  simp only [ho, hx, Instr.loadAt, Instr.sureAddr, Sem.run_bind, Sem.run_pure, Result.andThen_ok]
  rw [run_loadVar_cells w b 0 59 _ _ hb.cells Try.underlying59 rfl (by kernel_rfl)]
  rfl

/-- One in the midst of a block. -/
structure WBoxAt (w : World) (g o : Nat) (r : Wr) : Prop where
  c0 : w.cell? ⟨g, o, none⟩ = some (.int .i64 r.x)
  c1 : w.cell? ⟨g, o + 1, none⟩ = some (.int .i64 r.y)
  c2 : w.cell? ⟨g, o + 2, none⟩ = some (.int .i32 r.r)
  c3 : w.cell? ⟨g, o + 3, none⟩ = some (.int .i64 r.fg)
  c4 : w.cell? ⟨g, o + 4, none⟩ = some (.int .i64 r.bg)
  c5 : w.cell? ⟨g, o + 5, none⟩ = some (.int .i64 r.fl)

theorem WBoxAt.keep {W w1 : World} {g o : Nat} {r : Wr} (h : WBoxAt W g o r) (hs : Stay (fun _ => False) W w1) : WBoxAt w1 g o r := ⟨keep_cell hs h.c0, keep_cell hs h.c1, keep_cell hs h.c2, keep_cell hs h.c3, keep_cell hs h.c4, keep_cell hs h.c5⟩

theorem WBoxAt.cells {w : World} {g o : Nat} {r : Wr} (h : WBoxAt w g o r) : ∀ (j : Nat) (v : Value), [Value.int .i64 r.x, .int .i64 r.y, .int .i32 r.r, .int .i64 r.fg, .int .i64 r.bg, .int .i64 r.fl][j]? = some v → w.cell? ⟨g, o + j, none⟩ = some v := by
  intro j v hj
  match j, hj with
  | 0, hj => cases hj; exact h.c0
  | 1, hj => cases hj; exact h.c1
  | 2, hj => cases hj; exact h.c2
  | 3, hj => cases hj; exact h.c3
  | 4, hj => cases hj; exact h.c4
  | 5, hj => cases hj; exact h.c5

theorem run_load_WBoxAt {a : Act} {p : Oper} {x : Operand} {w : World} {g o : Nat} {r : Wr} (ho : p.op = .load 59 x) (hx : a.eval x = .pointer (some ⟨g, o, none⟩)) (hb : WBoxAt w g o r) :
    (execOp a.eval p).run Try.prog w = .ok (.value (.agg #[.int .i64 r.x, .int .i64 r.y, .int .i32 r.r, .int .i64 r.fg, .int .i64 r.bg, .int .i64 r.fl])) w := by
  unfold execOp
  simp only [ho, hx, Instr.loadAt, Instr.sureAddr, Sem.run_bind, Sem.run_pure, Result.andThen_ok]
  rw [run_loadVar_cells w g o 59 _ _ hb.cells Try.underlying59 rfl (by kernel_rfl)]
  rfl

/-- Fx, as a value. -/
structure Fx where
  g : Value
  v : Value

theorem Fx.same {a0 a1 : _} {r : Fx} (h : r.g = a0 ∧ r.v = a1) : r = ⟨a0, a1⟩ := by
  obtain ⟨rfl, rfl⟩ := h
  rfl

theorem Fx.ret {a b : Fx} (h : a = b) : Ending.returned (.agg #[a.g, a.v]) = .returned (.agg #[b.g, b.v]) := by rw [h]

/-- A box that holds a Fx. -/
structure FBox (w : World) (b : Nat) (r : Fx) : Prop where
  c0 : w.cell? ⟨b, 0, none⟩ = some (r.g)
  c1 : w.cell? ⟨b, 1, none⟩ = some (r.v)
  f0 : w.frozen? ⟨b, 0, none⟩ = false
  f1 : w.frozen? ⟨b, 1, none⟩ = false

theorem FBox.lt {w : World} {b : Nat} {r : Fx} (h : FBox w b r) : b < w.heap.size := World.block_lt_of_cell? _ _ h.c0

theorem FBox.stay {T : Nat → Prop} {W w1 : World} {b : Nat} {r : Fx} (h : FBox W b r) (hs : Stay T W w1) (hn : ¬ T b) : FBox w1 b r := by
  have hb : b < W.heap.size := h.lt
  have c : ∀ o, w1.cell? ⟨b, o, none⟩ = W.cell? ⟨b, o, none⟩ := fun o => hs.cell (p := ⟨b, o, none⟩) hb hn
  have f : ∀ o, w1.frozen? ⟨b, o, none⟩ = W.frozen? ⟨b, o, none⟩ := fun o => hs.frozen (p := ⟨b, o, none⟩) hb hn
  exact ⟨(c 0).trans h.c0, (c 1).trans h.c1, (f 0).trans h.f0, (f 1).trans h.f1⟩

theorem FBox.keep {W w1 : World} {b : Nat} {r : Fx} (h : FBox W b r) (hs : Stay (fun _ => False) W w1) : FBox w1 b r := h.stay hs (fun h => h)

theorem FBox.alloc {w : World} {b : Nat} {r : Fx} (h : FBox w b r) (o : Obj) : FBox (w.alloc o) b r := h.keep ((Stay.refl _ _).alloc o)

theorem FBox.new {w : World} {b : Nat} (r : Fx) (h : w.heap.size = b) : FBox (w.alloc (.cells #[r.g, r.v] 69)) b r := by
  subst h
  constructor <;> simp

theorem FBox.cells {w : World} {b : Nat} {r : Fx} (h : FBox w b r) : ∀ (j : Nat) (v : Value), [r.g, r.v][j]? = some v → w.cell? ⟨b, 0 + j, none⟩ = some v := by
  intro j v hj
  match j, hj with
  | 0, hj => cases hj; exact h.c0
  | 1, hj => cases hj; exact h.c1

theorem results_FBox {fn : Func} {p : Tmp} (h : fn.results = #[.cell p 69]) (tmps : Array Value) (w : World) (g : Nat) (r : Fx) (hp : tmps.getD p undef = .pointer (some ⟨g, 0, none⟩)) (hb : FBox w g r) :
    (results fn tmps).run Try.prog w = .ok (.agg #[r.g, r.v]) w := results_cells h tmps w g 0 _ _ hp hb.cells Try.underlying69 rfl (by kernel_rfl)

/-- What a struct is behind a call, and nothing that was there has turned. -/
theorem FBox.ends {w W : World} {fn : Func} {p : Tmp} (h : fn.results = #[.cell p 69]) {tmps : Array Value} {r q : Fx} {g : Nat} (hp : tmps.getD p undef = .pointer (some ⟨g, 0, none⟩)) (hb : FBox W g r) (hq : r = q) (hs : Stay (fun _ => False) w W)
    {d : List Deferred} (hd : d = []) : bodyPost Try.prog fn (Gives (.agg #[q.g, q.v]) w) Exit.ret { tmps := tmps, defers := d } W := by
  subst hq hd
  exact bodyPost_ret (results_FBox h _ _ _ r hp hb) rfl ⟨rfl, hs⟩

/-- The world in which a box holds another one. -/
theorem FBox.put {w : World} {b : Nat} {r0 : Fx} (h : FBox w b r0) (r : Fx) : FBox ((w.setCell ⟨b, 0, none⟩ (r.g)).setCell ⟨b, 1, none⟩ (r.v)) b r := by
  obtain ⟨h0, h1, k0, k1⟩ := h
  constructor <;> simp [go_sem, *]

theorem FBox.stay_put {S : Nat → Prop} {w w1 : World} {b : Nat} (h : Stay S w w1) (hb : w.heap.size ≤ b) (v0 v1 : Value) : Stay S w ((w1.setCell ⟨b, 0, none⟩ v0).setCell ⟨b, 1, none⟩ v1) :=
  ((h.setNew hb v0).setNew hb v1)

theorem FBox.put0 {w : World} {b : Nat} {r : Fx} (h : FBox w b r) {x : Value} {q : Fx} (hq : q = ⟨x, r.v⟩) : FBox (w.setCell ⟨b, 0, none⟩ (x)) b q := by
  subst hq
  obtain ⟨h0, h1, k0, k1⟩ := h
  constructor <;> simp [go_sem, *]

theorem FBox.put1 {w : World} {b : Nat} {r : Fx} (h : FBox w b r) {x : Value} {q : Fx} (hq : q = ⟨r.g, x⟩) : FBox (w.setCell ⟨b, 1, none⟩ (x)) b q := by
  subst hq
  obtain ⟨h0, h1, k0, k1⟩ := h
  constructor <;> simp [go_sem, *]

theorem FBox.other {w : World} {b b' o : Nat} {r : Fx} {v : Value} (h : FBox w b r) (hb : b' ≠ b) : FBox (w.setCell ⟨b', o, none⟩ v) b r :=
  h.stay (T := fun k => k = b') ((Stay.refl (fun k => k = b') w).setCell (S := fun k => k = b') (p := ⟨b', o, none⟩) rfl v) (fun e => hb e.symm)

theorem run_load_FBox {a : Act} {o : Oper} {x : Operand} {w : World} {b : Nat} {r : Fx} (ho : o.op = .load 69 x) (hx : a.eval x = .pointer (some ⟨b, 0, none⟩)) (hb : FBox w b r) :
    (execOp a.eval o).run Try.prog w = .ok (.value (.agg #[r.g, r.v])) w := by
  unfold execOp
  simp only [ho, hx, Instr.loadAt, Instr.sureAddr, Sem.run_bind, Sem.run_pure, Result.andThen_ok]
  rw [run_loadVar_cells w b 0 69 _ _ hb.cells Try.underlying69 rfl (by kernel_rfl)]
  rfl

/-- One in the midst of a block. -/
structure FBoxAt (w : World) (g o : Nat) (r : Fx) : Prop where
  c0 : w.cell? ⟨g, o, none⟩ = some (r.g)
  c1 : w.cell? ⟨g, o + 1, none⟩ = some (r.v)

theorem FBoxAt.keep {W w1 : World} {g o : Nat} {r : Fx} (h : FBoxAt W g o r) (hs : Stay (fun _ => False) W w1) : FBoxAt w1 g o r := ⟨keep_cell hs h.c0, keep_cell hs h.c1⟩

theorem FBoxAt.cells {w : World} {g o : Nat} {r : Fx} (h : FBoxAt w g o r) : ∀ (j : Nat) (v : Value), [r.g, r.v][j]? = some v → w.cell? ⟨g, o + j, none⟩ = some v := by
  intro j v hj
  match j, hj with
  | 0, hj => cases hj; exact h.c0
  | 1, hj => cases hj; exact h.c1

theorem run_load_FBoxAt {a : Act} {p : Oper} {x : Operand} {w : World} {g o : Nat} {r : Fx} (ho : p.op = .load 69 x) (hx : a.eval x = .pointer (some ⟨g, o, none⟩)) (hb : FBoxAt w g o r) :
    (execOp a.eval p).run Try.prog w = .ok (.value (.agg #[r.g, r.v])) w := by
  unfold execOp
  simp only [ho, hx, Instr.loadAt, Instr.sureAddr, Sem.run_bind, Sem.run_pure, Result.andThen_ok]
  rw [run_loadVar_cells w g o 69 _ _ hb.cells Try.underlying69 rfl (by kernel_rfl)]
  rfl

/-- A write's cell. -/
def Wr.cl (p : Wr) : Cl := ⟨p.r, p.fg, p.bg, p.fl⟩

/-- A write of a cell. -/
def Wr.of (x y : Int) (c : Cl) : Wr := ⟨x, y, c.r, c.fg, c.bg, c.fl⟩

def Wr.parts (p : Wr) : List Value := [.int .i64 p.x, .int .i64 p.y, .int .i32 p.r, .int .i64 p.fg, .int .i64 p.bg, .int .i64 p.fl]

/-- Writes, one behind the other. -/
def wrs (L : List Wr) : List Value := L.flatMap Wr.parts

theorem wrs_len (L : List Wr) : (wrs L).length = L.length * 6 := by
  induction L with
  | nil => rfl
  | cons p L ih =>
    show (Wr.parts p ++ wrs L).length = (L.length + 1) * 6
    rw [List.length_append, ih]
    show 6 + L.length * 6 = _
    omega

theorem wrs_append (L M : List Wr) : wrs (L ++ M) = wrs L ++ wrs M := by
  unfold wrs
  rw [List.flatMap_append]

theorem wrs_one (p : Wr) : wrs [p] = p.parts := by
  show p.parts ++ [] = p.parts
  rw [List.append_nil]

theorem wrs_cells (L : List Wr) : ∀ u ∈ wrs L, u.oneCell' = true := by
  intro u hu
  unfold wrs at hu
  obtain ⟨p, _, hp⟩ := List.mem_flatMap.1 hu
  simp only [Wr.parts, List.mem_cons, List.not_mem_nil, or_false] at hp
  rcases hp with rfl | rfl | rfl | rfl | rfl | rfl <;> rfl

theorem wrs_get : ∀ (L : List Wr) (k : Nat) (p : Wr), L[k]? = some p → ∀ j, j < 6 → (wrs L)[k * 6 + j]? = p.parts[j]?
  | q :: L, 0, p, h, j, hj => by
    cases h
    show (q.parts ++ wrs L)[0 * 6 + j]? = _
    rw [Nat.zero_mul, Nat.zero_add, List.getElem?_append_left (by show j < 6; exact hj)]
  | q :: L, k + 1, p, h, j, hj => by
    have ih := wrs_get L k p (by simpa using h) j hj
    show (q.parts ++ wrs L)[(k + 1) * 6 + j]? = _
    rw [List.getElem?_append_right (by show 6 ≤ _; omega), ← ih]
    congr 1
    show (k + 1) * 6 + j - 6 = _
    omega
  | [], k, p, h, j, hj => by simp at h

/-- A write of a row that can be read. -/
theorem wr_at {w : World} {g o c : Nat} {L : List Wr} {n : Nat} (h : IsRowS w 6 (.slice (some ⟨g, o, none⟩) n c) L.length (wrs L)) (k : Nat) (p : Wr) (hp : L[k]? = some p) : WBoxAt w g (o + k * 6) p := by
  rcases h with ⟨h, _⟩ | ⟨ad, cc, h, _, h3⟩
  · cases h
  · cases h
    have key : ∀ j, j < 6 → ∀ u, p.parts[j]? = some u → w.cell? ⟨g, o + k * 6 + j, none⟩ = some u := fun j hj u hu => by
      have := h3 (k * 6 + j) u ((wrs_get L k p hp j hj).trans hu)
      rw [addr_add] at this
      rw [Nat.add_assoc]
      exact this
    exact ⟨key 0 (by decide) _ rfl, key 1 (by decide) _ rfl, key 2 (by decide) _ rfl, key 3 (by decide) _ rfl, key 4 (by decide) _ rfl, key 5 (by decide) _ rfl⟩

theorem info36 : (Try.prog.info? 59).map (fun i => (i.zero, i.size, i.bytes)) = some (some (.agg #[.int .i64 0, .int .i64 0, .int .i32 0, .int .i64 0, .int .i64 0, .int .i64 0]), 6, 48) := by kernel_rfl

end Go.Proofs.Yticccknocjnkpaa
