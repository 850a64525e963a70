/-
  Boxes of a pair and of what stands between its ends. No conditions.
  A pair: plain, and in memory. No conditions.
-/
import Derived.Test.YtjfhmpjpdcckhaaL18DK
import Derived.Test.YtjfhmpjpdcckhaaG3
import Derived.Test.YtjfhmpjpdcckhaaG4
namespace Go.Proofs.Ytjfhmpjpdcckhaa
open Go.RowKit
open L17 L18

/-- Pr, as a value. -/
structure Pr where
  dp : Value
  col : Int
  ov : Value
  pk : Bool
  fl : Int
  w : Int
  h : Int
  ma : Bool
  sl : Bool

theorem Pr.same {a0 a1 a2 a3 a4 a5 a6 a7 a8 : _} {r : Pr} (h : r.dp = a0 ∧ r.col = a1 ∧ r.ov = a2 ∧ r.pk = a3 ∧ r.fl = a4 ∧ r.w = a5 ∧ r.h = a6 ∧ r.ma = a7 ∧ r.sl = a8) : r = ⟨a0, a1, a2, a3, a4, a5, a6, a7, a8⟩ := by
  obtain ⟨rfl, rfl, rfl, rfl, rfl, rfl, rfl, rfl, rfl⟩ := h
  rfl

theorem Pr.ret {a b : Pr} (h : a = b) : Ending.returned (.agg #[a.dp, .int .i64 a.col, a.ov, .bool a.pk, .int .u8 a.fl, .int .i64 a.w, .int .i64 a.h, .bool a.ma, .bool a.sl]) = .returned (.agg #[b.dp, .int .i64 b.col, b.ov, .bool b.pk, .int .u8 b.fl, .int .i64 b.w, .int .i64 b.h, .bool b.ma, .bool b.sl]) := by rw [h]

/-- A box that holds a Pr. -/
structure QBox (w : World) (b : Nat) (r : Pr) : Prop where
  c0 : w.cell? ⟨b, 0, none⟩ = some (r.dp)
  c1 : w.cell? ⟨b, 1, none⟩ = some (.int .i64 r.col)
  c2 : w.cell? ⟨b, 2, none⟩ = some (r.ov)
  c3 : w.cell? ⟨b, 3, none⟩ = some (.bool r.pk)
  c4 : w.cell? ⟨b, 4, none⟩ = some (.int .u8 r.fl)
  c5 : w.cell? ⟨b, 5, none⟩ = some (.int .i64 r.w)
  c6 : w.cell? ⟨b, 6, none⟩ = some (.int .i64 r.h)
  c7 : w.cell? ⟨b, 7, none⟩ = some (.bool r.ma)
  c8 : w.cell? ⟨b, 8, none⟩ = some (.bool r.sl)
  f0 : w.frozen? ⟨b, 0, none⟩ = false
  f1 : w.frozen? ⟨b, 1, none⟩ = false
  f2 : w.frozen? ⟨b, 2, none⟩ = false
  f3 : w.frozen? ⟨b, 3, none⟩ = false
  f4 : w.frozen? ⟨b, 4, none⟩ = false
  f5 : w.frozen? ⟨b, 5, none⟩ = false
  f6 : w.frozen? ⟨b, 6, none⟩ = false
  f7 : w.frozen? ⟨b, 7, none⟩ = false
  f8 : w.frozen? ⟨b, 8, none⟩ = false

theorem QBox.lt {w : World} {b : Nat} {r : Pr} (h : QBox w b r) : b < w.heap.size := World.block_lt_of_cell? _ _ h.c0

theorem QBox.stay {T : Nat → Prop} {W w1 : World} {b : Nat} {r : Pr} (h : QBox W b r) (hs : Stay T W w1) (hn : ¬ T b) : QBox w1 b r := by
  have hb : b < W.heap.size := h.lt
  have c : ∀ o, w1.cell? ⟨b, o, none⟩ = W.cell? ⟨b, o, none⟩ := fun o => hs.cell (p := ⟨b, o, none⟩) hb hn
  have f : ∀ o, w1.frozen? ⟨b, o, none⟩ = W.frozen? ⟨b, o, none⟩ := fun o => hs.frozen (p := ⟨b, o, none⟩) hb hn
  exact ⟨(c 0).trans h.c0, (c 1).trans h.c1, (c 2).trans h.c2, (c 3).trans h.c3, (c 4).trans h.c4, (c 5).trans h.c5, (c 6).trans h.c6, (c 7).trans h.c7, (c 8).trans h.c8, (f 0).trans h.f0, (f 1).trans h.f1, (f 2).trans h.f2, (f 3).trans h.f3, (f 4).trans h.f4, (f 5).trans h.f5, (f 6).trans h.f6, (f 7).trans h.f7, (f 8).trans h.f8⟩

theorem QBox.keep {W w1 : World} {b : Nat} {r : Pr} (h : QBox W b r) (hs : Stay (fun _ => False) W w1) : QBox w1 b r := h.stay hs (fun h => h)

theorem QBox.alloc {w : World} {b : Nat} {r : Pr} (h : QBox w b r) (o : Obj) : QBox (w.alloc o) b r := h.keep ((Stay.refl _ _).alloc o)

theorem QBox.new {w : World} {b : Nat} (r : Pr) (h : w.heap.size = b) : QBox (w.alloc (.cells #[r.dp, .int .i64 r.col, r.ov, .bool r.pk, .int .u8 r.fl, .int .i64 r.w, .int .i64 r.h, .bool r.ma, .bool r.sl] 53)) b r := by
  subst h
  constructor <;> simp

theorem QBox.cells {w : World} {b : Nat} {r : Pr} (h : QBox w b r) : ∀ (j : Nat) (v : Value), [r.dp, .int .i64 r.col, r.ov, .bool r.pk, .int .u8 r.fl, .int .i64 r.w, .int .i64 r.h, .bool r.ma, .bool r.sl][j]? = some v → w.cell? ⟨b, 0 + j, none⟩ = some v := by
  intro j v hj
  match j, hj with
  | 0, hj => cases hj; exact h.c0
  | 1, hj => cases hj; exact h.c1
  | 2, hj => cases hj; exact h.c2
  | 3, hj => cases hj; exact h.c3
  | 4, hj => cases hj; exact h.c4
  | 5, hj => cases hj; exact h.c5
  | 6, hj => cases hj; exact h.c6
  | 7, hj => cases hj; exact h.c7
  | 8, hj => cases hj; exact h.c8

theorem results_QBox {fn : Func} {p : Tmp} (h : fn.results = #[.cell p 53]) (tmps : Array Value) (w : World) (g : Nat) (r : Pr) (hp : tmps.getD p undef = .pointer (some ⟨g, 0, none⟩)) (hb : QBox w g r) :
    (results fn tmps).run Try.prog w = .ok (.agg #[r.dp, .int .i64 r.col, r.ov, .bool r.pk, .int .u8 r.fl, .int .i64 r.w, .int .i64 r.h, .bool r.ma, .bool r.sl]) w := results_cells h tmps w g 0 _ _ hp hb.cells Try.underlying53 rfl (by kernel_rfl)

/-- What a struct is behind a call, and nothing that was there has turned. -/
theorem QBox.ends {w W : World} {fn : Func} {p : Tmp} (h : fn.results = #[.cell p 53]) {tmps : Array Value} {r q : Pr} {g : Nat} (hp : tmps.getD p undef = .pointer (some ⟨g, 0, none⟩)) (hb : QBox W g r) (hq : r = q) (hs : Stay (fun _ => False) w W)
    {d : List Deferred} (hd : d = []) : bodyPost Try.prog fn (Gives (.agg #[q.dp, .int .i64 q.col, q.ov, .bool q.pk, .int .u8 q.fl, .int .i64 q.w, .int .i64 q.h, .bool q.ma, .bool q.sl]) w) Exit.ret { tmps := tmps, defers := d } W := by
  subst hq hd
  exact bodyPost_ret (results_QBox h _ _ _ r hp hb) rfl ⟨rfl, hs⟩

/-- The world in which a box holds another one. -/
theorem QBox.put {w : World} {b : Nat} {r0 : Pr} (h : QBox w b r0) (r : Pr) : QBox (((((((((w.setCell ⟨b, 0, none⟩ (r.dp)).setCell ⟨b, 1, none⟩ (.int .i64 r.col)).setCell ⟨b, 2, none⟩ (r.ov)).setCell ⟨b, 3, none⟩ (.bool r.pk)).setCell ⟨b, 4, none⟩ (.int .u8 r.fl)).setCell ⟨b, 5, none⟩ (.int .i64 r.w)).setCell ⟨b, 6, none⟩ (.int .i64 r.h)).setCell ⟨b, 7, none⟩ (.bool r.ma)).setCell ⟨b, 8, none⟩ (.bool r.sl)) b r := by
  obtain ⟨h0, h1, h2, h3, h4, h5, h6, h7, h8, k0, k1, k2, k3, k4, k5, k6, k7, k8⟩ := h
  constructor <;> simp [go_sem, *]

theorem QBox.stay_put {S : Nat → Prop} {w w1 : World} {b : Nat} (h : Stay S w w1) (hb : w.heap.size ≤ b) (v0 v1 v2 v3 v4 v5 v6 v7 v8 : Value) : Stay S w (((((((((w1.setCell ⟨b, 0, none⟩ v0).setCell ⟨b, 1, none⟩ v1).setCell ⟨b, 2, none⟩ v2).setCell ⟨b, 3, none⟩ v3).setCell ⟨b, 4, none⟩ v4).setCell ⟨b, 5, none⟩ v5).setCell ⟨b, 6, none⟩ v6).setCell ⟨b, 7, none⟩ v7).setCell ⟨b, 8, none⟩ v8) :=
  (((((((((h.setNew hb v0).setNew hb v1).setNew hb v2).setNew hb v3).setNew hb v4).setNew hb v5).setNew hb v6).setNew hb v7).setNew hb v8)

theorem QBox.put0 {w : World} {b : Nat} {r : Pr} (h : QBox w b r) {x : Value} {q : Pr} (hq : q = ⟨x, r.col, r.ov, r.pk, r.fl, r.w, r.h, r.ma, r.sl⟩) : QBox (w.setCell ⟨b, 0, none⟩ (x)) b q := by
  subst hq
  obtain ⟨h0, h1, h2, h3, h4, h5, h6, h7, h8, k0, k1, k2, k3, k4, k5, k6, k7, k8⟩ := h
  constructor <;> simp [go_sem, *]

theorem QBox.put1 {w : World} {b : Nat} {r : Pr} (h : QBox w b r) {x : Int} {q : Pr} (hq : q = ⟨r.dp, x, r.ov, r.pk, r.fl, r.w, r.h, r.ma, r.sl⟩) : QBox (w.setCell ⟨b, 1, none⟩ (.int .i64 x)) b q := by
  subst hq
  obtain ⟨h0, h1, h2, h3, h4, h5, h6, h7, h8, k0, k1, k2, k3, k4, k5, k6, k7, k8⟩ := h
  constructor <;> simp [go_sem, *]

theorem QBox.put2 {w : World} {b : Nat} {r : Pr} (h : QBox w b r) {x : Value} {q : Pr} (hq : q = ⟨r.dp, r.col, x, r.pk, r.fl, r.w, r.h, r.ma, r.sl⟩) : QBox (w.setCell ⟨b, 2, none⟩ (x)) b q := by
  subst hq
  obtain ⟨h0, h1, h2, h3, h4, h5, h6, h7, h8, k0, k1, k2, k3, k4, k5, k6, k7, k8⟩ := h
  constructor <;> simp [go_sem, *]

theorem QBox.put3 {w : World} {b : Nat} {r : Pr} (h : QBox w b r) {x : Bool} {q : Pr} (hq : q = ⟨r.dp, r.col, r.ov, x, r.fl, r.w, r.h, r.ma, r.sl⟩) : QBox (w.setCell ⟨b, 3, none⟩ (.bool x)) b q := by
  subst hq
  obtain ⟨h0, h1, h2, h3, h4, h5, h6, h7, h8, k0, k1, k2, k3, k4, k5, k6, k7, k8⟩ := h
  constructor <;> simp [go_sem, *]

theorem QBox.put4 {w : World} {b : Nat} {r : Pr} (h : QBox w b r) {x : Int} {q : Pr} (hq : q = ⟨r.dp, r.col, r.ov, r.pk, x, r.w, r.h, r.ma, r.sl⟩) : QBox (w.setCell ⟨b, 4, none⟩ (.int .u8 x)) b q := by
  subst hq
  obtain ⟨h0, h1, h2, h3, h4, h5, h6, h7, h8, k0, k1, k2, k3, k4, k5, k6, k7, k8⟩ := h
  constructor <;> simp [go_sem, *]

theorem QBox.put5 {w : World} {b : Nat} {r : Pr} (h : QBox w b r) {x : Int} {q : Pr} (hq : q = ⟨r.dp, r.col, r.ov, r.pk, r.fl, x, r.h, r.ma, r.sl⟩) : QBox (w.setCell ⟨b, 5, none⟩ (.int .i64 x)) b q := by
  subst hq
  obtain ⟨h0, h1, h2, h3, h4, h5, h6, h7, h8, k0, k1, k2, k3, k4, k5, k6, k7, k8⟩ := h
  constructor <;> simp [go_sem, *]

theorem QBox.put6 {w : World} {b : Nat} {r : Pr} (h : QBox w b r) {x : Int} {q : Pr} (hq : q = ⟨r.dp, r.col, r.ov, r.pk, r.fl, r.w, x, r.ma, r.sl⟩) : QBox (w.setCell ⟨b, 6, none⟩ (.int .i64 x)) b q := by
  subst hq
  obtain ⟨h0, h1, h2, h3, h4, h5, h6, h7, h8, k0, k1, k2, k3, k4, k5, k6, k7, k8⟩ := h
  constructor <;> simp [go_sem, *]

theorem QBox.put7 {w : World} {b : Nat} {r : Pr} (h : QBox w b r) {x : Bool} {q : Pr} (hq : q = ⟨r.dp, r.col, r.ov, r.pk, r.fl, r.w, r.h, x, r.sl⟩) : QBox (w.setCell ⟨b, 7, none⟩ (.bool x)) b q := by
  subst hq
  obtain ⟨h0, h1, h2, h3, h4, h5, h6, h7, h8, k0, k1, k2, k3, k4, k5, k6, k7, k8⟩ := h
  constructor <;> simp [go_sem, *]

theorem QBox.put8 {w : World} {b : Nat} {r : Pr} (h : QBox w b r) {x : Bool} {q : Pr} (hq : q = ⟨r.dp, r.col, r.ov, r.pk, r.fl, r.w, r.h, r.ma, x⟩) : QBox (w.setCell ⟨b, 8, none⟩ (.bool x)) b q := by
  subst hq
  obtain ⟨h0, h1, h2, h3, h4, h5, h6, h7, h8, k0, k1, k2, k3, k4, k5, k6, k7, k8⟩ := h
  constructor <;> simp [go_sem, *]

theorem QBox.other {w : World} {b b' o : Nat} {r : Pr} {v : Value} (h : QBox w b r) (hb : b' ≠ b) : QBox (w.setCell ⟨b', o, none⟩ v) b r :=
  h.stay (T := fun k => k = b') ((Stay.refl (fun k => k = b') w).setCell (S := fun k => k = b') (p := ⟨b', o, none⟩) rfl v) (fun e => hb e.symm)

theorem run_load_QBox {a : Act} {o : Oper} {x : Operand} {w : World} {b : Nat} {r : Pr} (ho : o.op = .load 53 x) (hx : a.eval x = .pointer (some ⟨b, 0, none⟩)) (hb : QBox w b r) :
    (execOp a.eval o).run Try.prog w = .ok (.value (.agg #[r.dp, .int .i64 r.col, r.ov, .bool r.pk, .int .u8 r.fl, .int .i64 r.w, .int .i64 r.h, .bool r.ma, .bool r.sl])) w := by
  unfold execOp
  simp only [ho, hx, Instr.loadAt, Instr.sureAddr, Sem.run_bind, Sem.run_pure, Result.andThen_ok]
  rw [run_loadVar_cells w b 0 53 _ _ hb.cells Try.underlying53 rfl (by kernel_rfl)]
  rfl

/-- One in the midst of a block. -/
structure QBoxAt (w : World) (g o : Nat) (r : Pr) : Prop where
  c0 : w.cell? ⟨g, o, none⟩ = some (r.dp)
  c1 : w.cell? ⟨g, o + 1, none⟩ = some (.int .i64 r.col)
  c2 : w.cell? ⟨g, o + 2, none⟩ = some (r.ov)
  c3 : w.cell? ⟨g, o + 3, none⟩ = some (.bool r.pk)
  c4 : w.cell? ⟨g, o + 4, none⟩ = some (.int .u8 r.fl)
  c5 : w.cell? ⟨g, o + 5, none⟩ = some (.int .i64 r.w)
  c6 : w.cell? ⟨g, o + 6, none⟩ = some (.int .i64 r.h)
  c7 : w.cell? ⟨g, o + 7, none⟩ = some (.bool r.ma)
  c8 : w.cell? ⟨g, o + 8, none⟩ = some (.bool r.sl)

theorem QBoxAt.keep {W w1 : World} {g o : Nat} {r : Pr} (h : QBoxAt W g o r) (hs : Stay (fun _ => False) W w1) : QBoxAt w1 g o r := ⟨keep_cell hs h.c0, keep_cell hs h.c1, keep_cell hs h.c2, keep_cell hs h.c3, keep_cell hs h.c4, keep_cell hs h.c5, keep_cell hs h.c6, keep_cell hs h.c7, keep_cell hs h.c8⟩

theorem QBoxAt.cells {w : World} {g o : Nat} {r : Pr} (h : QBoxAt w g o r) : ∀ (j : Nat) (v : Value), [r.dp, .int .i64 r.col, r.ov, .bool r.pk, .int .u8 r.fl, .int .i64 r.w, .int .i64 r.h, .bool r.ma, .bool r.sl][j]? = some v → w.cell? ⟨g, o + j, none⟩ = some v := by
  intro j v hj
  match j, hj with
  | 0, hj => cases hj; exact h.c0
  | 1, hj => cases hj; exact h.c1
  | 2, hj => cases hj; exact h.c2
  | 3, hj => cases hj; exact h.c3
  | 4, hj => cases hj; exact h.c4
  | 5, hj => cases hj; exact h.c5
  | 6, hj => cases hj; exact h.c6
  | 7, hj => cases hj; exact h.c7
  | 8, hj => cases hj; exact h.c8

theorem run_load_QBoxAt {a : Act} {p : Oper} {x : Operand} {w : World} {g o : Nat} {r : Pr} (ho : p.op = .load 53 x) (hx : a.eval x = .pointer (some ⟨g, o, none⟩)) (hb : QBoxAt w g o r) :
    (execOp a.eval p).run Try.prog w = .ok (.value (.agg #[r.dp, .int .i64 r.col, r.ov, .bool r.pk, .int .u8 r.fl, .int .i64 r.w, .int .i64 r.h, .bool r.ma, .bool r.sl])) w := by
  unfold execOp
  simp only [ho, hx, Instr.loadAt, Instr.sureAddr, Sem.run_bind, Sem.run_pure, Result.andThen_ok]
  rw [run_loadVar_cells w g o 53 _ _ hb.cells Try.underlying53 rfl (by kernel_rfl)]
  rfl

/-- Tn, as a value. -/
structure Tn where
  dp : Value
  col : Int
  ov : Value
  pk : Bool
  fl : Int

theorem Tn.same {a0 a1 a2 a3 a4 : _} {r : Tn} (h : r.dp = a0 ∧ r.col = a1 ∧ r.ov = a2 ∧ r.pk = a3 ∧ r.fl = a4) : r = ⟨a0, a1, a2, a3, a4⟩ := by
  obtain ⟨rfl, rfl, rfl, rfl, rfl⟩ := h
  rfl

theorem Tn.ret {a b : Tn} (h : a = b) : Ending.returned (.agg #[a.dp, .int .i64 a.col, a.ov, .bool a.pk, .int .u8 a.fl]) = .returned (.agg #[b.dp, .int .i64 b.col, b.ov, .bool b.pk, .int .u8 b.fl]) := by rw [h]

/-- A box that holds a Tn. -/
structure NBox (w : World) (b : Nat) (r : Tn) : Prop where
  c0 : w.cell? ⟨b, 0, none⟩ = some (r.dp)
  c1 : w.cell? ⟨b, 1, none⟩ = some (.int .i64 r.col)
  c2 : w.cell? ⟨b, 2, none⟩ = some (r.ov)
  c3 : w.cell? ⟨b, 3, none⟩ = some (.bool r.pk)
  c4 : w.cell? ⟨b, 4, none⟩ = some (.int .u8 r.fl)
  f0 : w.frozen? ⟨b, 0, none⟩ = false
  f1 : w.frozen? ⟨b, 1, none⟩ = false
  f2 : w.frozen? ⟨b, 2, none⟩ = false
  f3 : w.frozen? ⟨b, 3, none⟩ = false
  f4 : w.frozen? ⟨b, 4, none⟩ = false

theorem NBox.lt {w : World} {b : Nat} {r : Tn} (h : NBox w b r) : b < w.heap.size := World.block_lt_of_cell? _ _ h.c0

theorem NBox.stay {T : Nat → Prop} {W w1 : World} {b : Nat} {r : Tn} (h : NBox W b r) (hs : Stay T W w1) (hn : ¬ T b) : NBox w1 b r := by
  have hb : b < W.heap.size := h.lt
  have c : ∀ o, w1.cell? ⟨b, o, none⟩ = W.cell? ⟨b, o, none⟩ := fun o => hs.cell (p := ⟨b, o, none⟩) hb hn
  have f : ∀ o, w1.frozen? ⟨b, o, none⟩ = W.frozen? ⟨b, o, none⟩ := fun o => hs.frozen (p := ⟨b, o, none⟩) hb hn
  exact ⟨(c 0).trans h.c0, (c 1).trans h.c1, (c 2).trans h.c2, (c 3).trans h.c3, (c 4).trans h.c4, (f 0).trans h.f0, (f 1).trans h.f1, (f 2).trans h.f2, (f 3).trans h.f3, (f 4).trans h.f4⟩

theorem NBox.keep {W w1 : World} {b : Nat} {r : Tn} (h : NBox W b r) (hs : Stay (fun _ => False) W w1) : NBox w1 b r := h.stay hs (fun h => h)

theorem NBox.alloc {w : World} {b : Nat} {r : Tn} (h : NBox w b r) (o : Obj) : NBox (w.alloc o) b r := h.keep ((Stay.refl _ _).alloc o)

theorem NBox.new {w : World} {b : Nat} (r : Tn) (h : w.heap.size = b) : NBox (w.alloc (.cells #[r.dp, .int .i64 r.col, r.ov, .bool r.pk, .int .u8 r.fl] 49)) b r := by
  subst h
  constructor <;> simp

theorem NBox.cells {w : World} {b : Nat} {r : Tn} (h : NBox w b r) : ∀ (j : Nat) (v : Value), [r.dp, .int .i64 r.col, r.ov, .bool r.pk, .int .u8 r.fl][j]? = some v → w.cell? ⟨b, 0 + j, none⟩ = some v := by
  intro j v hj
  match j, hj with
  | 0, hj => cases hj; exact h.c0
  | 1, hj => cases hj; exact h.c1
  | 2, hj => cases hj; exact h.c2
  | 3, hj => cases hj; exact h.c3
  | 4, hj => cases hj; exact h.c4

theorem results_NBox {fn : Func} {p : Tmp} (h : fn.results = #[.cell p 49]) (tmps : Array Value) (w : World) (g : Nat) (r : Tn) (hp : tmps.getD p undef = .pointer (some ⟨g, 0, none⟩)) (hb : NBox w g r) :
    (results fn tmps).run Try.prog w = .ok (.agg #[r.dp, .int .i64 r.col, r.ov, .bool r.pk, .int .u8 r.fl]) w := results_cells h tmps w g 0 _ _ hp hb.cells Try.underlying49 rfl (by kernel_rfl)

/-- What a struct is behind a call, and nothing that was there has turned. -/
theorem NBox.ends {w W : World} {fn : Func} {p : Tmp} (h : fn.results = #[.cell p 49]) {tmps : Array Value} {r q : Tn} {g : Nat} (hp : tmps.getD p undef = .pointer (some ⟨g, 0, none⟩)) (hb : NBox W g r) (hq : r = q) (hs : Stay (fun _ => False) w W)
    {d : List Deferred} (hd : d = []) : bodyPost Try.prog fn (Gives (.agg #[q.dp, .int .i64 q.col, q.ov, .bool q.pk, .int .u8 q.fl]) w) Exit.ret { tmps := tmps, defers := d } W := by
  subst hq hd
  exact bodyPost_ret (results_NBox h _ _ _ r hp hb) rfl ⟨rfl, hs⟩

/-- The world in which a box holds another one. -/
theorem NBox.put {w : World} {b : Nat} {r0 : Tn} (h : NBox w b r0) (r : Tn) : NBox (((((w.setCell ⟨b, 0, none⟩ (r.dp)).setCell ⟨b, 1, none⟩ (.int .i64 r.col)).setCell ⟨b, 2, none⟩ (r.ov)).setCell ⟨b, 3, none⟩ (.bool r.pk)).setCell ⟨b, 4, none⟩ (.int .u8 r.fl)) b r := by
  obtain ⟨h0, h1, h2, h3, h4, k0, k1, k2, k3, k4⟩ := h
  constructor <;> simp [go_sem, *]

theorem NBox.stay_put {S : Nat → Prop} {w w1 : World} {b : Nat} (h : Stay S w w1) (hb : w.heap.size ≤ b) (v0 v1 v2 v3 v4 : Value) : Stay S w (((((w1.setCell ⟨b, 0, none⟩ v0).setCell ⟨b, 1, none⟩ v1).setCell ⟨b, 2, none⟩ v2).setCell ⟨b, 3, none⟩ v3).setCell ⟨b, 4, none⟩ v4) :=
  (((((h.setNew hb v0).setNew hb v1).setNew hb v2).setNew hb v3).setNew hb v4)

theorem NBox.put0 {w : World} {b : Nat} {r : Tn} (h : NBox w b r) {x : Value} {q : Tn} (hq : q = ⟨x, r.col, r.ov, r.pk, r.fl⟩) : NBox (w.setCell ⟨b, 0, none⟩ (x)) b q := by
  subst hq
  obtain ⟨h0, h1, h2, h3, h4, k0, k1, k2, k3, k4⟩ := h
  constructor <;> simp [go_sem, *]

theorem NBox.put1 {w : World} {b : Nat} {r : Tn} (h : NBox w b r) {x : Int} {q : Tn} (hq : q = ⟨r.dp, x, r.ov, r.pk, r.fl⟩) : NBox (w.setCell ⟨b, 1, none⟩ (.int .i64 x)) b q := by
  subst hq
  obtain ⟨h0, h1, h2, h3, h4, k0, k1, k2, k3, k4⟩ := h
  constructor <;> simp [go_sem, *]

theorem NBox.put2 {w : World} {b : Nat} {r : Tn} (h : NBox w b r) {x : Value} {q : Tn} (hq : q = ⟨r.dp, r.col, x, r.pk, r.fl⟩) : NBox (w.setCell ⟨b, 2, none⟩ (x)) b q := by
  subst hq
  obtain ⟨h0, h1, h2, h3, h4, k0, k1, k2, k3, k4⟩ := h
  constructor <;> simp [go_sem, *]

theorem NBox.put3 {w : World} {b : Nat} {r : Tn} (h : NBox w b r) {x : Bool} {q : Tn} (hq : q = ⟨r.dp, r.col, r.ov, x, r.fl⟩) : NBox (w.setCell ⟨b, 3, none⟩ (.bool x)) b q := by
  subst hq
  obtain ⟨h0, h1, h2, h3, h4, k0, k1, k2, k3, k4⟩ := h
  constructor <;> simp [go_sem, *]

theorem NBox.put4 {w : World} {b : Nat} {r : Tn} (h : NBox w b r) {x : Int} {q : Tn} (hq : q = ⟨r.dp, r.col, r.ov, r.pk, x⟩) : NBox (w.setCell ⟨b, 4, none⟩ (.int .u8 x)) b q := by
  subst hq
  obtain ⟨h0, h1, h2, h3, h4, k0, k1, k2, k3, k4⟩ := h
  constructor <;> simp [go_sem, *]

theorem NBox.other {w : World} {b b' o : Nat} {r : Tn} {v : Value} (h : NBox w b r) (hb : b' ≠ b) : NBox (w.setCell ⟨b', o, none⟩ v) b r :=
  h.stay (T := fun k => k = b') ((Stay.refl (fun k => k = b') w).setCell (S := fun k => k = b') (p := ⟨b', o, none⟩) rfl v) (fun e => hb e.symm)

theorem run_load_NBox {a : Act} {o : Oper} {x : Operand} {w : World} {b : Nat} {r : Tn} (ho : o.op = .load 49 x) (hx : a.eval x = .pointer (some ⟨b, 0, none⟩)) (hb : NBox w b r) :
    (execOp a.eval o).run Try.prog w = .ok (.value (.agg #[r.dp, .int .i64 r.col, r.ov, .bool r.pk, .int .u8 r.fl])) w := by
  unfold execOp
  simp only [ho, hx, Instr.loadAt, Instr.sureAddr, Sem.run_bind, Sem.run_pure, Result.andThen_ok]
  rw [run_loadVar_cells w b 0 49 _ _ hb.cells Try.underlying49 rfl (by kernel_rfl)]
  rfl

/-- One in the midst of a block. -/
structure NBoxAt (w : World) (g o : Nat) (r : Tn) : Prop where
  c0 : w.cell? ⟨g, o, none⟩ = some (r.dp)
  c1 : w.cell? ⟨g, o + 1, none⟩ = some (.int .i64 r.col)
  c2 : w.cell? ⟨g, o + 2, none⟩ = some (r.ov)
  c3 : w.cell? ⟨g, o + 3, none⟩ = some (.bool r.pk)
  c4 : w.cell? ⟨g, o + 4, none⟩ = some (.int .u8 r.fl)

theorem NBoxAt.keep {W w1 : World} {g o : Nat} {r : Tn} (h : NBoxAt W g o r) (hs : Stay (fun _ => False) W w1) : NBoxAt w1 g o r := ⟨keep_cell hs h.c0, keep_cell hs h.c1, keep_cell hs h.c2, keep_cell hs h.c3, keep_cell hs h.c4⟩

theorem NBoxAt.cells {w : World} {g o : Nat} {r : Tn} (h : NBoxAt w g o r) : ∀ (j : Nat) (v : Value), [r.dp, .int .i64 r.col, r.ov, .bool r.pk, .int .u8 r.fl][j]? = some v → w.cell? ⟨g, o + j, none⟩ = some v := by
  intro j v hj
  match j, hj with
  | 0, hj => cases hj; exact h.c0
  | 1, hj => cases hj; exact h.c1
  | 2, hj => cases hj; exact h.c2
  | 3, hj => cases hj; exact h.c3
  | 4, hj => cases hj; exact h.c4

theorem run_load_NBoxAt {a : Act} {p : Oper} {x : Operand} {w : World} {g o : Nat} {r : Tn} (ho : p.op = .load 49 x) (hx : a.eval x = .pointer (some ⟨g, o, none⟩)) (hb : NBoxAt w g o r) :
    (execOp a.eval p).run Try.prog w = .ok (.value (.agg #[r.dp, .int .i64 r.col, r.ov, .bool r.pk, .int .u8 r.fl])) w := by
  unfold execOp
  simp only [ho, hx, Instr.loadAt, Instr.sureAddr, Sem.run_bind, Sem.run_pure, Result.andThen_ok]
  rw [run_loadVar_cells w g o 49 _ _ hb.cells Try.underlying49 rfl (by kernel_rfl)]
  rfl


end Go.Proofs.Ytjfhmpjpdcckhaa

namespace Go.Proofs.Ytjfhmpjpdcckhaa
open Go.RowKit
open L17 L18

/-- A pair whose ends are open, without packets. -/
structure Pq where
  d : DS
  col : Int
  q : List Int
  w : Int
  h : Int

namespace Pq
/-- What is written of a byte, and the column behind. -/
def wr (s : Pq) (c : Int) : List Int × Int := L19.addM (L19.cnt s.d.t.fo) (L19.plc s.col) c
def ok (s : Pq) (c : Int) : Bool := decide (s.q.length + (s.wr c).1.length ≤ 4096)
def put (s : Pq) (c : Int) : Pq := if s.ok c = true then ⟨s.d, (s.wr c).2, s.q ++ (s.wr c).1, s.w, s.h⟩ else s
def puts : List Int → Pq → Pq
  | [], s => s
  | c :: l, s => puts l (s.put c)
def come (s : Pq) (c : Int) : Pq := puts (s.d.input c).1.ec ⟨(s.d.input c).1, s.col, s.q, s.w, s.h⟩
def feed : List Int → Pq → Pq
  | [], s => s
  | c :: l, s => feed l (s.come c)
/-- No signal, no stop. -/
def Calm : List Int → Pq → Prop
  | [], _ => True
  | c :: l, s => ((s.d.input c).2 = 0 ∧ (s.d.input c).1.stp = false) ∧ Calm l (s.come c)
/-- All has room. -/
def Fits : List Int → Pq → Prop
  | [], _ => True
  | c :: l, s => s.ok c = true ∧ Fits l (s.put c)
def setD (s : Pq) (d : DS) : Pq := ⟨d, s.col, s.q, s.w, s.h⟩
def setQ (s : Pq) (l : List Int) : Pq := ⟨s.d, s.col, l, s.w, s.h⟩
def setSize (s : Pq) (a b : Int) : Pq := ⟨s.d, s.col, s.q, a, b⟩

theorem put_d (s : Pq) (c : Int) : (s.put c).d = s.d := by unfold put; split <;> rfl
theorem puts_d : ∀ (l : List Int) (s : Pq), (puts l s).d = s.d
  | [], _ => rfl
  | c :: l, s => (puts_d l (s.put c)).trans (put_d s c)
theorem come_d (s : Pq) (c : Int) : (s.come c).d = (s.d.input c).1 := puts_d _ _
theorem put_len {s : Pq} (h : s.q.length ≤ 4096) (c : Int) : (s.put c).q.length ≤ 4096 := by
  unfold put
  split
  · rename_i e
    have e := of_decide_eq_true e
    show (s.q ++ (s.wr c).1).length ≤ 4096
    rw [List.length_append]
    exact e
  · exact h
theorem puts_len : ∀ (l : List Int) {s : Pq}, s.q.length ≤ 4096 → (puts l s).q.length ≤ 4096
  | [], _, h => h
  | c :: l, _, h => puts_len l (put_len h c)
theorem come_len {s : Pq} (h : s.q.length ≤ 4096) (c : Int) : (s.come c).q.length ≤ 4096 := puts_len _ (s := ⟨_, _, _, _, _⟩) h
theorem puts_append : ∀ (a b : List Int) (s : Pq), puts (a ++ b) s = puts b (puts a s)
  | [], _, _ => rfl
  | c :: a, b, s => puts_append a b (s.put c)
theorem feed_append : ∀ (a b : List Int) (s : Pq), feed (a ++ b) s = feed b (feed a s)
  | [], _, _ => rfl
  | c :: a, b, s => feed_append a b (s.come c)
theorem calm_append : ∀ (a b : List Int) (s : Pq), Calm (a ++ b) s ↔ Calm a s ∧ Calm b (feed a s)
  | [], _, _ => ⟨fun h => ⟨trivial, h⟩, fun h => h.2⟩
  | c :: a, b, s => by
    show (_ ∧ Calm (a ++ b) (s.come c)) ↔ (_ ∧ Calm a (s.come c)) ∧ Calm b (feed a (s.come c))
    rw [calm_append a b (s.come c)]
    exact and_assoc.symm
theorem fits_append : ∀ (a b : List Int) (s : Pq), Fits (a ++ b) s ↔ Fits a s ∧ Fits b (puts a s)
  | [], _, _ => ⟨fun h => ⟨trivial, h⟩, fun h => h.2⟩
  | c :: a, b, s => by
    show (_ ∧ Fits (a ++ b) (s.put c)) ↔ (_ ∧ Fits a (s.put c)) ∧ Fits b (puts a (s.put c))
    rw [fits_append a b (s.put c)]
    exact and_assoc.symm
end Pq

/-- A pair in memory. -/
structure PB (w : World) (g p : Nat) (O : Nat → Prop) (v : Value) (s : Pq) : Prop where
  box : QBox w g ⟨.pointer (some ⟨p, 0, none⟩), s.col, v, false, 0, s.w, s.h, true, true⟩
  dat : At w p O s.d
  win : Win w 1 v s.q.length (bys s.q)
  wf : ∀ y ∈ s.q, (Lit.int .u8 y).wf = true
  gO : ¬ O g
  vO : ∀ k, v.ownBlock = some k → ¬ O k
  vg : ∀ k, v.ownBlock = some k → k ≠ g

/-- Its blocks. -/
def PU (g : Nat) (O : Nat → Prop) (v : Value) (k : Nat) : Prop := k = g ∨ O k ∨ v.ownBlock = some k

def PAt (w : World) (g p : Nat) (U : Nat → Prop) (s : Pq) : Prop := ∃ O v, PB w g p O v s ∧ (∀ k, PU g O v k → U k) ∧ ∀ k, U k → k < w.heap.size

section
variable {w w1 : World} {g p : Nat} {O U : Nat → Prop} {v : Value} {s : Pq}

theorem PB.lt (h : PB w g p O v s) : ∀ k, PU g O v k → k < w.heap.size := by
  intro k hk
  rcases hk with rfl | hk | hk
  · exact h.box.lt
  · exact h.dat.lt k hk
  · exact h.win.lt k hk

theorem PB.stay {S : Nat → Prop} (h : PB w g p O v s) (hs : Stay S w w1) (hS : ∀ k, PU g O v k → ¬ S k) : PB w1 g p O v s :=
  ⟨h.box.stay hs (hS g (.inl rfl)), h.dat.keep hs (fun k hk ho => hS k (.inr (.inl ho)) hk), h.win.stay hs (fun j hj => hS j (.inr (.inr hj))), h.wf, h.gO, h.vO, h.vg⟩

theorem PB.keep (h : PB w g p O v s) (hs : Stay (fun _ => False) w w1) : PB w1 g p O v s := h.stay hs (fun _ _ h => h)

theorem PAt.lt (h : PAt w g p U s) : ∀ k, U k → k < w.heap.size := by
  obtain ⟨_, _, _, _, h⟩ := h
  exact h

theorem PAt.own (h : PAt w g p U s) : U g := by
  obtain ⟨_, _, _, h, _⟩ := h
  exact h g (.inl rfl)

theorem PAt.stay {S : Nat → Prop} (h : PAt w g p U s) (hs : Stay S w w1) (hS : ∀ k, U k → ¬ S k) : PAt w1 g p U s := by
  obtain ⟨O, v, h1, h2, h3⟩ := h
  exact ⟨O, v, h1.stay hs (fun k hk => hS k (h2 k hk)), h2, fun k hk => Nat.lt_of_lt_of_le (h3 k hk) hs.size⟩

theorem PAt.keep (h : PAt w g p U s) (hs : Stay (fun _ => False) w w1) : PAt w1 g p U s := h.stay hs (fun _ _ h => h)

/-- What is shown last by the discipline is no part of it. -/
theorem PAt.noEc (h : PAt w g p U s) (l : List Int) : PAt w g p U (s.setD (s.d.setEc l)) := by
  obtain ⟨O, v, h1, h2, h3⟩ := h
  exact ⟨O, v, ⟨h1.box, h1.dat, h1.win, h1.wf, h1.gO, h1.vO, h1.vg⟩, h2, h3⟩

/-- A call that turns a pair. -/
def TurnQ (g p : Nat) (U : Nat → Prop) (s' : Pq) (x : Value) (w : World) (e : Ending) (w' : World) : Prop :=
  ∃ U', e = .returned x ∧ PAt w' g p U' s' ∧ Stay U w w' ∧ Grown U U' w

/-- .. that answers bytes, and a number. -/
def ReadQ (g p : Nat) (U : Nat → Prop) (s' : Pq) (l : List Int) (x : Int) (w : World) (e : Ending) (w' : World) : Prop :=
  ∃ v U', e = .returned (.tuple #[v, .int .i64 x]) ∧ BR w' v l ∧ PAt w' g p U' s' ∧ Stay U w w' ∧ Grown U U' w

/-- The discipline has turned. -/
theorem PB.disc (h : PB w g p O v s) {O' : Nat → Prop} {d' : DS} (ha : At w1 p O' d') (hs : Stay O w w1) (hg : Grown O O' w) : PB w1 g p O' v (s.setD d') :=
  ⟨h.box.stay hs h.gO, ha, h.win.stay hs (fun j hj => h.vO j hj), h.wf, fun ho => by
    rcases hg g ho with e | e
    · exact h.gO e
    · have := h.box.lt; omega, fun k hk ho => by
    rcases hg k ho with e | e
    · exact h.vO k hk e
    · have := h.win.lt k hk; omega, h.vg⟩

theorem PB.disc_grown (hU : ∀ k, PU g O v k → U k) {O' : Nat → Prop} (hg : Grown O O' w) : Grown U (PU g O' v) w := fun k hk => by
  rcases hk with rfl | hk | hk
  · exact .inl (hU _ (.inl rfl))
  · rcases hg k hk with e | e
    · exact .inl (hU _ (.inr (.inl e)))
    · exact .inr e
  · exact .inl (hU _ (.inr (.inr hk)))

/-- What goes out has turned: another window, stored. -/
theorem PB.out (h : PB w g p O v s) {v' : Value} {l : List Int} (hs : Stay (fun j => v.ownBlock = some j) w w1) (hw : Win w1 1 v' l.length (bys l)) (hb : ∀ j, v'.ownBlock = some j → v.ownBlock = some j ∨ w.heap.size ≤ j) (hf : ∀ y ∈ l, (Lit.int .u8 y).wf = true) :
    PB (w1.setCell ⟨g, 2, none⟩ v') g p O v' (s.setQ l) ∧ Stay (PU g O v) w (w1.setCell ⟨g, 2, none⟩ v') := by
  have hng : ∀ j, v'.ownBlock = some j → j ≠ g := fun j hj e => by
    rcases hb j hj with k | k
    · exact h.vg j k e
    · have := h.box.lt; omega
  have hnO : ∀ j, v'.ownBlock = some j → ¬ O j := fun j hj ho => by
    rcases hb j hj with k | k
    · exact h.vO j k ho
    · have := h.dat.lt j ho; omega
  have hq : Stay (fun k => k = g) w1 (w1.setCell ⟨g, 2, none⟩ v') := (Stay.refl (fun k => k = g) w1).setCell (S := fun k => k = g) (p := ⟨g, 2, none⟩) rfl v'
  have hbx : QBox w1 g _ := h.box.stay hs (fun e => h.vg g e rfl)
  have hat : At w1 p O s.d := h.dat.keep hs (fun k hk ho => h.vO k hk ho)
  refine ⟨⟨hbx.put2 rfl, hat.keep hq (fun k e ho => by subst e; exact h.gO ho), hw.stay hq (fun j hj e => hng j hj e), hf, h.gO, hnO, hng⟩, ?_⟩
  exact (hs.mono (T := PU g O v) (fun k _ hk => .inr (.inr hk))).trans (hq.mono (T := PU g O v) (fun k _ hk => .inl hk))

/-- The column, the size: stored. -/
theorem at_g (w : World) (g o : Nat) (x : Value) : Stay (fun k => k = g) w (w.setCell ⟨g, o, none⟩ x) := (Stay.refl (fun k => k = g) w).setCell (S := fun k => k = g) (p := ⟨g, o, none⟩) rfl x

theorem PB.boxed (h : PB w g p O v s) {o : Nat} {x : Value} {s' : Pq} (hb : QBox (w.setCell ⟨g, o, none⟩ x) g ⟨.pointer (some ⟨p, 0, none⟩), s'.col, v, false, 0, s'.w, s'.h, true, true⟩) (hd : s'.d = s.d) (hq : s'.q = s.q) : PB (w.setCell ⟨g, o, none⟩ x) g p O v s' := by
  have hs := at_g w g o x
  refine ⟨hb, ?_, ?_, ?_, h.gO, h.vO, h.vg⟩
  · rw [hd]; exact h.dat.keep hs (fun k e ho => by subst e; exact h.gO ho)
  · rw [hq]; exact h.win.stay hs (fun j hj e => h.vg j hj e)
  · rw [hq]; exact h.wf

/-- A call is over: what it leaves. -/
theorem PB.turn (hU : ∀ k, PU g O v k → U k) {O' : Nat → Prop} {v' x : Value} {s' : Pq} (h : PB w1 g p O' v' s') (hs : Stay (PU g O v) w w1) (hg : Grown (PU g O v) (PU g O' v') w) : TurnQ g p U s' x w (.returned x) w1 :=
  ⟨PU g O' v', rfl, ⟨O', v', h, fun _ hk => hk, h.lt⟩, hs.mono (fun k _ hk => hU k hk), fun k hk => (hg k hk).imp (hU k) id⟩

theorem PB.same (hU : ∀ k, PU g O v k → U k) {x : Value} (h : PB w g p O v s) (hs : Stay (fun _ => False) w w1) : TurnQ g p U s x w (.returned x) w1 :=
  PB.turn hU (h.keep hs) (hs.mono (fun _ _ h => h.elim)) (fun _ hk => .inl hk)

theorem pu_win {n : Nat} {v' : Value} (hn : w.heap.size ≤ n) (hb : ∀ j, v'.ownBlock = some j → v.ownBlock = some j ∨ n ≤ j) : Grown (PU g O v) (PU g O v') w := fun k hk => by
  rcases hk with rfl | hk | hk
  · exact .inl (.inl rfl)
  · exact .inl (.inr (.inl hk))
  · rcases hb k hk with e | e
    · exact .inl (.inr (.inr e))
    · exact .inr (by omega)

end

end Go.Proofs.Ytjfhmpjpdcckhaa
