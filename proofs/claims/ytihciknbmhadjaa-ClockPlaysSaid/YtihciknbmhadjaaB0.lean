/-
  Timers and a clock in boxes. No conditions.
-/
import Derived.Test.YtihciknbmhadjaaB1
namespace Go.Proofs.Ytihciknbmhadjaa
open Go.RowKit

/-- Tm, as a value. -/
structure Tm where
  en : Int
  nr : Int
  du : Int

theorem Tm.same {a0 a1 a2 : _} {r : Tm} (h : r.en = a0 ∧ r.nr = a1 ∧ r.du = a2) : r = ⟨a0, a1, a2⟩ := by
  obtain ⟨rfl, rfl, rfl⟩ := h
  rfl

theorem Tm.ret {a b : Tm} (h : a = b) : Ending.returned (.agg #[.int .i64 a.en, .int .i64 a.nr, .int .i64 a.du]) = .returned (.agg #[.int .i64 b.en, .int .i64 b.nr, .int .i64 b.du]) := by rw [h]

/-- A box that holds a Tm. -/
structure TBox (w : World) (b : Nat) (r : Tm) : Prop where
  c0 : w.cell? ⟨b, 0, none⟩ = some (.int .i64 r.en)
  c1 : w.cell? ⟨b, 1, none⟩ = some (.int .i64 r.nr)
  c2 : w.cell? ⟨b, 2, none⟩ = some (.int .i64 r.du)
  f0 : w.frozen? ⟨b, 0, none⟩ = false
  f1 : w.frozen? ⟨b, 1, none⟩ = false
  f2 : w.frozen? ⟨b, 2, none⟩ = false

theorem TBox.lt {w : World} {b : Nat} {r : Tm} (h : TBox w b r) : b < w.heap.size := World.block_lt_of_cell? _ _ h.c0

theorem TBox.stay {T : Nat → Prop} {W w1 : World} {b : Nat} {r : Tm} (h : TBox W b r) (hs : Stay T W w1) (hn : ¬ T b) : TBox w1 b r := by
  have hb : b < W.heap.size := h.lt
  have c : ∀ o, w1.cell? ⟨b, o, none⟩ = W.cell? ⟨b, o, none⟩ := fun o => hs.cell (p := ⟨b, o, none⟩) hb hn
  have f : ∀ o, w1.frozen? ⟨b, o, none⟩ = W.frozen? ⟨b, o, none⟩ := fun o => hs.frozen (p := ⟨b, o, none⟩) hb hn
  exact ⟨(c 0).trans h.c0, (c 1).trans h.c1, (c 2).trans h.c2, (f 0).trans h.f0, (f 1).trans h.f1, (f 2).trans h.f2⟩

theorem TBox.keep {W w1 : World} {b : Nat} {r : Tm} (h : TBox W b r) (hs : Stay (fun _ => False) W w1) : TBox w1 b r := h.stay hs (fun h => h)

theorem TBox.alloc {w : World} {b : Nat} {r : Tm} (h : TBox w b r) (o : Obj) : TBox (w.alloc o) b r := h.keep ((Stay.refl _ _).alloc o)

theorem TBox.new {w : World} {b : Nat} (r : Tm) (h : w.heap.size = b) : TBox (w.alloc (.cells #[.int .i64 r.en, .int .i64 r.nr, .int .i64 r.du] 35)) b r := by
  subst h
  constructor <;> simp

theorem TBox.cells {w : World} {b : Nat} {r : Tm} (h : TBox w b r) : ∀ (j : Nat) (v : Value), [Value.int .i64 r.en, .int .i64 r.nr, .int .i64 r.du][j]? = some v → w.cell? ⟨b, 0 + j, none⟩ = some v := by
  intro j v hj
  match j, hj with
  | 0, hj => cases hj; exact h.c0
  | 1, hj => cases hj; exact h.c1
  | 2, hj => cases hj; exact h.c2

theorem results_TBox {fn : Func} {p : Tmp} (h : fn.results = #[.cell p 35]) (tmps : Array Value) (w : World) (g : Nat) (r : Tm) (hp : tmps.getD p undef = .pointer (some ⟨g, 0, none⟩)) (hb : TBox w g r) :
    (results fn tmps).run Try.prog w = .ok (.agg #[.int .i64 r.en, .int .i64 r.nr, .int .i64 r.du]) w := results_cells h tmps w g 0 _ _ hp hb.cells Try.underlying35 rfl (by kernel_rfl)

/-- What a struct is behind a call, and nothing that was there has turned. -/
theorem TBox.ends {w W : World} {fn : Func} {p : Tmp} (h : fn.results = #[.cell p 35]) {tmps : Array Value} {r q : Tm} {g : Nat} (hp : tmps.getD p undef = .pointer (some ⟨g, 0, none⟩)) (hb : TBox W g r) (hq : r = q) (hs : Stay (fun _ => False) w W)
    {d : List Deferred} (hd : d = []) : bodyPost Try.prog fn (Gives (.agg #[.int .i64 q.en, .int .i64 q.nr, .int .i64 q.du]) w) Exit.ret { tmps := tmps, defers := d } W := by
  subst hq hd
  exact bodyPost_ret (results_TBox h _ _ _ r hp hb) rfl ⟨rfl, hs⟩

/-- The world in which a box holds another one. -/
theorem TBox.put {w : World} {b : Nat} {r0 : Tm} (h : TBox w b r0) (r : Tm) : TBox (((w.setCell ⟨b, 0, none⟩ (.int .i64 r.en)).setCell ⟨b, 1, none⟩ (.int .i64 r.nr)).setCell ⟨b, 2, none⟩ (.int .i64 r.du)) b r := by
  obtain ⟨h0, h1, h2, k0, k1, k2⟩ := h
  constructor <;> simp [go_sem, *]

theorem TBox.stay_put {S : Nat → Prop} {w w1 : World} {b : Nat} (h : Stay S w w1) (hb : w.heap.size ≤ b) (v0 v1 v2 : Value) : Stay S w (((w1.setCell ⟨b, 0, none⟩ v0).setCell ⟨b, 1, none⟩ v1).setCell ⟨b, 2, none⟩ v2) :=
  (((h.setNew hb v0).setNew hb v1).setNew hb v2)

theorem TBox.put0 {w : World} {b : Nat} {r : Tm} (h : TBox w b r) {x : Int} {q : Tm} (hq : q = ⟨x, r.nr, r.du⟩) : TBox (w.setCell ⟨b, 0, none⟩ (.int .i64 x)) b q := by
  subst hq
  obtain ⟨h0, h1, h2, k0, k1, k2⟩ := h
  constructor <;> simp [go_sem, *]

theorem TBox.put1 {w : World} {b : Nat} {r : Tm} (h : TBox w b r) {x : Int} {q : Tm} (hq : q = ⟨r.en, x, r.du⟩) : TBox (w.setCell ⟨b, 1, none⟩ (.int .i64 x)) b q := by
  subst hq
  obtain ⟨h0, h1, h2, k0, k1, k2⟩ := h
  constructor <;> simp [go_sem, *]

theorem TBox.put2 {w : World} {b : Nat} {r : Tm} (h : TBox w b r) {x : Int} {q : Tm} (hq : q = ⟨r.en, r.nr, x⟩) : TBox (w.setCell ⟨b, 2, none⟩ (.int .i64 x)) b q := by
  subst hq
  obtain ⟨h0, h1, h2, k0, k1, k2⟩ := h
  constructor <;> simp [go_sem, *]

theorem TBox.other {w : World} {b b' o : Nat} {r : Tm} {v : Value} (h : TBox w b r) (hb : b' ≠ b) : TBox (w.setCell ⟨b', o, none⟩ v) b r :=
  h.stay (T := fun k => k = b') ((Stay.refl (fun k => k = b') w).setCell (S := fun k => k = b') (p := ⟨b', o, none⟩) rfl v) (fun e => hb e.symm)

theorem run_load_TBox {a : Act} {o : Oper} {x : Operand} {w : World} {b : Nat} {r : Tm} (ho : o.op = .load 35 x) (hx : a.eval x = .pointer (some ⟨b, 0, none⟩)) (hb : TBox w b r) :
    (execOp a.eval o).run Try.prog w = .ok (.value (.agg #[.int .i64 r.en, .int .i64 r.nr, .int .i64 r.du])) w := by
  unfold execOp
  simp only [ho, hx, Instr.loadAt, Instr.sureAddr, Sem.run_bind, Sem.run_pure, Result.andThen_ok]
  rw [run_loadVar_cells w b 0 35 _ _ hb.cells Try.underlying35 rfl (by kernel_rfl)]
  rfl

/-- One in the midst of a block. -/
structure TBoxAt (w : World) (g o : Nat) (r : Tm) : Prop where
  c0 : w.cell? ⟨g, o, none⟩ = some (.int .i64 r.en)
  c1 : w.cell? ⟨g, o + 1, none⟩ = some (.int .i64 r.nr)
  c2 : w.cell? ⟨g, o + 2, none⟩ = some (.int .i64 r.du)

theorem TBoxAt.keep {W w1 : World} {g o : Nat} {r : Tm} (h : TBoxAt W g o r) (hs : Stay (fun _ => False) W w1) : TBoxAt w1 g o r := ⟨keep_cell hs h.c0, keep_cell hs h.c1, keep_cell hs h.c2⟩

theorem TBoxAt.cells {w : World} {g o : Nat} {r : Tm} (h : TBoxAt w g o r) : ∀ (j : Nat) (v : Value), [Value.int .i64 r.en, .int .i64 r.nr, .int .i64 r.du][j]? = some v → w.cell? ⟨g, o + j, none⟩ = some v := by
  intro j v hj
  match j, hj with
  | 0, hj => cases hj; exact h.c0
  | 1, hj => cases hj; exact h.c1
  | 2, hj => cases hj; exact h.c2

theorem run_load_TBoxAt {a : Act} {p : Oper} {x : Operand} {w : World} {g o : Nat} {r : Tm} (ho : p.op = .load 35 x) (hx : a.eval x = .pointer (some ⟨g, o, none⟩)) (hb : TBoxAt w g o r) :
    (execOp a.eval p).run Try.prog w = .ok (.value (.agg #[.int .i64 r.en, .int .i64 r.nr, .int .i64 r.du])) w := by
  unfold execOp
  simp only [ho, hx, Instr.loadAt, Instr.sureAddr, Sem.run_bind, Sem.run_pure, Result.andThen_ok]
  rw [run_loadVar_cells w g o 35 _ _ hb.cells Try.underlying35 rfl (by kernel_rfl)]
  rfl


/-- Ck, as a value. -/
structure Ck where
  now : Int
  v : Value

theorem Ck.same {a0 a1 : _} {r : Ck} (h : r.now = a0 ∧ r.v = a1) : r = ⟨a0, a1⟩ := by
  obtain ⟨rfl, rfl⟩ := h
  rfl

theorem Ck.ret {a b : Ck} (h : a = b) : Ending.returned (.agg #[.int .i64 a.now, a.v]) = .returned (.agg #[.int .i64 b.now, b.v]) := by rw [h]

/-- A box that holds a Ck. -/
structure KBox (w : World) (b : Nat) (r : Ck) : Prop where
  c0 : w.cell? ⟨b, 0, none⟩ = some (.int .i64 r.now)
  c1 : w.cell? ⟨b, 1, none⟩ = some (r.v)
  f0 : w.frozen? ⟨b, 0, none⟩ = false
  f1 : w.frozen? ⟨b, 1, none⟩ = false

theorem KBox.lt {w : World} {b : Nat} {r : Ck} (h : KBox w b r) : b < w.heap.size := World.block_lt_of_cell? _ _ h.c0

theorem KBox.stay {T : Nat → Prop} {W w1 : World} {b : Nat} {r : Ck} (h : KBox W b r) (hs : Stay T W w1) (hn : ¬ T b) : KBox w1 b r := by
  have hb : b < W.heap.size := h.lt
  have c : ∀ o, w1.cell? ⟨b, o, none⟩ = W.cell? ⟨b, o, none⟩ := fun o => hs.cell (p := ⟨b, o, none⟩) hb hn
  have f : ∀ o, w1.frozen? ⟨b, o, none⟩ = W.frozen? ⟨b, o, none⟩ := fun o => hs.frozen (p := ⟨b, o, none⟩) hb hn
  exact ⟨(c 0).trans h.c0, (c 1).trans h.c1, (f 0).trans h.f0, (f 1).trans h.f1⟩

theorem KBox.keep {W w1 : World} {b : Nat} {r : Ck} (h : KBox W b r) (hs : Stay (fun _ => False) W w1) : KBox w1 b r := h.stay hs (fun h => h)

theorem KBox.alloc {w : World} {b : Nat} {r : Ck} (h : KBox w b r) (o : Obj) : KBox (w.alloc o) b r := h.keep ((Stay.refl _ _).alloc o)

theorem KBox.new {w : World} {b : Nat} (r : Ck) (h : w.heap.size = b) : KBox (w.alloc (.cells #[.int .i64 r.now, r.v] 47)) b r := by
  subst h
  constructor <;> simp

theorem KBox.cells {w : World} {b : Nat} {r : Ck} (h : KBox w b r) : ∀ (j : Nat) (v : Value), [Value.int .i64 r.now, r.v][j]? = some v → w.cell? ⟨b, 0 + j, none⟩ = some v := by
  intro j v hj
  match j, hj with
  | 0, hj => cases hj; exact h.c0
  | 1, hj => cases hj; exact h.c1

theorem results_KBox {fn : Func} {p : Tmp} (h : fn.results = #[.cell p 47]) (tmps : Array Value) (w : World) (g : Nat) (r : Ck) (hp : tmps.getD p undef = .pointer (some ⟨g, 0, none⟩)) (hb : KBox w g r) :
    (results fn tmps).run Try.prog w = .ok (.agg #[.int .i64 r.now, r.v]) w := results_cells h tmps w g 0 _ _ hp hb.cells Try.underlying47 rfl (by kernel_rfl)

/-- What a struct is behind a call, and nothing that was there has turned. -/
theorem KBox.ends {w W : World} {fn : Func} {p : Tmp} (h : fn.results = #[.cell p 47]) {tmps : Array Value} {r q : Ck} {g : Nat} (hp : tmps.getD p undef = .pointer (some ⟨g, 0, none⟩)) (hb : KBox W g r) (hq : r = q) (hs : Stay (fun _ => False) w W)
    {d : List Deferred} (hd : d = []) : bodyPost Try.prog fn (Gives (.agg #[.int .i64 q.now, q.v]) w) Exit.ret { tmps := tmps, defers := d } W := by
  subst hq hd
  exact bodyPost_ret (results_KBox h _ _ _ r hp hb) rfl ⟨rfl, hs⟩

/-- The world in which a box holds another one. -/
theorem KBox.put {w : World} {b : Nat} {r0 : Ck} (h : KBox w b r0) (r : Ck) : KBox ((w.setCell ⟨b, 0, none⟩ (.int .i64 r.now)).setCell ⟨b, 1, none⟩ (r.v)) b r := by
  obtain ⟨h0, h1, k0, k1⟩ := h
  constructor <;> simp [go_sem, *]

theorem KBox.stay_put {S : Nat → Prop} {w w1 : World} {b : Nat} (h : Stay S w w1) (hb : w.heap.size ≤ b) (v0 v1 : Value) : Stay S w ((w1.setCell ⟨b, 0, none⟩ v0).setCell ⟨b, 1, none⟩ v1) :=
  ((h.setNew hb v0).setNew hb v1)

theorem KBox.put0 {w : World} {b : Nat} {r : Ck} (h : KBox w b r) {x : Int} {q : Ck} (hq : q = ⟨x, r.v⟩) : KBox (w.setCell ⟨b, 0, none⟩ (.int .i64 x)) b q := by
  subst hq
  obtain ⟨h0, h1, k0, k1⟩ := h
  constructor <;> simp [go_sem, *]

theorem KBox.put1 {w : World} {b : Nat} {r : Ck} (h : KBox w b r) {x : Value} {q : Ck} (hq : q = ⟨r.now, x⟩) : KBox (w.setCell ⟨b, 1, none⟩ (x)) b q := by
  subst hq
  obtain ⟨h0, h1, k0, k1⟩ := h
  constructor <;> simp [go_sem, *]

theorem KBox.other {w : World} {b b' o : Nat} {r : Ck} {v : Value} (h : KBox w b r) (hb : b' ≠ b) : KBox (w.setCell ⟨b', o, none⟩ v) b r :=
  h.stay (T := fun k => k = b') ((Stay.refl (fun k => k = b') w).setCell (S := fun k => k = b') (p := ⟨b', o, none⟩) rfl v) (fun e => hb e.symm)

theorem run_load_KBox {a : Act} {o : Oper} {x : Operand} {w : World} {b : Nat} {r : Ck} (ho : o.op = .load 47 x) (hx : a.eval x = .pointer (some ⟨b, 0, none⟩)) (hb : KBox w b r) :
    (execOp a.eval o).run Try.prog w = .ok (.value (.agg #[.int .i64 r.now, r.v])) w := by
  unfold execOp
  simp only [ho, hx, Instr.loadAt, Instr.sureAddr, Sem.run_bind, Sem.run_pure, Result.andThen_ok]
  rw [run_loadVar_cells w b 0 47 _ _ hb.cells Try.underlying47 rfl (by kernel_rfl)]
  rfl

/-- One in the midst of a block. -/
structure KBoxAt (w : World) (g o : Nat) (r : Ck) : Prop where
  c0 : w.cell? ⟨g, o, none⟩ = some (.int .i64 r.now)
  c1 : w.cell? ⟨g, o + 1, none⟩ = some (r.v)

theorem KBoxAt.keep {W w1 : World} {g o : Nat} {r : Ck} (h : KBoxAt W g o r) (hs : Stay (fun _ => False) W w1) : KBoxAt w1 g o r := ⟨keep_cell hs h.c0, keep_cell hs h.c1⟩

theorem KBoxAt.cells {w : World} {g o : Nat} {r : Ck} (h : KBoxAt w g o r) : ∀ (j : Nat) (v : Value), [Value.int .i64 r.now, r.v][j]? = some v → w.cell? ⟨g, o + j, none⟩ = some v := by
  intro j v hj
  match j, hj with
  | 0, hj => cases hj; exact h.c0
  | 1, hj => cases hj; exact h.c1

theorem run_load_KBoxAt {a : Act} {p : Oper} {x : Operand} {w : World} {g o : Nat} {r : Ck} (ho : p.op = .load 47 x) (hx : a.eval x = .pointer (some ⟨g, o, none⟩)) (hb : KBoxAt w g o r) :
    (execOp a.eval p).run Try.prog w = .ok (.value (.agg #[.int .i64 r.now, r.v])) w := by
  unfold execOp
  simp only [ho, hx, Instr.loadAt, Instr.sureAddr, Sem.run_bind, Sem.run_pure, Result.andThen_ok]
  rw [run_loadVar_cells w g o 47 _ _ hb.cells Try.underlying47 rfl (by kernel_rfl)]
  rfl


end Go.Proofs.Ytihciknbmhadjaa
