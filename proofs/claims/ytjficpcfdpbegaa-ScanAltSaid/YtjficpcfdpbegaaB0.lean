/-
  A key and a decoder in boxes; rows of bytes that can be read. No conditions.
-/
import Derived.Test.YtjficpcfdpbegaaA3
namespace Go.Proofs.Ytjficpcfdpbegaa
open Go.RowKit

/-- Ky, as a value. -/
structure Ky where
  c : Int
  m : Int

theorem Ky.same {a0 a1 : _} {r : Ky} (h : r.c = a0 ∧ r.m = a1) : r = ⟨a0, a1⟩ := by
  obtain ⟨rfl, rfl⟩ := h
  rfl

theorem Ky.ret {a b : Ky} (h : a = b) : Ending.returned (.agg #[.int .i64 a.c, .int .i64 a.m]) = .returned (.agg #[.int .i64 b.c, .int .i64 b.m]) := by rw [h]

/-- A box that holds a Ky. -/
structure KBox (w : World) (b : Nat) (r : Ky) : Prop where
  c0 : w.cell? ⟨b, 0, none⟩ = some (.int .i64 r.c)
  c1 : w.cell? ⟨b, 1, none⟩ = some (.int .i64 r.m)
  f0 : w.frozen? ⟨b, 0, none⟩ = false
  f1 : w.frozen? ⟨b, 1, none⟩ = false

theorem KBox.lt {w : World} {b : Nat} {r : Ky} (h : KBox w b r) : b < w.heap.size := World.block_lt_of_cell? _ _ h.c0

theorem KBox.stay {T : Nat → Prop} {W w1 : World} {b : Nat} {r : Ky} (h : KBox W b r) (hs : Stay T W w1) (hn : ¬ T b) : KBox w1 b r := by
  have hb : b < W.heap.size := h.lt
  have c : ∀ o, w1.cell? ⟨b, o, none⟩ = W.cell? ⟨b, o, none⟩ := fun o => hs.cell (p := ⟨b, o, none⟩) hb hn
  have f : ∀ o, w1.frozen? ⟨b, o, none⟩ = W.frozen? ⟨b, o, none⟩ := fun o => hs.frozen (p := ⟨b, o, none⟩) hb hn
  exact ⟨(c 0).trans h.c0, (c 1).trans h.c1, (f 0).trans h.f0, (f 1).trans h.f1⟩

theorem KBox.keep {W w1 : World} {b : Nat} {r : Ky} (h : KBox W b r) (hs : Stay (fun _ => False) W w1) : KBox w1 b r := h.stay hs (fun h => h)

theorem KBox.alloc {w : World} {b : Nat} {r : Ky} (h : KBox w b r) (o : Obj) : KBox (w.alloc o) b r := h.keep ((Stay.refl _ _).alloc o)

theorem KBox.new {w : World} {b : Nat} (r : Ky) (h : w.heap.size = b) : KBox (w.alloc (.cells #[.int .i64 r.c, .int .i64 r.m] 27)) b r := by
  subst h
  constructor <;> simp

theorem KBox.cells {w : World} {b : Nat} {r : Ky} (h : KBox w b r) : ∀ (j : Nat) (v : Value), [Value.int .i64 r.c, .int .i64 r.m][j]? = some v → w.cell? ⟨b, 0 + j, none⟩ = some v := by
  intro j v hj
  match j, hj with
  | 0, hj => cases hj; exact h.c0
  | 1, hj => cases hj; exact h.c1

theorem results_KBox {fn : Func} {p : Tmp} (h : fn.results = #[.cell p 27]) (tmps : Array Value) (w : World) (g : Nat) (r : Ky) (hp : tmps.getD p undef = .pointer (some ⟨g, 0, none⟩)) (hb : KBox w g r) :
    (results fn tmps).run Try.prog w = .ok (.agg #[.int .i64 r.c, .int .i64 r.m]) w := results_cells h tmps w g 0 _ _ hp hb.cells Try.underlying27 rfl (by kernel_rfl)

/-- What a struct is behind a call, and nothing that was there has turned. -/
theorem KBox.ends {w W : World} {fn : Func} {p : Tmp} (h : fn.results = #[.cell p 27]) {tmps : Array Value} {r q : Ky} {g : Nat} (hp : tmps.getD p undef = .pointer (some ⟨g, 0, none⟩)) (hb : KBox W g r) (hq : r = q) (hs : Stay (fun _ => False) w W)
    {d : List Deferred} (hd : d = []) : bodyPost Try.prog fn (Gives (.agg #[.int .i64 q.c, .int .i64 q.m]) w) Exit.ret { tmps := tmps, defers := d } W := by
  subst hq hd
  exact bodyPost_ret (results_KBox h _ _ _ r hp hb) rfl ⟨rfl, hs⟩

/-- The world in which a box holds another one. -/
theorem KBox.put {w : World} {b : Nat} {r0 : Ky} (h : KBox w b r0) (r : Ky) : KBox ((w.setCell ⟨b, 0, none⟩ (.int .i64 r.c)).setCell ⟨b, 1, none⟩ (.int .i64 r.m)) b r := by
  obtain ⟨h0, h1, k0, k1⟩ := h
  constructor <;> simp [go_sem, *]

theorem KBox.stay_put {S : Nat → Prop} {w w1 : World} {b : Nat} (h : Stay S w w1) (hb : w.heap.size ≤ b) (v0 v1 : Value) : Stay S w ((w1.setCell ⟨b, 0, none⟩ v0).setCell ⟨b, 1, none⟩ v1) :=
  ((h.setNew hb v0).setNew hb v1)

theorem KBox.put0 {w : World} {b : Nat} {r : Ky} (h : KBox w b r) {x : Int} {q : Ky} (hq : q = ⟨x, r.m⟩) : KBox (w.setCell ⟨b, 0, none⟩ (.int .i64 x)) b q := by
  subst hq
  obtain ⟨h0, h1, k0, k1⟩ := h
  constructor <;> simp [go_sem, *]

theorem KBox.put1 {w : World} {b : Nat} {r : Ky} (h : KBox w b r) {x : Int} {q : Ky} (hq : q = ⟨r.c, x⟩) : KBox (w.setCell ⟨b, 1, none⟩ (.int .i64 x)) b q := by
  subst hq
  obtain ⟨h0, h1, k0, k1⟩ := h
  constructor <;> simp [go_sem, *]

theorem KBox.other {w : World} {b b' o : Nat} {r : Ky} {v : Value} (h : KBox w b r) (hb : b' ≠ b) : KBox (w.setCell ⟨b', o, none⟩ v) b r :=
  h.stay (T := fun k => k = b') ((Stay.refl (fun k => k = b') w).setCell (S := fun k => k = b') (p := ⟨b', o, none⟩) rfl v) (fun e => hb e.symm)

theorem run_load_KBox {a : Act} {o : Oper} {x : Operand} {w : World} {b : Nat} {r : Ky} (ho : o.op = .load 27 x) (hx : a.eval x = .pointer (some ⟨b, 0, none⟩)) (hb : KBox w b r) :
    (execOp a.eval o).run Try.prog w = .ok (.value (.agg #[.int .i64 r.c, .int .i64 r.m])) w := by
  unfold execOp
  simp only [ho, hx, Instr.loadAt, Instr.sureAddr, Sem.run_bind, Sem.run_pure, Result.andThen_ok]
  rw [run_loadVar_cells w b 0 27 _ _ hb.cells Try.underlying27 rfl (by kernel_rfl)]
  rfl

/-- One in the midst of a block. -/
structure KBoxAt (w : World) (g o : Nat) (r : Ky) : Prop where
  c0 : w.cell? ⟨g, o, none⟩ = some (.int .i64 r.c)
  c1 : w.cell? ⟨g, o + 1, none⟩ = some (.int .i64 r.m)

theorem KBoxAt.keep {W w1 : World} {g o : Nat} {r : Ky} (h : KBoxAt W g o r) (hs : Stay (fun _ => False) W w1) : KBoxAt w1 g o r := ⟨keep_cell hs h.c0, keep_cell hs h.c1⟩

theorem KBoxAt.cells {w : World} {g o : Nat} {r : Ky} (h : KBoxAt w g o r) : ∀ (j : Nat) (v : Value), [Value.int .i64 r.c, .int .i64 r.m][j]? = some v → w.cell? ⟨g, o + j, none⟩ = some v := by
  intro j v hj
  match j, hj with
  | 0, hj => cases hj; exact h.c0
  | 1, hj => cases hj; exact h.c1

theorem run_load_KBoxAt {a : Act} {p : Oper} {x : Operand} {w : World} {g o : Nat} {r : Ky} (ho : p.op = .load 27 x) (hx : a.eval x = .pointer (some ⟨g, o, none⟩)) (hb : KBoxAt w g o r) :
    (execOp a.eval p).run Try.prog w = .ok (.value (.agg #[.int .i64 r.c, .int .i64 r.m])) w := by
  unfold execOp
  simp only [ho, hx, Instr.loadAt, Instr.sureAddr, Sem.run_bind, Sem.run_pure, Result.andThen_ok]
  rw [run_loadVar_cells w g o 27 _ _ hb.cells Try.underlying27 rfl (by kernel_rfl)]
  rfl

/-- Dc, as a value. -/
structure Dc where
  m : Int

theorem Dc.same {a0 : _} {r : Dc} (h : r.m = a0) : r = ⟨a0⟩ := by
  obtain ⟨rfl⟩ := h
  rfl

theorem Dc.ret {a b : Dc} (h : a = b) : Ending.returned (.agg #[.int .i64 a.m]) = .returned (.agg #[.int .i64 b.m]) := by rw [h]

/-- A box that holds a Dc. -/
structure DBox (w : World) (b : Nat) (r : Dc) : Prop where
  c0 : w.cell? ⟨b, 0, none⟩ = some (.int .i64 r.m)
  f0 : w.frozen? ⟨b, 0, none⟩ = false

theorem DBox.lt {w : World} {b : Nat} {r : Dc} (h : DBox w b r) : b < w.heap.size := World.block_lt_of_cell? _ _ h.c0

theorem DBox.stay {T : Nat → Prop} {W w1 : World} {b : Nat} {r : Dc} (h : DBox W b r) (hs : Stay T W w1) (hn : ¬ T b) : DBox w1 b r := by
  have hb : b < W.heap.size := h.lt
  have c : ∀ o, w1.cell? ⟨b, o, none⟩ = W.cell? ⟨b, o, none⟩ := fun o => hs.cell (p := ⟨b, o, none⟩) hb hn
  have f : ∀ o, w1.frozen? ⟨b, o, none⟩ = W.frozen? ⟨b, o, none⟩ := fun o => hs.frozen (p := ⟨b, o, none⟩) hb hn
  exact ⟨(c 0).trans h.c0, (f 0).trans h.f0⟩

theorem DBox.keep {W w1 : World} {b : Nat} {r : Dc} (h : DBox W b r) (hs : Stay (fun _ => False) W w1) : DBox w1 b r := h.stay hs (fun h => h)

theorem DBox.alloc {w : World} {b : Nat} {r : Dc} (h : DBox w b r) (o : Obj) : DBox (w.alloc o) b r := h.keep ((Stay.refl _ _).alloc o)

theorem DBox.new {w : World} {b : Nat} (r : Dc) (h : w.heap.size = b) : DBox (w.alloc (.cells #[.int .i64 r.m] 25)) b r := by
  subst h
  constructor <;> simp

theorem DBox.cells {w : World} {b : Nat} {r : Dc} (h : DBox w b r) : ∀ (j : Nat) (v : Value), [Value.int .i64 r.m][j]? = some v → w.cell? ⟨b, 0 + j, none⟩ = some v := by
  intro j v hj
  match j, hj with
  | 0, hj => cases hj; exact h.c0

theorem results_DBox {fn : Func} {p : Tmp} (h : fn.results = #[.cell p 25]) (tmps : Array Value) (w : World) (g : Nat) (r : Dc) (hp : tmps.getD p undef = .pointer (some ⟨g, 0, none⟩)) (hb : DBox w g r) :
    (results fn tmps).run Try.prog w = .ok (.agg #[.int .i64 r.m]) w := results_cells h tmps w g 0 _ _ hp hb.cells Try.underlying25 rfl (by kernel_rfl)

/-- What a struct is behind a call, and nothing that was there has turned. -/
theorem DBox.ends {w W : World} {fn : Func} {p : Tmp} (h : fn.results = #[.cell p 25]) {tmps : Array Value} {r q : Dc} {g : Nat} (hp : tmps.getD p undef = .pointer (some ⟨g, 0, none⟩)) (hb : DBox W g r) (hq : r = q) (hs : Stay (fun _ => False) w W)
    {d : List Deferred} (hd : d = []) : bodyPost Try.prog fn (Gives (.agg #[.int .i64 q.m]) w) Exit.ret { tmps := tmps, defers := d } W := by
  subst hq hd
  exact bodyPost_ret (results_DBox h _ _ _ r hp hb) rfl ⟨rfl, hs⟩

/-- The world in which a box holds another one. -/
theorem DBox.put {w : World} {b : Nat} {r0 : Dc} (h : DBox w b r0) (r : Dc) : DBox (w.setCell ⟨b, 0, none⟩ (.int .i64 r.m)) b r := by
  obtain ⟨h0, k0⟩ := h
  constructor <;> simp [go_sem, *]

theorem DBox.stay_put {S : Nat → Prop} {w w1 : World} {b : Nat} (h : Stay S w w1) (hb : w.heap.size ≤ b) (v0 : Value) : Stay S w (w1.setCell ⟨b, 0, none⟩ v0) :=
  (h.setNew hb v0)

theorem DBox.put0 {w : World} {b : Nat} {r : Dc} (h : DBox w b r) {x : Int} {q : Dc} (hq : q = ⟨x⟩) : DBox (w.setCell ⟨b, 0, none⟩ (.int .i64 x)) b q := by
  subst hq
  obtain ⟨h0, k0⟩ := h
  constructor <;> simp [go_sem, *]

theorem DBox.other {w : World} {b b' o : Nat} {r : Dc} {v : Value} (h : DBox w b r) (hb : b' ≠ b) : DBox (w.setCell ⟨b', o, none⟩ v) b r :=
  h.stay (T := fun k => k = b') ((Stay.refl (fun k => k = b') w).setCell (S := fun k => k = b') (p := ⟨b', o, none⟩) rfl v) (fun e => hb e.symm)

theorem run_load_DBox {a : Act} {o : Oper} {x : Operand} {w : World} {b : Nat} {r : Dc} (ho : o.op = .load 25 x) (hx : a.eval x = .pointer (some ⟨b, 0, none⟩)) (hb : DBox w b r) :
    (execOp a.eval o).run Try.prog w = .ok (.value (.agg #[.int .i64 r.m])) w := by
  unfold execOp
  simp only [ho, hx, Instr.loadAt, Instr.sureAddr, Sem.run_bind, Sem.run_pure, Result.andThen_ok]
  rw [run_loadVar_cells w b 0 25 _ _ hb.cells Try.underlying25 rfl (by kernel_rfl)]
  rfl

/-- One in the midst of a block. -/
structure DBoxAt (w : World) (g o : Nat) (r : Dc) : Prop where
  c0 : w.cell? ⟨g, o, none⟩ = some (.int .i64 r.m)

theorem DBoxAt.keep {W w1 : World} {g o : Nat} {r : Dc} (h : DBoxAt W g o r) (hs : Stay (fun _ => False) W w1) : DBoxAt w1 g o r := ⟨keep_cell hs h.c0⟩

theorem DBoxAt.cells {w : World} {g o : Nat} {r : Dc} (h : DBoxAt w g o r) : ∀ (j : Nat) (v : Value), [Value.int .i64 r.m][j]? = some v → w.cell? ⟨g, o + j, none⟩ = some v := by
  intro j v hj
  match j, hj with
  | 0, hj => cases hj; exact h.c0

theorem run_load_DBoxAt {a : Act} {p : Oper} {x : Operand} {w : World} {g o : Nat} {r : Dc} (ho : p.op = .load 25 x) (hx : a.eval x = .pointer (some ⟨g, o, none⟩)) (hb : DBoxAt w g o r) :
    (execOp a.eval p).run Try.prog w = .ok (.value (.agg #[.int .i64 r.m])) w := by
  unfold execOp
  simp only [ho, hx, Instr.loadAt, Instr.sureAddr, Sem.run_bind, Sem.run_pure, Result.andThen_ok]
  rw [run_loadVar_cells w g o 25 _ _ hb.cells Try.underlying25 rfl (by kernel_rfl)]
  rfl

/-- Bytes that can be read. -/
def Bs (w : World) (v : Value) (l : List Int) : Prop := ∃ a cap, v = .slice a l.length cap ∧ l.length ≤ cap ∧ (l ≠ [] → ∃ b off, a = some ⟨b, off, none⟩ ∧ Ints .u8 w b off l)

theorem Bs.keep {w w' : World} {v : Value} {l : List Int} (h : Bs w v l) (hs : Stay (fun _ => False) w w') : Bs w' v l := by
  obtain ⟨a, cap, h1, h2, h3⟩ := h
  refine ⟨a, cap, h1, h2, fun hne => ?_⟩
  obtain ⟨b, off, h4, h5⟩ := h3 hne
  exact ⟨b, off, h4, h5.keep (World.block_lt_of_cell? _ _ (h5 0 (List.length_pos_iff.2 hne))) hs⟩

theorem bs_nil (w : World) : Bs w (.slice none 0 0) [] := ⟨none, 0, rfl, Nat.le_refl _, fun h => absurd rfl h⟩

theorem bs_new (w : World) (c : Array Value) (l : List Int) (n : Nat) (hn : c.size = n) (hl : c.toList = l.map (.int .u8 ·)) : Bs (w.alloc (.cells c 5)) (.slice (some ⟨w.heap.size, 0, none⟩) n n) l := by
  have e : l.length = n := by rw [← hn, ← Array.length_toList, hl, List.length_map]
  refine ⟨_, n, by rw [e], by omega, fun _ => ⟨_, 0, rfl, fun j hj => ?_⟩⟩
  have hj' : c[j]? = some (.int .u8 (l.getD j 0)) := by
    rw [← Array.getElem?_toList, hl, List.getElem?_map, List.getD_eq_getElem?_getD, List.getElem?_eq_getElem hj]
    rfl
  rw [Nat.zero_add]
  simp [hj']

/-- Bytes are handed back, and nothing that was there has turned. -/
def GivesBs (l : List Int) (w : World) (e : Ending) (w' : World) : Prop := ∃ v, e = .returned v ∧ Bs w' v l ∧ Stay (fun _ => False) w w'

end Go.Proofs.Ytjficpcfdpbegaa
