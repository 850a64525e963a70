/-
  A read that waits, in a box; what becomes of it. No conditions.
-/
import Derived.Test.YtdhlgjkjdmejfaaA4
namespace Go.Proofs.Ytdhlgjkjdmejfaa
open Go.RowKit

/-- Wt, as a value. -/
structure Wt where
  mi : Int
  ti : Int
  wa : Int
  ha : Int
  qu : Int

theorem Wt.same {a0 a1 a2 a3 a4 : _} {r : Wt} (h : r.mi = a0 ∧ r.ti = a1 ∧ r.wa = a2 ∧ r.ha = a3 ∧ r.qu = a4) : r = ⟨a0, a1, a2, a3, a4⟩ := by
  obtain ⟨rfl, rfl, rfl, rfl, rfl⟩ := h
  rfl

theorem Wt.ret {a b : Wt} (h : a = b) : Ending.returned (.agg #[.int .i64 a.mi, .int .i64 a.ti, .int .i64 a.wa, .int .i64 a.ha, .int .i64 a.qu]) = .returned (.agg #[.int .i64 b.mi, .int .i64 b.ti, .int .i64 b.wa, .int .i64 b.ha, .int .i64 b.qu]) := by rw [h]

/-- A box that holds a Wt. -/
structure WBox (w : World) (b : Nat) (r : Wt) : Prop where
  c0 : w.cell? ⟨b, 0, none⟩ = some (.int .i64 r.mi)
  c1 : w.cell? ⟨b, 1, none⟩ = some (.int .i64 r.ti)
  c2 : w.cell? ⟨b, 2, none⟩ = some (.int .i64 r.wa)
  c3 : w.cell? ⟨b, 3, none⟩ = some (.int .i64 r.ha)
  c4 : w.cell? ⟨b, 4, none⟩ = some (.int .i64 r.qu)
  f0 : w.frozen? ⟨b, 0, none⟩ = false
  f1 : w.frozen? ⟨b, 1, none⟩ = false
  f2 : w.frozen? ⟨b, 2, none⟩ = false
  f3 : w.frozen? ⟨b, 3, none⟩ = false
  f4 : w.frozen? ⟨b, 4, none⟩ = false

theorem WBox.lt {w : World} {b : Nat} {r : Wt} (h : WBox w b r) : b < w.heap.size := World.block_lt_of_cell? _ _ h.c0

theorem WBox.stay {T : Nat → Prop} {W w1 : World} {b : Nat} {r : Wt} (h : WBox W b r) (hs : Stay T W w1) (hn : ¬ T b) : WBox w1 b r := by
  have hb : b < W.heap.size := h.lt
  have c : ∀ o, w1.cell? ⟨b, o, none⟩ = W.cell? ⟨b, o, none⟩ := fun o => hs.cell (p := ⟨b, o, none⟩) hb hn
  have f : ∀ o, w1.frozen? ⟨b, o, none⟩ = W.frozen? ⟨b, o, none⟩ := fun o => hs.frozen (p := ⟨b, o, none⟩) hb hn
  exact ⟨(c 0).trans h.c0, (c 1).trans h.c1, (c 2).trans h.c2, (c 3).trans h.c3, (c 4).trans h.c4, (f 0).trans h.f0, (f 1).trans h.f1, (f 2).trans h.f2, (f 3).trans h.f3, (f 4).trans h.f4⟩

theorem WBox.keep {W w1 : World} {b : Nat} {r : Wt} (h : WBox W b r) (hs : Stay (fun _ => False) W w1) : WBox w1 b r := h.stay hs (fun h => h)

theorem WBox.alloc {w : World} {b : Nat} {r : Wt} (h : WBox w b r) (o : Obj) : WBox (w.alloc o) b r := h.keep ((Stay.refl _ _).alloc o)

theorem WBox.new {w : World} {b : Nat} (r : Wt) (h : w.heap.size = b) : WBox (w.alloc (.cells #[.int .i64 r.mi, .int .i64 r.ti, .int .i64 r.wa, .int .i64 r.ha, .int .i64 r.qu] 36)) b r := by
  subst h
  constructor <;> simp

theorem WBox.cells {w : World} {b : Nat} {r : Wt} (h : WBox w b r) : ∀ (j : Nat) (v : Value), [Value.int .i64 r.mi, .int .i64 r.ti, .int .i64 r.wa, .int .i64 r.ha, .int .i64 r.qu][j]? = some v → w.cell? ⟨b, 0 + j, none⟩ = some v := by
  intro j v hj
  match j, hj with
  | 0, hj => cases hj; exact h.c0
  | 1, hj => cases hj; exact h.c1
  | 2, hj => cases hj; exact h.c2
  | 3, hj => cases hj; exact h.c3
  | 4, hj => cases hj; exact h.c4

theorem results_WBox {fn : Func} {p : Tmp} (h : fn.results = #[.cell p 36]) (tmps : Array Value) (w : World) (g : Nat) (r : Wt) (hp : tmps.getD p undef = .pointer (some ⟨g, 0, none⟩)) (hb : WBox w g r) :
    (results fn tmps).run Try.prog w = .ok (.agg #[.int .i64 r.mi, .int .i64 r.ti, .int .i64 r.wa, .int .i64 r.ha, .int .i64 r.qu]) w := results_cells h tmps w g 0 _ _ hp hb.cells Try.underlying36 rfl (by kernel_rfl)

/-- What a struct is behind a call, and nothing that was there has turned. -/
theorem WBox.ends {w W : World} {fn : Func} {p : Tmp} (h : fn.results = #[.cell p 36]) {tmps : Array Value} {r q : Wt} {g : Nat} (hp : tmps.getD p undef = .pointer (some ⟨g, 0, none⟩)) (hb : WBox W g r) (hq : r = q) (hs : Stay (fun _ => False) w W)
    {d : List Deferred} (hd : d = []) : bodyPost Try.prog fn (Gives (.agg #[.int .i64 q.mi, .int .i64 q.ti, .int .i64 q.wa, .int .i64 q.ha, .int .i64 q.qu]) w) Exit.ret { tmps := tmps, defers := d } W := by
  subst hq hd
  exact bodyPost_ret (results_WBox h _ _ _ r hp hb) rfl ⟨rfl, hs⟩

/-- The world in which a box holds another one. -/
theorem WBox.put {w : World} {b : Nat} {r0 : Wt} (h : WBox w b r0) (r : Wt) : WBox (((((w.setCell ⟨b, 0, none⟩ (.int .i64 r.mi)).setCell ⟨b, 1, none⟩ (.int .i64 r.ti)).setCell ⟨b, 2, none⟩ (.int .i64 r.wa)).setCell ⟨b, 3, none⟩ (.int .i64 r.ha)).setCell ⟨b, 4, none⟩ (.int .i64 r.qu)) b r := by
  obtain ⟨h0, h1, h2, h3, h4, k0, k1, k2, k3, k4⟩ := h
  constructor <;> simp [go_sem, *]

theorem WBox.stay_put {S : Nat → Prop} {w w1 : World} {b : Nat} (h : Stay S w w1) (hb : w.heap.size ≤ b) (v0 v1 v2 v3 v4 : Value) : Stay S w (((((w1.setCell ⟨b, 0, none⟩ v0).setCell ⟨b, 1, none⟩ v1).setCell ⟨b, 2, none⟩ v2).setCell ⟨b, 3, none⟩ v3).setCell ⟨b, 4, none⟩ v4) :=
  (((((h.setNew hb v0).setNew hb v1).setNew hb v2).setNew hb v3).setNew hb v4)

theorem WBox.put0 {w : World} {b : Nat} {r : Wt} (h : WBox w b r) {x : Int} {q : Wt} (hq : q = ⟨x, r.ti, r.wa, r.ha, r.qu⟩) : WBox (w.setCell ⟨b, 0, none⟩ (.int .i64 x)) b q := by
  subst hq
  obtain ⟨h0, h1, h2, h3, h4, k0, k1, k2, k3, k4⟩ := h
  constructor <;> simp [go_sem, *]

theorem WBox.put1 {w : World} {b : Nat} {r : Wt} (h : WBox w b r) {x : Int} {q : Wt} (hq : q = ⟨r.mi, x, r.wa, r.ha, r.qu⟩) : WBox (w.setCell ⟨b, 1, none⟩ (.int .i64 x)) b q := by
  subst hq
  obtain ⟨h0, h1, h2, h3, h4, k0, k1, k2, k3, k4⟩ := h
  constructor <;> simp [go_sem, *]

theorem WBox.put2 {w : World} {b : Nat} {r : Wt} (h : WBox w b r) {x : Int} {q : Wt} (hq : q = ⟨r.mi, r.ti, x, r.ha, r.qu⟩) : WBox (w.setCell ⟨b, 2, none⟩ (.int .i64 x)) b q := by
  subst hq
  obtain ⟨h0, h1, h2, h3, h4, k0, k1, k2, k3, k4⟩ := h
  constructor <;> simp [go_sem, *]

theorem WBox.put3 {w : World} {b : Nat} {r : Wt} (h : WBox w b r) {x : Int} {q : Wt} (hq : q = ⟨r.mi, r.ti, r.wa, x, r.qu⟩) : WBox (w.setCell ⟨b, 3, none⟩ (.int .i64 x)) b q := by
  subst hq
  obtain ⟨h0, h1, h2, h3, h4, k0, k1, k2, k3, k4⟩ := h
  constructor <;> simp [go_sem, *]

theorem WBox.put4 {w : World} {b : Nat} {r : Wt} (h : WBox w b r) {x : Int} {q : Wt} (hq : q = ⟨r.mi, r.ti, r.wa, r.ha, x⟩) : WBox (w.setCell ⟨b, 4, none⟩ (.int .i64 x)) b q := by
  subst hq
  obtain ⟨h0, h1, h2, h3, h4, k0, k1, k2, k3, k4⟩ := h
  constructor <;> simp [go_sem, *]

theorem WBox.other {w : World} {b b' o : Nat} {r : Wt} {v : Value} (h : WBox w b r) (hb : b' ≠ b) : WBox (w.setCell ⟨b', o, none⟩ v) b r :=
  h.stay (T := fun k => k = b') ((Stay.refl (fun k => k = b') w).setCell (S := fun k => k = b') (p := ⟨b', o, none⟩) rfl v) (fun e => hb e.symm)

theorem run_load_WBox {a : Act} {o : Oper} {x : Operand} {w : World} {b : Nat} {r : Wt} (ho : o.op = .load 36 x) (hx : a.eval x = .pointer (some ⟨b, 0, none⟩)) (hb : WBox w b r) :
    (execOp a.eval o).run Try.prog w = .ok (.value (.agg #[.int .i64 r.mi, .int .i64 r.ti, .int .i64 r.wa, .int .i64 r.ha, .int .i64 r.qu])) w := by
  unfold execOp
  simp only [ho, hx, Instr.loadAt, Instr.sureAddr, Sem.run_bind, Sem.run_pure, Result.andThen_ok]
  rw [run_loadVar_cells w b 0 36 _ _ hb.cells Try.underlying36 rfl (by kernel_rfl)]
  rfl

/-- One in the midst of a block. -/
structure WBoxAt (w : World) (g o : Nat) (r : Wt) : Prop where
  c0 : w.cell? ⟨g, o, none⟩ = some (.int .i64 r.mi)
  c1 : w.cell? ⟨g, o + 1, none⟩ = some (.int .i64 r.ti)
  c2 : w.cell? ⟨g, o + 2, none⟩ = some (.int .i64 r.wa)
  c3 : w.cell? ⟨g, o + 3, none⟩ = some (.int .i64 r.ha)
  c4 : w.cell? ⟨g, o + 4, none⟩ = some (.int .i64 r.qu)

theorem WBoxAt.keep {W w1 : World} {g o : Nat} {r : Wt} (h : WBoxAt W g o r) (hs : Stay (fun _ => False) W w1) : WBoxAt w1 g o r := ⟨keep_cell hs h.c0, keep_cell hs h.c1, keep_cell hs h.c2, keep_cell hs h.c3, keep_cell hs h.c4⟩

theorem WBoxAt.cells {w : World} {g o : Nat} {r : Wt} (h : WBoxAt w g o r) : ∀ (j : Nat) (v : Value), [Value.int .i64 r.mi, .int .i64 r.ti, .int .i64 r.wa, .int .i64 r.ha, .int .i64 r.qu][j]? = some v → w.cell? ⟨g, o + j, none⟩ = some v := by
  intro j v hj
  match j, hj with
  | 0, hj => cases hj; exact h.c0
  | 1, hj => cases hj; exact h.c1
  | 2, hj => cases hj; exact h.c2
  | 3, hj => cases hj; exact h.c3
  | 4, hj => cases hj; exact h.c4

theorem run_load_WBoxAt {a : Act} {p : Oper} {x : Operand} {w : World} {g o : Nat} {r : Wt} (ho : p.op = .load 36 x) (hx : a.eval x = .pointer (some ⟨g, o, none⟩)) (hb : WBoxAt w g o r) :
    (execOp a.eval p).run Try.prog w = .ok (.value (.agg #[.int .i64 r.mi, .int .i64 r.ti, .int .i64 r.wa, .int .i64 r.ha, .int .i64 r.qu])) w := by
  unfold execOp
  simp only [ho, hx, Instr.loadAt, Instr.sureAddr, Sem.run_bind, Sem.run_pure, Result.andThen_ok]
  rw [run_loadVar_cells w g o 36 _ _ hb.cells Try.underlying36 rfl (by kernel_rfl)]
  rfl

/-- As many bytes as it asks for, or needs. -/
def fullW (r : Wt) : Bool := decide (r.mi ≤ r.ha) || decide (r.wa ≤ r.ha)

/-- Its ticks went by. -/
def lateW (r : Wt) : Bool := decide (r.ti ≤ r.qu)

/-- Is it over? -/
def doneW (r : Wt) : Bool :=
  if 0 < r.mi then (if 0 < r.ti then fullW r || (decide (0 < r.ha) && lateW r) else fullW r)
  else if 0 < r.ti then decide (0 < r.ha) || decide (r.wa = 0) || lateW r else true

def addW (r : Wt) (n : Int) : Wt := ⟨r.mi, r.ti, r.wa, min (r.ha + n) r.wa, r.qu⟩

def comeW (r : Wt) (n : Int) : Wt := if doneW r = true ∨ n < 1 ∨ 1048576 < n then r else ⟨r.mi, r.ti, r.wa, min (r.ha + n) r.wa, 0⟩

def tickW (r : Wt) : Wt := if doneW r = true then r else ⟨r.mi, r.ti, r.wa, r.ha, r.qu + 1⟩

/-- One step: bytes, or a tick. -/
def stepW (r : Wt) (x : Int) : Wt := if 0 < x then comeW r x else tickW r

/-- Its numbers are in their bounds, behind as many steps. -/
structure OkW (k : Nat) (r : Wt) : Prop where
  m0 : 0 ≤ r.mi
  m1 : r.mi ≤ 255
  t0 : 0 ≤ r.ti
  t1 : r.ti ≤ 255
  w0 : 0 ≤ r.wa
  w1 : r.wa ≤ 1048576
  h0 : 0 ≤ r.ha
  h1 : r.ha ≤ r.wa
  q0 : 0 ≤ r.qu
  q1 : r.qu ≤ k

theorem OkW.come {k : Nat} {r : Wt} (h : OkW k r) (n : Int) : OkW (k + 1) (comeW r n) := by
  obtain ⟨a, b, c, d, e, f, g, i, j, l⟩ := h
  unfold comeW
  split
  · exact ⟨a, b, c, d, e, f, g, i, j, by omega⟩
  · exact ⟨a, b, c, d, e, f, (by show 0 ≤ min _ _; omega), (by show min _ _ ≤ r.wa; omega), Int.le_refl 0, (by show (0 : Int) ≤ _; omega)⟩

theorem OkW.tick {k : Nat} {r : Wt} (h : OkW k r) : OkW (k + 1) (tickW r) := by
  obtain ⟨a, b, c, d, e, f, g, i, j, l⟩ := h
  unfold tickW
  split
  · exact ⟨a, b, c, d, e, f, g, i, j, by omega⟩
  · exact ⟨a, b, c, d, e, f, g, i, (by show 0 ≤ r.qu + 1; omega), (by show r.qu + 1 ≤ _; omega)⟩

theorem OkW.step {k : Nat} {r : Wt} (h : OkW k r) (x : Int) : OkW (k + 1) (stepW r x) := by
  unfold stepW
  split
  · exact h.come x
  · exact h.tick

theorem OkW.more {k m : Nat} {r : Wt} (h : OkW k r) (hm : k ≤ m) : OkW m r := by
  obtain ⟨a, b, c, d, e, f, g, i, j, l⟩ := h
  exact ⟨a, b, c, d, e, f, g, i, j, by omega⟩

/-- A new one. -/
def newW (mi ti wa th : Int) : Wt := ⟨mi, ti, wa, min (0 + th) wa, 0⟩

def rightW (mi ti wa th : Int) : Prop := 0 ≤ mi ∧ mi ≤ 255 ∧ 0 ≤ ti ∧ ti ≤ 255 ∧ 0 ≤ wa ∧ wa ≤ 1048576 ∧ 0 ≤ th ∧ th ≤ 1048576

theorem okW_new {mi ti wa th : Int} (h : rightW mi ti wa th) : OkW 0 (newW mi ti wa th) := by
  obtain ⟨a, b, c, d, e, f, g, i⟩ := h
  exact ⟨a, b, c, d, e, f, (by show 0 ≤ min _ _; omega), (by show min _ _ ≤ wa; omega), Int.le_refl 0, Int.le_refl 0⟩

theorem stepW_over {r : Wt} (h : doneW r = true) (x : Int) : stepW r x = r := by
  unfold stepW comeW tickW
  split
  · rw [if_pos (.inl h)]
  · rfl

theorem foldW_over {r : Wt} (h : doneW r = true) : ∀ l : List Int, l.foldl stepW r = r
  | [] => rfl
  | x :: l => by rw [List.foldl_cons, stepW_over h x]; exact foldW_over h l

theorem stepW_same (r : Wt) (x : Int) : (stepW r x).mi = r.mi ∧ (stepW r x).ti = r.ti ∧ (stepW r x).wa = r.wa := by
  unfold stepW comeW tickW
  split <;> split <;> exact ⟨rfl, rfl, rfl⟩

theorem foldW_same : ∀ (l : List Int) (r : Wt), (l.foldl stepW r).mi = r.mi ∧ (l.foldl stepW r).ti = r.ti ∧ (l.foldl stepW r).wa = r.wa
  | [], _ => ⟨rfl, rfl, rfl⟩
  | x :: l, r => by
    have h := foldW_same l (stepW r x)
    have k := stepW_same r x
    rw [List.foldl_cons]
    exact ⟨h.1.trans k.1, h.2.1.trans k.2.1, h.2.2.trans k.2.2⟩

theorem foldW_ok : ∀ (l : List Int) (k : Nat) (r : Wt), OkW k r → OkW (k + l.length) (l.foldl stepW r)
  | [], _, _, h => h
  | x :: l, k, r, h => by
    have := foldW_ok l (k + 1) (stepW r x) (h.step x)
    rw [List.foldl_cons, List.length_cons]
    rw [show k + (l.length + 1) = k + 1 + l.length by omega]
    exact this

/-- A read that isn't over has fewer bytes than it asks for, and asks for some. -/
theorem doneW_lt {k : Nat} {r : Wt} (h : OkW k r) (hd : doneW r = false) : r.ha < max 1 r.wa := by
  obtain ⟨a, b, c, d, e, f, g, i, j, l⟩ := h
  by_cases hc : r.ha = r.wa
  · by_cases hz : r.wa = 0
    · omega
    · exfalso
      unfold doneW fullW lateW at hd
      split at hd <;> split at hd <;> simp at hd <;> omega
  · omega

/-- What the document says. -/
def overD (mi ti wa th s g : Int) : Bool :=
  if wa = 0 ∨ min th wa = wa then true
  else if 0 < mi ∧ 0 < ti then decide (mi ≤ min th wa) || (decide (0 < min th wa) && decide (ti ≤ s))
  else if 0 < mi then decide (mi ≤ min th wa)
  else if 0 < ti then decide (0 < min th wa) || decide (ti ≤ g)
  else true

theorem overD_eq {k : Nat} {r : Wt} (h : OkW k r) {p s g : Int} (hp : r.ha = min p r.wa) (_hp0 : 0 ≤ p) (hs : s = r.qu) (hg : 0 < r.mi ∨ 0 < p ∨ s = g) : overD r.mi r.ti r.wa p s g = doneW r := by
  obtain ⟨a, b, c, d, e, f, g', i, j, l⟩ := h
  subst hs
  unfold overD doneW fullW lateW
  rw [← hp]
  by_cases h1 : r.wa = 0 ∨ r.ha = r.wa
  · rw [if_pos h1]
    symm
    split <;> split <;> simp <;> omega
  · rw [if_neg h1]
    have n1 : decide (r.wa ≤ r.ha) = false := by simp; omega
    have n2 : decide (r.wa = 0) = false := by simp; omega
    rw [n1, n2, Bool.or_false, Bool.or_false]
    by_cases h2 : 0 < r.mi
    · by_cases h3 : 0 < r.ti
      · rw [if_pos ⟨h2, h3⟩, if_pos h2, if_pos h3]
      · rw [if_neg (fun e => h3 e.2), if_pos h2, if_pos h2, if_neg h3]
    · rw [if_neg (fun e => h2 e.1), if_neg h2, if_neg h2]
      by_cases h3 : 0 < r.ti
      · rw [if_pos h3, if_pos h3]
        rcases hg with hg | hg | rfl
        · exact absurd hg h2
        · have : decide (0 < r.ha) = true := by simp; omega
          rw [this]
          rfl
        · rfl
      · rw [if_neg h3, if_neg h3]

/-- The program's read, and what the document counts beside it: bytes, ticks since, ticks at all. -/
structure BesideW (k : Nat) (r : Wt) (p s g : Int) : Prop where
  ok : OkW k r
  p0 : 0 ≤ p
  p1 : p ≤ 1048576
  ha : r.ha = min p r.wa
  sq : s = r.qu
  g0 : 0 ≤ g
  g1 : g ≤ k
  sg : 0 < r.mi ∨ 0 < p ∨ s = g

theorem BesideW.over {k : Nat} {r : Wt} {p s g : Int} (h : BesideW k r p s g) : overD r.mi r.ti r.wa p s g = doneW r := overD_eq h.ok h.ha h.p0 h.sq h.sg

theorem BesideW.still {k : Nat} {r : Wt} {p s g x : Int} (h : BesideW k r p s g) (hd : doneW r = true ∨ 1048576 < x) : BesideW (k + 1) (stepW r x) p s g := by
  have e : stepW r x = r := by
    rcases hd with hd | hd
    · exact stepW_over hd x
    · unfold stepW comeW
      rw [if_pos (by omega), if_pos (.inr (.inr hd))]
  rw [e]
  exact ⟨h.ok.more (by omega), h.p0, h.p1, h.ha, h.sq, h.g0, by have := h.g1; omega, h.sg⟩

theorem BesideW.bytes {k : Nat} {r : Wt} {p s g x : Int} (h : BesideW k r p s g) (hd : doneW r = false) (hx : 0 < x) (hx1 : ¬ 1048576 < x) : BesideW (k + 1) (stepW r x) (min (p + x) 1048576) 0 g := by
  have ho := h.ok.step x
  have e : stepW r x = ⟨r.mi, r.ti, r.wa, min (r.ha + x) r.wa, 0⟩ := by
    unfold stepW comeW
    rw [if_pos hx, if_neg (by rw [hd]; simp; omega)]
  rw [e] at ho ⊢
  obtain ⟨_, p0, p1, ha, _, g0, g1, _⟩ := h
  have hw := ho.w1
  simp only at hw
  exact ⟨ho, by omega, by omega, (by show min (r.ha + x) r.wa = min (min (p + x) 1048576) r.wa; omega), rfl, g0, by omega, .inr (.inl (by omega))⟩

theorem BesideW.ticks {k : Nat} {r : Wt} {p s g x : Int} (h : BesideW k r p s g) (hd : doneW r = false) (hx : ¬ 0 < x) : BesideW (k + 1) (stepW r x) p (s + 1) (g + 1) := by
  have ho := h.ok.step x
  have e : stepW r x = ⟨r.mi, r.ti, r.wa, r.ha, r.qu + 1⟩ := by
    unfold stepW tickW
    rw [if_neg hx, if_neg (by rw [hd]; simp)]
  rw [e] at ho ⊢
  obtain ⟨_, p0, p1, ha, hs, g0, g1, hg⟩ := h
  refine ⟨ho, p0, p1, ha, (by rw [hs]), by omega, by omega, ?_⟩
  rcases hg with hg | hg | hg
  · exact .inl hg
  · exact .inr (.inl hg)
  · exact .inr (.inr (by rw [hg]))

/-- Ticks alone: k of them behind the beginning. -/
theorem ticksW_over {k : Nat} {r : Wt} (_h : OkW k r) (hq : r.qu = r.ti) (ht : 0 < r.ti) (hb : 0 < r.ha ∨ r.mi = 0) : doneW r = true := by
  have hl : lateW r = true := by unfold lateW; rw [hq]; simp
  unfold doneW
  rw [hl, if_pos ht, if_pos ht]
  split
  · have : decide (0 < r.ha) = true := by simp; omega
    rw [this]
    simp
  · simp


end Go.Proofs.Ytdhlgjkjdmejfaa
