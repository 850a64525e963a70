/-
  What the document writes of a byte: walked. No conditions.
-/
import Derived.Test.YtjpdlnifbinloaaC3
namespace Go.Proofs.Ytjpdlnifbinloaa
open Go.RowKit

/-- Po, as a value. -/
structure Po where
  bv : Value
  cl : Int

theorem Po.same {a0 a1 : _} {r : Po} (h : r.bv = a0 ∧ r.cl = a1) : r = ⟨a0, a1⟩ := by
  obtain ⟨rfl, rfl⟩ := h
  rfl

theorem Po.ret {a b : Po} (h : a = b) : Ending.returned (.agg #[a.bv, .int .i64 a.cl]) = .returned (.agg #[b.bv, .int .i64 b.cl]) := by rw [h]

/-- A box that holds a Po. -/
structure PBox (w : World) (b : Nat) (r : Po) : Prop where
  c0 : w.cell? ⟨b, 0, none⟩ = some (r.bv)
  c1 : w.cell? ⟨b, 1, none⟩ = some (.int .i64 r.cl)
  f0 : w.frozen? ⟨b, 0, none⟩ = false
  f1 : w.frozen? ⟨b, 1, none⟩ = false

theorem PBox.lt {w : World} {b : Nat} {r : Po} (h : PBox w b r) : b < w.heap.size := World.block_lt_of_cell? _ _ h.c0

theorem PBox.stay {T : Nat → Prop} {W w1 : World} {b : Nat} {r : Po} (h : PBox W b r) (hs : Stay T W w1) (hn : ¬ T b) : PBox w1 b r := by
  have hb : b < W.heap.size := h.lt
  have c : ∀ o, w1.cell? ⟨b, o, none⟩ = W.cell? ⟨b, o, none⟩ := fun o => hs.cell (p := ⟨b, o, none⟩) hb hn
  have f : ∀ o, w1.frozen? ⟨b, o, none⟩ = W.frozen? ⟨b, o, none⟩ := fun o => hs.frozen (p := ⟨b, o, none⟩) hb hn
  exact ⟨(c 0).trans h.c0, (c 1).trans h.c1, (f 0).trans h.f0, (f 1).trans h.f1⟩

theorem PBox.keep {W w1 : World} {b : Nat} {r : Po} (h : PBox W b r) (hs : Stay (fun _ => False) W w1) : PBox w1 b r := h.stay hs (fun h => h)

theorem PBox.alloc {w : World} {b : Nat} {r : Po} (h : PBox w b r) (o : Obj) : PBox (w.alloc o) b r := h.keep ((Stay.refl _ _).alloc o)

theorem PBox.new {w : World} {b : Nat} (r : Po) (h : w.heap.size = b) : PBox (w.alloc (.cells #[r.bv, .int .i64 r.cl] 27)) b r := by
  subst h
  constructor <;> simp

theorem PBox.cells {w : World} {b : Nat} {r : Po} (h : PBox w b r) : ∀ (j : Nat) (v : Value), [r.bv, .int .i64 r.cl][j]? = some v → w.cell? ⟨b, 0 + j, none⟩ = some v := by
  intro j v hj
  match j, hj with
  | 0, hj => cases hj; exact h.c0
  | 1, hj => cases hj; exact h.c1

theorem results_PBox {fn : Func} {p : Tmp} (h : fn.results = #[.cell p 27]) (tmps : Array Value) (w : World) (g : Nat) (r : Po) (hp : tmps.getD p undef = .pointer (some ⟨g, 0, none⟩)) (hb : PBox w g r) :
    (results fn tmps).run Try.prog w = .ok (.agg #[r.bv, .int .i64 r.cl]) w := results_cells h tmps w g 0 _ _ hp hb.cells Try.underlying27 rfl (by kernel_rfl)

/-- What a struct is behind a call, and nothing that was there has turned. -/
theorem PBox.ends {w W : World} {fn : Func} {p : Tmp} (h : fn.results = #[.cell p 27]) {tmps : Array Value} {r q : Po} {g : Nat} (hp : tmps.getD p undef = .pointer (some ⟨g, 0, none⟩)) (hb : PBox W g r) (hq : r = q) (hs : Stay (fun _ => False) w W)
    {d : List Deferred} (hd : d = []) : bodyPost Try.prog fn (Gives (.agg #[q.bv, .int .i64 q.cl]) w) Exit.ret { tmps := tmps, defers := d } W := by
  subst hq hd
  exact bodyPost_ret (results_PBox h _ _ _ r hp hb) rfl ⟨rfl, hs⟩

/-- The world in which a box holds another one. -/
theorem PBox.put {w : World} {b : Nat} {r0 : Po} (h : PBox w b r0) (r : Po) : PBox ((w.setCell ⟨b, 0, none⟩ (r.bv)).setCell ⟨b, 1, none⟩ (.int .i64 r.cl)) b r := by
  obtain ⟨h0, h1, k0, k1⟩ := h
  constructor <;> simp [go_sem, *]

theorem PBox.stay_put {S : Nat → Prop} {w w1 : World} {b : Nat} (h : Stay S w w1) (hb : w.heap.size ≤ b) (v0 v1 : Value) : Stay S w ((w1.setCell ⟨b, 0, none⟩ v0).setCell ⟨b, 1, none⟩ v1) :=
  ((h.setNew hb v0).setNew hb v1)

theorem PBox.put0 {w : World} {b : Nat} {r : Po} (h : PBox w b r) {x : Value} {q : Po} (hq : q = ⟨x, r.cl⟩) : PBox (w.setCell ⟨b, 0, none⟩ (x)) b q := by
  subst hq
  obtain ⟨h0, h1, k0, k1⟩ := h
  constructor <;> simp [go_sem, *]

theorem PBox.put1 {w : World} {b : Nat} {r : Po} (h : PBox w b r) {x : Int} {q : Po} (hq : q = ⟨r.bv, x⟩) : PBox (w.setCell ⟨b, 1, none⟩ (.int .i64 x)) b q := by
  subst hq
  obtain ⟨h0, h1, k0, k1⟩ := h
  constructor <;> simp [go_sem, *]

theorem PBox.other {w : World} {b b' o : Nat} {r : Po} {v : Value} (h : PBox w b r) (hb : b' ≠ b) : PBox (w.setCell ⟨b', o, none⟩ v) b r :=
  h.stay (T := fun k => k = b') ((Stay.refl (fun k => k = b') w).setCell (S := fun k => k = b') (p := ⟨b', o, none⟩) rfl v) (fun e => hb e.symm)

theorem run_load_PBox {a : Act} {o : Oper} {x : Operand} {w : World} {b : Nat} {r : Po} (ho : o.op = .load 27 x) (hx : a.eval x = .pointer (some ⟨b, 0, none⟩)) (hb : PBox w b r) :
    (execOp a.eval o).run Try.prog w = .ok (.value (.agg #[r.bv, .int .i64 r.cl])) w := by
  unfold execOp
  simp only [ho, hx, Instr.loadAt, Instr.sureAddr, Sem.run_bind, Sem.run_pure, Result.andThen_ok]
  rw [run_loadVar_cells w b 0 27 _ _ hb.cells Try.underlying27 rfl (by kernel_rfl)]
  rfl

/-- One in the midst of a block. -/
structure PBoxAt (w : World) (g o : Nat) (r : Po) : Prop where
  c0 : w.cell? ⟨g, o, none⟩ = some (r.bv)
  c1 : w.cell? ⟨g, o + 1, none⟩ = some (.int .i64 r.cl)

theorem PBoxAt.keep {W w1 : World} {g o : Nat} {r : Po} (h : PBoxAt W g o r) (hs : Stay (fun _ => False) W w1) : PBoxAt w1 g o r := ⟨keep_cell hs h.c0, keep_cell hs h.c1⟩

theorem PBoxAt.cells {w : World} {g o : Nat} {r : Po} (h : PBoxAt w g o r) : ∀ (j : Nat) (v : Value), [r.bv, .int .i64 r.cl][j]? = some v → w.cell? ⟨g, o + j, none⟩ = some v := by
  intro j v hj
  match j, hj with
  | 0, hj => cases hj; exact h.c0
  | 1, hj => cases hj; exact h.c1

theorem run_load_PBoxAt {a : Act} {p : Oper} {x : Operand} {w : World} {g o : Nat} {r : Po} (ho : p.op = .load 27 x) (hx : a.eval x = .pointer (some ⟨g, o, none⟩)) (hb : PBoxAt w g o r) :
    (execOp a.eval p).run Try.prog w = .ok (.value (.agg #[r.bv, .int .i64 r.cl])) w := by
  unfold execOp
  simp only [ho, hx, Instr.loadAt, Instr.sureAddr, Sem.run_bind, Sem.run_pure, Result.andThen_ok]
  rw [run_loadVar_cells w g o 27 _ _ hb.cells Try.underlying27 rfl (by kernel_rfl)]
  rfl

/-- A row of one's own, and a column: by the document. -/
def Posts (l : List Int) (k : Int) (w : World) (e : Ending) (w' : World) : Prop := ∃ v, e = .returned (.agg #[v, .int .i64 k]) ∧ Acc w w' v l

/-- The column alone. -/
theorem Acc.put {w w1 : World} {v : Value} {l : List Int} (h : Acc w w1 v l) {B : Nat} (hB : w.heap.size = B) (hv : v.ownBlock ≠ some B) (x y : Value) : Acc w ((w1.setCell ⟨B, 0, none⟩ x).setCell ⟨B, 1, none⟩ y) v l := by
  have hs : Stay (fun j => j = B) w1 ((w1.setCell ⟨B, 0, none⟩ x).setCell ⟨B, 1, none⟩ y) := ((Stay.refl (fun j => j = B) w1).setCell (p := ⟨B, 0, none⟩) rfl _).setCell (p := ⟨B, 1, none⟩) rfl _
  refine ⟨hs.owns h.own (fun j hj e => hv (by rw [hj, e])), h.stay.trans2 hs (fun j hj e => by omega), h.wf⟩


end Go.Proofs.Ytjpdlnifbinloaa
