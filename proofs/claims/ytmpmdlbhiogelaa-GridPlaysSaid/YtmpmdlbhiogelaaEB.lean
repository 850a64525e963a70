/-
  What stands while GridPlays goes on. No conditions.
-/
import Derived.Test.YtmpmdlbhiogelaaE3
import Derived.Test.YtmpmdlbhiogelaaE7
import Derived.Test.YtmpmdlbhiogelaaF0
namespace Go.Proofs.Ytmpmdlbhiogelaa
open Go.RowKit

/-- An act in a box of its own. -/
structure AcBox (w : World) (b : Nat) (a : Ac) : Prop where
  c0 : w.cell? ⟨b, 0, none⟩ = some (.int .i64 a.d)
  c1 : w.cell? ⟨b, 1, none⟩ = some (.int .i64 a.r.x)
  c2 : w.cell? ⟨b, 2, none⟩ = some (.int .i64 a.r.y)
  c3 : w.cell? ⟨b, 3, none⟩ = some (.int .i64 a.r.w)
  c4 : w.cell? ⟨b, 4, none⟩ = some (.int .i64 a.r.h)
  c5 : w.cell? ⟨b, 5, none⟩ = some (.int .i64 a.x)
  c6 : w.cell? ⟨b, 6, none⟩ = some (.int .i64 a.y)
  c7 : w.cell? ⟨b, 7, none⟩ = some (.int .i32 a.c.r)
  c8 : w.cell? ⟨b, 8, none⟩ = some (.int .i64 a.c.fg)
  c9 : w.cell? ⟨b, 9, none⟩ = some (.int .i64 a.c.bg)
  c10 : w.cell? ⟨b, 10, none⟩ = some (.int .i64 a.c.fl)

theorem AcBox.lt {w : World} {b : Nat} {a : Ac} (h : AcBox w b a) : b < w.heap.size := World.block_lt_of_cell? _ _ h.c0

theorem AcBox.stay {T : Nat → Prop} {w w1 : World} {b : Nat} {a : Ac} (h : AcBox w b a) (hs : Stay T w w1) (hn : ¬ T b) : AcBox w1 b a := by
  have hb : b < w.heap.size := h.lt
  have c : ∀ o, w1.cell? ⟨b, o, none⟩ = w.cell? ⟨b, o, none⟩ := fun o => hs.cell (p := ⟨b, o, none⟩) hb hn
  exact ⟨(c _).trans h.c0, (c _).trans h.c1, (c _).trans h.c2, (c _).trans h.c3, (c _).trans h.c4, (c _).trans h.c5, (c _).trans h.c6, (c _).trans h.c7, (c _).trans h.c8, (c _).trans h.c9, (c _).trans h.c10⟩

theorem AcBox.new {w : World} {b : Nat} (a : Ac) (h : w.heap.size = b) : AcBox (w.alloc (.cells #[.int .i64 a.d, .int .i64 a.r.x, .int .i64 a.r.y, .int .i64 a.r.w, .int .i64 a.r.h, .int .i64 a.x, .int .i64 a.y, .int .i32 a.c.r, .int .i64 a.c.fg, .int .i64 a.c.bg, .int .i64 a.c.fl] 37)) b a := by
  subst h
  constructor <;> simp

/-- What stands while GridPlays goes on: two grids and the document's two, in their boxes, and the act. -/
structure PL (w : World) (X1 X2 B : Nat) (a : Ac) (G O : Gr) (q p : Rf) (f f' g g' : Nat → Cl) (wr : World) : Prop where
  stay : Stay (fun _ => False) w wr
  act : AcBox wr B a
  b1 : BoxG wr X1 q.g3
  b2 : BoxG wr X2 p.g3
  g1 : GridAt wr G f
  r1 : RefAt wr q f'
  g2 : GridAt wr O g
  r2 : RefAt wr p g'
  n1 : w.heap.size ≤ X1 ∧ w.heap.size ≤ X2 ∧ X1 ≠ X2 ∧ w.heap.size ≤ G.bc ∧ w.heap.size ≤ O.bc
  n2 : B ≠ X1 ∧ B ≠ X2 ∧ B ≠ G.bc ∧ B ≠ O.bc
  o1 : G.off O.bc ∧ G.off X1 ∧ G.off X2
  o2 : O.off G.bc ∧ O.off X1 ∧ O.off X2
  o3 : q.b ≠ G.bc ∧ q.b ≠ O.bc ∧ q.b ≠ X1 ∧ q.b ≠ X2
  o4 : p.b ≠ G.bc ∧ p.b ≠ O.bc ∧ p.b ≠ X1 ∧ p.b ≠ X2

theorem PL.keep {w wr w1 : World} {X1 X2 B : Nat} {a : Ac} {G O : Gr} {q p : Rf} {f f' g g' : Nat → Cl} (h : PL w X1 X2 B a G O q p f f' g g' wr) (hs : Stay (fun _ => False) wr w1) : PL w X1 X2 B a G O q p f f' g g' w1 :=
  ⟨h.stay.trans hs, h.act.stay hs (fun h => h), h.b1.keep hs, h.b2.keep hs, h.g1.keep hs, h.r1.keep hs, h.g2.keep hs, h.r2.keep hs, h.n1, h.n2, h.o1, h.o2, h.o3, h.o4⟩

/-- The first grid has turned. -/
theorem PL.grid1 {w wr w1 : World} {X1 X2 B : Nat} {a : Ac} {G O : Gr} {q p : Rf} {f f' g g' : Nat → Cl} {f1 : Nat → Cl} (h : PL w X1 X2 B a G O q p f f' g g' wr) (hs : Stay (fun k => k = G.bc) wr w1) (hg : GridAt w1 G f1) : PL w X1 X2 B a G O q p f1 f' g g' w1 :=
  ⟨h.stay.trans' hs h.n1.2.2.2.1, h.act.stay hs h.n2.2.2.1, h.b1.stay hs (fun e => h.o1.2.1.2.2 e.symm), h.b2.stay hs (fun e => h.o1.2.2.2.2 e.symm), hg, h.r1.stay hs h.o3.1, h.g2.apart hs h.o2.1, h.r2.stay hs h.o4.1, h.n1, h.n2, h.o1, h.o2, h.o3, h.o4⟩

/-- The second grid has turned. -/
theorem PL.grid2 {w wr w1 : World} {X1 X2 B : Nat} {a : Ac} {G O : Gr} {q p : Rf} {f f' g g' : Nat → Cl} {g1 : Nat → Cl} (h : PL w X1 X2 B a G O q p f f' g g' wr) (hs : Stay (fun k => k = O.bc) wr w1) (hg : GridAt w1 O g1) : PL w X1 X2 B a G O q p f f' g1 g' w1 :=
  ⟨h.stay.trans' hs h.n1.2.2.2.2, h.act.stay hs h.n2.2.2.2, h.b1.stay hs (fun e => h.o2.2.1.2.2 e.symm), h.b2.stay hs (fun e => h.o2.2.2.2.2 e.symm), h.g1.apart hs h.o1.1, h.r1.stay hs h.o3.2.1, hg, h.r2.stay hs h.o4.2.1, h.n1, h.n2, h.o1, h.o2, h.o3, h.o4⟩

theorem PL.fresh {w wr : World} {X1 X2 B : Nat} {a : Ac} {G O : Gr} {q p : Rf} {f f' g g' : Nat → Cl} {b : Nat} (h : PL w X1 X2 B a G O q p f f' g g' wr) (hb : wr.heap.size ≤ b) : b ≠ G.bc ∧ b ≠ O.bc ∧ b ≠ X1 ∧ b ≠ X2 := by
  have h1 := h.g1.lt
  have h2 := h.g2.lt
  have h3 := h.b1.lt
  have h4 := h.b2.lt
  omega

/-- The world in which a box holds another grid of the document's. -/
def putG (w : World) (X : Nat) (q : Rf) : World := ((w.setCell ⟨X, 0, none⟩ (.int .i64 q.g3.w)).setCell ⟨X, 1, none⟩ (.int .i64 q.g3.h)).setCell ⟨X, 2, none⟩ q.g3.l

theorem putG_stay (w : World) (X : Nat) (q : Rf) : Stay (fun k => k = X) w (putG w X q) :=
  (((Stay.refl (fun k => k = X) w).setCell (p := ⟨X, 0, none⟩) rfl _).setCell (p := ⟨X, 1, none⟩) rfl _).setCell (p := ⟨X, 2, none⟩) rfl _

/-- A block that is none of those which count may turn. -/
theorem PL.other {w wr w1 : World} {X1 X2 B : Nat} {a : Ac} {G O : Gr} {q p : Rf} {f f' g g' : Nat → Cl} {b : Nat} (h : PL w X1 X2 B a G O q p f f' g g' wr) (hs : Stay (fun k => k = b) wr w1) (h0 : w.heap.size ≤ b) (hb : B ≠ b ∧ X1 ≠ b ∧ X2 ≠ b ∧ G.off b ∧ O.off b ∧ q.b ≠ b ∧ p.b ≠ b) : PL w X1 X2 B a G O q p f f' g g' w1 :=
  ⟨h.stay.trans' hs h0, h.act.stay hs hb.1, h.b1.stay hs hb.2.1, h.b2.stay hs hb.2.2.1, h.g1.apart hs hb.2.2.2.1, h.r1.stay hs hb.2.2.2.2.2.1, h.g2.apart hs hb.2.2.2.2.1, h.r2.stay hs hb.2.2.2.2.2.2, h.n1, h.n2, h.o1, h.o2, h.o3, h.o4⟩

/-- The first of the document's grids is another one. -/
theorem PL.put1 {w wr : World} {X1 X2 B : Nat} {a : Ac} {G O : Gr} {q p : Rf} {f f' g g' : Nat → Cl} {q2 : Rf} {f1 : Nat → Cl} (h : PL w X1 X2 B a G O q p f f' g g' wr) (hq : RefAt wr q2 f1) (ho : q2.b ≠ G.bc ∧ q2.b ≠ O.bc ∧ q2.b ≠ X1 ∧ q2.b ≠ X2) : PL w X1 X2 B a G O q2 p f f1 g g' (putG wr X1 q2) := by
  have hs := putG_stay wr X1 q2
  exact ⟨h.stay.trans' hs h.n1.1, h.act.stay hs h.n2.1, h.b1.put q2.g3, h.b2.stay hs (fun e => h.n1.2.2.1 e.symm), h.g1.apart hs h.o1.2.1, hq.stay hs ho.2.2.1, h.g2.apart hs h.o2.2.1, h.r2.stay hs h.o4.2.2.1, h.n1, h.n2, h.o1, h.o2, ho, h.o4⟩

/-- The second of the document's grids is another one. -/
theorem PL.put2 {w wr : World} {X1 X2 B : Nat} {a : Ac} {G O : Gr} {q p : Rf} {f f' g g' : Nat → Cl} {p2 : Rf} {g1 : Nat → Cl} (h : PL w X1 X2 B a G O q p f f' g g' wr) (hp : RefAt wr p2 g1) (ho : p2.b ≠ G.bc ∧ p2.b ≠ O.bc ∧ p2.b ≠ X1 ∧ p2.b ≠ X2) : PL w X1 X2 B a G O q p2 f f' g g1 (putG wr X2 p2) := by
  have hs := putG_stay wr X2 p2
  exact ⟨h.stay.trans' hs h.n1.2.1, h.act.stay hs h.n2.2.1, h.b1.stay hs h.n1.2.2.1, h.b2.put p2.g3, h.g1.apart hs h.o1.2.2, h.r1.stay hs h.o3.2.2.2, h.g2.apart hs h.o2.2.2, hp.stay hs ho.2.2.2, h.n1, h.n2, h.o1, h.o2, h.o3, ho⟩

/-- The first grid is another one. -/
theorem PL.new1 {w wr w1 : World} {X1 X2 B : Nat} {a : Ac} {G O : Gr} {q p : Rf} {f f' g g' : Nat → Cl} {G2 : Gr} {f1 : Nat → Cl} (h : PL w X1 X2 B a G O q p f f' g g' wr) (hs : Stay (fun _ => False) wr w1) (hg : GridAt w1 G2 f1) (hab : G2.above wr.heap.size) : PL w X1 X2 B a G2 O q p f1 f' g g' w1 := by
  have k := h.keep hs
  have h2 := h.g2.lt
  have h3 := h.b1.lt
  have h4 := h.b2.lt
  have h5 := h.r1.lt
  have h6 := h.r2.lt
  have h7 := h.act.lt
  have h8 := h.stay.size
  unfold Gr.above at hab
  exact ⟨k.stay, k.act, k.b1, k.b2, hg, k.r1, k.g2, k.r2, ⟨h.n1.1, h.n1.2.1, h.n1.2.2.1, by omega, h.n1.2.2.2.2⟩, ⟨h.n2.1, h.n2.2.1, by omega, h.n2.2.2.2⟩, ⟨⟨by omega, by omega, by omega⟩, ⟨by omega, by omega, by omega⟩, by omega, by omega, by omega⟩, ⟨⟨by omega, by omega, by omega⟩, h.o2.2⟩, ⟨by omega, h.o3.2⟩, by omega, h.o4.2⟩

/-- Cells are the same row by row: they are the same. -/
theorem cells_all {w h : Nat} {f g : Nat → Cl} (hw : 0 < w) (e : ∀ X Y : Nat, X < w → Y < h → f (Y * w + X) = g (Y * w + X)) : ∀ i, i < w * h → f i = g i := fun i hi => by
  have h1 : i % w < w := Nat.mod_lt _ hw
  have h2 : i / w < h := Nat.div_lt_of_lt_mul hi
  have := e (i % w) (i / w) h1 h2
  have h3 : i / w * w + i % w = i := by rw [Nat.mul_comm]; exact Nat.div_add_mod i w
  rwa [h3] at this

/-- How many cells a filled rectangle has. -/
theorem fill_count (r : R) (w h : Nat) (w2 : w ≤ 512) (h2 : h ≤ 512) : areaI (bothR r ⟨0, 0, w, h⟩) = ((cntAll (hitsB r) w h : Nat) : Int) := by
  obtain ⟨x0, y0, a0, b0, hq, hx, hy, hm⟩ := both_whole r w h w2 h2
  rw [hq, area_nat _ _ _ _ (by omega), cntAll_rect hx hy (fun X Y hX hY => by
    rw [← hm X Y hX hY]
    unfold hitsB
    simp only [Bool.and_eq_true])]

/-- The document's answers, with the grid written out. -/
def NewRefC (a b : Nat) (f : Nat → Cl) (w : World) (e : Ending) (w' : World) : Prop := ∃ q : Rf, e = .returned (.agg #[.int .i64 (q.w : Nat), .int .i64 (q.h : Nat), .slice (some ⟨q.b, 0, none⟩) q.n q.cap]) ∧ Stay (fun _ => False) w w' ∧ RefAt w' q f ∧ q.w = a ∧ q.h = b ∧ w.heap.size ≤ q.b

def RefTwoC (a b n : Nat) (E : (Nat → Cl) → Prop) (w : World) (e : Ending) (w' : World) : Prop := ∃ (q : Rf) (f : Nat → Cl), e = .returned (.tuple #[.agg #[.int .i64 (q.w : Nat), .int .i64 (q.h : Nat), .slice (some ⟨q.b, 0, none⟩) q.n q.cap], .int .i64 (n : Nat)]) ∧ Stay (fun _ => False) w w' ∧ RefAt w' q f ∧ q.w = a ∧ q.h = b ∧ w.heap.size ≤ q.b ∧ E f

theorem refNewC (a b : Nat) (w : World) (a1 : 1 ≤ a) (a2 : a ≤ 512) (b1 : 1 ≤ b) (b2 : b ≤ 512) : Calls Try.prog 9 #[.int .i64 (a : Nat), .int .i64 (b : Nat)] w (NewRefC a b (fun _ => Cl.zero) w) := (refNew9 a b w a1 a2 b1 b2).mono fun _ _ ⟨q, h⟩ => ⟨q, h⟩

theorem refSetC (q : Rf) (f : Nat → Cl) (x y : Int) (c : Cl) (w : World) (hq : RefAt w q f) : Calls Try.prog 12 #[.agg #[.int .i64 q.g3.w, .int .i64 q.g3.h, q.g3.l], .int .i64 x, .int .i64 y, .agg #[.int .i32 c.r, .int .i64 c.fg, .int .i64 c.bg, .int .i64 c.fl]] w (NewRefC q.w q.h (setF q.w q.h f x y c) w) := (refSet12 q f x y c w hq).mono fun _ _ ⟨q, h⟩ => ⟨q, h⟩

theorem refFillC (q : Rf) (f : Nat → Cl) (r : R) (c : Cl) (w : World) (hq : RefAt w q f) : Calls Try.prog 13 #[.agg #[.int .i64 q.g3.w, .int .i64 q.g3.h, q.g3.l], .agg #[.int .i64 r.x, .int .i64 r.y, .int .i64 r.w, .int .i64 r.h], .agg #[.int .i32 c.r, .int .i64 c.fg, .int .i64 c.bg, .int .i64 c.fl]] w (RefTwoC q.w q.h (cntAll (hitsB r) q.w q.h) (Fills q.w q.h r c f) w) := (refFill13 q f r c w hq).mono fun _ _ ⟨q, f, h⟩ => ⟨q, f, h⟩

theorem refBlitC (q t : Rf) (fg f : Nat → Cl) (r : R) (x y : Int) (w : World) (hg : RefAt w q fg) (ht : RefAt w t f) (hx : I64 x) (hy : I64 y) : Calls Try.prog 15 #[.agg #[.int .i64 q.g3.w, .int .i64 q.g3.h, q.g3.l], .agg #[.int .i64 t.g3.w, .int .i64 t.g3.h, t.g3.l], .agg #[.int .i64 r.x, .int .i64 r.y, .int .i64 r.w, .int .i64 r.h], .int .i64 x, .int .i64 y] w
    (RefTwoC t.w t.h (cntAll (comesB q.w q.h r x y) t.w t.h) (Blits q.w q.h t.w t.h r x y fg f) w) := (refBlit15 q t fg f r x y w hg ht hx hy).mono fun _ _ ⟨q, f, h⟩ => ⟨q, f, h⟩

theorem extract0 (x y : Value) (w : World) : (Instr.extract (.tuple #[x, y]) 0).run Try.prog w = .ok x w := rfl

end Go.Proofs.Ytmpmdlbhiogelaa
