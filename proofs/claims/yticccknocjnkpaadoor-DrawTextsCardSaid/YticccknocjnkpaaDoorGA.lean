/-
  What is done with windows, act by act. No conditions.
  The document draws cells: walked. No conditions.
-/
import Derived.Test.YticccknocjnkpaaDoorY2
namespace Go.Proofs.YticccknocjnkpaaDoor
open Go.RowKit

/-- A window that may be there. -/
def OkW (sw sh : Int) (p : Wn) : Prop := 0 ≤ p.x ∧ 0 ≤ p.y ∧ 0 < p.w ∧ 0 < p.h ∧ p.x + p.w ≤ sw ∧ p.y + p.h ≤ sh ∧ 1 ≤ p.id

theorem OkW.ok {sw sh : Int} {p : Wn} (h : OkW sw sh p) (h1 : sw ≤ 512) (h2 : sh ≤ 512) : OkP p := by
  unfold OkW at h
  unfold OkP
  omega

/-- What holds of windows, act by act. -/
def OkS (sw sh : Int) (s : List Wn × Int) (k : Nat) : Prop := (∀ p ∈ s.1, OkW sw sh p) ∧ 0 ≤ s.2 ∧ s.2 ≤ k ∧ (s.1.length : Int) ≤ s.2

theorem add_ok {sw sh : Int} {L : List Wn} {m : Int} {k : Nat} (h : OkS sw sh (L, m) k) (_hk : k ≤ 255) (env : Int) (r : R) : OkS sw sh ((addR sw sh m L env r).2.1, (addR sw sh m L env r).1) (k + 1) := by
  obtain ⟨h1, h2, h3, h4⟩ := h
  simp only at h1 h2 h3 h4
  have hs : OkS sw sh (L, m) (k + 1) := ⟨h1, h2, by simp only; omega, h4⟩
  unfold addR
  by_cases e : env < 0
  · rw [if_pos e]; exact hs
  · rw [if_neg e]
    by_cases f : fitB sw sh r = false
    · rw [if_pos f]; exact hs
    · rw [if_neg f]
      by_cases g : 256 ≤ L.length
      · rw [if_pos g]; exact hs
      · rw [if_neg g]
        have hb := fit_bd (by simpa using f)
        refine ⟨fun p hp => ?_, by simp only; omega, by simp only; omega, by simp only [List.length_cons]; omega⟩
        rcases List.mem_cons.1 hp with rfl | hp
        · unfold OkW
          simp only
          omega
        · exact h1 p hp

/-- While acts are played: the stack, and the document's windows beside it. -/
structure PlIn (w0 : World) (q0 : Sm) (b : Nat) (v : Value) (xa : Option Addr) (xc : Nat) (sw sh m : Int) (L : List Wn) (wr : World) : Prop where
  stay : Stay q0.own w0 wr
  s : SAt wr ⟨b, v⟩ sw sh m L
  x : Ws wr xa L.length xc L
  own : ∀ j, (⟨b, v⟩ : Sm).own j → q0.own j ∨ w0.heap.size ≤ j
  xn : ∀ k, xa.map Addr.block = some k → w0.heap.size ≤ k ∧ ¬ (⟨b, v⟩ : Sm).own k

variable {w0 wr w1 : World} {q0 : Sm} {b xc xc2 : Nat} {v v2 : Value} {xa xa2 : Option Addr} {sw sh m m2 : Int} {L L2 : List Wn}

theorem PlIn.keep (H : PlIn w0 q0 b v xa xc sw sh m L wr) (hs : Stay (fun _ => False) wr w1) : PlIn w0 q0 b v xa xc sw sh m L w1 :=
  ⟨H.stay.trans (hs.mono (fun _ _ h => h.elim)), H.s.keep hs, H.x.keep hs, H.own, H.xn⟩

/-- The stack has turned. -/
theorem PlIn.moved (H : PlIn w0 q0 b v xa xc sw sh m L wr) (hs : SAt w1 ⟨b, v2⟩ sw sh m2 L2) (hm : SMoved ⟨b, v⟩ ⟨b, v2⟩ wr w1) :
    Stay q0.own w0 w1 ∧ SAt w1 ⟨b, v2⟩ sw sh m2 L2 ∧ Ws w1 xa L.length xc L ∧ (∀ j, (⟨b, v2⟩ : Sm).own j → q0.own j ∨ w0.heap.size ≤ j) ∧ (∀ k, xa.map Addr.block = some k → w0.heap.size ≤ k ∧ ¬ (⟨b, v2⟩ : Sm).own k) := by
  refine ⟨H.stay.trans2 hm.1 (fun j hj e => ?_), hs, H.x.stay hm.1 (fun k hk e => (H.xn k hk).2 e), fun j hj => ?_, fun k hk => ⟨(H.xn k hk).1, fun e => ?_⟩⟩
  · rcases H.own j e with h1 | h1
    · exact h1
    · omega
  · rcases hm.2 j hj with h1 | h1
    · exact H.own j h1
    · exact .inr (Nat.le_trans H.stay.size h1)
  · rcases hm.2 k e with h1 | h1
    · exact (H.xn k hk).2 h1
    · have := H.x.lt k hk
      omega

/-- The document's windows are new. -/
theorem PlIn.fresh (H : Stay q0.own w0 wr ∧ SAt wr ⟨b, v⟩ sw sh m L ∧ (∀ j, (⟨b, v⟩ : Sm).own j → q0.own j ∨ w0.heap.size ≤ j)) (hx : Ws w1 xa2 L.length xc2 L) (hs : Stay (fun _ => False) wr w1) (hn : ∀ k, xa2.map Addr.block = some k → wr.heap.size ≤ k) :
    PlIn w0 q0 b v xa2 xc2 sw sh m L w1 :=
  ⟨H.1.trans (hs.mono (fun _ _ h => h.elim)), H.2.1.keep hs, hx, H.2.2, fun k hk => ⟨Nat.le_trans H.1.size (hn k hk), fun e => by have := H.2.1.lt k e; have := hn k hk; omega⟩⟩

/-- The document's windows are written where they are. -/
theorem PlIn.wrote {g : Nat} (H : Stay q0.own w0 wr ∧ SAt wr ⟨b, v⟩ sw sh m L ∧ (∀ j, (⟨b, v⟩ : Sm).own j → q0.own j ∨ w0.heap.size ≤ j) ∧ (∀ k, (some ⟨g, 0, none⟩ : Option Addr).map Addr.block = some k → w0.heap.size ≤ k ∧ ¬ (⟨b, v⟩ : Sm).own k))
    (hx : Ws w1 (some ⟨g, 0, none⟩) L.length xc L) (hs : Stay (fun j => j = g) wr w1) : PlIn w0 q0 b v (some ⟨g, 0, none⟩) xc sw sh m L w1 :=
  ⟨H.1.trans2 hs (fun j hj e => by have := (H.2.2.2 g rfl).1; omega), H.2.1.stay hs (fun j hj e => by rw [e] at hj; exact (H.2.2.2 g rfl).2 hj), hx, H.2.2.1, H.2.2.2⟩

end Go.Proofs.YticccknocjnkpaaDoor

namespace Go.Proofs.YticccknocjnkpaaDoor
open Go.RowKit

/-- Cells behind writes. -/
def applyW (a h : Nat) (f : Nat → Cl) (N : List Wr) : Nat → Cl := N.foldl (fun f q => setF a h f q.x q.y q.cl) f

theorem applyW_snoc (a h : Nat) (f : Nat → Cl) (N : List Wr) (x y : Int) (c : Cl) : applyW a h f (N ++ [Wr.of x y c]) = setF a h (applyW a h f N) x y c := by
  unfold applyW
  rw [List.foldl_append]
  rfl

/-- Cells, one behind the other: what is written so far. -/
def cellsN (L : List Wn) (p : Wn) (x y : Int) (l : Nat → Cl) : Nat → List Wr
  | 0 => []
  | k + 1 => cellsN L p x y l k ++ if ownB L p (x + k) y = true then [Wr.of (p.x + x + k) (p.y + y) (l k)] else []

theorem cellsN_len (L : List Wn) (p : Wn) (x y : Int) (l : Nat → Cl) : ∀ k, (cellsN L p x y l k).length ≤ k
  | 0 => Nat.le_refl _
  | k + 1 => by
    have := cellsN_len L p x y l k
    show (_ ++ _ : List Wr).length ≤ k + 1
    rw [List.length_append]
    split <;> simp <;> omega

/-- .. if no number is too far. -/
def cellsA (L : List Wn) (p : Wn) (x y : Int) (l : Nat → Cl) (k : Nat) : List Wr := if (farB x || farB y) = true then [] else cellsN L p x y l k

theorem wpList_exec {P : Program} {ops : Array Oper} {rest : List Oper} {o : Oper} {a : Act} {w : World} {Q : Exit → Act → World → Prop} {v : Value} (hgd : o.guard = none) (hr : (execOp a.eval o).run P w = .ok (.value v) w) (h : wpList P ops Q rest (a.put o.dst v) w) : wpList P ops Q (o :: rest) a w :=
  wpList_plain hgd fun _ hK => by
    unfold Oper.wp
    rw [hr]
    exact hK _ _ h

variable {w0 w1 w2 wr : World} {A bp B a h b0 : Nat} {p : Wn} {f g : Nat → Cl}

/-- Cells that can be read. -/
def CRd (w : World) (la : Option Addr) (n : Nat) (l : Nat → Cl) : Prop := ∀ i, i < n → ∃ g o, la = some ⟨g, o, none⟩ ∧ BoxCAt w g (o + i * 4) (l i)

theorem CRd.keep {w w1 : World} {la : Option Addr} {n : Nat} {l : Nat → Cl} (h : CRd w la n l) (hs : Stay (fun _ => False) w w1) : CRd w1 la n l := fun i hi => by
  obtain ⟨g, o, e, hb⟩ := h i hi
  exact ⟨g, o, e, hb.keep hs⟩

theorem boxCAt_stay {T : Nat → Prop} {w w1 : World} {g o : Nat} {c : Cl} (h : BoxCAt w g o c) (hs : Stay T w w1) (hn : ¬ T g) : BoxCAt w1 g o c := by
  have hb : g < w.heap.size := World.block_lt_of_cell? _ _ h.c0
  have c' : ∀ o, w1.cell? ⟨g, o, none⟩ = w.cell? ⟨g, o, none⟩ := fun o => hs.cell (p := ⟨g, o, none⟩) hb hn
  exact ⟨(c' _).trans h.c0, (c' _).trans h.c1, (c' _).trans h.c2, (c' _).trans h.c3⟩

end Go.Proofs.YticccknocjnkpaaDoor
