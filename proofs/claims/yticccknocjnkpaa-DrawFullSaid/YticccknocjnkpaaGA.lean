/-
  What is done with windows, act by act. No conditions.
  The document draws cells: walked. No conditions.
-/
import Derived.Test.YticccknocjnkpaaY2
namespace Go.Proofs.Yticccknocjnkpaa
open Go.RowKit

/-- A window that may be there. -/
def OkW (sw sh : Int) (p : Wn) : Prop := 0 ≤ p.x ∧ 0 ≤ p.y ∧ 0 < p.w ∧ 0 < p.h ∧ p.x + p.w ≤ sw ∧ p.y + p.h ≤ sh ∧ 1 ≤ p.id

theorem OkW.ok {sw sh : Int} {p : Wn} (h : OkW sw sh p) (h1 : sw ≤ 512) (h2 : sh ≤ 512) : OkP p := by
  unfold OkW at h
  unfold OkP
  omega

def Ac.r (a : Ac) : R := ⟨a.x, a.y, a.w, a.h⟩

/-- Windows behind an act, and how many were made. -/
def playR (sw sh : Int) (s : List Wn × Int) (a : Ac) : List Wn × Int :=
  if a.d = 0 then ((addR sw sh s.2 s.1 a.e a.r).2.1, (addR sw sh s.2 s.1 a.e a.r).1)
  else if a.d = 1 then ((dropR s.1 a.i).1, s.2)
  else if a.d = 2 then ((topR s.1 a.i).1, s.2)
  else if a.d = 3 ∨ a.d = 4 then ((hideR s.1 a.i (a.d == 3)).1, s.2)
  else if a.d = 5 then ((moveR sw sh s.1 a.i a.r).1, s.2)
  else s

/-- .. behind the first acts. -/
def playK (sw sh : Int) (ac : Nat → Ac) : Nat → List Wn × Int
  | 0 => ([], 0)
  | k + 1 => playR sw sh (playK sw sh ac k) (ac k)

/-- What holds of windows, act by act. -/
def OkS (sw sh : Int) (s : List Wn × Int) (k : Nat) : Prop := (∀ p ∈ s.1, OkW sw sh p) ∧ 0 ≤ s.2 ∧ s.2 ≤ k ∧ (s.1.length : Int) ≤ s.2

theorem add_ok {sw sh : Int} {L : List Wn} {m : Int} {k : Nat} (h : OkS sw sh (L, m) k) (_hk : k ≤ 255) (env : Int) (r : R) : OkS sw sh ((addR sw sh m L env r).2.1, (addR sw sh m L env r).1) (k + 1) := by
  obtain ⟨h1, h2, h3, h4⟩ := h
  simp only at h1 h2 h3 h4
  have hs : OkS sw sh (L, m) (k + 1) := ⟨h1, h2, by simp only; omega, h4⟩
  unfold addR
  by_cases e : env < 0
  · rw [if_pos e]; exact hs
  · rw [if_neg e]
    by_cases f : fitB sw sh r = false
    · rw [if_pos f]; exact hs
    · rw [if_neg f]
      by_cases g : 256 ≤ L.length
      · rw [if_pos g]; exact hs
      · rw [if_neg g]
        have hb := fit_bd (by simpa using f)
        refine ⟨fun p hp => ?_, by simp only; omega, by simp only; omega, by simp only [List.length_cons]; omega⟩
        rcases List.mem_cons.1 hp with rfl | hp
        · unfold OkW
          simp only
          omega
        · exact h1 p hp

theorem play_ok {sw sh : Int} {s : List Wn × Int} {k : Nat} (h : OkS sw sh s k) (hk : k ≤ 255) (a : Ac) : OkS sw sh (playR sw sh s a) (k + 1) := by
  obtain ⟨L, m⟩ := s
  have hs : OkS sw sh (L, m) (k + 1) := ⟨h.1, h.2.1, by have := h.2.2.1; simp only at this ⊢; omega, h.2.2.2⟩
  unfold playR
  by_cases d0 : a.d = 0
  · rw [if_pos d0]; exact add_ok h hk a.e a.r
  rw [if_neg d0]
  by_cases d1 : a.d = 1
  · rw [if_pos d1]
    unfold dropR
    split
    · refine ⟨fun p hp => h.1 p (List.mem_of_mem_eraseIdx hp), hs.2.1, hs.2.2.1, ?_⟩
      have := hs.2.2.2
      have h2 := List.length_eraseIdx_le L (plN L a.i)
      simp only at this ⊢
      omega
    · exact hs
  rw [if_neg d1]
  by_cases d2 : a.d = 2
  · rw [if_pos d2]
    show OkS sw sh ((topR L a.i).1, m) (k + 1)
    unfold topR
    cases hp : L[plN L a.i]? with
    | none => exact hs
    | some p =>
      have hi : plN L a.i < L.length := (List.getElem?_eq_some_iff.1 hp).1
      refine ⟨fun q hq => ?_, hs.2.1, hs.2.2.1, ?_⟩
      · rcases List.mem_cons.1 hq with rfl | hq
        · exact h.1 q (List.mem_of_getElem? hp)
        · exact h.1 q (List.mem_of_mem_eraseIdx hq)
      · have := hs.2.2.2
        simp only [List.length_cons, List.length_eraseIdx, if_pos hi] at this ⊢
        omega
  rw [if_neg d2]
  by_cases d3 : a.d = 3 ∨ a.d = 4
  · rw [if_pos d3]
    show OkS sw sh ((hideR L a.i (a.d == 3)).1, m) (k + 1)
    unfold hideR
    cases hp : L[plN L a.i]? with
    | none => exact hs
    | some p =>
      refine ⟨fun q hq => ?_, hs.2.1, hs.2.2.1, by have := hs.2.2.2; simpa using this⟩
      rcases List.mem_or_eq_of_mem_set hq with hq | rfl
      · exact h.1 q hq
      · exact h.1 p (List.mem_of_getElem? hp)
  rw [if_neg d3]
  by_cases d5 : a.d = 5
  · rw [if_pos d5]
    show OkS sw sh ((moveR sw sh L a.i a.r).1, m) (k + 1)
    unfold moveR
    cases hp : L[plN L a.i]? with
    | none => exact hs
    | some p =>
      simp only
      by_cases f : fitB sw sh a.r = true
      · rw [if_pos f]
        have hb := fit_bd f
        refine ⟨fun q hq => ?_, hs.2.1, hs.2.2.1, by have := hs.2.2.2; simpa using this⟩
        rcases List.mem_or_eq_of_mem_set hq with hq | rfl
        · exact h.1 q hq
        · have := h.1 p (List.mem_of_getElem? hp)
          unfold OkW at this ⊢
          simp only
          omega
      · rw [if_neg f]; exact hs
  rw [if_neg d5]
  exact hs

theorem playK_ok (sw sh : Int) (ac : Nat → Ac) : ∀ k, k ≤ 256 → OkS sw sh (playK sw sh ac k) k
  | 0, _ => ⟨fun p hp => (by cases hp), Int.le_refl _, Int.le_refl _, Int.le_refl _⟩
  | k + 1, h => play_ok (playK_ok sw sh ac k (by omega)) (by omega) (ac k)

/-- While acts are played: the stack, and the document's windows beside it. -/
structure PlIn (w0 : World) (q0 : Sm) (b : Nat) (v : Value) (xa : Option Addr) (xc : Nat) (sw sh m : Int) (L : List Wn) (wr : World) : Prop where
  stay : Stay q0.own w0 wr
  s : SAt wr ⟨b, v⟩ sw sh m L
  x : Ws wr xa L.length xc L
  own : ∀ j, (⟨b, v⟩ : Sm).own j → q0.own j ∨ w0.heap.size ≤ j
  xn : ∀ k, xa.map Addr.block = some k → w0.heap.size ≤ k ∧ ¬ (⟨b, v⟩ : Sm).own k

variable {w0 wr w1 : World} {q0 : Sm} {b xc xc2 : Nat} {v v2 : Value} {xa xa2 : Option Addr} {sw sh m m2 : Int} {L L2 : List Wn}

theorem PlIn.keep (H : PlIn w0 q0 b v xa xc sw sh m L wr) (hs : Stay (fun _ => False) wr w1) : PlIn w0 q0 b v xa xc sw sh m L w1 :=
  ⟨H.stay.trans (hs.mono (fun _ _ h => h.elim)), H.s.keep hs, H.x.keep hs, H.own, H.xn⟩

/-- The stack has turned. -/
theorem PlIn.moved (H : PlIn w0 q0 b v xa xc sw sh m L wr) (hs : SAt w1 ⟨b, v2⟩ sw sh m2 L2) (hm : SMoved ⟨b, v⟩ ⟨b, v2⟩ wr w1) :
    Stay q0.own w0 w1 ∧ SAt w1 ⟨b, v2⟩ sw sh m2 L2 ∧ Ws w1 xa L.length xc L ∧ (∀ j, (⟨b, v2⟩ : Sm).own j → q0.own j ∨ w0.heap.size ≤ j) ∧ (∀ k, xa.map Addr.block = some k → w0.heap.size ≤ k ∧ ¬ (⟨b, v2⟩ : Sm).own k) := by
  refine ⟨H.stay.trans2 hm.1 (fun j hj e => ?_), hs, H.x.stay hm.1 (fun k hk e => (H.xn k hk).2 e), fun j hj => ?_, fun k hk => ⟨(H.xn k hk).1, fun e => ?_⟩⟩
  · rcases H.own j e with h1 | h1
    · exact h1
    · omega
  · rcases hm.2 j hj with h1 | h1
    · exact H.own j h1
    · exact .inr (Nat.le_trans H.stay.size h1)
  · rcases hm.2 k e with h1 | h1
    · exact (H.xn k hk).2 h1
    · have := H.x.lt k hk
      omega

/-- The document's windows are new. -/
theorem PlIn.fresh (H : Stay q0.own w0 wr ∧ SAt wr ⟨b, v⟩ sw sh m L ∧ (∀ j, (⟨b, v⟩ : Sm).own j → q0.own j ∨ w0.heap.size ≤ j)) (hx : Ws w1 xa2 L.length xc2 L) (hs : Stay (fun _ => False) wr w1) (hn : ∀ k, xa2.map Addr.block = some k → wr.heap.size ≤ k) :
    PlIn w0 q0 b v xa2 xc2 sw sh m L w1 :=
  ⟨H.1.trans (hs.mono (fun _ _ h => h.elim)), H.2.1.keep hs, hx, H.2.2, fun k hk => ⟨Nat.le_trans H.1.size (hn k hk), fun e => by have := H.2.1.lt k e; have := hn k hk; omega⟩⟩

/-- The document's windows are written where they are. -/
theorem PlIn.wrote {g : Nat} (H : Stay q0.own w0 wr ∧ SAt wr ⟨b, v⟩ sw sh m L ∧ (∀ j, (⟨b, v⟩ : Sm).own j → q0.own j ∨ w0.heap.size ≤ j) ∧ (∀ k, (some ⟨g, 0, none⟩ : Option Addr).map Addr.block = some k → w0.heap.size ≤ k ∧ ¬ (⟨b, v⟩ : Sm).own k))
    (hx : Ws w1 (some ⟨g, 0, none⟩) L.length xc L) (hs : Stay (fun j => j = g) wr w1) : PlIn w0 q0 b v (some ⟨g, 0, none⟩) xc sw sh m L w1 :=
  ⟨H.1.trans2 hs (fun j hj e => by have := (H.2.2.2 g rfl).1; omega), H.2.1.stay hs (fun j hj e => by rw [e] at hj; exact (H.2.2.2 g rfl).2 hj), hx, H.2.2.1, H.2.2.2⟩

end Go.Proofs.Yticccknocjnkpaa

namespace Go.Proofs.Yticccknocjnkpaa
open Go.RowKit

/-- Cells behind writes. -/
def applyW (a h : Nat) (f : Nat → Cl) (N : List Wr) : Nat → Cl := N.foldl (fun f q => setF a h f q.x q.y q.cl) f

theorem applyW_snoc (a h : Nat) (f : Nat → Cl) (N : List Wr) (x y : Int) (c : Cl) : applyW a h f (N ++ [Wr.of x y c]) = setF a h (applyW a h f N) x y c := by
  unfold applyW
  rw [List.foldl_append]
  rfl

/-- Cells, one behind the other: what is written so far. -/
def cellsN (L : List Wn) (p : Wn) (x y : Int) (l : Nat → Cl) : Nat → List Wr
  | 0 => []
  | k + 1 => cellsN L p x y l k ++ if ownB L p (x + k) y = true then [Wr.of (p.x + x + k) (p.y + y) (l k)] else []

theorem cellsN_len (L : List Wn) (p : Wn) (x y : Int) (l : Nat → Cl) : ∀ k, (cellsN L p x y l k).length ≤ k
  | 0 => Nat.le_refl _
  | k + 1 => by
    have := cellsN_len L p x y l k
    show (_ ++ _ : List Wr).length ≤ k + 1
    rw [List.length_append]
    split <;> simp <;> omega

/-- .. if no number is too far. -/
def cellsA (L : List Wn) (p : Wn) (x y : Int) (l : Nat → Cl) (k : Nat) : List Wr := if (farB x || farB y) = true then [] else cellsN L p x y l k

theorem results_gi {fn : Func} {p t : Tmp} (h : fn.results = #[.cell p 35, .tmp t]) (tmps : Array Value) (w : World) (g : Nat) (r : G3) (n : Int) (hp : tmps.getD p undef = .pointer (some ⟨g, 0, none⟩)) (ht : tmps.getD t undef = .int .i64 n) (hb : BoxG w g r) :
    (results fn tmps).run Try.prog w = .ok (.tuple #[.agg #[.int .i64 r.w, .int .i64 r.h, r.l], .int .i64 n]) w := by
  have hp' : tmps[p]?.getD undef = .pointer (some ⟨g, 0, none⟩) := by simpa using hp
  have ht' : tmps[t]?.getD undef = .int .i64 n := by simpa using ht
  simp [results, h, hp', ht', asAddr, run_loadVar_cells w g 0 35 _ _ hb.cells Try.underlying35 rfl (by kernel_rfl)]

theorem wpList_exec {P : Program} {ops : Array Oper} {rest : List Oper} {o : Oper} {a : Act} {w : World} {Q : Exit → Act → World → Prop} {v : Value} (hgd : o.guard = none) (hr : (execOp a.eval o).run P w = .ok (.value v) w) (h : wpList P ops Q rest (a.put o.dst v) w) : wpList P ops Q (o :: rest) a w :=
  wpList_plain hgd fun _ hK => by
    unfold Oper.wp
    rw [hr]
    exact hK _ _ h

/-- While the document draws. -/
structure GIn (w0 : World) (A bp B : Nat) (p : Wn) (a h : Nat) (b0 : Nat) (wr : World) (q : Rf) (f : Nat → Cl) : Prop where
  stay : Stay (fun _ => False) w0 wr
  box : BoxG wr A q.g3
  ref : RefAt wr q f
  ew : q.w = a
  eh : q.h = h
  ne : q.b ≠ A ∧ q.b ≠ B
  old : q.b = b0 ∨ w0.heap.size ≤ q.b
  win : NBox wr bp p
  res : BoxG wr B ⟨0, 0, .slice none 0 0⟩
  new : w0.heap.size ≤ A ∧ w0.heap.size ≤ B ∧ A ≠ B ∧ bp ≠ A

variable {w0 w1 w2 wr : World} {A bp B a h b0 : Nat} {p : Wn} {q q2 : Rf} {f g : Nat → Cl}

theorem GIn.keep (H : GIn w0 A bp B p a h b0 wr q f) (hs : Stay (fun _ => False) wr w1) : GIn w0 A bp B p a h b0 w1 q f :=
  ⟨H.stay.trans hs, H.box.keep hs, H.ref.keep hs, H.ew, H.eh, H.ne, H.old, H.win.keep hs, H.res.keep hs, H.new⟩

/-- Another grid is laid into the box. -/
theorem GIn.put (H : GIn w0 A bp B p a h b0 wr q f) (hr : RefAt wr q2 g) (hw : q2.w = a) (hh : q2.h = h) (hn : A < q2.b ∧ B < q2.b) :
    GIn w0 A bp B p a h b0 (((wr.setCell ⟨A, 0, none⟩ (.int .i64 q2.g3.w)).setCell ⟨A, 1, none⟩ (.int .i64 q2.g3.h)).setCell ⟨A, 2, none⟩ q2.g3.l) q2 g := by
  have hs : Stay (fun j => j = A) wr (((wr.setCell ⟨A, 0, none⟩ (.int .i64 q2.g3.w)).setCell ⟨A, 1, none⟩ (.int .i64 q2.g3.h)).setCell ⟨A, 2, none⟩ q2.g3.l) :=
    (((Stay.refl (fun j => j = A) wr).setCell (p := ⟨A, 0, none⟩) rfl _).setCell (p := ⟨A, 1, none⟩) rfl _).setCell (p := ⟨A, 2, none⟩) rfl _
  exact ⟨BoxG.stay_put H.stay H.new.1 _ _ _, H.box.put q2.g3, hr.stay hs (by omega), hw, hh, ⟨by omega, by omega⟩, .inr (by have := H.new.1; omega), H.win.stay hs H.new.2.2.2, H.res.stay hs (fun e => H.new.2.2.1 e.symm), H.new⟩

theorem GIn.put4 {q1 : Rf} {x y : Int} {c : Cl} {w4 : World} (H : GIn w0 A bp B p a h b0 wr q f) (hr : RefAt wr q2 (setF q1.w q1.h g x y c)) (he : q1.w = a ∧ q1.h = h) (hn : q2.w = a ∧ q2.h = h ∧ A < q2.b ∧ B < q2.b) (hw : w4 = wr.setCells A 0 (#[.int .i64 q2.g3.w, .int .i64 q2.g3.h, q2.g3.l] : Array Value).toList) :
    GIn w0 A bp B p a h b0 w4 q2 (setF a h g x y c) := by
  rw [he.1, he.2] at hr
  rw [hw]
  exact H.put hr hn.1 hn.2.1 hn.2.2

theorem GIn.lts (H : GIn w0 A bp B p a h b0 wr q f) : A < wr.heap.size ∧ B < wr.heap.size := ⟨World.block_lt_of_cell? _ _ H.box.1, World.block_lt_of_cell? _ _ H.res.1⟩

/-- What comes of drawing: a grid, how many cells were written. -/
def DrewG (a h b0 : Nat) (f : Nat → Cl) (N : List Wr) (w : World) (e : Ending) (w' : World) : Prop :=
  ∃ q : Rf, e = .returned (.tuple #[.agg #[.int .i64 q.g3.w, .int .i64 q.g3.h, q.g3.l], .int .i64 (N.length : Nat)]) ∧ Stay (fun _ => False) w w' ∧ RefAt w' q (applyW a h f N) ∧ q.w = a ∧ q.h = h ∧ (q.b = b0 ∨ w.heap.size ≤ q.b)

/-- Cells that can be read. -/
def CRd (w : World) (la : Option Addr) (n : Nat) (l : Nat → Cl) : Prop := ∀ i, i < n → ∃ g o, la = some ⟨g, o, none⟩ ∧ BoxCAt w g (o + i * 4) (l i)

theorem CRd.keep {w w1 : World} {la : Option Addr} {n : Nat} {l : Nat → Cl} (h : CRd w la n l) (hs : Stay (fun _ => False) w w1) : CRd w1 la n l := fun i hi => by
  obtain ⟨g, o, e, hb⟩ := h i hi
  exact ⟨g, o, e, hb.keep hs⟩

theorem boxG_there {w : World} {b : Nat} {r : G3} (h : BoxG w b r) : w.there b 0 3 := fun j hj => by
  obtain ⟨h0, h1, h2, k0, k1, k2⟩ := h
  rw [Nat.zero_add]
  match j, hj with
  | 0, _ => exact ⟨by rw [h0]; rfl, k0⟩
  | 1, _ => exact ⟨by rw [h1]; rfl, k1⟩
  | 2, _ => exact ⟨by rw [h2]; rfl, k2⟩

theorem boxCAt_stay {T : Nat → Prop} {w w1 : World} {g o : Nat} {c : Cl} (h : BoxCAt w g o c) (hs : Stay T w w1) (hn : ¬ T g) : BoxCAt w1 g o c := by
  have hb : g < w.heap.size := World.block_lt_of_cell? _ _ h.c0
  have c' : ∀ o, w1.cell? ⟨g, o, none⟩ = w.cell? ⟨g, o, none⟩ := fun o => hs.cell (p := ⟨g, o, none⟩) hb hn
  exact ⟨(c' _).trans h.c0, (c' _).trans h.c1, (c' _).trans h.c2, (c' _).trans h.c3⟩

set_option maxHeartbeats 4000000 in
theorem cells33 (q : Rf) (f : Nat → Cl) (sa : Option Addr) (sn sc : Nat) (L : List Wn) (p : Wn) (x y : Int) (la : Option Addr) (n lc : Nat) (l : Nat → Cl) (w : World) (hq : RefAt w q f) (hr : Rds w sa L) (hsn : L.length = sn) (hsm : sn ≤ 256) (hok : ∀ p ∈ L, OkP p) (hp : OkP p)
    (hl : CRd w la n l) (hn : n ≤ 1000) (_hx : I64 x) (_hy : I64 y) :
    Calls Try.prog 33 #[.agg #[.int .i64 q.g3.w, .int .i64 q.g3.h, q.g3.l], .slice sa sn sc, .agg #[.int .i64 p.id, .int .i64 p.env, .int .i64 p.x, .int .i64 p.y, .int .i64 p.w, .int .i64 p.h, .bool p.hid], .int .i64 x, .int .i64 y, .slice la n lc] w (DrewG q.w q.h q.b f (cellsA L p x y l n) w) := by
  obtain ⟨W0, hW0⟩ : ∃ W, W = ((w.alloc (.cells #[.int .i64 q.g3.w, .int .i64 q.g3.h, q.g3.l] 35)).alloc (.cells #[.int .i64 p.id, .int .i64 p.env, .int .i64 p.x, .int .i64 p.y, .int .i64 p.w, .int .i64 p.h, .bool p.hid] 78)).alloc (.cells #[.int .i64 0, .int .i64 0, .slice none 0 0] 35) := ⟨_, rfl⟩
  obtain ⟨A, hA⟩ : ∃ b, b = w.heap.size := ⟨_, rfl⟩
  obtain ⟨bp, hbp⟩ : ∃ b, b = A + 1 := ⟨_, rfl⟩
  obtain ⟨B, hB⟩ : ∃ b, b = bp + 1 := ⟨_, rfl⟩
  obtain ⟨a, ha⟩ : ∃ a, a = q.w := ⟨_, rfl⟩
  obtain ⟨h, hh⟩ : ∃ h, h = q.h := ⟨_, rfl⟩
  obtain ⟨b0, hb0⟩ : ∃ b, b = q.b := ⟨_, rfl⟩
  have hst0 : Stay (fun _ => False) w W0 := by rw [hW0]; exact (((Stay.refl _ _).alloc _).alloc _).alloc _
  have hqlt := hq.lt
  have hG0 : GIn w A bp B p a h b0 W0 q f := ⟨hst0, by rw [hW0]; exact (((BoxG.new q.g3 hA.symm).alloc _).alloc _), hq.keep hst0, ha.symm, hh.symm, ⟨by omega, by omega⟩, .inl hb0.symm,
    by rw [hW0]; exact ((NBox.new p (by rw [hbp, hA]; simp)).alloc _), by rw [hW0]; exact BoxG.new ⟨0, 0, .slice none 0 0⟩ (by rw [hB, hbp, hA]; simp), ⟨by omega, by omega, by omega, by omega⟩⟩
  obtain ⟨fx, hfx⟩ : ∃ c, c = farB x := ⟨_, rfl⟩
  obtain ⟨fy, hfy⟩ : ∃ c, c = farB y := ⟨_, rfl⟩
  obtain ⟨N, hN⟩ : ∃ N : Nat → List Wr, N = fun k => if (fx || fy) = true then [] else cellsN L p x y l k := ⟨_, rfl⟩
  have HNR : Hid (cellsA L p x y l n = N n) := hide' (by rw [hN, hfx, hfy]; rfl)
  have HG0 : Hid (∃ q, GIn w A bp B p a h b0 W0 q (applyW a h f (N 0))) := hide' ⟨q, by
    have e : N 0 = [] := by rw [hN]; show (if _ then _ else _) = _; split <;> rfl
    rw [e]; exact hG0⟩
  have HNL : Hid (∀ k, (N k).length ≤ k) := hide' (fun k => by
    rw [hN]
    show (if _ then _ else _ : List Wr).length ≤ k
    split
    · exact Nat.zero_le _
    · exact cellsN_len _ _ _ _ _ _)
  have HNS : Hid (∀ k, (fx || fy) = false → N (k + 1) = N k ++ if ownB L p (x + k) y = true then [Wr.of (p.x + x + k) (p.y + y) (l k)] else []) := hide' (fun k e => by
    rw [hN]
    show (if _ then _ else _ : List Wr) = (if _ then _ else _ : List Wr) ++ _
    rw [if_neg (by rw [e]; decide), if_neg (by rw [e]; decide)]
    rfl)
  have HNF : Hid ((fx || fy) = true → ∀ k, N k = N n) := hide' (fun e k => by
    rw [hN]
    show (if _ then _ else _ : List Wr) = (if _ then _ else _ : List Wr)
    rw [if_pos e, if_pos e])
  have HFX := hide' (far55 x)
  have HFY := hide' (far55 y)
  rw [← hfx] at HFX
  rw [← hfy] at HFY
  have HXB : Hid (fx = false → -1073741824 ≤ x ∧ x ≤ 1073741824) := hide' (fun e => by
    rw [hfx] at e
    unfold farB at e
    simp only [Bool.or_eq_false_iff, decide_eq_false_iff_not] at e
    omega)
  have HYB : Hid (fy = false → -1073741824 ≤ y ∧ y ≤ 1073741824) := hide' (fun e => by
    rw [hfy] at e
    unfold farB at e
    simp only [Bool.or_eq_false_iff, decide_eq_false_iff_not] at e
    omega)
  have HOW := hide' (fun (k : Nat) W (hs : Stay (fun _ => False) w W) => own56 sa sn sc L p (x + k) y W (hr.keep hs) hsn hsm hok hp)
  have HLR := hide' hl
  have HNA : Hid (∀ i, i < n → ∀ g o, la = some ⟨g, o, none⟩ → g ≠ A) := hide' (fun i hi g o e => by
    obtain ⟨g', o', e', hb⟩ := hl i hi
    rw [e] at e'
    cases e'
    have := World.block_lt_of_cell? _ _ hb.c0
    simp only at this
    omega)
  have HPB := hide' hp
  have hnz : (n : Int) ≤ 1000 := by omega
  rw [← ha, ← hh, ← hb0, HNR.out]
  clear hst0 hG0 hN hfx hfy hr hsn hsm hok hp hl hq _hx _hy hqlt hn
  go_enter Try.func33, Try.ntmps33
  go_upto_region 1 with fail
  rw [← hW0, ← hA]
  rw [← hbp, ← hB]
  clear hW0 hA hbp hB ha hh hb0
  go_wp2
  go_loopg [14, 15] n (fun gg v14 v15 wr => ∃ k : Nat, k ≤ n ∧ gg = n - k ∧ v14 = .int .i64 ((N k).length : Nat) ∧ v15 = .int .i64 (k : Int) ∧ Hid (∃ q, GIn w A bp B p a h b0 wr q (applyW a h f (N k))))
  case atStart => exact ⟨0, Nat.zero_le _, rfl, by rw [List.eq_nil_of_length_eq_zero (Nat.le_zero.1 (HNL.out 0))]; rfl, rfl, HG0⟩
  case round =>
    clear HG0
    obtain ⟨k, hkn, rfl, rfl, rfl, HG⟩ := hrel
    obtain ⟨q1, hG1⟩ := HG.out
    have HGQ := hide' hG1
    obtain ⟨f1, hf1⟩ : ∃ f1, f1 = applyW a h f (N k) := ⟨_, rfl⟩
    rw [← hf1] at HGQ
    have HF1 := hide' hf1
    obtain ⟨m, hm⟩ : ∃ m, m = (N k).length := ⟨_, rfl⟩
    have hm1 := HNL.out k
    rw [← hm] at hm1
    rw [← hm]
    have HM := hide' hm
    have hmz : (m : Int) ≤ 1000 := by omega
    clear hG1 hf1 hm HG
    by_cases hlt : k < n
    · have kn : (k : Int) < (n : Nat) := by omega
      go_wp2_with fail
      refine (HFX.out _).mono ?_
      rintro _ wa ⟨rfl, hs⟩
      have HGA := hide' (HGQ.out.keep hs)
      clear hs HGQ
      cases fx
      · go_wp2_with fail
        refine (HFY.out _).mono ?_
        rintro _ wb ⟨rfl, hs⟩
        have HGB := hide' (HGA.out.keep hs)
        clear hs HGA
        cases fy
        · have hxb := HXB.out (by first | rfl | trivial)
          have hyb := HYB.out (by first | rfl | trivial)
          have hwk : IntKind.i64.wrap (x + (k : Int)) = x + (k : Int) := by rw [IntKind.wrap_i64]; omega
          obtain ⟨m0, m1, m2, m3, m4, m5, m6, _⟩ := HGB.out.win
          obtain ⟨bo, hbo⟩ : ∃ c, c = ownB L p (x + k) y := ⟨_, rfl⟩
          have HOK := hide' (HOW.out k)
          rw [← hbo] at HOK
          have HST := hide' (HNS.out k (by first | rfl | trivial))
          rw [← hbo] at HST
          clear hbo
          go_wp2_with fail
          refine (HOK.out _ HGB.out.stay).mono ?_
          rintro _ wc ⟨rfl, hs⟩
          have HGC := hide' (HGB.out.keep hs)
          clear hs HGB HOK m0 m1 m2 m3 m4 m5 m6
          cases bo
          · have HNX : Hid (N (k + 1) = N k) := hide' (by rw [HST.out]; simp)
            have HGN : Hid (∃ q, GIn w A bp B p a h b0 wc q (applyW a h f (N (k + 1)))) := hide' ⟨q1, by rw [HNX.out, ← HF1.out]; exact HGC.out⟩
            have HML : Hid ((m : Nat) = (N (k + 1)).length) := hide' (by rw [HNX.out]; exact HM.out)
            clear HST HGC
            go_wp2
            go_roundg (n - (k + 1))
            case measure => omega
            case rel => exact ⟨k + 1, by omega, rfl, by rw [← HML.out], by go_num, HGN⟩
          · obtain ⟨c, hc⟩ : ∃ c, c = l k := ⟨_, rfl⟩
            obtain ⟨lg, lo, e, hb⟩ := (HLR.out.keep HGC.out.stay) k hlt
            subst e
            rw [← hc] at hb
            have HLA : Hid (¬ lg = A) := hide' (HNA.out k hlt lg lo rfl)
            have hpb := HPB.out
            unfold OkP at hpb
            have hw1 : IntKind.i64.wrap (p.x + x) = p.x + x := by rw [IntKind.wrap_i64]; omega
            have hw2 : IntKind.i64.wrap (p.x + x + (k : Int)) = p.x + x + (k : Int) := by rw [IntKind.wrap_i64]; omega
            have hw3 : IntKind.i64.wrap (p.y + y) = p.y + y := by rw [IntKind.wrap_i64]; omega
            have HST2 : Hid (N (k + 1) = N k ++ [Wr.of (p.x + x + k) (p.y + y) c]) := hide' (by rw [HST.out, hc]; rfl)
            obtain ⟨q, hq⟩ : ∃ q, q = q1 := ⟨_, rfl⟩
            obtain ⟨f, hff⟩ : ∃ f, f = f1 := ⟨_, rfl⟩
            rw [← hq, ← hff] at HGC
            obtain ⟨wz, hwz⟩ : ∃ W, W = wc.drew := ⟨_, rfl⟩
            have hsz : Stay (fun _ => False) wc wz := by rw [hwz]; exact (Stay.refl _ _).drew
            have HGZ := hide' (HGC.out.keep hsz)
            have HSZ : Hid ((fun w' => NBox w' bp p ∧ BoxCAt w' lg (lo + k * 4) c ∧ Stay (fun j => j = A) wz w') wz) := hide' ⟨HGZ.out.win, hb.keep hsz, Stay.refl _ _⟩
            have hS : (fun w' => NBox w' bp p ∧ BoxCAt w' lg (lo + k * 4) c ∧ Stay (fun j => j = A) wz w') wc.drew := by rw [← hwz]; exact HSZ.out
            have HFF := hide' hff
            clear hb hc hq hff hsz HGC HST hpb
            go_upto_region 6 with fail
            refine wp_region_mix (fun w' => NBox w' bp p ∧ BoxCAt w' lg (lo + k * 4) c ∧ Stay (fun j => j = A) wz w') [(1, true), (2, true), (3, true), (4, true), (5, true), (6, true), (7, true), (8, true), (9, true), (10, true), (11, true), (12, true), (13, true), (14, true), (15, true), (16, true), (0, false), (17, false), (18, false)] (by kernel_rfl) (by kernel_rfl) (fun _ d _ _ _ h => by cases d <;> exact h) hS ?_
            refine mix_begin (fun K0 hK0 => ?_)
            refine mix_take hK0 (some 40) (.fieldAddr 78 (.tmp 8) 2) 0 _ (by kernel_rfl) (by kernel_rfl) (fun w' hS' => by (obtain ⟨m, mm, _⟩ := hS'; obtain ⟨m0, m1, m2, m3, m4, m5, m6, _⟩ := m; simp only [opr]; go_simp; try with_reducible rfl)) (fun K1 hK1 => ?_)
            clear hK0 K0
            simp only [Act.put, List.setIfInBounds_toArray, List.set_cons_zero, List.set_cons_succ]
            refine mix_take hK1 (some 41) (.fieldAddr 41 (.tmp 40) 0) 0 _ (by kernel_rfl) (by kernel_rfl) (fun w' hS' => by (obtain ⟨m, mm, _⟩ := hS'; obtain ⟨m0, m1, m2, m3, m4, m5, m6, _⟩ := m; simp only [opr]; go_simp; try with_reducible rfl)) (fun K2 hK2 => ?_)
            clear hK1 K1
            simp only [Act.put, List.setIfInBounds_toArray, List.set_cons_zero, List.set_cons_succ]
            refine mix_take hK2 (some 42) (.load 3 (.tmp 41)) 3 _ (by kernel_rfl) (by kernel_rfl) (fun w' hS' => by (obtain ⟨m, mm, _⟩ := hS'; obtain ⟨m0, m1, m2, m3, m4, m5, m6, _⟩ := m; simp only [opr]; go_simp; try with_reducible rfl)) (fun K3 hK3 => ?_)
            clear hK2 K2
            simp only [Act.put, List.setIfInBounds_toArray, List.set_cons_zero, List.set_cons_succ]
            refine mix_take hK3 (some 43) (.move (.tmp 3)) 3 _ (by kernel_rfl) (by kernel_rfl) (fun w' hS' => by (obtain ⟨m, mm, _⟩ := hS'; obtain ⟨m0, m1, m2, m3, m4, m5, m6, _⟩ := m; simp only [opr]; go_simp; try with_reducible rfl)) (fun K4 hK4 => ?_)
            clear hK3 K3
            simp only [Act.put, List.setIfInBounds_toArray, List.set_cons_zero, List.set_cons_succ]
            refine mix_take hK4 (some 44) (.binOp BinOp.add 3 (.tmp 42) (.tmp 43) 3) 3 _ (by kernel_rfl) (by kernel_rfl) (fun w' hS' => by (obtain ⟨m, mm, _⟩ := hS'; obtain ⟨m0, m1, m2, m3, m4, m5, m6, _⟩ := m; simp only [opr]; go_simp; try with_reducible rfl)) (fun K5 hK5 => ?_)
            clear hK4 K4
            simp only [Act.put, List.setIfInBounds_toArray, List.set_cons_zero, List.set_cons_succ]
            refine mix_take hK5 (some 45) (.move (.tmp 15)) 3 _ (by kernel_rfl) (by kernel_rfl) (fun w' hS' => by (obtain ⟨m, mm, _⟩ := hS'; obtain ⟨m0, m1, m2, m3, m4, m5, m6, _⟩ := m; simp only [opr]; go_simp; try with_reducible rfl)) (fun K6 hK6 => ?_)
            clear hK5 K5
            simp only [Act.put, List.setIfInBounds_toArray, List.set_cons_zero, List.set_cons_succ]
            refine mix_take hK6 (some 46) (.binOp BinOp.add 3 (.tmp 44) (.tmp 45) 3) 3 _ (by kernel_rfl) (by kernel_rfl) (fun w' hS' => by (obtain ⟨m, mm, _⟩ := hS'; obtain ⟨m0, m1, m2, m3, m4, m5, m6, _⟩ := m; simp only [opr]; go_simp; try with_reducible rfl)) (fun K7 hK7 => ?_)
            clear hK6 K6
            simp only [Act.put, List.setIfInBounds_toArray, List.set_cons_zero, List.set_cons_succ]
            refine mix_take hK7 (some 47) (.fieldAddr 78 (.tmp 8) 2) 0 _ (by kernel_rfl) (by kernel_rfl) (fun w' hS' => by (obtain ⟨m, mm, _⟩ := hS'; obtain ⟨m0, m1, m2, m3, m4, m5, m6, _⟩ := m; simp only [opr]; go_simp; try with_reducible rfl)) (fun K8 hK8 => ?_)
            clear hK7 K7
            simp only [Act.put, List.setIfInBounds_toArray, List.set_cons_zero, List.set_cons_succ]
            refine mix_take hK8 (some 48) (.fieldAddr 41 (.tmp 47) 1) 0 _ (by kernel_rfl) (by kernel_rfl) (fun w' hS' => by (obtain ⟨m, mm, _⟩ := hS'; obtain ⟨m0, m1, m2, m3, m4, m5, m6, _⟩ := m; simp only [opr]; go_simp; try with_reducible rfl)) (fun K9 hK9 => ?_)
            clear hK8 K8
            simp only [Act.put, List.setIfInBounds_toArray, List.set_cons_zero, List.set_cons_succ]
            refine mix_take hK9 (some 49) (.load 3 (.tmp 48)) 3 _ (by kernel_rfl) (by kernel_rfl) (fun w' hS' => by (obtain ⟨m, mm, _⟩ := hS'; obtain ⟨m0, m1, m2, m3, m4, m5, m6, _⟩ := m; simp only [opr]; go_simp; try with_reducible rfl)) (fun K10 hK10 => ?_)
            clear hK9 K9
            simp only [Act.put, List.setIfInBounds_toArray, List.set_cons_zero, List.set_cons_succ]
            refine mix_take hK10 (some 50) (.move (.tmp 4)) 3 _ (by kernel_rfl) (by kernel_rfl) (fun w' hS' => by (obtain ⟨m, mm, _⟩ := hS'; obtain ⟨m0, m1, m2, m3, m4, m5, m6, _⟩ := m; simp only [opr]; go_simp; try with_reducible rfl)) (fun K11 hK11 => ?_)
            clear hK10 K10
            simp only [Act.put, List.setIfInBounds_toArray, List.set_cons_zero, List.set_cons_succ]
            refine mix_take hK11 (some 51) (.binOp BinOp.add 3 (.tmp 49) (.tmp 50) 3) 3 _ (by kernel_rfl) (by kernel_rfl) (fun w' hS' => by (obtain ⟨m, mm, _⟩ := hS'; obtain ⟨m0, m1, m2, m3, m4, m5, m6, _⟩ := m; simp only [opr]; go_simp; try with_reducible rfl)) (fun K12 hK12 => ?_)
            clear hK11 K11
            simp only [Act.put, List.setIfInBounds_toArray, List.set_cons_zero, List.set_cons_succ]
            refine mix_take hK12 (some 52) (.move (.tmp 5)) 33 _ (by kernel_rfl) (by kernel_rfl) (fun w' hS' => by (obtain ⟨m, mm, _⟩ := hS'; obtain ⟨m0, m1, m2, m3, m4, m5, m6, _⟩ := m; simp only [opr]; go_simp; try with_reducible rfl)) (fun K13 hK13 => ?_)
            clear hK12 K12
            simp only [Act.put, List.setIfInBounds_toArray, List.set_cons_zero, List.set_cons_succ]
            refine mix_take hK13 (some 53) (.move (.tmp 15)) 3 _ (by kernel_rfl) (by kernel_rfl) (fun w' hS' => by (obtain ⟨m, mm, _⟩ := hS'; obtain ⟨m0, m1, m2, m3, m4, m5, m6, _⟩ := m; simp only [opr]; go_simp; try with_reducible rfl)) (fun K14 hK14 => ?_)
            clear hK13 K13
            simp only [Act.put, List.setIfInBounds_toArray, List.set_cons_zero, List.set_cons_succ]
            refine mix_take hK14 (some 54) (.indexAddr 33 (.tmp 52) (.tmp 53)) 0 _ (by kernel_rfl) (by kernel_rfl) (fun w' hS' => by (have kn := kn; simp only [opr]; go_simp; try with_reducible rfl)) (fun K15 hK15 => ?_)
            clear hK14 K14
            simp only [Act.put, List.setIfInBounds_toArray, List.set_cons_zero, List.set_cons_succ]
            refine mix_take hK15 (some 55) (.load 53 (.tmp 54)) 53 _ (by kernel_rfl) (by kernel_rfl) (fun w' hS' => by exact run_load_BoxCAt rfl rfl hS'.2.1) (fun K16 hK16 => ?_)
            clear hK15 K15
            simp only [Act.put, List.setIfInBounds_toArray, List.set_cons_zero, List.set_cons_succ]
            refine mix_chain hK16 (fun K16c hK16c => ?_)
            clear hK16 K16
            refine op_plain (some 39) (.load 35 (.tmp 6)) 35 (by kernel_rfl) (by kernel_rfl) ?_
            rw [← hwz]
            clear hwz
            refine wpList_exec rfl (run_load_BoxG rfl rfl HGZ.out.box) ?_
            refine wpList_nil ?_
            refine hK16c _ _ HSZ.out (mix_begin fun K17 hK17 => ?_)
            clear hK16c K16c
            try simp only [Act.put, List.setIfInBounds_toArray, List.set_cons_zero, List.set_cons_succ]
            refine mix_chain hK17 (fun K17c hK17c => ?_)
            clear hK17 K17
            refine op_plain (some 56) (.call { callee := Callee.value (.func 57), args := #[.tmp 39, .tmp 46, .tmp 51, .tmp 55], argTypes := #[35, 3, 3, 53] }) 35 (by kernel_rfl) (by kernel_rfl) ?_
            go_wp2_with fail
            refine (refSet57 q f (p.x + x + k) (p.y + y) c wz HGZ.out.ref).mono ?_
            rintro _ w3 ⟨q2, rfl, hs3, hr3, hw3, hh3, hn3⟩
            have HG3 := hide' (HGZ.out.keep hs3)
            have HR3 := hide' hr3
            have HN3 := hide' (show q2.w = a ∧ q2.h = h ∧ A < q2.b ∧ B < q2.b from ⟨hw3.trans HGZ.out.ew, hh3.trans HGZ.out.eh, Nat.lt_of_lt_of_le HGZ.out.lts.1 hn3, Nat.lt_of_lt_of_le HGZ.out.lts.2 hn3⟩)
            have HE3 := hide' (show q.w = a ∧ q.h = h from ⟨HGZ.out.ew, HGZ.out.eh⟩)
            have hS3 : (fun w' => NBox w' bp p ∧ BoxCAt w' lg (lo + k * 4) c ∧ Stay (fun j => j = A) wz w') w3 := ⟨HSZ.out.1.keep hs3, HSZ.out.2.1.keep hs3, HSZ.out.2.2.trans (stay_any hs3)⟩
            clear hs3 hr3 hw3 hh3 hn3
            go_wp2
            have HTH3 : Hid (w3.there A 0 3) := hide' (boxG_there HG3.out.box)
            refine hK17c _ _ hS3 (mix_begin fun K18 hK18 => ?_)
            clear hK17c K17c
            try simp only [Act.put, List.setIfInBounds_toArray, List.set_cons_zero, List.set_cons_succ]
            refine mix_chain hK18 (fun K18c hK18c => ?_)
            clear hK18 K18
            refine op_plain none (.store 35 (.tmp 6) (.tmp 56)) 0 (by kernel_rfl) (by kernel_rfl) ?_
            refine wpList_store_mid rfl 35 (.tmp 6) (.tmp 56) rfl A 0 #[.int .i64 q2.g3.w, .int .i64 q2.g3.h, q2.g3.l] rfl rfl HTH3.out (by kernel_rfl) (by simp [Value.oneCell', Rf.g3]) ?_
            refine wpList_nil ?_
            obtain ⟨w4, hw4⟩ : ∃ W, W = w3.setCells A 0 (#[.int .i64 q2.g3.w, .int .i64 q2.g3.h, q2.g3.l] : Array Value).toList := ⟨_, rfl⟩
            rw [← hw4]
            have HG4 := hide' (HG3.out.put4 HR3.out HE3.out HN3.out hw4)
            have hst4 : Stay (fun j => j = A) w3 w4 := by rw [hw4]; exact (Stay.refl (fun j => j = A) w3).setCells A _ 0 rfl
            have hS4 : (fun w' => NBox w' bp p ∧ BoxCAt w' lg (lo + k * 4) c ∧ Stay (fun j => j = A) wz w') w4 := ⟨HG4.out.win, boxCAt_stay hS3.2.1 hst4 HLA.out, hS3.2.2.trans hst4⟩
            clear hw4 hst4
            refine hK18c _ _ hS4 (mix_begin fun K19 hK19 => ?_)
            clear hK18c K18c
            try simp only [Act.put]
            refine hK19 _ _ (mix_nil ?_)
            clear hK19 K19
            have HLN : Hid ((N (k + 1)).length = m + 1) := hide' (by rw [HST2.out, List.length_append, ← HM.out]; rfl)
            have HGN : Hid (∃ q, GIn w A bp B p a h b0 w4 q (applyW a h _ (N (k + 1)))) := hide' ⟨q2, by rw [HST2.out, applyW_snoc, ← HF1.out, ← HFF.out]; exact HG4.out⟩
            clear hS4 HG4 HST2
            go_wp2
            go_roundg (n - (k + 1))
            case measure => omega
            case rel => exact ⟨k + 1, by omega, rfl, by rw [HLN.out]; go_num, by go_num, HGN⟩
        · have HFN := hide' (HNF.out (by first | rfl | trivial | simp) k)
          obtain ⟨z0, z1, z2, _⟩ := HGB.out.box
          obtain ⟨_, _, _, y0, y1, y2⟩ := HGB.out.res
          have hgl : q1.g3.l = .slice (some ⟨q1.b, 0, none⟩) q1.n q1.cap := rfl
          have HMN : Hid ((m : Nat) = (N n).length) := hide' (by rw [← HFN.out]; exact HM.out)
          go_wp2
          refine bodyPost_ret (results_gi rfl _ _ B q1.g3 (m : Nat) rfl rfl (HGB.out.res.put q1.g3)) rfl ⟨q1, by rw [HMN.out], BoxG.stay_put HGB.out.stay HGB.out.new.2.1 _ _ _, ?_, HGB.out.ew, HGB.out.eh, HGB.out.old⟩
          rw [← HFN.out, ← HF1.out]
          exact HGB.out.ref.stay ((((Stay.refl (fun j => j = B) wb).setCell (p := ⟨B, 0, none⟩) rfl _).setCell (p := ⟨B, 1, none⟩) rfl _).setCell (p := ⟨B, 2, none⟩) rfl _) HGB.out.ne.2
      · have HFN := hide' (HNF.out (by first | rfl | trivial | simp) k)
        have HGB := HGA
        obtain ⟨z0, z1, z2, _⟩ := HGB.out.box
        obtain ⟨_, _, _, y0, y1, y2⟩ := HGB.out.res
        have hgl : q1.g3.l = .slice (some ⟨q1.b, 0, none⟩) q1.n q1.cap := rfl
        have HMN : Hid ((m : Nat) = (N n).length) := hide' (by rw [← HFN.out]; exact HM.out)
        go_wp2
        refine bodyPost_ret (results_gi rfl _ _ B q1.g3 (m : Nat) rfl rfl (HGB.out.res.put q1.g3)) rfl ⟨q1, by rw [HMN.out], BoxG.stay_put HGB.out.stay HGB.out.new.2.1 _ _ _, ?_, HGB.out.ew, HGB.out.eh, HGB.out.old⟩
        rw [← HFN.out, ← HF1.out]
        exact HGB.out.ref.stay ((((Stay.refl (fun j => j = B) wa).setCell (p := ⟨B, 0, none⟩) rfl _).setCell (p := ⟨B, 1, none⟩) rfl _).setCell (p := ⟨B, 2, none⟩) rfl _) HGB.out.ne.2
    · have hkn' : k = n := by omega
      subst hkn'
      have HGB := HGQ
      obtain ⟨z0, z1, z2, _⟩ := HGB.out.box
      obtain ⟨_, _, _, y0, y1, y2⟩ := HGB.out.res
      have hgl : q1.g3.l = .slice (some ⟨q1.b, 0, none⟩) q1.n q1.cap := rfl
      go_wp2
      refine bodyPost_ret (results_gi rfl _ _ B q1.g3 (m : Nat) rfl rfl (HGB.out.res.put q1.g3)) rfl ⟨q1, by rw [HM.out], BoxG.stay_put HGB.out.stay HGB.out.new.2.1 _ _ _, ?_, HGB.out.ew, HGB.out.eh, HGB.out.old⟩
      rw [← HF1.out]
      exact HGB.out.ref.stay ((((Stay.refl (fun j => j = B) wr).setCell (p := ⟨B, 0, none⟩) rfl _).setCell (p := ⟨B, 1, none⟩) rfl _).setCell (p := ⟨B, 2, none⟩) rfl _) HGB.out.ne.2

end Go.Proofs.Yticccknocjnkpaa
