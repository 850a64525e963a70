/-
  What drawing does; a drawing is done: walked. No conditions.
  The view of a window: walked. No conditions.
-/
import Derived.Test.YticccknocjnkpaaGA
import Derived.Test.YticccknocjnkpaaY5
import Derived.Test.YticccknocjnkpaaG9
import Derived.Deep.MidRow
namespace Go.Proofs.Yticccknocjnkpaa
open Go.RowKit

/-- What is written into a window, if there is such a one. -/
def drawn (L : List Wn) (id : Int) (g : Wn → List Wr) : List Wr := match L[plN L id]? with | some p => g p | none => []

/-- What is wrong. -/
def errW (L : List Wn) (id : Int) : Int := match L[plN L id]? with | some _ => 0 | none => 5

/-- What a frame is behind a drawing. -/
def DrewS (fq : Fm) (f : Nat → Cl) (N M : List Wr) (er : Int) (w : World) (e : Ending) (w' : World) : Prop :=
  ∃ v, e = .returned (.tuple #[.int .i64 (M.length : Nat), .int .i64 er]) ∧ FAt w' (fq.with v) (applyW fq.G.w fq.G.h f M) (N ++ M) ∧ Moved fq (fq.with v) w w'

/-- A frame and a stack of one size, beside each other. -/
structure Pair (w : World) (fq : Fm) (f : Nat → Cl) (N : List Wr) (sq : Sm) (sw sh : Nat) (m : Int) (L : List Wn) : Prop where
  fa : FAt w fq f N
  sa : SAt w sq sw sh m L
  dj : ∀ j, fq.own j → ¬ sq.own j
  ew : fq.G.w = sw
  eh : fq.G.h = sh
  ok : ∀ p ∈ L, OkW sw sh p
  bd : sw ≤ 512 ∧ sh ≤ 512
  nl : N.length ≤ 10000

theorem Pair.keep {w w1 : World} {fq : Fm} {f : Nat → Cl} {N : List Wr} {sq : Sm} {sw sh : Nat} {m : Int} {L : List Wn} (H : Pair w fq f N sq sw sh m L) (hs : Stay (fun _ => False) w w1) : Pair w1 fq f N sq sw sh m L :=
  ⟨H.fa.keep hs, H.sa.keep hs, H.dj, H.ew, H.eh, H.ok, H.bd, H.nl⟩

theorem Pair.okP {w : World} {fq : Fm} {f : Nat → Cl} {N : List Wr} {sq : Sm} {sw sh : Nat} {m : Int} {L : List Wn} (H : Pair w fq f N sq sw sh m L) : ∀ p ∈ L, OkP p := fun p hp => (H.ok p hp).ok (by have := H.bd.1; omega) (by have := H.bd.2; omega)

def I64R (r : R) : Prop := I64 r.x ∧ I64 r.y ∧ I64 r.w ∧ I64 r.h

/-- What the program's drawing does. -/
structure DrawC : Prop where
  cells : ∀ (fq : Fm) (f : Nat → Cl) (N : List Wr) (sq : Sm) (sw sh : Nat) (m : Int) (L : List Wn) (id x y : Int) (la : Option Addr) (n lc : Nat) (l : Nat → Cl) (w : World), Pair w fq f N sq sw sh m L → CRd w la n l → (0 < n → ∀ k, la.map Addr.block = some k → ¬ fq.own k ∧ ¬ sq.own k) → n ≤ 100 → n ≤ lc → I64 x → I64 y →
    Calls Try.prog 22 #[.pointer (some ⟨fq.b, 0, none⟩), .pointer (some ⟨sq.b, 0, none⟩), .int .i64 id, .int .i64 x, .int .i64 y, .slice la n lc] w (DrewS fq f N (drawn L id fun p => cellsA L p x y l n) (errW L id) w)
  fill : ∀ (fq : Fm) (f : Nat → Cl) (N : List Wr) (sq : Sm) (sw sh : Nat) (m : Int) (L : List Wn) (id : Int) (r : R) (c : Cl) (w : World), Pair w fq f N sq sw sh m L → I64R r →
    Calls Try.prog 16 #[.pointer (some ⟨fq.b, 0, none⟩), .pointer (some ⟨sq.b, 0, none⟩), .int .i64 id, .agg #[.int .i64 r.x, .int .i64 r.y, .int .i64 r.w, .int .i64 r.h], .agg #[.int .i32 c.r, .int .i64 c.fg, .int .i64 c.bg, .int .i64 c.fl]] w (DrewS fq f N (drawn L id fun p => fillA L p r c) (errW L id) w)
  copy : ∀ (fq : Fm) (f : Nat → Cl) (N : List Wr) (sq : Sm) (sw sh : Nat) (m : Int) (L : List Wn) (id : Int) (r : R) (x y : Int) (w : World), Pair w fq f N sq sw sh m L → I64R r → I64 x → I64 y →
    Calls Try.prog 17 #[.pointer (some ⟨fq.b, 0, none⟩), .pointer (some ⟨sq.b, 0, none⟩), .int .i64 id, .agg #[.int .i64 r.x, .int .i64 r.y, .int .i64 r.w, .int .i64 r.h], .int .i64 x, .int .i64 y] w (DrewS fq f N (drawn L id fun p => copyA L p r x y sw sh f) (errW L id) w)
  fillN : ∀ (sb : Nat) (id : Int) (r : R) (c : Cl) (w : World), Calls Try.prog 16 #[.pointer none, .pointer (some ⟨sb, 0, none⟩), .int .i64 id, .agg #[.int .i64 r.x, .int .i64 r.y, .int .i64 r.w, .int .i64 r.h], .agg #[.int .i32 c.r, .int .i64 c.fg, .int .i64 c.bg, .int .i64 c.fl]] w (Gives (.tuple #[.int .i64 0, .int .i64 1]) w)
  copyN : ∀ (fb : Nat) (id : Int) (r : R) (x y : Int) (w : World), Calls Try.prog 17 #[.pointer (some ⟨fb, 0, none⟩), .pointer none, .int .i64 id, .agg #[.int .i64 r.x, .int .i64 r.y, .int .i64 r.w, .int .i64 r.h], .int .i64 x, .int .i64 y] w (Gives (.tuple #[.int .i64 0, .int .i64 1]) w)

/-- What a drawing writes into a window. -/
def drawW (L : List Wn) (a h : Nat) (f : Nat → Cl) (d x y : Int) (r : R) (l : Nat → Cl) (n : Nat) (p : Wn) : List Wr :=
  if d = 0 then cellsA L p x y l n else if d = 1 then fillA L p r (if 0 < n then l 0 else Cl.zero) else copyA L p r x y a h f

set_option maxHeartbeats 1000000 in
theorem do13 (D : DrawC) (fq : Fm) (f : Nat → Cl) (N : List Wr) (sq : Sm) (sw sh : Nat) (m : Int) (L : List Wn) (d id x y rx ry rw rh : Int) (la : Option Addr) (n lc : Nat) (l : Nat → Cl) (w : World) (h : Pair w fq f N sq sw sh m L) (hl : CRd w la n l) (hk : 0 < n → ∀ k, la.map Addr.block = some k → ¬ fq.own k ∧ ¬ sq.own k) (hn : n ≤ 100) (hc : n ≤ lc)
    (hx : I64 x) (hy : I64 y) (hr : I64R ⟨rx, ry, rw, rh⟩) :
    Calls Try.prog 13 #[.pointer (some ⟨fq.b, 0, none⟩), .pointer (some ⟨sq.b, 0, none⟩), .agg #[.int .i64 d, .int .i64 id, .int .i64 x, .int .i64 y, .int .i64 rx, .int .i64 ry, .int .i64 rw, .int .i64 rh, .slice la n lc]] w (DrewS fq f N (drawn L id fun p => drawW L sw sh f d x y ⟨rx, ry, rw, rh⟩ l n p) (errW L id) w) := by
  obtain ⟨W0, hW0⟩ : ∃ W, W = w.alloc (.cells #[.int .i64 d, .int .i64 id, .int .i64 x, .int .i64 y, .int .i64 rx, .int .i64 ry, .int .i64 rw, .int .i64 rh, .slice la n lc] 43) := ⟨_, rfl⟩
  obtain ⟨bd, hbd⟩ : ∃ b, b = w.heap.size := ⟨_, rfl⟩
  have hst : Stay (fun _ => False) w W0 := by rw [hW0]; exact (Stay.refl _ _).alloc _
  have hb : DBox W0 bd ⟨d, id, x, y, rx, ry, rw, rh, .slice la n lc⟩ := by rw [hW0]; exact DBox.new ⟨d, id, x, y, rx, ry, rw, rh, .slice la n lc⟩ hbd.symm
  have HP := hide' (h.keep hst)
  have HL := hide' (hl.keep hst)
  have HK := hide' hk
  have HST := hide' hst
  have HB := hide' hb
  have HX := hide' (show I64 x ∧ I64 y ∧ I64R ⟨rx, ry, rw, rh⟩ from ⟨hx, hy, hr⟩)
  have HC := hide' (D.cells fq f N sq sw sh m L id x y la n lc l W0 HP.out HL.out HK.out hn hc HX.out.1 HX.out.2.1)
  have HF := hide' (fun c W (hs : Stay (fun _ => False) W0 W) => D.fill fq f N sq sw sh m L id ⟨rx, ry, rw, rh⟩ c W (HP.out.keep hs) HX.out.2.2)
  have HY := hide' (D.copy fq f N sq sw sh m L id ⟨rx, ry, rw, rh⟩ x y W0 HP.out HX.out.2.2 HX.out.1 HX.out.2.1)
  have hnz : (n : Int) ≤ 100 := by omega
  have HMV : Hid (∀ W w' M er e, Stay (fun _ => False) W0 W → DrewS fq f N M er W e w' → DrewS fq f N M er w e w') := hide' (fun W w' M er e hs ⟨v, h1, h2, h3⟩ => ⟨v, h1, h2, h3.after (stay_any (HST.out.trans hs))⟩)
  obtain ⟨E, hE⟩ : ∃ E, E = errW L id := ⟨_, rfl⟩
  rw [← hE] at HC HF HY ⊢
  clear hst hb h hl hk hn hc hx hy hr hE
  obtain ⟨b0, b1, b2, b3, b4, b5, b6, b7, b8, _⟩ := HB.out
  simp only at b0 b1 b2 b3 b4 b5 b6 b7 b8
  go_enter Try.func13, Try.ntmps13
  go_upto_region 1 with fail
  rw [← hW0, ← hbd]
  clear hW0 hbd
  by_cases h0 : d = 0
  · subst h0
    have HE : Hid (∀ p, drawW L sw sh f 0 x y ⟨rx, ry, rw, rh⟩ l n p = cellsA L p x y l n) := hide' (fun p => by unfold drawW; rw [if_pos rfl])
    go_wp2_with fail
    refine HC.out.mono ?_
    rintro e w2 hd
    obtain ⟨v, rfl, h2, h3⟩ := HMV.out _ _ _ _ _ (Stay.refl _ _) hd
    have HFN : Hid (DrewS fq f N (drawn L id fun p => drawW L sw sh f 0 x y ⟨rx, ry, rw, rh⟩ l n p) E w (.returned (.tuple #[.int .i64 ((drawn L id fun p => cellsA L p x y l n).length : Nat), .int .i64 E])) w2) := hide' (by
      rw [show (fun p => drawW L sw sh f 0 x y ⟨rx, ry, rw, rh⟩ l n p) = (fun p => cellsA L p x y l n) from funext HE.out]
      exact ⟨v, rfl, h2, h3⟩)
    clear hd h2 h3 HC HF HY b0 b1 b2 b3 b4 b5 b6 b7 b8
    go_wp2
    go_returns
    exact HFN.out
  · by_cases h1 : d = 1
    · subst h1
      by_cases hn0 : 0 < n
      · obtain ⟨c, hc⟩ : ∃ c, c = l 0 := ⟨_, rfl⟩
        have HE : Hid (∀ p, drawW L sw sh f 1 x y ⟨rx, ry, rw, rh⟩ l n p = fillA L p ⟨rx, ry, rw, rh⟩ c) := hide' (fun p => by unfold drawW; rw [if_neg (by decide), if_pos rfl, if_pos hn0, hc])
        obtain ⟨lg, lo, e, hb⟩ := HL.out 0 hn0
        subst e
        rw [← hc] at hb
        simp only [Nat.zero_mul, Nat.add_zero] at hb
        have hnp : (0 : Int) < (n : Nat) := by omega
        have hdn : decide ((0 : Int) < (n : Nat)) = true := decide_eq_true hnp
        have d1 : ∀ o : Obj, (W0.alloc o).cell? ⟨bd, 1, none⟩ = some (.int .i64 id) := fun o => keep_cell ((Stay.refl _ _).alloc o) b1
        have d4 : ∀ o : Obj, (W0.alloc o).cell? ⟨bd, 4, none⟩ = some (.int .i64 rx) := fun o => keep_cell ((Stay.refl _ _).alloc o) b4
        have d5 : ∀ o : Obj, (W0.alloc o).cell? ⟨bd, 5, none⟩ = some (.int .i64 ry) := fun o => keep_cell ((Stay.refl _ _).alloc o) b5
        have d6 : ∀ o : Obj, (W0.alloc o).cell? ⟨bd, 6, none⟩ = some (.int .i64 rw) := fun o => keep_cell ((Stay.refl _ _).alloc o) b6
        have d7 : ∀ o : Obj, (W0.alloc o).cell? ⟨bd, 7, none⟩ = some (.int .i64 rh) := fun o => keep_cell ((Stay.refl _ _).alloc o) b7
        have d8 : ∀ o : Obj, (W0.alloc o).cell? ⟨bd, 8, none⟩ = some (.slice (some ⟨lg, lo, none⟩) n lc) := fun o => keep_cell ((Stay.refl _ _).alloc o) b8
        have c0 : ∀ o : Obj, (W0.alloc o).cell? ⟨lg, lo, none⟩ = some (.int .i32 c.r) := fun o => keep_cell ((Stay.refl _ _).alloc o) hb.c0
        have c1 : ∀ o : Obj, (W0.alloc o).cell? ⟨lg, lo + 1, none⟩ = some (.int .i64 c.fg) := fun o => keep_cell ((Stay.refl _ _).alloc o) hb.c1
        have c2 : ∀ o : Obj, (W0.alloc o).cell? ⟨lg, lo + 2, none⟩ = some (.int .i64 c.bg) := fun o => keep_cell ((Stay.refl _ _).alloc o) hb.c2
        have c3 : ∀ o : Obj, (W0.alloc o).cell? ⟨lg, lo + 3, none⟩ = some (.int .i64 c.fl) := fun o => keep_cell ((Stay.refl _ _).alloc o) hb.c3
        clear hb hc
        go_wp2_with fail
        refine (HF.out c _ ((Stay.refl _ _).alloc _)).mono ?_
        rintro e w2 hd
        obtain ⟨v, rfl, h2, h3⟩ := HMV.out _ _ _ _ _ ((Stay.refl _ _).alloc _) hd
        have HFN : Hid (DrewS fq f N (drawn L id fun p => drawW L sw sh f 1 x y ⟨rx, ry, rw, rh⟩ l n p) E w (.returned (.tuple #[.int .i64 ((drawn L id fun p => fillA L p ⟨rx, ry, rw, rh⟩ c).length : Nat), .int .i64 E])) w2) := hide' (by
          rw [show (fun p => drawW L sw sh f 1 x y ⟨rx, ry, rw, rh⟩ l n p) = (fun p => fillA L p ⟨rx, ry, rw, rh⟩ c) from funext HE.out]
          exact ⟨v, rfl, h2, h3⟩)
        clear hd h2 h3 HC HF HY
        go_wp2
        go_returns
        exact HFN.out
      · have hnn : n = 0 := by omega
        subst hnn
        have HE : Hid (∀ p, drawW L sw sh f 1 x y ⟨rx, ry, rw, rh⟩ l 0 p = fillA L p ⟨rx, ry, rw, rh⟩ Cl.zero) := hide' (fun p => by unfold drawW; rw [if_neg (by decide), if_pos rfl, if_neg hn0])
        have d1 : ∀ o : Obj, (W0.alloc o).cell? ⟨bd, 1, none⟩ = some (.int .i64 id) := fun o => keep_cell ((Stay.refl _ _).alloc o) b1
        have d4 : ∀ o : Obj, (W0.alloc o).cell? ⟨bd, 4, none⟩ = some (.int .i64 rx) := fun o => keep_cell ((Stay.refl _ _).alloc o) b4
        have d5 : ∀ o : Obj, (W0.alloc o).cell? ⟨bd, 5, none⟩ = some (.int .i64 ry) := fun o => keep_cell ((Stay.refl _ _).alloc o) b5
        have d6 : ∀ o : Obj, (W0.alloc o).cell? ⟨bd, 6, none⟩ = some (.int .i64 rw) := fun o => keep_cell ((Stay.refl _ _).alloc o) b6
        have d7 : ∀ o : Obj, (W0.alloc o).cell? ⟨bd, 7, none⟩ = some (.int .i64 rh) := fun o => keep_cell ((Stay.refl _ _).alloc o) b7
        have d8 : ∀ o : Obj, (W0.alloc o).cell? ⟨bd, 8, none⟩ = some (.slice la 0 lc) := fun o => keep_cell ((Stay.refl _ _).alloc o) b8
        have HF0 := hide' (HF.out Cl.zero)
        unfold Cl.zero at HF0
        simp only at HF0
        clear hn0
        go_wp2_with fail
        refine (HF0.out _ ((Stay.refl _ _).alloc _)).mono ?_
        rintro e w2 hd
        obtain ⟨v, rfl, h2, h3⟩ := HMV.out _ _ _ _ _ ((Stay.refl _ _).alloc _) hd
        have HFN : Hid (DrewS fq f N (drawn L id fun p => drawW L sw sh f 1 x y ⟨rx, ry, rw, rh⟩ l 0 p) E w (.returned (.tuple #[.int .i64 ((drawn L id fun p => fillA L p ⟨rx, ry, rw, rh⟩ Cl.zero).length : Nat), .int .i64 E])) w2) := hide' (by
          rw [show (fun p => drawW L sw sh f 1 x y ⟨rx, ry, rw, rh⟩ l 0 p) = (fun p => fillA L p ⟨rx, ry, rw, rh⟩ Cl.zero) from funext HE.out]
          exact ⟨v, rfl, h2, h3⟩)
        clear hd h2 h3 HC HF HY HF0
        go_wp2
        go_returns
        exact HFN.out
    · have HE : Hid (∀ p, drawW L sw sh f d x y ⟨rx, ry, rw, rh⟩ l n p = copyA L p ⟨rx, ry, rw, rh⟩ x y sw sh f) := hide' (fun p => by unfold drawW; rw [if_neg h0, if_neg h1])
      have e0 := beq_f h0
      have e1 := beq_f h1
      go_wp2_with fail
      refine HY.out.mono ?_
      rintro e w2 hd
      obtain ⟨v, rfl, h2, h3⟩ := HMV.out _ _ _ _ _ (Stay.refl _ _) hd
      have HFN : Hid (DrewS fq f N (drawn L id fun p => drawW L sw sh f d x y ⟨rx, ry, rw, rh⟩ l n p) E w (.returned (.tuple #[.int .i64 ((drawn L id fun p => copyA L p ⟨rx, ry, rw, rh⟩ x y sw sh f).length : Nat), .int .i64 E])) w2) := hide' (by
        rw [show (fun p => drawW L sw sh f d x y ⟨rx, ry, rw, rh⟩ l n p) = (fun p => copyA L p ⟨rx, ry, rw, rh⟩ x y sw sh f) from funext HE.out]
        exact ⟨v, rfl, h2, h3⟩)
      clear hd h2 h3 HC HF HY
      go_wp2
      go_returns
      exact HFN.out

end Go.Proofs.Yticccknocjnkpaa

namespace Go.Proofs.Yticccknocjnkpaa
open Go.RowKit

theorem VBox.there {w : World} {b : Nat} {r : Vw} (h : VBox w b r) : w.there b 0 12 := fun j hj => by
  match j, hj with
  | 0, _ => exact ⟨by show (w.cell? _).isSome = true; rw [h.c0]; rfl, h.f0⟩
  | 1, _ => exact ⟨by show (w.cell? _).isSome = true; rw [h.c1]; rfl, h.f1⟩
  | 2, _ => exact ⟨by show (w.cell? _).isSome = true; rw [h.c2]; rfl, h.f2⟩
  | 3, _ => exact ⟨by show (w.cell? _).isSome = true; rw [h.c3]; rfl, h.f3⟩
  | 4, _ => exact ⟨by show (w.cell? _).isSome = true; rw [h.c4]; rfl, h.f4⟩
  | 5, _ => exact ⟨by show (w.cell? _).isSome = true; rw [h.c5]; rfl, h.f5⟩
  | 6, _ => exact ⟨by show (w.cell? _).isSome = true; rw [h.c6]; rfl, h.f6⟩
  | 7, _ => exact ⟨by show (w.cell? _).isSome = true; rw [h.c7]; rfl, h.f7⟩
  | 8, _ => exact ⟨by show (w.cell? _).isSome = true; rw [h.c8]; rfl, h.f8⟩
  | 9, _ => exact ⟨by show (w.cell? _).isSome = true; rw [h.c9]; rfl, h.f9⟩
  | 10, _ => exact ⟨by show (w.cell? _).isSome = true; rw [h.c10]; rfl, h.f10⟩
  | 11, _ => exact ⟨by show (w.cell? _).isSome = true; rw [h.c11]; rfl, h.f11⟩

theorem results_vb {fn : Func} {p c : Tmp} (h : fn.results = #[.cell p 92, .tmp c]) (tmps : Array Value) (w : World) (g : Nat) (r : Vw) (x : Value) (hp : tmps.getD p undef = .pointer (some ⟨g, 0, none⟩)) (hc : tmps.getD c undef = x) (hb : VBox w g r) :
    (results fn tmps).run Try.prog w = .ok (.tuple #[.agg #[r.s, .int .i64 r.id, .int .i64 r.env, .int .i64 r.x, .int .i64 r.y, .int .i64 r.w, .int .i64 r.h, .bool r.hid, .int .i64 r.tx, .int .i64 r.ty, .int .i64 r.tw, .int .i64 r.th], x]) w := by
  have hp' : tmps[p]?.getD undef = .pointer (some ⟨g, 0, none⟩) := by simpa using hp
  have hc' : tmps[c]?.getD undef = x := by simpa using hc
  simp [results, h, hp', hc', asAddr, run_loadVar_cells w g 0 92 _ _ hb.cells Try.underlying92 rfl (by kernel_rfl)]

theorem size64 (q : Fm) (f : Nat → Cl) (L : List Wr) (w : World) (hq : FAt w q f L) : Calls Try.prog 64 #[.pointer (some ⟨q.b, 0, none⟩)] w (Gives (.tuple #[.int .i64 (q.G.w : Nat), .int .i64 (q.G.h : Nat)]) w) := by
  have HA := hide' (size36 q.G f w hq.grid)
  obtain ⟨g0, g1, k0, k1⟩ := hq.box
  simp only at g0 g1
  clear hq
  go_enter Try.func64, Try.ntmps64
  go_wp2_with fail
  refine HA.out.mono ?_
  rintro e w1 ⟨rfl, hs⟩
  have HS := hide' hs
  clear hs HA g0 g1 k0 k1
  go_wp2
  go_returns
  exact ⟨rfl, HS.out⟩

/-- A window lies on its screen. -/
theorem both_win {sw sh : Nat} {p : Wn} (h : OkW sw sh p) (h1 : sw ≤ 512) (h2 : sh ≤ 512) : bothR ⟨p.x, p.y, p.w, p.h⟩ ⟨0, 0, (sw : Nat), (sh : Nat)⟩ = ⟨p.x, p.y, p.w, p.h⟩ := by
  unfold OkW at h
  have ha : rightB ⟨p.x, p.y, p.w, p.h⟩ = true := by
    unfold rightB nearB
    simp only [Bool.and_eq_true, decide_eq_true_eq]
    omega
  have hb : rightB ⟨0, 0, (sw : Nat), (sh : Nat)⟩ = true := by
    unfold rightB nearB
    simp only [Bool.and_eq_true, decide_eq_true_eq]
    omega
  unfold bothR
  rw [if_pos (by rw [ha, hb]; rfl)]
  unfold orNoneR interR
  simp only
  have e : (⟨max p.x 0, max p.y 0, min (p.x + p.w) (0 + (sw : Nat)) - max p.x 0, min (p.y + p.h) (0 + (sh : Nat)) - max p.y 0⟩ : R) = ⟨p.x, p.y, p.w, p.h⟩ := by
    congr 1 <;> omega
  rw [e, if_neg]
  unfold emptyB
  simp only [Bool.or_eq_true, decide_eq_true_eq]
  omega

set_option maxHeartbeats 2000000 in
/-- The view of a window that is there. -/
theorem look40 (fq : Fm) (f : Nat → Cl) (N : List Wr) (sq : Sm) (sw sh : Nat) (m : Int) (L : List Wn) (id : Int) (p : Wn) (w : World) (h : Pair w fq f N sq sw sh m L) (hp : L[plN L id]? = some p) :
    Calls Try.prog 40 #[.pointer (some ⟨fq.b, 0, none⟩), .pointer (some ⟨sq.b, 0, none⟩), .int .i64 id] w (Gives (.tuple #[.agg #[.pointer (some ⟨sq.b, 0, none⟩), .int .i64 p.id, .int .i64 p.env, .int .i64 p.x, .int .i64 p.y, .int .i64 p.w, .int .i64 p.h, .bool p.hid, .int .i64 p.x, .int .i64 p.y, .int .i64 p.w, .int .i64 p.h], .int .i64 0]) w) := by
  obtain ⟨W0, hW0⟩ : ∃ W, W = w.alloc (.cells #[.pointer none, .int .i64 0, .int .i64 0, .int .i64 0, .int .i64 0, .int .i64 0, .int .i64 0, .bool false, .int .i64 0, .int .i64 0, .int .i64 0, .int .i64 0] 92) := ⟨_, rfl⟩
  obtain ⟨bz, hbz⟩ : ∃ b, b = w.heap.size := ⟨_, rfl⟩
  have hst0 : Stay (fun _ => False) w W0 := by rw [hW0]; exact (Stay.refl _ _).alloc _
  have HS0 := hide' hst0
  have HBX := hide' (show VBox W0 bz ⟨.pointer none, 0, 0, 0, 0, 0, 0, false, 0, 0, 0, 0⟩ by rw [hW0]; exact VBox.new ⟨.pointer none, 0, 0, 0, 0, 0, 0, false, 0, 0, 0, 0⟩ hbz.symm)
  have HBS := hide' (show w.heap.size ≤ bz by omega)
  have hg : getR L id = (p, true) := by unfold getR; rw [hp]
  have hok := h.ok p (List.mem_of_getElem? hp)
  have HG := hide' (get63 sq sw sh m L id (p, true) hg.symm W0 (h.sa.keep hst0))
  have HZE := hide' (fun W (hs : Stay (fun _ => False) W0 W) => size64 fq f N W (h.fa.keep (hst0.trans hs)))
  have HBO := hide' (fun W => both65 ⟨p.x, p.y, p.w, p.h⟩ ⟨0, 0, (sw : Nat), (sh : Nat)⟩ W)
  rw [both_win hok h.bd.1 h.bd.2] at HBO
  rw [h.ew, h.eh] at HZE
  simp only at HG HBO
  clear h hp hg hok hst0
  go_enter Try.func40, Try.ntmps40
  go_upto_region 1 with fail
  rw [← hW0, ← hbz]
  clear hW0 hbz
  go_wp2_with fail
  refine HG.out.mono ?_
  rintro _ w1 ⟨rfl, hs⟩
  obtain ⟨w2, hw2⟩ : ∃ W, W = w1.alloc (.cells #[.int .i64 p.id, .int .i64 p.env, .int .i64 p.x, .int .i64 p.y, .int .i64 p.w, .int .i64 p.h, .bool p.hid] 78) := ⟨_, rfl⟩
  obtain ⟨b2, hb2⟩ : ∃ b, b = w1.heap.size := ⟨_, rfl⟩
  have hst2 : Stay (fun _ => False) w1 w2 := by rw [hw2]; exact (Stay.refl _ _).alloc _
  have HB2 := hide' (show NBox w2 b2 p by rw [hw2]; exact NBox.new p hb2.symm)
  have HS2 := hide' (hs.trans hst2)
  have HNE := hide' (show ¬ b2 = bz by have h1 := HBX.out.lt; have h2 := hs.size; omega)
  clear hs hst2 HG
  go_upto_region 4 with fail
  rw [← hw2, ← hb2]
  clear hw2 hb2
  go_wp2_with fail
  refine (HZE.out _ HS2.out).mono ?_
  rintro _ wa ⟨rfl, hsa⟩
  obtain ⟨wb, hwb⟩ : ∃ W, W = wa := ⟨_, rfl⟩
  rw [← hwb]
  rw [← hwb] at hsa
  clear hwb
  have HS3 := hide' (HS2.out.trans hsa)
  have HNB := hide' (HB2.out.keep hsa)
  have HVB := hide' (HBX.out.keep HS3.out)
  have hS : (fun w' => Stay (fun j => j = bz) wb w' ∧ ∃ r, VBox w' bz r) wb.drew := ⟨(Stay.refl _ _).drew, _, HVB.out.keep (Stay.refl _ _).drew⟩
  have HTH : Hid (∀ W, (Stay (fun j => j = bz) wb W ∧ ∃ r, VBox W bz r) → W.there bz 0 (#[.pointer (some ⟨sq.b, 0, none⟩), .int .i64 p.id, .int .i64 p.env, .int .i64 p.x, .int .i64 p.y, .int .i64 p.w, .int .i64 p.h, .bool p.hid, .int .i64 p.x, .int .i64 p.y, .int .i64 p.w, .int .i64 p.h] : Array Value).size) := hide' (fun W hs => hs.2.elim fun r hr => hr.there)
  have HSB : Hid (∀ W, (Stay (fun j => j = bz) wb W ∧ ∃ r, VBox W bz r) → Stay (fun j => j = bz) wb (W.setCells bz 0 (#[.pointer (some ⟨sq.b, 0, none⟩), .int .i64 p.id, .int .i64 p.env, .int .i64 p.x, .int .i64 p.y, .int .i64 p.w, .int .i64 p.h, .bool p.hid, .int .i64 p.x, .int .i64 p.y, .int .i64 p.w, .int .i64 p.h] : Array Value).toList) ∧ ∃ r, VBox (W.setCells bz 0 (#[.pointer (some ⟨sq.b, 0, none⟩), .int .i64 p.id, .int .i64 p.env, .int .i64 p.x, .int .i64 p.y, .int .i64 p.w, .int .i64 p.h, .bool p.hid, .int .i64 p.x, .int .i64 p.y, .int .i64 p.w, .int .i64 p.h] : Array Value).toList) bz r) := hide' (fun W hs => ⟨(by have h := hs.1; exact ((((((((((((h.setCell (p := ⟨bz, 0, none⟩) rfl _).setCell (p := ⟨bz, 1, none⟩) rfl _).setCell (p := ⟨bz, 2, none⟩) rfl _).setCell (p := ⟨bz, 3, none⟩) rfl _).setCell (p := ⟨bz, 4, none⟩) rfl _).setCell (p := ⟨bz, 5, none⟩) rfl _).setCell (p := ⟨bz, 6, none⟩) rfl _).setCell (p := ⟨bz, 7, none⟩) rfl _).setCell (p := ⟨bz, 8, none⟩) rfl _).setCell (p := ⟨bz, 9, none⟩) rfl _).setCell (p := ⟨bz, 10, none⟩) rfl _).setCell (p := ⟨bz, 11, none⟩) rfl _)), hs.2.elim fun r hr => ⟨⟨.pointer (some ⟨sq.b, 0, none⟩), p.id, p.env, p.x, p.y, p.w, p.h, p.hid, p.x, p.y, p.w, p.h⟩, hr.put ⟨.pointer (some ⟨sq.b, 0, none⟩), p.id, p.env, p.x, p.y, p.w, p.h, p.hid, p.x, p.y, p.w, p.h⟩⟩⟩)
  have HSX : Hid (∀ W, Stay (fun j => j = bz) wb W → Stay (fun _ => False) w (W.setCells bz 0 (#[.pointer (some ⟨sq.b, 0, none⟩), .int .i64 p.id, .int .i64 p.env, .int .i64 p.x, .int .i64 p.y, .int .i64 p.w, .int .i64 p.h, .bool p.hid, .int .i64 p.x, .int .i64 p.y, .int .i64 p.w, .int .i64 p.h] : Array Value).toList)) := hide' (fun W hs => by
    have h0 : Stay (fun _ => False) w W := (HS0.out.trans HS3.out).trans2 hs (fun j hj e => by subst e; have := HBS.out; omega)
    exact VBox.stay_put h0 HBS.out _ _ _ _ _ _ _ _ _ _ _ _)
  clear hsa HB2 HBX HZE
  go_upto_region 7 with fail
  refine wp_region_mix (fun w' => Stay (fun j => j = bz) wb w' ∧ ∃ r, VBox w' bz r) [(0, true), (1, true), (2, true), (3, true), (4, true), (5, true), (6, true), (7, false), (8, true), (9, false), (10, true)] (by kernel_rfl) (by kernel_rfl) (fun _ d _ _ _ h => by cases d <;> exact h) hS ?_
  refine mix_begin (fun K0 hK0 => ?_)
  refine mix_take hK0 (some 33) (.move (.tmp 1)) 28 _ (by kernel_rfl) (by kernel_rfl) (fun w' hS' => by (obtain ⟨n0, n1, n2, n3, n4, n5, n6, _⟩ := HNB.out.stay hS'.1 HNE.out; simp only [opr]; go_simp; try with_reducible rfl)) (fun K1 hK1 => ?_)
  clear hK0 K0
  simp only [Act.put, List.setIfInBounds_toArray, List.set_cons_zero, List.set_cons_succ]
  refine mix_take hK1 (some 34) (.load 78 (.tmp 8)) 78 _ (by kernel_rfl) (by kernel_rfl) (fun w' hS' => by (obtain ⟨n0, n1, n2, n3, n4, n5, n6, _⟩ := HNB.out.stay hS'.1 HNE.out; simp only [opr]; go_simp; try with_reducible rfl)) (fun K2 hK2 => ?_)
  clear hK1 K1
  simp only [Act.put, List.setIfInBounds_toArray, List.set_cons_zero, List.set_cons_succ]
  refine mix_take hK2 (some 35) (.fieldAddr 78 (.tmp 8) 2) 0 _ (by kernel_rfl) (by kernel_rfl) (fun w' hS' => by (obtain ⟨n0, n1, n2, n3, n4, n5, n6, _⟩ := HNB.out.stay hS'.1 HNE.out; simp only [opr]; go_simp; try with_reducible rfl)) (fun K3 hK3 => ?_)
  clear hK2 K2
  simp only [Act.put, List.setIfInBounds_toArray, List.set_cons_zero, List.set_cons_succ]
  refine mix_take hK3 (some 36) (.load 41 (.tmp 35)) 41 _ (by kernel_rfl) (by kernel_rfl) (fun w' hS' => by (obtain ⟨n0, n1, n2, n3, n4, n5, n6, _⟩ := HNB.out.stay hS'.1 HNE.out; simp only [opr]; go_simp; try with_reducible rfl)) (fun K4 hK4 => ?_)
  clear hK3 K3
  simp only [Act.put, List.setIfInBounds_toArray, List.set_cons_zero, List.set_cons_succ]
  refine mix_take hK4 (some 37) (.move (.tmp 10)) 3 _ (by kernel_rfl) (by kernel_rfl) (fun w' hS' => by (obtain ⟨n0, n1, n2, n3, n4, n5, n6, _⟩ := HNB.out.stay hS'.1 HNE.out; simp only [opr]; go_simp; try with_reducible rfl)) (fun K5 hK5 => ?_)
  clear hK4 K4
  simp only [Act.put, List.setIfInBounds_toArray, List.set_cons_zero, List.set_cons_succ]
  refine mix_take hK5 (some 38) (.move (.tmp 11)) 3 _ (by kernel_rfl) (by kernel_rfl) (fun w' hS' => by (obtain ⟨n0, n1, n2, n3, n4, n5, n6, _⟩ := HNB.out.stay hS'.1 HNE.out; simp only [opr]; go_simp; try with_reducible rfl)) (fun K6 hK6 => ?_)
  clear hK5 K5
  simp only [Act.put, List.setIfInBounds_toArray, List.set_cons_zero, List.set_cons_succ]
  refine mix_take hK6 (some 39) (.build 41 #[(2, .tmp 37), (3, .tmp 38)]) 41 _ (by kernel_rfl) (by kernel_rfl) (fun w' hS' => by (obtain ⟨n0, n1, n2, n3, n4, n5, n6, _⟩ := HNB.out.stay hS'.1 HNE.out; simp only [opr]; go_simp; try with_reducible rfl)) (fun K7 hK7 => ?_)
  clear hK6 K6
  simp only [Act.put, List.setIfInBounds_toArray, List.set_cons_zero, List.set_cons_succ]
  refine mix_call hK7 (some 40) 65 #[.tmp 36, .tmp 39] #[41, 41] 41 _ (by kernel_rfl) (by kernel_rfl) (enters Try.func65 (by kernel_rfl) (by kernel_rfl)) (by go_simp; try with_reducible rfl) (fun K8 hK8 => ?_)
  clear hK7 K7
  refine ((HBO.out _)).mono ?_
  rintro e wm1 ⟨rfl, hs1⟩
  have hS1 : _ := (⟨hS.1.trans (stay_any hs1), hS.2.elim fun r hr => ⟨r, hr.keep hs1⟩⟩ : Stay (fun j => j = bz) wb wm1 ∧ ∃ r, VBox wm1 bz r)
  refine ⟨_, rfl, hS1, ?_⟩
  have HSA := hide' hS1
  clear hs1
  simp only [Act.put, List.setIfInBounds_toArray, List.set_cons_zero, List.set_cons_succ]
  refine mix_take hK8 (some 41) (.build 92 #[(0, .tmp 33), (1, .tmp 34), (2, .tmp 40)]) 92 _ (by kernel_rfl) (by kernel_rfl) (fun w' hS' => by (obtain ⟨n0, n1, n2, n3, n4, n5, n6, _⟩ := HNB.out.stay hS'.1 HNE.out; simp only [opr]; go_simp; try with_reducible rfl)) (fun K9 hK9 => ?_)
  clear hK8 K8
  simp only [Act.put, List.setIfInBounds_toArray, List.set_cons_zero, List.set_cons_succ]
  refine mix_chain hK9 (fun K9c hK9c => ?_)
  clear hK9 K9
  refine op_plain none (.store 92 (.tmp 6) (.tmp 41)) 0 (by kernel_rfl) (by kernel_rfl) ?_
  refine wpList_store_mid rfl 92 (.tmp 6) (.tmp 41) rfl bz 0 #[.pointer (some ⟨sq.b, 0, none⟩), .int .i64 p.id, .int .i64 p.env, .int .i64 p.x, .int .i64 p.y, .int .i64 p.w, .int .i64 p.h, .bool p.hid, .int .i64 p.x, .int .i64 p.y, .int .i64 p.w, .int .i64 p.h] rfl rfl (HTH.out _ HSA.out) (by kernel_rfl) (by simp [Value.oneCell']) ?_
  refine wpList_nil ?_
  have hSf : Stay (fun j => j = bz) wb (wm1.setCells bz 0 (#[.pointer (some ⟨sq.b, 0, none⟩), .int .i64 p.id, .int .i64 p.env, .int .i64 p.x, .int .i64 p.y, .int .i64 p.w, .int .i64 p.h, .bool p.hid, .int .i64 p.x, .int .i64 p.y, .int .i64 p.w, .int .i64 p.h] : Array Value).toList) ∧ ∃ r, VBox (wm1.setCells bz 0 (#[.pointer (some ⟨sq.b, 0, none⟩), .int .i64 p.id, .int .i64 p.env, .int .i64 p.x, .int .i64 p.y, .int .i64 p.w, .int .i64 p.h, .bool p.hid, .int .i64 p.x, .int .i64 p.y, .int .i64 p.w, .int .i64 p.h] : Array Value).toList) bz r := HSB.out _ HSA.out
  refine hK9c _ _ hSf (mix_begin fun K10 hK10 => ?_)
  clear hK9c K9c
  try simp only [Act.put]
  refine mix_take hK10 (some 7) (.assign (.const (Value.int IntKind.i64 0))) 37 _ (by kernel_rfl) (by kernel_rfl) (fun w' hS' => by (obtain ⟨n0, n1, n2, n3, n4, n5, n6, _⟩ := HNB.out.stay hS'.1 HNE.out; simp only [opr]; go_simp; try with_reducible rfl)) (fun K11 hK11 => ?_)
  clear hK10 K10
  simp only [Act.put, List.setIfInBounds_toArray, List.set_cons_zero, List.set_cons_succ]
  refine hK11 _ _ (mix_nil ?_)
  clear hK11 K11
  obtain ⟨w5, hw5⟩ : ∃ W, W = wm1.setCells bz 0 (#[.pointer (some ⟨sq.b, 0, none⟩), .int .i64 p.id, .int .i64 p.env, .int .i64 p.x, .int .i64 p.y, .int .i64 p.w, .int .i64 p.h, .bool p.hid, .int .i64 p.x, .int .i64 p.y, .int .i64 p.w, .int .i64 p.h] : Array Value).toList := ⟨_, rfl⟩
  have HVF := hide' (show VBox w5 bz ⟨.pointer (some ⟨sq.b, 0, none⟩), p.id, p.env, p.x, p.y, p.w, p.h, p.hid, p.x, p.y, p.w, p.h⟩ by rw [hw5]; exact hS1.2.elim fun r hr => hr.put ⟨.pointer (some ⟨sq.b, 0, none⟩), p.id, p.env, p.x, p.y, p.w, p.h, p.hid, p.x, p.y, p.w, p.h⟩)
  have HSF := hide' (show Stay (fun _ => False) w w5 by rw [hw5]; exact HSX.out _ HSA.out.1)
  rw [← hw5]
  clear hw5 hSf hS1 hS HSA HSB HTH HSX
  go_wp2
  exact bodyPost_ret (results_vb rfl _ _ bz ⟨.pointer (some ⟨sq.b, 0, none⟩), p.id, p.env, p.x, p.y, p.w, p.h, p.hid, p.x, p.y, p.w, p.h⟩ _ rfl rfl HVF.out) rfl ⟨rfl, HSF.out⟩

set_option maxHeartbeats 2000000 in
/-- No window. -/
theorem look40_no (fb : Nat) (sq : Sm) (sw sh m : Int) (L : List Wn) (id : Int) (w : World) (h : SAt w sq sw sh m L) (hp : L[plN L id]? = none) :
    Calls Try.prog 40 #[.pointer (some ⟨fb, 0, none⟩), .pointer (some ⟨sq.b, 0, none⟩), .int .i64 id] w (Gives (.tuple #[.agg #[.pointer none, .int .i64 0, .int .i64 0, .int .i64 0, .int .i64 0, .int .i64 0, .int .i64 0, .bool false, .int .i64 0, .int .i64 0, .int .i64 0, .int .i64 0], .int .i64 5]) w) := by
  obtain ⟨W0, hW0⟩ : ∃ W, W = w.alloc (.cells #[.pointer none, .int .i64 0, .int .i64 0, .int .i64 0, .int .i64 0, .int .i64 0, .int .i64 0, .bool false, .int .i64 0, .int .i64 0, .int .i64 0, .int .i64 0] 92) := ⟨_, rfl⟩
  obtain ⟨bz, hbz⟩ : ∃ b, b = w.heap.size := ⟨_, rfl⟩
  have hst0 : Stay (fun _ => False) w W0 := by rw [hW0]; exact (Stay.refl _ _).alloc _
  have HS0 := hide' hst0
  have HBX := hide' (show VBox W0 bz ⟨.pointer none, 0, 0, 0, 0, 0, 0, false, 0, 0, 0, 0⟩ by rw [hW0]; exact VBox.new ⟨.pointer none, 0, 0, 0, 0, 0, 0, false, 0, 0, 0, 0⟩ hbz.symm)
  have HBS := hide' (show w.heap.size ≤ bz by omega)
  have hg : getR L id = (Wn.zero, false) := by unfold getR; rw [hp]
  have HG := hide' (get63 sq sw sh m L id (Wn.zero, false) hg.symm W0 (h.keep hst0))
  simp only at HG
  clear h hp hg hst0
  go_enter Try.func40, Try.ntmps40
  go_upto_region 1 with fail
  rw [← hW0, ← hbz]
  clear hW0 hbz
  go_wp2_with fail
  refine HG.out.mono ?_
  rintro _ w1 ⟨rfl, hs⟩
  obtain ⟨w2, hw2⟩ : ∃ W, W = w1.alloc (.cells #[.int .i64 Wn.zero.id, .int .i64 Wn.zero.env, .int .i64 Wn.zero.x, .int .i64 Wn.zero.y, .int .i64 Wn.zero.w, .int .i64 Wn.zero.h, .bool Wn.zero.hid] 78) := ⟨_, rfl⟩
  have hst2 : Stay (fun _ => False) w1 w2 := by rw [hw2]; exact (Stay.refl _ _).alloc _
  have HS2 := hide' (HS0.out.trans (hs.trans hst2))
  have HVB := hide' (HBX.out.keep (hs.trans hst2))
  obtain ⟨v0, v1, v2, v3, v4, v5, v6, v7, v8, v9, va, vb, u0, u1, u2, u3, u4, u5, u6, u7, u8, u9, ua, ub⟩ := HVB.out
  simp only at v0 v1 v2 v3 v4 v5 v6 v7 v8 v9 va vb
  clear hs hst2 HG HBX HS0
  go_upto_region 4 with fail
  rw [← hw2]
  clear hw2
  go_wp2
  refine bodyPost_ret (results_vb rfl _ _ bz ⟨.pointer none, 0, 0, 0, 0, 0, 0, false, 0, 0, 0, 0⟩ _ rfl rfl (HVB.out.put ⟨.pointer none, 0, 0, 0, 0, 0, 0, false, 0, 0, 0, 0⟩)) rfl ⟨rfl, ?_⟩
  exact VBox.stay_put HS2.out HBS.out _ _ _ _ _ _ _ _ _ _ _ _

/-- No frame, or no stack. -/
theorem look40_nil (fa sa : Option Addr) (id : Int) (w : World) (h : fa = none ∨ ((∃ fb, fa = some ⟨fb, 0, none⟩) ∧ sa = none)) :
    Calls Try.prog 40 #[.pointer fa, .pointer sa, .int .i64 id] w (Gives (.tuple #[.agg #[.pointer none, .int .i64 0, .int .i64 0, .int .i64 0, .int .i64 0, .int .i64 0, .int .i64 0, .bool false, .int .i64 0, .int .i64 0, .int .i64 0, .int .i64 0], .int .i64 1]) w) := by
  obtain ⟨W0, hW0⟩ : ∃ W, W = w.alloc (.cells #[.pointer none, .int .i64 0, .int .i64 0, .int .i64 0, .int .i64 0, .int .i64 0, .int .i64 0, .bool false, .int .i64 0, .int .i64 0, .int .i64 0, .int .i64 0] 92) := ⟨_, rfl⟩
  obtain ⟨bz, hbz⟩ : ∃ b, b = w.heap.size := ⟨_, rfl⟩
  have hst0 : Stay (fun _ => False) w W0 := by rw [hW0]; exact (Stay.refl _ _).alloc _
  have HS0 := hide' hst0
  have HBX := hide' (show VBox W0 bz ⟨.pointer none, 0, 0, 0, 0, 0, 0, false, 0, 0, 0, 0⟩ by rw [hW0]; exact VBox.new ⟨.pointer none, 0, 0, 0, 0, 0, 0, false, 0, 0, 0, 0⟩ hbz.symm)
  have HBS := hide' (show w.heap.size ≤ bz by omega)
  clear hst0
  rcases h with rfl | ⟨⟨fb, rfl⟩, rfl⟩
  all_goals
    go_enter Try.func40, Try.ntmps40
    go_upto_region 1 with fail
    rw [← hW0, ← hbz]
    clear hW0 hbz
    obtain ⟨v0, v1, v2, v3, v4, v5, v6, v7, v8, v9, va, vb, u0, u1, u2, u3, u4, u5, u6, u7, u8, u9, ua, ub⟩ := HBX.out
    simp only at v0 v1 v2 v3 v4 v5 v6 v7 v8 v9 va vb
    go_wp2
    refine bodyPost_ret (results_vb rfl _ _ bz ⟨.pointer none, 0, 0, 0, 0, 0, 0, false, 0, 0, 0, 0⟩ _ rfl rfl (HBX.out.put ⟨.pointer none, 0, 0, 0, 0, 0, 0, false, 0, 0, 0, 0⟩)) rfl ⟨rfl, ?_⟩
    exact VBox.stay_put HS0.out HBS.out _ _ _ _ _ _ _ _ _ _ _ _

end Go.Proofs.Yticccknocjnkpaa
