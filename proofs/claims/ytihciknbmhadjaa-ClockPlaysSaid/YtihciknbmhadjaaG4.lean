/-
  What stands at the head of a round of ClockPlays. No conditions.
-/
import Derived.Test.YtihciknbmhadjaaG3
namespace Go.Proofs.Ytihciknbmhadjaa
open Go.RowKit

/-- Ac, as a value. -/
structure Ac where
  d : Int
  e : Int
  k : Int
  x : Int

theorem Ac.same {a0 a1 a2 a3 : _} {r : Ac} (h : r.d = a0 ∧ r.e = a1 ∧ r.k = a2 ∧ r.x = a3) : r = ⟨a0, a1, a2, a3⟩ := by
  obtain ⟨rfl, rfl, rfl, rfl⟩ := h
  rfl

theorem Ac.ret {a b : Ac} (h : a = b) : Ending.returned (.agg #[.int .i64 a.d, .int .i64 a.e, .int .i64 a.k, .int .i64 a.x]) = .returned (.agg #[.int .i64 b.d, .int .i64 b.e, .int .i64 b.k, .int .i64 b.x]) := by rw [h]

/-- A box that holds a Ac. -/
structure ABox (w : World) (b : Nat) (r : Ac) : Prop where
  c0 : w.cell? ⟨b, 0, none⟩ = some (.int .i64 r.d)
  c1 : w.cell? ⟨b, 1, none⟩ = some (.int .i64 r.e)
  c2 : w.cell? ⟨b, 2, none⟩ = some (.int .i64 r.k)
  c3 : w.cell? ⟨b, 3, none⟩ = some (.int .i64 r.x)
  f0 : w.frozen? ⟨b, 0, none⟩ = false
  f1 : w.frozen? ⟨b, 1, none⟩ = false
  f2 : w.frozen? ⟨b, 2, none⟩ = false
  f3 : w.frozen? ⟨b, 3, none⟩ = false

theorem ABox.lt {w : World} {b : Nat} {r : Ac} (h : ABox w b r) : b < w.heap.size := World.block_lt_of_cell? _ _ h.c0

theorem ABox.stay {T : Nat → Prop} {W w1 : World} {b : Nat} {r : Ac} (h : ABox W b r) (hs : Stay T W w1) (hn : ¬ T b) : ABox w1 b r := by
  have hb : b < W.heap.size := h.lt
  have c : ∀ o, w1.cell? ⟨b, o, none⟩ = W.cell? ⟨b, o, none⟩ := fun o => hs.cell (p := ⟨b, o, none⟩) hb hn
  have f : ∀ o, w1.frozen? ⟨b, o, none⟩ = W.frozen? ⟨b, o, none⟩ := fun o => hs.frozen (p := ⟨b, o, none⟩) hb hn
  exact ⟨(c 0).trans h.c0, (c 1).trans h.c1, (c 2).trans h.c2, (c 3).trans h.c3, (f 0).trans h.f0, (f 1).trans h.f1, (f 2).trans h.f2, (f 3).trans h.f3⟩

theorem ABox.keep {W w1 : World} {b : Nat} {r : Ac} (h : ABox W b r) (hs : Stay (fun _ => False) W w1) : ABox w1 b r := h.stay hs (fun h => h)

theorem ABox.alloc {w : World} {b : Nat} {r : Ac} (h : ABox w b r) (o : Obj) : ABox (w.alloc o) b r := h.keep ((Stay.refl _ _).alloc o)

theorem ABox.new {w : World} {b : Nat} (r : Ac) (h : w.heap.size = b) : ABox (w.alloc (.cells #[.int .i64 r.d, .int .i64 r.e, .int .i64 r.k, .int .i64 r.x] 28)) b r := by
  subst h
  constructor <;> simp

theorem ABox.cells {w : World} {b : Nat} {r : Ac} (h : ABox w b r) : ∀ (j : Nat) (v : Value), [Value.int .i64 r.d, .int .i64 r.e, .int .i64 r.k, .int .i64 r.x][j]? = some v → w.cell? ⟨b, 0 + j, none⟩ = some v := by
  intro j v hj
  match j, hj with
  | 0, hj => cases hj; exact h.c0
  | 1, hj => cases hj; exact h.c1
  | 2, hj => cases hj; exact h.c2
  | 3, hj => cases hj; exact h.c3

theorem results_ABox {fn : Func} {p : Tmp} (h : fn.results = #[.cell p 28]) (tmps : Array Value) (w : World) (g : Nat) (r : Ac) (hp : tmps.getD p undef = .pointer (some ⟨g, 0, none⟩)) (hb : ABox w g r) :
    (results fn tmps).run Try.prog w = .ok (.agg #[.int .i64 r.d, .int .i64 r.e, .int .i64 r.k, .int .i64 r.x]) w := results_cells h tmps w g 0 _ _ hp hb.cells Try.underlying28 rfl (by kernel_rfl)

/-- What a struct is behind a call, and nothing that was there has turned. -/
theorem ABox.ends {w W : World} {fn : Func} {p : Tmp} (h : fn.results = #[.cell p 28]) {tmps : Array Value} {r q : Ac} {g : Nat} (hp : tmps.getD p undef = .pointer (some ⟨g, 0, none⟩)) (hb : ABox W g r) (hq : r = q) (hs : Stay (fun _ => False) w W)
    {d : List Deferred} (hd : d = []) : bodyPost Try.prog fn (Gives (.agg #[.int .i64 q.d, .int .i64 q.e, .int .i64 q.k, .int .i64 q.x]) w) Exit.ret { tmps := tmps, defers := d } W := by
  subst hq hd
  exact bodyPost_ret (results_ABox h _ _ _ r hp hb) rfl ⟨rfl, hs⟩

/-- The world in which a box holds another one. -/
theorem ABox.put {w : World} {b : Nat} {r0 : Ac} (h : ABox w b r0) (r : Ac) : ABox ((((w.setCell ⟨b, 0, none⟩ (.int .i64 r.d)).setCell ⟨b, 1, none⟩ (.int .i64 r.e)).setCell ⟨b, 2, none⟩ (.int .i64 r.k)).setCell ⟨b, 3, none⟩ (.int .i64 r.x)) b r := by
  obtain ⟨h0, h1, h2, h3, k0, k1, k2, k3⟩ := h
  constructor <;> simp [go_sem, *]

theorem ABox.stay_put {S : Nat → Prop} {w w1 : World} {b : Nat} (h : Stay S w w1) (hb : w.heap.size ≤ b) (v0 v1 v2 v3 : Value) : Stay S w ((((w1.setCell ⟨b, 0, none⟩ v0).setCell ⟨b, 1, none⟩ v1).setCell ⟨b, 2, none⟩ v2).setCell ⟨b, 3, none⟩ v3) :=
  ((((h.setNew hb v0).setNew hb v1).setNew hb v2).setNew hb v3)

theorem ABox.put0 {w : World} {b : Nat} {r : Ac} (h : ABox w b r) {x : Int} {q : Ac} (hq : q = ⟨x, r.e, r.k, r.x⟩) : ABox (w.setCell ⟨b, 0, none⟩ (.int .i64 x)) b q := by
  subst hq
  obtain ⟨h0, h1, h2, h3, k0, k1, k2, k3⟩ := h
  constructor <;> simp [go_sem, *]

theorem ABox.put1 {w : World} {b : Nat} {r : Ac} (h : ABox w b r) {x : Int} {q : Ac} (hq : q = ⟨r.d, x, r.k, r.x⟩) : ABox (w.setCell ⟨b, 1, none⟩ (.int .i64 x)) b q := by
  subst hq
  obtain ⟨h0, h1, h2, h3, k0, k1, k2, k3⟩ := h
  constructor <;> simp [go_sem, *]

theorem ABox.put2 {w : World} {b : Nat} {r : Ac} (h : ABox w b r) {x : Int} {q : Ac} (hq : q = ⟨r.d, r.e, x, r.x⟩) : ABox (w.setCell ⟨b, 2, none⟩ (.int .i64 x)) b q := by
  subst hq
  obtain ⟨h0, h1, h2, h3, k0, k1, k2, k3⟩ := h
  constructor <;> simp [go_sem, *]

theorem ABox.put3 {w : World} {b : Nat} {r : Ac} (h : ABox w b r) {x : Int} {q : Ac} (hq : q = ⟨r.d, r.e, r.k, x⟩) : ABox (w.setCell ⟨b, 3, none⟩ (.int .i64 x)) b q := by
  subst hq
  obtain ⟨h0, h1, h2, h3, k0, k1, k2, k3⟩ := h
  constructor <;> simp [go_sem, *]

theorem ABox.other {w : World} {b b' o : Nat} {r : Ac} {v : Value} (h : ABox w b r) (hb : b' ≠ b) : ABox (w.setCell ⟨b', o, none⟩ v) b r :=
  h.stay (T := fun k => k = b') ((Stay.refl (fun k => k = b') w).setCell (S := fun k => k = b') (p := ⟨b', o, none⟩) rfl v) (fun e => hb e.symm)

theorem run_load_ABox {a : Act} {o : Oper} {x : Operand} {w : World} {b : Nat} {r : Ac} (ho : o.op = .load 28 x) (hx : a.eval x = .pointer (some ⟨b, 0, none⟩)) (hb : ABox w b r) :
    (execOp a.eval o).run Try.prog w = .ok (.value (.agg #[.int .i64 r.d, .int .i64 r.e, .int .i64 r.k, .int .i64 r.x])) w := by
  unfold execOp
  simp only [ho, hx, Instr.loadAt, Instr.sureAddr, Sem.run_bind, Sem.run_pure, Result.andThen_ok]
  rw [run_loadVar_cells w b 0 28 _ _ hb.cells Try.underlying28 rfl (by kernel_rfl)]
  rfl

/-- One in the midst of a block. -/
structure ABoxAt (w : World) (g o : Nat) (r : Ac) : Prop where
  c0 : w.cell? ⟨g, o, none⟩ = some (.int .i64 r.d)
  c1 : w.cell? ⟨g, o + 1, none⟩ = some (.int .i64 r.e)
  c2 : w.cell? ⟨g, o + 2, none⟩ = some (.int .i64 r.k)
  c3 : w.cell? ⟨g, o + 3, none⟩ = some (.int .i64 r.x)

theorem ABoxAt.keep {W w1 : World} {g o : Nat} {r : Ac} (h : ABoxAt W g o r) (hs : Stay (fun _ => False) W w1) : ABoxAt w1 g o r := ⟨keep_cell hs h.c0, keep_cell hs h.c1, keep_cell hs h.c2, keep_cell hs h.c3⟩

theorem ABoxAt.cells {w : World} {g o : Nat} {r : Ac} (h : ABoxAt w g o r) : ∀ (j : Nat) (v : Value), [Value.int .i64 r.d, .int .i64 r.e, .int .i64 r.k, .int .i64 r.x][j]? = some v → w.cell? ⟨g, o + j, none⟩ = some v := by
  intro j v hj
  match j, hj with
  | 0, hj => cases hj; exact h.c0
  | 1, hj => cases hj; exact h.c1
  | 2, hj => cases hj; exact h.c2
  | 3, hj => cases hj; exact h.c3

theorem run_load_ABoxAt {a : Act} {p : Oper} {x : Operand} {w : World} {g o : Nat} {r : Ac} (ho : p.op = .load 28 x) (hx : a.eval x = .pointer (some ⟨g, o, none⟩)) (hb : ABoxAt w g o r) :
    (execOp a.eval p).run Try.prog w = .ok (.value (.agg #[.int .i64 r.d, .int .i64 r.e, .int .i64 r.k, .int .i64 r.x])) w := by
  unfold execOp
  simp only [ho, hx, Instr.loadAt, Instr.sureAddr, Sem.run_bind, Sem.run_pure, Result.andThen_ok]
  rw [run_loadVar_cells w g o 28 _ _ hb.cells Try.underlying28 rfl (by kernel_rfl)]
  rfl


theorem slice_l_eq {P : Program} {t sz : Nat} {sa : Option Addr} {m cap k : Nat} (ht : P.underlying t = some (.slice (P.elem t))) (hz : (P.info? (P.elem t)).map (·.size) = some sz) (hk : k ≤ m) (w : World) :
    (Instr.slice t (.slice sa m cap) (some (.int .i64 (k : Nat))) none none).run P w = .ok (.slice (if cap = k then sa else sa.map (·.add (k * sz))) (m - k) (cap - k)) w := by
  obtain ⟨i, hi, rfl⟩ := Option.map_eq_some_iff.1 hz
  rw [run_slice_l _ _ _ _ _ ht _ _ (by omega) (by omega)]
  simp [sizeOf, typeInfo, hi, Result.andThen, sliced]


/-- The clock, and the document's timers beside it. -/
structure PG (w wr : World) (b : Nat) (q : Cq) (nw : Nat) (xa : Option Addr) (xn xc : Nat) (L : List Tm) : Prop where
  cin : CIn w wr b q (nw : Nat) L
  rd : Rd wr xa L
  len : L.length = xn
  cap : xn ≤ xc
  off : L ≠ [] → ∀ j, xa.map Addr.block = some j → w.heap.size ≤ j ∧ ¬ q.own j
  nn : ∀ t ∈ L, 0 ≤ t.nr

theorem PG.keep {w wr w1 : World} {b : Nat} {q : Cq} {nw : Nat} {xa : Option Addr} {xn xc : Nat} {L : List Tm} (h : PG w wr b q nw xa xn xc L) (hs : Stay (fun _ => False) wr w1) : PG w w1 b q nw xa xn xc L :=
  ⟨h.cin.keep hs, h.rd.keep hs, h.len, h.cap, h.off, h.nn⟩

theorem Rd.lt {w : World} {a : Option Addr} {L : List Tm} (h : Rd w a L) (hn : L ≠ []) : ∀ j, a.map Addr.block = some j → j < w.heap.size := by
  intro j hj
  cases L with
  | nil => exact absurd rfl hn
  | cons t L =>
    obtain ⟨g, o, rfl, hb⟩ := h.first
    cases hj
    exact World.block_lt_of_cell? _ _ hb.c0

/-- The clock has turned, the document's timers have not. -/
theorem PG.moved {w wr w1 : World} {b : Nat} {q q' : Cq} {nw : Nat} {xa : Option Addr} {xn xc : Nat} {L : List Tm} (h : PG w wr b q nw xa xn xc L) (hm : Moved q q' wr w1) : Rd w1 xa L ∧ (L ≠ [] → ∀ j, xa.map Addr.block = some j → w.heap.size ≤ j ∧ ¬ q'.own j) := by
  by_cases hn : L = []
  · subst hn
    exact ⟨Rd.nil _ _, fun e => absurd rfl e⟩
  · exact ⟨h.rd.stay hm.1 (fun j hj => (h.off hn j hj).2), fun _ j hj => ⟨(h.off hn j hj).1, hm.not (h.off hn j hj).2 (h.rd.lt hn j hj)⟩⟩

/-- Other timers of the document's, the clock's. -/
theorem PG.of {w wr w1 : World} {b : Nat} {q : Cq} {nw : Nat} {a : Option Addr} {c : Nat} {L : List Tm} {n : Nat} (hc : CIn w wr b q (nw : Nat) L) (hs : Stay (fun _ => False) wr w1) (hr : Rd w1 a L) (hl : L.length = n) (hle : n ≤ c) (hf : ∀ j, a.map Addr.block = some j → wr.heap.size ≤ j) (hnn : ∀ t ∈ L, 0 ≤ t.nr) : PG w w1 b q nw a n c L :=
  ⟨hc.keep hs, hr, hl, hle, fun _ j hj => ⟨Nat.le_trans hc.stay.size (hf j hj), fun e => by have h1 := hf j hj; have h2 := hc.at'.lt j e; omega⟩, hnn⟩

theorem ABox.turn {wr w1 : World} {B : Nat} {r : Ac} {q q' : Cq} (h : ABox wr B r) (hm : Moved q q' wr w1) (hB : ¬ q.own B) : ABox w1 B r := h.stay hm.1 hB

theorem nn_out {p : Tm → Bool} {L : List Tm} (h : ∀ t ∈ L, 0 ≤ t.nr) : ∀ t ∈ outL p L, 0 ≤ t.nr := fun t ht => h t (List.mem_filter.1 ht).1

theorem nn_ins {t : Tm} {L : List Tm} (h : ∀ t ∈ L, 0 ≤ t.nr) (ht : 0 ≤ t.nr) : ∀ u ∈ insT t L, 0 ≤ u.nr := fun u hu => by
  rcases insT_mem.1 hu with e | hu
  · rw [e]; exact ht
  · exact h u hu

theorem nn_drop {L : List Tm} {k : Nat} (h : ∀ t ∈ L, 0 ≤ t.nr) : ∀ t ∈ L.drop k, 0 ≤ t.nr := fun t ht => h t (List.mem_of_mem_drop ht)

theorem setE_ok {e k x : Int} (h : setE e k x = 0) : 0 ≤ e ∧ 0 ≤ k ∧ 1 ≤ x ∧ x ≤ 1073741824 := by
  unfold setE at h
  split at h
  · omega
  · split at h
    · omega
    · omega

theorem ins_out_len {t : Tm} {p : Tm → Bool} {L : List Tm} : (insT t (outL p L)).length ≤ L.length + 1 := by
  rw [insT_len]
  have := outL_len p L
  omega

/-- How many there are less tells whether one went. -/
theorem gone_ne (p : Tm → Bool) (L : List Tm) {yn xn : Nat} (hy : (outL p L).length = yn) (hx : L.length = xn) : (((yn : Nat) : Int) != ((xn : Nat) : Int)) = decide (0 < goneI p L) := by
  have h := outL_len p L
  unfold goneI
  by_cases e : yn = xn
  · rw [decide_eq_false (by omega), e]
    simp
  · rw [decide_eq_true (by omega)]
    exact bne_iff_ne.2 (by omega)

theorem out_neg {e k : Int} {L : List Tm} (h : ∀ t ∈ L, 0 ≤ t.nr) (hk : k < 0) : outL (isB e k) L = L := outL_all (fun t ht => by
  have := h t ht
  unfold isB
  simp only [Bool.and_eq_false_iff, beq_eq_false_iff_ne]
  right
  omega)

theorem outB_is {e k : Int} (hk : 0 ≤ k) : outB e k = isB e k := by funext t; unfold outB; rw [if_pos hk]

theorem outB_of (e : Int) : outB e (-1) = ofB e := by funext t; unfold outB; rw [if_neg (by decide)]

/-- Acts that came in, one by one. -/
def Acts (w : World) (ad : Option Addr) (n : Nat) (F : Nat → Ac) : Prop := ∀ i, i < n → ∃ g o, ad = some ⟨g, o, none⟩ ∧ ABoxAt w g (o + i * 4) (F i)

set_option maxRecDepth 100000 in
theorem plays_long (ad : Option Addr) (n cap : Nat) (w : World) (hle : (n : Int) ≤ 9223372036854775807) (hn : 100 < n) : Calls Try.prog 3 #[.slice ad n cap] w (LawTrue w) := by
  have n1 : (100 : Int) < (n : Nat) := by omega
  have HAW := hide' awake7
  go_enter Try.func3, Try.ntmps3
  go_wp2_with fail
  refine (HAW.out _).mono ?_
  rintro e w9 ⟨rfl, hs⟩
  have HE := hide' hs
  clear hs
  go_wp2
  go_ret
  exact ⟨rfl, HE.out⟩

end Go.Proofs.Ytihciknbmhadjaa
