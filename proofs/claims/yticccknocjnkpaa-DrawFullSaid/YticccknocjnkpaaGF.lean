/-
  Cells are drawn: places and cells. No conditions.
  Cells are drawn: walked. No conditions.
-/
import Derived.Test.YticccknocjnkpaaR6
namespace Go.Proofs.Yticccknocjnkpaa
open Go.RowKit Go.Shelf

/-- What is drawn at a place. -/
def cellQ (p : Wn) (x : Int) (l : Nat → Cl) (j k : Nat) : Wr := Wr.of (p.x + k) (p.y + j) (l ((k : Int) - x).toNat)

theorem own_false {L : List Wn} {p : Wn} {u v : Int} (h : ¬ (0 ≤ u ∧ u < p.w ∧ 0 ≤ v ∧ v < p.h)) : ownB L p u v = false := by
  cases e : ownB L p u v
  · rfl
  · exfalso
    unfold ownB at e
    simp only [Bool.and_eq_true, decide_eq_true_eq] at e
    exact h ⟨e.1.1.1.1, e.1.1.1.2, e.1.1.2, e.1.2⟩

theorem cellsN_out {L : List Wn} {p : Wn} {x y : Int} {l : Nat → Cl} (h : ¬ (0 ≤ y ∧ y < p.h)) : ∀ k, cellsN L p x y l k = []
  | 0 => rfl
  | k + 1 => by
    show cellsN L p x y l k ++ (if _ then _ else _ : List Wr) = []
    rw [cellsN_out h k, own_false (fun e => h e.2.2), if_neg (by decide)]
    rfl

section
variable {P : Nat → Nat → Bool} {Q : Nat → Nat → Wr}

theorem rowN_end {j a b : Nat} (hab : a ≤ b) (h : ∀ i, a ≤ i → ¬ P j i = true) : rowN P Q j b = rowN P Q j a := by
  rw [← drawM_row, ← drawM_row]
  have := rowS_end (P := P) (j := j) (a := a) (b - a) h
  rw [show a + (b - a) = b by omega] at this
  rw [this]

theorem rowN_nil {j k : Nat} (h : ∀ i, i < k → ¬ P j i = true) : rowN P Q j k = [] := by
  rw [← drawM_row, rowS_nil k h]
  rfl

theorem allN_nil {n j : Nat} (h : ∀ i k, i < j → ¬ P i k = true) : allN P Q n j = [] := by
  rw [← drawM_all, allS_nil j h]
  rfl

theorem allN_one {n j a : Nat} (ha : a < j) (h : ∀ i k, P i k = true → i = a) : allN P Q n j = rowN P Q a n := by
  have e := allS_end (P := P) (n := n) (a := a + 1) (j - (a + 1)) (fun i k hi hp => by have := h i k hp; omega)
  rw [show a + 1 + (j - (a + 1)) = j by omega] at e
  rw [← drawM_all, e, drawM_all]
  show allN P Q n a ++ rowN P Q a n = _
  rw [allN_nil (fun i k hi hp => by have := h i k hp; omega), List.nil_append]

end

theorem cells_row {L : List Wn} {p : Wn} {x : Int} {j0 n : Nat} {l : Nat → Cl} (hx : -1073741824 ≤ x ∧ x ≤ 1073741824) (hj : (j0 : Int) < p.h) : ∀ k, k ≤ n → cellsN L p x j0 l k = rowN (fillP L p ⟨x, j0, n, 1⟩) (cellQ p x l) j0 (min (x + k).toNat p.w.toNat)
  | 0, _ => by
    show [] = _
    rw [rowN_nil]
    intro i hi hp
    have := (fill_at hp).2.2
    simp only at this
    omega
  | k + 1, h => by
    have ih := cells_row hx hj k (by omega) (L := L) (l := l) (n := n)
    show cellsN L p x j0 l k ++ (if _ then _ else _ : List Wr) = _
    rw [ih]
    by_cases h0 : x + (k : Int) < 0
    · rw [own_false (by omega), if_neg (by decide), List.append_nil]
      congr 1
      omega
    · by_cases h1 : x + (k : Int) < p.w
      · obtain ⟨i, hi⟩ : ∃ i : Nat, x + (k : Int) = i := ⟨(x + k).toNat, by omega⟩
        have e1 : min (x + (k : Int)).toNat p.w.toNat = i := by omega
        have e2 : min (x + ((k + 1 : Nat) : Int)).toNat p.w.toNat = i + 1 := by omega
        rw [e1, e2, hi]
        show _ = rowN _ _ j0 i ++ (if _ then _ else _ : List Wr)
        have hin : inB ⟨x, j0, n, 1⟩ i j0 = true := by
          unfold inB
          simp only [Bool.and_eq_true, decide_eq_true_eq]
          omega
        have hP : fillP L p ⟨x, j0, n, 1⟩ j0 i = ownB L p i j0 := by
          unfold fillP
          rw [hin]
          rfl
        have hQ : cellQ p x l j0 i = Wr.of (p.x + x + k) (p.y + j0) (l k) := by
          unfold cellQ
          rw [show ((i : Int) - x).toNat = k by omega, show p.x + (i : Int) = p.x + x + k by omega]
        rw [hP, hQ]
      · rw [own_false (by omega), if_neg (by decide), List.append_nil]
        congr 1
        omega

theorem drawM_cells {L : List Wn} {p : Wn} {x y : Int} {n : Nat} {l : Nat → Cl} (hx : -1073741824 ≤ x ∧ x ≤ 1073741824) (hy : -1073741824 ≤ y ∧ y ≤ 1073741824) (hn : n ≤ 1000) : drawM (cellQ p x l) (ownS L p ⟨x, y, n, 1⟩) = cellsA L p x y l n := by
  have hr : rightB ⟨x, y, n, 1⟩ = true := by
    unfold rightB nearB
    simp only [Bool.and_eq_true, decide_eq_true_eq]
    omega
  unfold ownS cellsA
  rw [if_pos hr, if_neg (by unfold farB; simp only [Bool.or_eq_true, decide_eq_true_eq]; omega), drawM_all]
  have hone : ∀ i k, fillP L p ⟨x, y, n, 1⟩ i k = true → (i : Int) = y := fun i k h => by
    have := (fill_at h).2.2
    simp only at this
    omega
  by_cases h : 0 ≤ y ∧ y < p.h
  · obtain ⟨j0, rfl⟩ : ∃ j : Nat, y = j := ⟨y.toNat, by omega⟩
    rw [allN_one (a := j0) (by omega) (fun i k hp => by have := hone i k hp; omega), cells_row hx h.2 n (Nat.le_refl _)]
    refine rowN_end (by omega) (fun i hi hp => ?_)
    have h1 := fill_at hp
    simp only at h1
    omega
  · rw [cellsN_out h, allN_nil]
    intro i k hi hp
    have h1 := hone i k hp
    have h2 := (fill_at hp).2.1
    omega

/-- A block that is no frame's, and older. -/
theorem BI.other {fq : Fm} {nb k : Nat} {wl W : World} {f : Nat → Cl} {N : List Wr} {v : Value} (H : BI fq nb wl f N k v W) {j : Nat} (hj : j < wl.heap.size) (hn : ¬ fq.own j) : ¬ (fq.with v).own j := fun h => by
  rcases h with h | h | h
  · exact hn (.inl h)
  · exact hn (.inr (.inl h))
  · rcases H.vo j h with h1 | h1
    · exact hn h1
    · omega

end Go.Proofs.Yticccknocjnkpaa

namespace Go.Proofs.Yticccknocjnkpaa
open Go.RowKit Go.Shelf

attribute [local go_sem] Oper.semAt_some

theorem slice_l_eq {P : Program} {t sz : Nat} {sa : Option Addr} {m cap k : Nat} (ht : P.underlying t = some (.slice (P.elem t))) (hz : (P.info? (P.elem t)).map (·.size) = some sz) (hk : k ≤ m) (w : World) :
    (Instr.slice t (.slice sa m cap) (some (.int .i64 (k : Nat))) none none).run P w = .ok (.slice (if cap = k then sa else sa.map (·.add (k * sz))) (m - k) (cap - k)) w := by
  obtain ⟨i, hi, rfl⟩ := Option.map_eq_some_iff.1 hz
  rw [run_slice_l _ _ _ _ _ ht _ _ (by omega) (by omega)]
  simp [sizeOf, typeInfo, hi, Result.andThen, sliced]

theorem elem33 : Try.prog.underlying 33 = some (.slice (Try.prog.elem 33)) := by kernel_rfl

theorem size33 : (Try.prog.info? (Try.prog.elem 33)).map (·.size) = some 4 := by kernel_rfl

theorem add_at (g o j : Nat) : (⟨g, o, none⟩ : Addr).add j = ⟨g, o + j, none⟩ := by
  unfold Addr.add
  split
  · rename_i h
    rw [h, Nat.add_zero]
  · rfl

theorem add_block (a : Addr) (j : Nat) : (a.add j).block = a.block := by
  unfold Addr.add
  split <;> rfl

theorem far_no {x y : Int} (h : true = (!farB x && !farB y)) : farB x = false ∧ farB y = false := by
  cases h1 : farB x <;> cases h2 : farB y <;> rw [h1, h2] at h <;> first | exact ⟨rfl, rfl⟩ | cases h

theorem far_yes {x y : Int} (h : false = (!farB x && !farB y)) : (farB x || farB y) = true := by
  cases h1 : farB x <;> cases h2 : farB y <;> rw [h1, h2] at h <;> first | rfl | cases h

/-- What is left of cells that are cut at their front. -/
theorem CRd.cut {w : World} {la : Option Addr} {n lc k : Nat} {l : Nat → Cl} (h : CRd w la n l) (hc : n ≤ lc) (hk : k ≤ n) : CRd w (if lc = k then la else la.map (·.add (k * 4))) (n - k) (fun i => l (k + i)) := fun i hi => by
  obtain ⟨g, o, e, hb⟩ := h (k + i) (by omega)
  subst e
  refine ⟨g, o + k * 4, ?_, ?_⟩
  · rw [if_neg (by omega), Option.map_some, add_at]
  · rw [show o + k * 4 + i * 4 = o + (k + i) * 4 by omega]
    exact hb

theorem cells_skip {L : List Wn} {p : Wn} {x y : Int} {l : Nat → Cl} {k : Nat} (h : (k : Int) ≤ max 0 (-x)) : ∀ d, cellsN L p x y l (k + d) = cellsN L p (x + k) y (fun i => l (k + i)) d
  | 0 => by
    show cellsN L p x y l k = []
    have key : ∀ j, j ≤ k → cellsN L p x y l j = [] := by
      intro j
      induction j with
      | zero => intro _; rfl
      | succ j ih =>
        intro hj
        show cellsN L p x y l j ++ (if ownB L p (x + (j : Int)) y = true then _ else _ : List Wr) = []
        rw [ih (by omega), own_false (by omega), if_neg (by decide)]
        rfl
    exact key k (Nat.le_refl _)
  | d + 1 => by
    show cellsN L p x y l (k + d) ++ (if ownB L p (x + ((k + d : Nat) : Int)) y = true then [Wr.of (p.x + x + ((k + d : Nat) : Int)) (p.y + y) (l (k + d))] else []) = cellsN L p (x + k) y (fun i => l (k + i)) d ++ (if ownB L p (x + k + (d : Int)) y = true then [Wr.of (p.x + (x + k) + (d : Int)) (p.y + y) (l (k + d))] else [])
    rw [cells_skip h d, show x + ((k + d : Nat) : Int) = x + k + (d : Int) by omega, show p.x + x + ((k + d : Nat) : Int) = p.x + (x + k) + (d : Int) by omega]

/-- What a round of drawing cells looks at. -/
structure CSt (bf br bl fb : Nat) (I : R) (la : Option Addr) (n lc : Nat) (l : Nat → Cl) (i : Nat) (w : World) : Prop where
  rb : Box w br I
  cf : w.cell? ⟨bf, 0, none⟩ = some (.pointer (some ⟨fb, 0, none⟩))
  cl : w.cell? ⟨bl, 0, none⟩ = some (.slice la n lc)
  el : ∀ g o, la = some ⟨g, o, none⟩ → BoxCAt w g (o + i * 4) (l i)

theorem CSt.stay {T : Nat → Prop} {bf br bl fb : Nat} {I : R} {la : Option Addr} {n lc : Nat} {l : Nat → Cl} {i : Nat} {w w1 : World} (h : CSt bf br bl fb I la n lc l i w) (hs : Stay T w w1) (h1 : ¬ T bf ∧ ¬ T br ∧ ¬ T bl) (h2 : ∀ g o, la = some ⟨g, o, none⟩ → ¬ T g) : CSt bf br bl fb I la n lc l i w1 :=
  ⟨boxR_stay h.rb hs h1.2.1, (hs.cell (p := ⟨bf, 0, none⟩) (World.block_lt_of_cell? _ _ h.cf) h1.1).trans h.cf, (hs.cell (p := ⟨bl, 0, none⟩) (World.block_lt_of_cell? _ _ h.cl) h1.2.2).trans h.cl, fun g o e => boxCAt_stay (h.el g o e) hs (h2 g o e)⟩

set_option maxRecDepth 100000 in
set_option maxHeartbeats 4000000 in
theorem cells22 (fq : Fm) (f : Nat → Cl) (N : List Wr) (sq : Sm) (sw sh : Nat) (m : Int) (L : List Wn) (id x y : Int) (la : Option Addr) (n lc : Nat) (l : Nat → Cl) (w : World) (H : Pair w fq f N sq sw sh m L) (hl : CRd w la n l) (hla : 0 < n → ∀ k, la.map Addr.block = some k → ¬ fq.own k ∧ ¬ sq.own k) (hn : n ≤ 100) (hlc : n ≤ lc) (hx : I64 x) (hy : I64 y) :
    Calls Try.prog 22 #[.pointer (some ⟨fq.b, 0, none⟩), .pointer (some ⟨sq.b, 0, none⟩), .int .i64 id, .int .i64 x, .int .i64 y, .slice la n lc] w (DrewS fq f N (drawn L id fun p => cellsA L p x y l n) (errW L id) w) := by
  obtain ⟨W0, hW0⟩ : ∃ W, W = (w.alloc (.cells #[.pointer (some ⟨fq.b, 0, none⟩)] 26)).alloc (.cells #[.slice la n lc] 33) := ⟨_, rfl⟩
  obtain ⟨bf, hbf⟩ : ∃ b, b = w.heap.size := ⟨_, rfl⟩
  obtain ⟨bl, hbl⟩ : ∃ b, b = bf + 1 := ⟨_, rfl⟩
  have hst0 : Stay (fun _ => False) w W0 := by rw [hW0]; exact ((Stay.refl _ _).alloc _).alloc _
  have HBX : Hid (W0.cell? ⟨bf, 0, none⟩ = some (.pointer (some ⟨fq.b, 0, none⟩)) ∧ W0.cell? ⟨bl, 0, none⟩ = some (.slice la n lc) ∧ W0.frozen? ⟨bl, 0, none⟩ = false) := hide' (by
    rw [hW0, hbl, hbf]
    have h := Boxed.new (w.alloc (.cells #[.pointer (some ⟨fq.b, 0, none⟩)] 26)) 33 (.slice la n lc)
    rw [World.size_alloc] at h
    exact ⟨keep_cell ((Stay.refl _ _).alloc _) (Boxed.new w 26 (.pointer (some ⟨fq.b, 0, none⟩))).cell, h.cell, h.frozen⟩)
  have HST0 := hide' hst0
  have HP0 := hide' (H.keep hst0)
  have HP1 := hide' H.fa
  have HPW := hide' H
  have HL0 := hide' hl
  have HLA := hide' hla
  have HLL : Hid (0 < n → ∀ k, la.map Addr.block = some k → k < w.heap.size) := hide' (fun h0 k hk => by
    obtain ⟨g, o, e, hb⟩ := hl 0 h0
    subst e
    cases hk
    exact World.block_lt_of_cell? _ _ hb.c0)
  have HNW : Hid (w.heap.size ≤ bf ∧ w.heap.size ≤ bl ∧ bf ≠ bl ∧ bf < W0.heap.size ∧ bl < W0.heap.size) := hide' ⟨by omega, by omega, by omega, World.block_lt_of_cell? _ _ HBX.out.1, World.block_lt_of_cell? _ _ HBX.out.2.1⟩
  obtain ⟨M, hM⟩ : ∃ M, M = drawn L id fun p => cellsA L p x y l n := ⟨_, rfl⟩
  obtain ⟨E, hE⟩ : ∃ E, E = errW L id := ⟨_, rfl⟩
  rw [← hM, ← hE]
  have HM := hide' hM
  have HE := hide' hE
  obtain ⟨hcf, hcl, hfl⟩ := HBX.out
  have hnz : (n : Int) ≤ 100 := by omega
  have HLC := hide' hlc
  have HXY := hide' (show I64 x ∧ I64 y from ⟨hx, hy⟩)
  clear hst0 H hM hE hl hla hx hy hn hlc
  refine callsIn_wide.1 (callsIn_of_wp_marks (n := 3) Try.func22 rfl trivial ((wpIn_wide (n := 3)).2 ?_) rfl)
  simp only [Try.ntmps22, List.size_toArray, List.length_cons, List.length_nil, Nat.reduceAdd, Nat.reduceSub, Array.replicate_succ, Array.replicate_zero, List.push_toArray, List.append_toArray, List.nil_append, List.cons_append]
  go_upto_region 1 with fail
  rw [← hW0, ← hbf]
  rw [← hbl]
  clear hW0 hbf hbl
  cases hp : L[plN L id]? with
  | none =>
    have e2 : E = 5 := by rw [HE.out]; unfold errW; rw [hp]
    have HM0 : Hid (M = []) := hide' (by rw [HM.out]; unfold drawn; rw [hp])
    have HWD := hide' (look40_no fq.b sq sw sh m L id W0 HP0.out.sa hp)
    subst e2
    clear hp HM HE
    go_wp2_with fail
    refine HWD.out.mono ?_
    rintro _ w1 ⟨rfl, hs⟩
    have hst := hs.alloc (.cells #[.pointer none, .int .i64 0, .int .i64 0, .int .i64 0, .int .i64 0, .int .i64 0, .int .i64 0, .bool false, .int .i64 0, .int .i64 0, .int .i64 0, .int .i64 0] 92)
    have HFN : Hid (DrewS fq f N M 5 w (.returned (.tuple #[.int .i64 0, .int .i64 5])) (w1.alloc (.cells #[.pointer none, .int .i64 0, .int .i64 0, .int .i64 0, .int .i64 0, .int .i64 0, .int .i64 0, .bool false, .int .i64 0, .int .i64 0, .int .i64 0, .int .i64 0] 92))) := hide' ⟨fq.v, by rw [HM0.out]; rfl, by rw [HM0.out, List.append_nil]; exact HP0.out.fa.keep hst, (HST0.out.trans hst).mono (fun _ _ h => h.elim), fun j hj => .inl hj⟩
    clear hs hst HWD hcf hcl hfl
    go_wp2
    refine marks_ret2 rfl ?_
    exact HFN.out
  | some p =>
    have e2 : E = 0 := by rw [HE.out]; unfold errW; rw [hp]
    have HM1 : Hid (M = cellsA L p x y l n) := hide' (by rw [HM.out]; unfold drawn; rw [hp])
    have hpm : p ∈ L := List.mem_of_getElem? hp
    have HOK : Hid (OkW sw sh p) := hide' (HP0.out.ok p hpm)
    have HOP : Hid (OkP p) := hide' (HP0.out.okP p hpm)
    have HWD := hide' (look40 fq f N sq sw sh m L id p W0 HP0.out hp)
    subst e2
    clear hp HM HE hpm
    go_wp2_with fail
    refine HWD.out.mono ?_
    rintro _ w1 ⟨rfl, hs⟩
    obtain ⟨w2, hw2⟩ : ∃ W, W = w1.alloc (.cells #[.pointer (some ⟨sq.b, 0, none⟩), .int .i64 p.id, .int .i64 p.env, .int .i64 p.x, .int .i64 p.y, .int .i64 p.w, .int .i64 p.h, .bool p.hid, .int .i64 p.x, .int .i64 p.y, .int .i64 p.w, .int .i64 p.h] 92) := ⟨_, rfl⟩
    obtain ⟨bw, hbw⟩ : ∃ b, b = w1.heap.size := ⟨_, rfl⟩
    have hst2 : Stay (fun _ => False) w1 w2 := by rw [hw2]; exact (Stay.refl _ _).alloc _
    have HBW := hide' (show VBox w2 bw ⟨.pointer (some ⟨sq.b, 0, none⟩), p.id, p.env, p.x, p.y, p.w, p.h, p.hid, p.x, p.y, p.w, p.h⟩ by rw [hw2]; exact VBox.new ⟨.pointer (some ⟨sq.b, 0, none⟩), p.id, p.env, p.x, p.y, p.w, p.h, p.hid, p.x, p.y, p.w, p.h⟩ hbw.symm)
    have HS2 := hide' (hs.trans hst2)
    have HN2 : Hid (W0.heap.size ≤ bw ∧ bw < w2.heap.size) := hide' ⟨by have := hs.size; omega, by rw [hw2, hbw]; simp⟩
    obtain ⟨fb, hfb⟩ : ∃ b, b = (!farB x && !farB y) := ⟨_, rfl⟩
    have HNR := hide' (fun W => near44 x y W)
    rw [← hfb] at HNR
    have HFB := hide' hfb
    clear hs hst2 HWD hcf hcl hfl hfb
    go_upto_region 2 with fail
    rw [← hw2, ← hbw]
    clear hw2 hbw
    go_wp2_with fail
    refine (HNR.out _).mono ?_
    rintro _ wa ⟨rfl, hsa⟩
    have HSA := hide' (HS2.out.trans hsa)
    have HBV := hide' (HBW.out.keep hsa)
    have HNA : Hid (w2.heap.size ≤ wa.heap.size) := hide' hsa.size
    clear hsa HBW HNR
    cases fb
    · have HM0 : Hid (M = []) := hide' (by
        rw [HM1.out]
        unfold cellsA
        rw [if_pos (far_yes HFB.out)])
      have HFN : Hid (DrewS fq f N M 0 w (.returned (.tuple #[.int .i64 0, .int .i64 0])) wa) := hide' ⟨fq.v, by rw [HM0.out]; rfl, by rw [HM0.out, List.append_nil]; exact HP0.out.fa.keep HSA.out, (HST0.out.trans HSA.out).mono (fun _ _ h => h.elim), fun j hj => .inl hj⟩
      go_wp2
      refine marks_ret2 rfl ?_
      exact HFN.out
    · have HXF : Hid (farB x = false ∧ farB y = false ∧ -1073741824 ≤ x ∧ x ≤ 1073741824 ∧ -1073741824 ≤ y ∧ y ≤ 1073741824) := hide' (by
        obtain ⟨h1, h2⟩ := far_no HFB.out
        refine ⟨h1, h2, ?_⟩
        unfold farB at h1 h2
        simp only [Bool.or_eq_false_iff, decide_eq_false_iff_not] at h1 h2
        omega)
      obtain ⟨hx1, hx2, hx3, hx4⟩ := HXF.out.2.2
      obtain ⟨k, hk⟩ : ∃ k : Nat, min (max 0 (-x)) (n : Int) = (k : Nat) := ⟨(min (max 0 (-x)) (n : Int)).toNat, by omega⟩
      have hkn : k ≤ n := by omega
      have HKX : Hid ((k : Int) ≤ max 0 (-x)) := hide' (by omega)
      have hsll := fun w => slice_l_eq (P := Try.prog) (sa := la) (m := n) (cap := lc) (k := k) elem33 size33 hkn w
      have hcl4 := HL0.out.cut HLC.out hkn
      obtain ⟨va, hva⟩ : ∃ a, a = (if lc = k then la else la.map (·.add (k * 4))) := ⟨_, rfl⟩
      obtain ⟨nl, hnl⟩ : ∃ q, q = n - k := ⟨_, rfl⟩
      obtain ⟨nc, hnc⟩ : ∃ q, q = lc - k := ⟨_, rfl⟩
      rw [← hva, ← hnl, ← hnc] at hsll
      rw [← hva, ← hnl] at hcl4
      have HL1 := hide' hcl4
      have HVA : Hid (0 < nl → ∀ g o, va = some ⟨g, o, none⟩ → ¬ fq.own g ∧ g < w.heap.size) := hide' (fun h0 g o e => by
        have hn0 : 0 < n := by omega
        have hb : la.map Addr.block = some g := by
          rw [hva] at e
          by_cases h : lc = k
          · have := HLC.out; omega
          · rw [if_neg h] at e
            cases la with
            | none => cases e
            | some a =>
              simp only [Option.map_some, Option.some.injEq] at e
              show some a.block = some g
              have := congrArg Addr.block e
              rw [add_block] at this
              rw [this]
        exact ⟨(HLA.out hn0 g hb).1, HLL.out hn0 g hb⟩)
      have HRT : Hid (rightB ⟨x + (k : Int), y, (nl : Nat), 1⟩ = true) := hide' (by
        unfold rightB nearB
        simp only [Bool.and_eq_true, decide_eq_true_eq]
        omega)
      have HSCE : Hid (scrR p ⟨x + (k : Int), y, (nl : Nat), 1⟩ = ⟨x + (k : Int) + p.x, y + p.y, (nl : Nat), 1⟩) := hide' (by unfold scrR; rw [if_pos HRT.out])
      obtain ⟨l', hl'⟩ : ∃ l' : Nat → Cl, l' = fun i => l (k + i) := ⟨_, rfl⟩
      rw [← hl'] at HL1
      have HM2 : Hid (M = drawM (cellQ p (x + (k : Int)) l') (ownS L p ⟨x + (k : Int), y, (nl : Nat), 1⟩)) := hide' (by
        rw [drawM_cells (by omega) ⟨hx3, hx4⟩ (by omega), HM1.out]
        have h1 : farB (x + (k : Int)) = false := by
          unfold farB
          simp only [Bool.or_eq_false_iff, decide_eq_false_iff_not]
          omega
        unfold cellsA
        rw [if_neg (by rw [HXF.out.1, HXF.out.2.1]; decide), if_neg (by rw [h1, HXF.out.2.1]; decide), hl', ← cells_skip HKX.out nl]
        congr 1
        omega)
      have hnlb : (nl : Int) ≤ 100 := by omega
      have hmin : min (nl : Int) 512 = (nl : Nat) := by omega
      have hwn : IntKind.i64.wrap (-x) = -x := by rw [IntKind.wrap_i64]; omega
      have hwk : IntKind.i64.wrap (x + (k : Int)) = x + (k : Int) := by rw [IntKind.wrap_i64]; omega
      have HSC := hide' (fun W => onScreen42 (.pointer (some ⟨sq.b, 0, none⟩)) p ⟨x + (k : Int), y, (nl : Nat), 1⟩ W HOP.out)
      have HOW := hide' (fun W => owned41 (.pointer (some ⟨sq.b, 0, none⟩)) p (scrR p ⟨x + (k : Int), y, (nl : Nat), 1⟩) _ rfl W)
      rw [HSCE.out] at HSC
      simp only at HSC
      obtain ⟨X0, hX0⟩ : ∃ a, a = x + (k : Int) + p.x := ⟨_, rfl⟩
      obtain ⟨Y0, hY0⟩ : ∃ a, a = y + p.y := ⟨_, rfl⟩
      rw [HSCE.out] at HOW
      rw [← hX0, ← hY0] at HSC HOW HSCE
      simp only at HSC HOW
      have HX0 := hide' hX0
      clear hX0 hY0
      have hcf := keep_cell HSA.out HBX.out.1
      have hcl := keep_cell HSA.out HBX.out.2.1
      have hfl := keep_frozen HSA.out HBX.out.2.1 HBX.out.2.2
      have HKN := hide' hkn
      have HNLE := hide' hnl
      obtain ⟨wb, hwb⟩ : ∃ W, W = wa.setCell ⟨bl, 0, none⟩ (.slice va nl nc) := ⟨_, rfl⟩
      have hsb : Stay (fun j => j = bl) wa wb := by rw [hwb]; exact (Stay.refl (fun j => j = bl) wa).setCell (p := ⟨bl, 0, none⟩) rfl _
      have HSB := hide' (show Stay (fun _ => False) w wb by rw [hwb]; exact (HST0.out.trans HSA.out).setNew HNW.out.2.1 _)
      have HBW := hide' (HBV.out.stay hsb (by have h1 := HNW.out; have h2 := HN2.out; omega))
      have HCB := hide' (show wb.cell? ⟨bf, 0, none⟩ = some (.pointer (some ⟨fq.b, 0, none⟩)) ∧ wb.cell? ⟨bl, 0, none⟩ = some (.slice va nl nc) from ⟨(hsb.cell (p := ⟨bf, 0, none⟩) (World.block_lt_of_cell? _ _ hcf) HNW.out.2.2.1).trans hcf, by rw [hwb]; exact World.cell?_setCell_same' _ _ _ (by rw [hcl]; rfl)⟩)
      obtain ⟨v0, v1, v2, v3, v4, v5, v6, v7, v8, v9, va', vb, _⟩ := HBW.out
      simp only at v0 v1 v2 v3 v4 v5 v6 v7 v8 v9 va' vb
      have hclb := HCB.out.2
      have HZW := hide' hsb.size
      clear hcl4 hva hnl hnc hkn hl' hsb
      go_upto_region 6 with fail
      rw [← hwb]
      clear hwb hcf hcl hfl
      go_wp2_with fail
      refine (HSC.out _).mono ?_
      rintro _ wc ⟨rfl, hsc⟩
      obtain ⟨w3, hw3⟩ : ∃ W, W = (wc.alloc (.cells #[.int .i64 X0, .int .i64 Y0, .int .i64 (nl : Nat), .int .i64 1] 41)).alloc (.cells #[.int .i64 0] 3) := ⟨_, rfl⟩
      obtain ⟨br, hbr⟩ : ∃ b, b = wc.heap.size := ⟨_, rfl⟩
      obtain ⟨nb, hnb⟩ : ∃ b, b = br + 1 := ⟨_, rfl⟩
      have hst3 : Stay (fun _ => False) wc w3 := by rw [hw3]; exact ((Stay.refl _ _).alloc _).alloc _
      have HRB := hide' (show Box w3 br ⟨X0, Y0, (nl : Nat), 1⟩ by rw [hw3]; exact (Box.new ⟨X0, Y0, (nl : Nat), 1⟩ hbr.symm).alloc _)
      have HNB : Hid (w3.cell? ⟨nb, 0, none⟩ = some (.int .i64 0) ∧ w3.frozen? ⟨nb, 0, none⟩ = false) := hide' (by
        have h := Boxed.new (wc.alloc (.cells #[.int .i64 X0, .int .i64 Y0, .int .i64 (nl : Nat), .int .i64 1] 41)) 3 (.int .i64 0)
        rw [World.size_alloc, ← hbr, ← hnb, ← hw3] at h
        exact ⟨h.cell, h.frozen⟩)
      have hsb3 := hsc.trans hst3
      have HS3 := hide' (HSB.out.trans hsb3)
      have HV3 := hide' (HBW.out.keep hsb3)
      have HC3 := hide' (show w3.cell? ⟨bf, 0, none⟩ = some (.pointer (some ⟨fq.b, 0, none⟩)) ∧ w3.cell? ⟨bl, 0, none⟩ = some (.slice va nl nc) from ⟨keep_cell hsb3 HCB.out.1, keep_cell hsb3 HCB.out.2⟩)
      have HN3 : Hid (w.heap.size ≤ br ∧ bf < br ∧ bl < br ∧ nb = br + 1 ∧ nb < w3.heap.size) := hide' ⟨by have h1 := HSB.out.size; have h2 := hsc.size; omega, by have h1 := World.block_lt_of_cell? _ _ HCB.out.1; have h2 := hsc.size; simp only at h1; omega, by have h1 := World.block_lt_of_cell? _ _ HCB.out.2; have h2 := hsc.size; simp only at h1; omega, hnb, World.block_lt_of_cell? _ _ HNB.out.1⟩
      clear v0 v1 v2 v3 v4 v5 v6 v7 v8 v9 va' vb hclb hsc hst3 hsb3 HSC HBW HBV
      obtain ⟨v0, v1, v2, v3, v4, v5, v6, v7, v8, v9, va', vb, _⟩ := HV3.out
      simp only at v0 v1 v2 v3 v4 v5 v6 v7 v8 v9 va' vb
      obtain ⟨r0, r1, r2, r3, _⟩ := HRB.out
      simp only at r0 r1 r2 r3
      simp only
      go_upto_region 8 with fail
      rw [← hw3, ← hbr]
      rw [← hnb]
      clear hw3 hbr hnb
      go_wp2_with fail
      refine (HOW.out _).mono ?_
      rintro _ w4 ⟨br2, bv2, rfl, hs4, hb1, hb2, h2, h3⟩
      have hb1' : Box w4 br2 (bothR (scrR p ⟨x + (k : Int), y, (nl : Nat), 1⟩) ⟨p.x, p.y, p.w, p.h⟩) := by rw [HSCE.out]; exact hb1
      have HT : Hid (∀ j, fq.own j → j < w.heap.size ∧ ¬ sq.own j) := hide' (fun j hj => ⟨HP1.out.lt j hj, HP0.out.dj j hj⟩)
      have HS4 := hide' (HS3.out.trans hs4)
      have HZ2 : Hid (w3.heap.size ≤ br2 ∧ w3.heap.size ≤ bv2) := hide' ⟨h3, h2⟩
      have HB4 := hide' (show Box w4 br ⟨X0, Y0, (nl : Nat), 1⟩ ∧ w4.cell? ⟨bf, 0, none⟩ = some (.pointer (some ⟨fq.b, 0, none⟩)) ∧ w4.cell? ⟨bl, 0, none⟩ = some (.slice va nl nc) from ⟨HRB.out.keep hs4, keep_cell hs4 HC3.out.1, keep_cell hs4 HC3.out.2⟩)
      have HL4 := hide' (HL1.out.keep HS4.out)
      have HNO : Hid (¬ fq.own nb ∧ ¬ fq.own br ∧ ¬ fq.own bf ∧ ¬ fq.own bl) := hide' ⟨fun e => by have := (HT.out nb e).1; have := HN3.out; omega, fun e => by have := (HT.out br e).1; have := HN3.out; omega, fun e => by have := (HT.out bf e).1; have := HNW.out; omega, fun e => by have := (HT.out bl e).1; have := HNW.out; omega⟩
      have HLT : Hid (nb < w4.heap.size ∧ (∀ j, fq.own j → j < w4.heap.size) ∧ br < w4.heap.size ∧ bf < w4.heap.size ∧ bl < w4.heap.size ∧ w.heap.size ≤ w4.heap.size) := hide' ⟨World.block_lt_of_cell? _ _ (keep_cell hs4 HNB.out.1), fun j hj => by have := (HT.out j hj).1; have := HS4.out.size; omega, World.block_lt_of_cell? _ _ HB4.out.1.c0, World.block_lt_of_cell? _ _ HB4.out.2.1, World.block_lt_of_cell? _ _ HB4.out.2.2, HS4.out.size⟩
      have HSEQ := hide' (owned66 (fun j => fq.own j ∨ j = nb) (Kp (fun j => fq.own j ∨ j = nb) w4.heap.size) 2 262145 br2 bv2 ⟨x + (k : Int), y, (nl : Nat), 1⟩ p sq sw sh m L w4 hb1' hb2 (HPW.out.sa.keep HS4.out) (fun e => by
          rcases e with e | e
          · have := (HT.out _ e).1; have := HS3.out.size; have := HZ2.out; omega
          · have := HN3.out; have := HZ2.out; omega) (fun e => by
          rcases e with e | e
          · have := (HT.out _ e).1; have := HS3.out.size; have := HZ2.out; omega
          · have := HN3.out; have := HZ2.out; omega) (fun j hj e => by
          rcases e with e | e
          · exact (HT.out j e).2 hj
          · have := HPW.out.sa.lt j hj; have := HN3.out; omega) HP0.out.okP HOP.out (fun _ => Nat.le_refl _) (fun _ _ h => h.mono (fun _ _ t => t.1)))
      have HBI := hide' (BI.begin (nb := nb) (HPW.out.fa.keep HS4.out) (keep_cell hs4 HNB.out.1) ((hs4.frozen (p := ⟨nb, 0, none⟩) (World.block_lt_of_cell? _ _ HNB.out.1) (fun h => h)).trans HNB.out.2))
      clear hs4 hb1 hb1' hb2 h2 h3 HOW v0 v1 v2 v3 v4 v5 v6 v7 v8 v9 va' vb r0 r1 r2 r3
      go_wp2
      refine (wpIn_wide (n := 3)).1 ?_
      refine wpIn_rangeFunc_all (n := 3) (gf := 66) rfl (enters Try.func66 (by kernel_rfl) (by kernel_rfl)) HSEQ.out (fun h k => h.trans k) (Kp.putObj w4 (Nat.le_refl _)) (fun _ => rfl)
        (fun pre W => ∃ v, BI fq nb w4 (applyW fq.G.w fq.G.h f (drawM (cellQ p (x + (k : Int)) l') pre)) (N ++ drawM (cellQ p (x + (k : Int)) l') pre) pre.length v W)
        (fun s A B row hs hg hr => by obtain ⟨v, hb⟩ := hs; exact ⟨v, hb.grown hg hr⟩) ⟨fq.v, HBI.out⟩ ?a1 ?assign ?body ?done
      case assign =>
        intro l x W K hK
        unfold encV
        gi_wp2
        exact hK
      case body =>
        rintro l0 pre ⟨⟨j, kk⟩, hP⟩ W ⟨v, hb⟩ hlen
        obtain ⟨hk1, hj1, hfa⟩ := fill_at hP
        simp only at hfa
        have hX0 := HX0.out
        obtain ⟨i, hi⟩ : ∃ i : Nat, p.x + (kk : Int) - X0 = i := ⟨(p.x + (kk : Int) - X0).toNat, by omega⟩
        have hin : (i : Int) < (nl : Nat) := by omega
        have hin2 : i < nl := by omega
        obtain ⟨lg, lo, hva, hbx⟩ := HL4.out i hin2
        subst hva
        have HLG : Hid (¬ fq.own lg ∧ lg < w.heap.size) := hide' (HVA.out (by omega) lg lo rfl)
        have hno : ∀ j, ¬ fq.own j → j ≠ nb → ¬ (fq.own j ∨ j = nb) := fun j h1 h2 h => by
          rcases h with h | h
          · exact h1 h
          · exact h2 h
        have hcs : CSt bf br bl fq.b ⟨X0, Y0, (nl : Nat), 1⟩ (some ⟨lg, lo, none⟩) nl nc l' i w4 := ⟨HB4.out.1, HB4.out.2.1, HB4.out.2.2, fun g o e => by cases e; exact hbx⟩
        have HN5 : Hid (bf ≠ nb ∧ br ≠ nb ∧ bl ≠ nb ∧ lg ≠ nb) := hide' (by have h2 := HN3.out; have h3 := HLG.out; omega)
        have hcW := hcs.stay hb.st ⟨hno bf HNO.out.2.2.1 HN5.out.1, hno br HNO.out.2.1 HN5.out.2.1, hno bl HNO.out.2.2.2 HN5.out.2.2.1⟩ (fun g o e => by cases e; exact hno lg HLG.out.1 HN5.out.2.2.2)
        have HPL : Hid (pre.length < 262145) := hide' hlen
        have HDM : Hid (fq.G.w = sw ∧ fq.G.h = sh ∧ sw ≤ 512 ∧ sh ≤ 512 ∧ N.length ≤ 10000) := hide' ⟨HP0.out.ew, HP0.out.eh, HP0.out.bd.1, HP0.out.bd.2, HP0.out.nl⟩
        have hok : 0 ≤ p.x ∧ 0 ≤ p.y ∧ p.x + kk < sw ∧ p.y + j < sh ∧ sw ≤ 512 ∧ sh ≤ 512 := by
          have h1 := HOK.out
          have h2 := HDM.out
          unfold OkW at h1
          omega
        have hsd : Stay (fun _ => False) W W.drew := (Stay.refl _ _).drew
        have HBH := hide' (hb.keep hsd)
        have HPT := hide' (fun W2 (h : BI fq nb w4 (applyW fq.G.w fq.G.h f (drawM (cellQ p (x + (k : Int)) l') pre)) (N ++ drawM (cellQ p (x + (k : Int)) l') pre) pre.length v W2) => put_bi h (p.x + kk) (p.y + j) (l' i) (by have := HDM.out; omega) (by have := HDM.out; omega) (by have h1 := HDM.out; have h2 := HPL.out; rw [List.length_append, drawM_len]; omega))
        have HKD := hide' (show KeepsFrom w4.heap.size W W.drew ∧ Kp (fun j => fq.own j ∨ j = nb) w4.heap.size W W.drew from ⟨keepsFrom_of_stay hsd (fun j h => h.elim), Kp.stay0 hsd⟩)
        have hS : (fun w' => CSt bf br bl fq.b ⟨X0, Y0, (nl : Nat), 1⟩ (some ⟨lg, lo, none⟩) nl nc l' i w') W.drew := hcW.stay hsd ⟨(fun h => h), (fun h => h), (fun h => h)⟩ (fun _ _ _ h => h)
        have hmv : ∀ W2 W3, Stay (fq.with v).own W2 W3 → CSt bf br bl fq.b ⟨X0, Y0, (nl : Nat), 1⟩ (some ⟨lg, lo, none⟩) nl nc l' i W2 → CSt bf br bl fq.b ⟨X0, Y0, (nl : Nat), 1⟩ (some ⟨lg, lo, none⟩) nl nc l' i W3 := fun W2 W3 hs h => h.stay hs ⟨hb.other HLT.out.2.2.2.1 HNO.out.2.2.1, hb.other HLT.out.2.2.1 HNO.out.2.1, hb.other HLT.out.2.2.2.2.1 HNO.out.2.2.2⟩ (fun g o e => by cases e; exact hb.other (by have h1 := HLT.out; have h2 := HLG.out; omega) HLG.out.1)
        have hwi : IntKind.i64.wrap (i : Int) = (i : Int) := by rw [IntKind.wrap_i64]; omega
        have hwk : IntKind.i64.wrap ((pre.length : Int) + 1) = (pre.length : Int) + 1 := by rw [IntKind.wrap_i64]; omega
        have HQE : Hid (cellQ p (x + (k : Int)) l' j kk = Wr.of (p.x + kk) (p.y + j) (l' i)) := hide' (by unfold cellQ; rw [show (kk : Int) - (x + (k : Int)) = i by omega]; rfl)
        clear hb hk1 hj1 hfa hlen hcs hcW hbx hsd hno hX0
        simp only
        gi_wp2
        refine wpIn_region_mix (fit_round _ _ l0 (by kernel_rfl)) (fun w' => CSt bf br bl fq.b ⟨X0, Y0, (nl : Nat), 1⟩ (some ⟨lg, lo, none⟩) nl nc l' i w') [(0, true), (1, true), (2, true), (3, true), (4, true), (5, true), (6, true), (7, true), (8, true), (9, true), (10, false)] (by kernel_rfl) (by kernel_rfl) (fun _ d _ _ _ h => by cases d <;> exact h) hS ?_
        refine mixI_begin (fun K0 hK0 => ?_)
        refine mixI_take hK0 (some 61) (.load 26 (.tmp 6)) 26 _ (by kernel_rfl) (by kernel_rfl) (fun w' hS' => by (obtain ⟨r0, r1, r2, r3, _⟩ := hS'.rb; obtain cf := hS'.cf; obtain cl := hS'.cl; simp only at r0 r1 r2 r3; simp only [opr]; go_simp; try with_reducible rfl)) (fun K1 hK1 => ?_)
        clear hK0 K0
        simp only [Act.put, List.setIfInBounds_toArray, List.set_cons_zero, List.set_cons_succ]
        refine mixI_take hK1 (some 62) (.move (.tmp 19)) 3 _ (by kernel_rfl) (by kernel_rfl) (fun w' hS' => by (obtain ⟨r0, r1, r2, r3, _⟩ := hS'.rb; obtain cf := hS'.cf; obtain cl := hS'.cl; simp only at r0 r1 r2 r3; simp only [opr]; go_simp; try with_reducible rfl)) (fun K2 hK2 => ?_)
        clear hK1 K1
        simp only [Act.put, List.setIfInBounds_toArray, List.set_cons_zero, List.set_cons_succ]
        refine mixI_take hK2 (some 63) (.move (.tmp 20)) 3 _ (by kernel_rfl) (by kernel_rfl) (fun w' hS' => by (obtain ⟨r0, r1, r2, r3, _⟩ := hS'.rb; obtain cf := hS'.cf; obtain cl := hS'.cl; simp only at r0 r1 r2 r3; simp only [opr]; go_simp; try with_reducible rfl)) (fun K3 hK3 => ?_)
        clear hK2 K2
        simp only [Act.put, List.setIfInBounds_toArray, List.set_cons_zero, List.set_cons_succ]
        refine mixI_take hK3 (some 64) (.load 33 (.tmp 11)) 33 _ (by kernel_rfl) (by kernel_rfl) (fun w' hS' => by (obtain ⟨r0, r1, r2, r3, _⟩ := hS'.rb; obtain cf := hS'.cf; obtain cl := hS'.cl; simp only at r0 r1 r2 r3; simp only [opr]; go_simp; try with_reducible rfl)) (fun K4 hK4 => ?_)
        clear hK3 K3
        simp only [Act.put, List.setIfInBounds_toArray, List.set_cons_zero, List.set_cons_succ]
        refine mixI_take hK4 (some 65) (.move (.tmp 19)) 3 _ (by kernel_rfl) (by kernel_rfl) (fun w' hS' => by (obtain ⟨r0, r1, r2, r3, _⟩ := hS'.rb; obtain cf := hS'.cf; obtain cl := hS'.cl; simp only at r0 r1 r2 r3; simp only [opr]; go_simp; try with_reducible rfl)) (fun K5 hK5 => ?_)
        clear hK4 K4
        simp only [Act.put, List.setIfInBounds_toArray, List.set_cons_zero, List.set_cons_succ]
        refine mixI_take hK5 (some 66) (.fieldAddr 41 (.tmp 17) 0) 0 _ (by kernel_rfl) (by kernel_rfl) (fun w' hS' => by (obtain ⟨r0, r1, r2, r3, _⟩ := hS'.rb; obtain cf := hS'.cf; obtain cl := hS'.cl; simp only at r0 r1 r2 r3; simp only [opr]; go_simp; try with_reducible rfl)) (fun K6 hK6 => ?_)
        clear hK5 K5
        simp only [Act.put, List.setIfInBounds_toArray, List.set_cons_zero, List.set_cons_succ]
        refine mixI_take hK6 (some 67) (.load 3 (.tmp 66)) 3 _ (by kernel_rfl) (by kernel_rfl) (fun w' hS' => by (obtain ⟨r0, r1, r2, r3, _⟩ := hS'.rb; obtain cf := hS'.cf; obtain cl := hS'.cl; simp only at r0 r1 r2 r3; simp only [opr]; go_simp; try with_reducible rfl)) (fun K7 hK7 => ?_)
        clear hK6 K6
        simp only [Act.put, List.setIfInBounds_toArray, List.set_cons_zero, List.set_cons_succ]
        refine mixI_take hK7 (some 68) (.binOp BinOp.sub 3 (.tmp 65) (.tmp 67) 3) 3 _ (by kernel_rfl) (by kernel_rfl) (fun w' hS' => by (obtain ⟨r0, r1, r2, r3, _⟩ := hS'.rb; obtain cf := hS'.cf; obtain cl := hS'.cl; simp only at r0 r1 r2 r3; simp only [opr]; go_simp; try with_reducible rfl)) (fun K8 hK8 => ?_)
        clear hK7 K7
        simp only [Act.put, List.setIfInBounds_toArray, List.set_cons_zero, List.set_cons_succ]
        refine mixI_take hK8 (some 69) (.indexAddr 33 (.tmp 64) (.tmp 68)) 0 _ (by kernel_rfl) (by kernel_rfl) (fun w' hS' => by (obtain ⟨r0, r1, r2, r3, _⟩ := hS'.rb; obtain cf := hS'.cf; obtain cl := hS'.cl; simp only at r0 r1 r2 r3; simp only [opr]; go_simp; try with_reducible rfl)) (fun K9 hK9 => ?_)
        clear hK8 K8
        simp only [Act.put, List.setIfInBounds_toArray, List.set_cons_zero, List.set_cons_succ]
        refine mixI_take hK9 (some 70) (.load 53 (.tmp 69)) 53 _ (by kernel_rfl) (by kernel_rfl) (fun w' hS' => by exact run_load_BoxCAt rfl rfl (hS'.el _ _ rfl)) (fun K10 hK10 => ?_)
        clear hK9 K9
        simp only [Act.put, List.setIfInBounds_toArray, List.set_cons_zero, List.set_cons_succ]
        refine mixI_call (fit_round _ _ l0 (by kernel_rfl)) hK10 (some 71) 43 #[.tmp 61, .tmp 62, .tmp 63, .tmp 70] #[26, 3, 3, 53] 4 _ (by kernel_rfl) (by kernel_rfl) (enters Try.func43 (by kernel_rfl) (by kernel_rfl)) (by go_simp; try with_reducible rfl) (fun K11 hK11 => ?_)
        clear hK10 K10
        refine (HPT.out _ HBH.out).mono ?_
        rintro e wm1 ⟨v2, rfl, ha, hm⟩
        have hS1 : _ := hmv _ _ hm.1 hS
        refine ⟨_, rfl, hS1, ?_⟩
        obtain ⟨hbi, hc1, hf1, hkf, hkp⟩ := HBH.out.put HLT.out.2.1 HLT.out.1 HNO.out.1 _ ha hm
        have HBI2 := hide' hbi
        have HKF := hide' hkf
        have HKP := hide' hkp
        have HC1 := hide' (show wm1.cell? ⟨nb, 0, none⟩ = some (.int .i64 (pre.length : Nat)) ∧ wm1.frozen? ⟨nb, 0, none⟩ = false from ⟨hc1, hf1⟩)
        have hs1 := True.intro
        clear hbi hkf hkp ha hm hc1 hf1
        clear hs1
        simp only [Act.put, List.setIfInBounds_toArray, List.set_cons_zero, List.set_cons_succ]
        refine hK11 _ _ (mixI_nil ?_)
        clear hK11 K11
        obtain ⟨hc1, hf1⟩ := HC1.out
        clear HC1
        gi_wp2
        refine ⟨HKD.out.1.trans HKF.out, HKD.out.2.trans HKP.out, v2, ?_⟩
        rw [drawM_snoc, List.length_append, ← List.append_assoc]
        have e : applyW fq.G.w fq.G.h f (drawM (cellQ p (x + (k : Int)) l') pre ++ [cellQ p (x + (k : Int)) l' j kk]) = setF fq.G.w fq.G.h (applyW fq.G.w fq.G.h f (drawM (cellQ p (x + (k : Int)) l') pre)) (p.x + kk) (p.y + j) (l' i) := by rw [HQE.out]; exact applyW_snoc _ _ _ _ _ _ _
        rw [e]
        show BI fq nb w4 _ (N ++ drawM (cellQ p (x + (k : Int)) l') pre ++ [cellQ p (x + (k : Int)) l' j kk]) _ _ _
        rw [HQE.out]
        exact HBI2.out
      case done =>
        rintro D xs W hD rfl ⟨v, hb⟩ hK
        have hc := hb.nc
        have HFN := hide' (BI.ends (er := 0) (hb.grown (grownBy_putObj' W D (.deferred none)) (fun r e => by cases e; exact ⟨hD, _, hK, rfl⟩)) HS4.out (by have := HN3.out; omega) rfl (by rw [drawM_len]))
        rw [← HM2.out] at HFN
        clear hb
        go_wp2
        refine marks_ret2_D hK rfl ?_
        exact HFN.out

end Go.Proofs.Yticccknocjnkpaa
