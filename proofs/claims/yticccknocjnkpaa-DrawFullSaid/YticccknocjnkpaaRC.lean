/-
  A part of a window is copied: walked. No conditions.
-/
import Derived.Test.YticccknocjnkpaaGG
namespace Go.Proofs.Yticccknocjnkpaa
open Go.RowKit Go.Shelf

attribute [local go_sem] Oper.semAt_some

theorem info59 : (Try.prog.info? 59).map (fun i => (i.zero, i.size, i.bytes)) = some (some (.agg #[.int .i64 0, .int .i64 0, .int .i32 0, .int .i64 0, .int .i64 0, .int .i64 0]), 6, 48) := by kernel_rfl

theorem parts_one (q : Wr) : ∀ u ∈ q.parts, u.oneCell' = true := fun u hu => wrs_cells [q] u (by rw [wrs_one]; exact hu)

theorem wr_win {w : World} {g o n c : Nat} {L : List Wr} (h : Win w 6 (.slice (some ⟨g, o, none⟩) n c) L.length (wrs L)) (k : Nat) (p : Wr) (hp : L[k]? = some p) : WBoxAt w g (o + k * 6) p := by
  rcases h.2 with ⟨e, _⟩ | ⟨g', o', cap, e, _, _, _, h3, _⟩
  · cases e
  · cases e
    exact wr_at (n := L.length) (c := c) (.inr ⟨⟨g, o, none⟩, c, rfl, h.1, fun j u hu => by rw [add_at]; exact h3 j u hu⟩) k p hp

theorem Moved.step {q : Fm} {v v2 : Value} {W wr w1 w5 : World} (h : Moved q (q.with v) W wr) (hs : Stay (fun _ => False) wr w1) (h2 : Moved (q.with v) (q.with v2) w1 w5) : Moved q (q.with v2) W w5 :=
  ⟨(h.1.trans (stay_any hs)).trans2 h2.1 (fun j hj t => by
    rcases h.2 j t with h1 | h1
    · exact h1
    · omega), fun j hj => by
    rcases h2.2 j hj with h1 | h1
    · rcases h.2 j h1 with h3 | h3
      · exact .inl h3
      · exact .inr h3
    · exact .inr (Nat.le_trans h.1.size (Nat.le_trans hs.size h1))⟩

/-- Two numbers in boxes of their own. -/
def Two2 (w0 : World) (dx dy : Int) (A B : Nat) (wx : World) : Prop := Stay (fun _ => False) w0 wx ∧ wx.cell? ⟨A, 0, none⟩ = some (.int .i64 dx) ∧ wx.cell? ⟨B, 0, none⟩ = some (.int .i64 dy) ∧ w0.heap.size ≤ A ∧ w0.heap.size ≤ B

theorem two2 (w0 : World) (dx dy : Int) : Two2 w0 dx dy w0.heap.size (w0.heap.size + 1) ((w0.alloc (.cells #[.int .i64 dx] 3)).alloc (.cells #[.int .i64 dy] 3)) := by
  refine ⟨((Stay.refl _ _).alloc _).alloc _, keep_cell ((Stay.refl _ _).alloc _) (Boxed.new w0 3 (.int .i64 dx)).cell, ?_, Nat.le_refl _, by omega⟩
  have h := (Boxed.new (w0.alloc (.cells #[.int .i64 dx] 3)) 3 (.int .i64 dy)).cell
  rwa [World.size_alloc] at h

theorem Two2.swap {w0 wx : World} {dx dy : Int} {A B : Nat} (h : Two2 w0 dx dy A B wx) : Two2 w0 dy dx B A wx := ⟨h.1, h.2.2.1, h.2.1, h.2.2.2.2, h.2.2.2.1⟩

theorem Two2.drew {w0 wx : World} {dx dy : Int} {A B : Nat} (h : Two2 w0 dx dy A B wx) : Two2 w0 dx dy A B wx.drew := ⟨h.1.drew, h.2⟩

/-- What a round of copying looks at. -/
structure GSt (bf bx by' bw : Nat) (fq : Fm) (f : Nat → Cl) (N : List Wr) (sq : Sm) (sw sh : Nat) (m : Int) (L : List Wn) (p : Wn) (dx dy : Int) (w : World) : Prop where
  vw : VBox w bw ⟨.pointer (some ⟨sq.b, 0, none⟩), p.id, p.env, p.x, p.y, p.w, p.h, p.hid, p.x, p.y, p.w, p.h⟩
  cf : w.cell? ⟨bf, 0, none⟩ = some (.pointer (some ⟨fq.b, 0, none⟩))
  cx : w.cell? ⟨bx, 0, none⟩ = some (.int .i64 dx)
  cy : w.cell? ⟨by', 0, none⟩ = some (.int .i64 dy)
  sa : SAt w sq sw sh m L
  fa : FAt w fq f N

section
variable {T : Nat → Prop} {bf bx by' bw : Nat} {fq : Fm} {f : Nat → Cl} {N : List Wr} {sq : Sm} {sw sh : Nat} {m : Int} {L : List Wn} {p : Wn} {dx dy : Int} {w w1 : World}

theorem GSt.stay (h : GSt bf bx by' bw fq f N sq sw sh m L p dx dy w) (hs : Stay T w w1) (h1 : ¬ T bf ∧ ¬ T bx ∧ ¬ T by' ∧ ¬ T bw ∧ (∀ j, sq.own j → ¬ T j) ∧ (∀ j, fq.own j → ¬ T j)) : GSt bf bx by' bw fq f N sq sw sh m L p dx dy w1 :=
  have c : ∀ {b : Nat} {v : Value}, w.cell? ⟨b, 0, none⟩ = some v → ¬ T b → w1.cell? ⟨b, 0, none⟩ = some v := fun {b _v} e hn => (hs.cell (p := ⟨b, 0, none⟩) (World.block_lt_of_cell? _ _ e) hn).trans e
  ⟨h.vw.stay hs h1.2.2.2.1, c h.cf h1.1, c h.cx h1.2.1, c h.cy h1.2.2.1, h.sa.stay hs h1.2.2.2.2.1, h.fa.stay hs h1.2.2.2.2.2⟩

theorem GSt.keep (h : GSt bf bx by' bw fq f N sq sw sh m L p dx dy w) (hs : Stay (fun _ => False) w w1) : GSt bf bx by' bw fq f N sq sw sh m L p dx dy w1 := h.stay hs ⟨fun h => h, fun h => h, fun h => h, fun h => h, fun _ _ h => h, fun _ _ h => h⟩

end

set_option maxRecDepth 100000 in
set_option maxHeartbeats 4000000 in
theorem copy17 (fq : Fm) (f : Nat → Cl) (N : List Wr) (sq : Sm) (sw sh : Nat) (m : Int) (L : List Wn) (id : Int) (r : R) (x y : Int) (w : World) (H : Pair w fq f N sq sw sh m L) (hr : I64R r) (_hx : I64 x) (_hy : I64 y) :
    Calls Try.prog 17 #[.pointer (some ⟨fq.b, 0, none⟩), .pointer (some ⟨sq.b, 0, none⟩), .int .i64 id, .agg #[.int .i64 r.x, .int .i64 r.y, .int .i64 r.w, .int .i64 r.h], .int .i64 x, .int .i64 y] w (DrewS fq f N (drawn L id fun p => copyA L p r x y sw sh f) (errW L id) w) := by
  obtain ⟨W0, hW0⟩ : ∃ W, W = (w.alloc (.cells #[.pointer (some ⟨fq.b, 0, none⟩)] 26)).alloc (.cells #[.int .i64 r.x, .int .i64 r.y, .int .i64 r.w, .int .i64 r.h] 41) := ⟨_, rfl⟩
  obtain ⟨bf, hbf⟩ : ∃ b, b = w.heap.size := ⟨_, rfl⟩
  obtain ⟨br, hbr⟩ : ∃ b, b = bf + 1 := ⟨_, rfl⟩
  have hst0 : Stay (fun _ => False) w W0 := by rw [hW0]; exact ((Stay.refl _ _).alloc _).alloc _
  have HBR := hide' (show Box W0 br r by rw [hW0]; exact Box.new r (by rw [hbr, hbf]; simp))
  have HBF : Hid (W0.cell? ⟨bf, 0, none⟩ = some (.pointer (some ⟨fq.b, 0, none⟩))) := hide' (by
    rw [hW0, hbf]
    exact keep_cell ((Stay.refl _ _).alloc _) (Boxed.new w 26 (.pointer (some ⟨fq.b, 0, none⟩))).cell)
  have HST0 := hide' hst0
  have HP0 := hide' (H.keep hst0)
  have HPW := hide' H
  have HNW : Hid (w.heap.size ≤ bf ∧ w.heap.size ≤ br ∧ bf < W0.heap.size ∧ br < W0.heap.size) := hide' ⟨by omega, by omega, World.block_lt_of_cell? _ _ HBF.out, World.block_lt_of_cell? _ _ HBR.out.c0⟩
  obtain ⟨M, hM⟩ : ∃ M, M = drawn L id fun p => copyA L p r x y sw sh f := ⟨_, rfl⟩
  obtain ⟨E, hE⟩ : ∃ E, E = errW L id := ⟨_, rfl⟩
  rw [← hM, ← hE]
  have HM := hide' hM
  have HE := hide' hE
  have hcf := HBF.out
  have HRI := hide' hr
  clear hst0 H hM hE hr _hx _hy
  refine callsIn_wide.1 (callsIn_of_wp_marks (n := 3) Try.func17 rfl trivial ((wpIn_wide (n := 3)).2 ?_) rfl)
  simp only [Try.ntmps17, List.size_toArray, List.length_cons, List.length_nil, Nat.reduceAdd, Nat.reduceSub, Array.replicate_succ, Array.replicate_zero, List.push_toArray, List.append_toArray, List.nil_append, List.cons_append]
  go_upto_region 1 with fail
  rw [← hW0, ← hbf]
  rw [← hbr]
  clear hW0 hbf hbr
  cases hp : L[plN L id]? with
  | none =>
    have e2 : E = 5 := by rw [HE.out]; unfold errW; rw [hp]
    have HM0 : Hid (M = []) := hide' (by rw [HM.out]; unfold drawn; rw [hp])
    have HWD := hide' (look40_no fq.b sq sw sh m L id W0 HP0.out.sa hp)
    subst e2
    clear hp HM HE
    go_wp2_with fail
    refine HWD.out.mono ?_
    rintro _ w1 ⟨rfl, hs⟩
    have hst := hs.alloc (.cells #[.pointer none, .int .i64 0, .int .i64 0, .int .i64 0, .int .i64 0, .int .i64 0, .int .i64 0, .bool false, .int .i64 0, .int .i64 0, .int .i64 0, .int .i64 0] 92)
    have HFN : Hid (DrewS fq f N M 5 w (.returned (.tuple #[.int .i64 0, .int .i64 5])) (w1.alloc (.cells #[.pointer none, .int .i64 0, .int .i64 0, .int .i64 0, .int .i64 0, .int .i64 0, .int .i64 0, .bool false, .int .i64 0, .int .i64 0, .int .i64 0, .int .i64 0] 92))) := hide' ⟨fq.v, by rw [HM0.out]; rfl, by rw [HM0.out, List.append_nil]; exact HP0.out.fa.keep hst, (HST0.out.trans hst).mono (fun _ _ h => h.elim), fun j hj => .inl hj⟩
    clear hs hst HWD hcf
    go_wp2
    refine marks_ret2 rfl ?_
    exact HFN.out
  | some p =>
    have e2 : E = 0 := by rw [HE.out]; unfold errW; rw [hp]
    have HM1 : Hid (M = copyA L p r x y sw sh f) := hide' (by rw [HM.out]; unfold drawn; rw [hp])
    have hpm : p ∈ L := List.mem_of_getElem? hp
    have HOK : Hid (OkW sw sh p) := hide' (HP0.out.ok p hpm)
    have HOP : Hid (OkP p) := hide' (HP0.out.okP p hpm)
    have HWD := hide' (look40 fq f N sq sw sh m L id p W0 HP0.out hp)
    subst e2
    clear hp HM HE hpm
    go_wp2_with fail
    refine HWD.out.mono ?_
    rintro _ w1 ⟨rfl, hs⟩
    obtain ⟨w2, hw2⟩ : ∃ W, W = w1.alloc (.cells #[.pointer (some ⟨sq.b, 0, none⟩), .int .i64 p.id, .int .i64 p.env, .int .i64 p.x, .int .i64 p.y, .int .i64 p.w, .int .i64 p.h, .bool p.hid, .int .i64 p.x, .int .i64 p.y, .int .i64 p.w, .int .i64 p.h] 92) := ⟨_, rfl⟩
    obtain ⟨bw, hbw⟩ : ∃ b, b = w1.heap.size := ⟨_, rfl⟩
    have hst2 : Stay (fun _ => False) w1 w2 := by rw [hw2]; exact (Stay.refl _ _).alloc _
    have HBW := hide' (show VBox w2 bw ⟨.pointer (some ⟨sq.b, 0, none⟩), p.id, p.env, p.x, p.y, p.w, p.h, p.hid, p.x, p.y, p.w, p.h⟩ by rw [hw2]; exact VBox.new ⟨.pointer (some ⟨sq.b, 0, none⟩), p.id, p.env, p.x, p.y, p.w, p.h, p.hid, p.x, p.y, p.w, p.h⟩ hbw.symm)
    have HS2 := hide' (hs.trans hst2)
    have HN2 : Hid (W0.heap.size ≤ bw) := hide' (by have := hs.size; omega)
    obtain ⟨fb, hfb⟩ : ∃ b, b = (!farB x && !farB y) := ⟨_, rfl⟩
    have HNR := hide' (fun W => near44 x y W)
    rw [← hfb] at HNR
    have HFB := hide' hfb
    clear hs hst2 HWD hcf hfb
    go_upto_region 2 with fail
    rw [← hw2, ← hbw]
    clear hw2 hbw
    go_wp2_with fail
    refine (HNR.out _).mono ?_
    rintro _ wa ⟨rfl, hsa⟩
    have HSA := hide' (HS2.out.trans hsa)
    have HBV := hide' (HBW.out.keep hsa)
    clear hsa HBW HNR
    cases fb
    · have HM0 : Hid (M = []) := hide' (by
        rw [HM1.out]
        unfold copyA
        rw [if_neg]
        have h := far_yes HFB.out
        rw [Bool.or_eq_true] at h
        rcases h with h | h <;> rw [h] <;> simp)
      have HFN : Hid (DrewS fq f N M 0 w (.returned (.tuple #[.int .i64 0, .int .i64 0])) wa) := hide' ⟨fq.v, by rw [HM0.out]; rfl, by rw [HM0.out, List.append_nil]; exact HP0.out.fa.keep HSA.out, (HST0.out.trans HSA.out).mono (fun _ _ h => h.elim), fun j hj => .inl hj⟩
      go_wp2
      refine marks_ret2 rfl ?_
      exact HFN.out
    · have HXF : Hid (farB x = false ∧ farB y = false ∧ -1073741824 ≤ x ∧ x ≤ 1073741824 ∧ -1073741824 ≤ y ∧ y ≤ 1073741824) := hide' (by
        obtain ⟨h1, h2⟩ := far_no HFB.out
        refine ⟨h1, h2, ?_⟩
        unfold farB at h1 h2
        simp only [Bool.or_eq_false_iff, decide_eq_false_iff_not] at h1 h2
        omega)
      have HM2 : Hid (M = drawC (copyP2 L p r x y) (copyQ p r x y sw sh f) (ownS L p r)) := hide' (by
        rw [drawC_copy HXF.out.1 HXF.out.2.1]
        exact HM1.out)
      obtain ⟨dx, hdx⟩ : ∃ d, IntKind.i64.wrap (x - r.x) = d := ⟨_, rfl⟩
      obtain ⟨dy, hdy⟩ : ∃ d, IntKind.i64.wrap (y - r.y) = d := ⟨_, rfl⟩
      have HDX : Hid (rightB r = true → dx = x - r.x ∧ dy = y - r.y) := hide' (fun hr => by
        have := right_bd hr
        have h2 := HXF.out
        rw [← hdx, ← hdy, IntKind.wrap_i64, IntKind.wrap_i64]
        omega)
      have HRA := hide' (HBR.out.keep HSA.out)
      obtain ⟨r0, r1, r2, r3, _⟩ := HRA.out
      have HBW := hide' (fun W' (hs : Stay (fun _ => False) wa W') => HRA.out.keep hs)
      have HT2 : Hid (Hid (Two2 wa dx dy wa.heap.size (wa.heap.size + 1) ((wa.alloc (.cells #[.int .i64 dx] 3)).alloc (.cells #[.int .i64 dy] 3)).drew)) := hide' (hide' (two2 wa dx dy).drew)
      have HT3 : Hid (Hid (Two2 wa dx dy (wa.heap.size + 1) wa.heap.size ((wa.alloc (.cells #[.int .i64 dy] 3)).alloc (.cells #[.int .i64 dx] 3)).drew)) := hide' (hide' (two2 wa dy dx).swap.drew)
      go_upto_region 4 with fail
      go_cut [16, 17] from 39 to 46 (fun s16 s17 wx => ∃ A B, s16 = .pointer (some ⟨A, 0, none⟩) ∧ s17 = .pointer (some ⟨B, 0, none⟩) ∧ Hid (Two2 wa dx dy A B wx))
      case first =>
        refine wp_noP ?_
        refine any_begin (fun w' => Box w' br r) (by kernel_rfl) (fun K0 hK0 => ?_)
        refine any_take (i := 0) hK0 (some 39) (.move (.tmp 4)) 3 _ (by kernel_rfl) (fun _ d _ _ _ h => by cases d <;> exact h) (by kernel_rfl) (by kernel_rfl) (fun w' hS' => by simp only [opr]; go_simp; try with_reducible rfl) (by first | exact HBW.out _ (Stay.refl _ _).drew | exact HBW.out _ ((Stay.refl _ _).alloc _).drew | exact HBW.out _ (((Stay.refl _ _).alloc _).alloc _).drew) (fun K1 hK1 => ?_)
        clear hK0 K0
        try simp only [Act.put, List.setIfInBounds_toArray, List.set_cons_zero, List.set_cons_succ]
        refine any_take (i := 1) hK1 (some 40) (.fieldAddr 41 (.tmp 9) 0) 0 _ (by kernel_rfl) (fun _ d _ _ _ h => by cases d <;> exact h) (by kernel_rfl) (by kernel_rfl) (fun w' hS' => by simp only [opr]; go_simp; try with_reducible rfl) (by first | exact HBW.out _ (Stay.refl _ _).drew | exact HBW.out _ ((Stay.refl _ _).alloc _).drew | exact HBW.out _ (((Stay.refl _ _).alloc _).alloc _).drew) (fun K2 hK2 => ?_)
        clear hK1 K1
        try simp only [Act.put, List.setIfInBounds_toArray, List.set_cons_zero, List.set_cons_succ]
        refine any_take (i := 2) hK2 (some 41) (.load 3 (.tmp 40)) 3 _ (by kernel_rfl) (fun _ d _ _ _ h => by cases d <;> exact h) (by kernel_rfl) (by kernel_rfl) (fun w' hS' => by (obtain ⟨r0, r1, r2, r3, _⟩ := hS'; simp only [opr]; go_simp; try with_reducible rfl)) (by first | exact HBW.out _ (Stay.refl _ _).drew | exact HBW.out _ ((Stay.refl _ _).alloc _).drew | exact HBW.out _ (((Stay.refl _ _).alloc _).alloc _).drew) (fun K3 hK3 => ?_)
        clear hK2 K2
        try simp only [Act.put, List.setIfInBounds_toArray, List.set_cons_zero, List.set_cons_succ]
        refine any_take (i := 3) hK3 (some 42) (.binOp BinOp.sub 3 (.tmp 39) (.tmp 41) 3) 3 _ (by kernel_rfl) (fun _ d _ _ _ h => by cases d <;> exact h) (by kernel_rfl) (by kernel_rfl) (fun w' hS' => by simp only [opr]; go_simp; try with_reducible rfl) (by first | exact HBW.out _ (Stay.refl _ _).drew | exact HBW.out _ ((Stay.refl _ _).alloc _).drew | exact HBW.out _ (((Stay.refl _ _).alloc _).alloc _).drew) (fun K4 hK4 => ?_)
        clear hK3 K3
        try simp only [Act.put, List.setIfInBounds_toArray, List.set_cons_zero, List.set_cons_succ]
        refine any_take (i := 4) hK4 (some 43) (.move (.tmp 5)) 3 _ (by kernel_rfl) (fun _ d _ _ _ h => by cases d <;> exact h) (by kernel_rfl) (by kernel_rfl) (fun w' hS' => by simp only [opr]; go_simp; try with_reducible rfl) (by first | exact HBW.out _ (Stay.refl _ _).drew | exact HBW.out _ ((Stay.refl _ _).alloc _).drew | exact HBW.out _ (((Stay.refl _ _).alloc _).alloc _).drew) (fun K5 hK5 => ?_)
        clear hK4 K4
        try simp only [Act.put, List.setIfInBounds_toArray, List.set_cons_zero, List.set_cons_succ]
        refine any_take (i := 5) hK5 (some 44) (.fieldAddr 41 (.tmp 9) 1) 0 _ (by kernel_rfl) (fun _ d _ _ _ h => by cases d <;> exact h) (by kernel_rfl) (by kernel_rfl) (fun w' hS' => by simp only [opr]; go_simp; try with_reducible rfl) (by first | exact HBW.out _ (Stay.refl _ _).drew | exact HBW.out _ ((Stay.refl _ _).alloc _).drew | exact HBW.out _ (((Stay.refl _ _).alloc _).alloc _).drew) (fun K6 hK6 => ?_)
        clear hK5 K5
        try simp only [Act.put, List.setIfInBounds_toArray, List.set_cons_zero, List.set_cons_succ]
        refine any_take (i := 6) hK6 (some 45) (.load 3 (.tmp 44)) 3 _ (by kernel_rfl) (fun _ d _ _ _ h => by cases d <;> exact h) (by kernel_rfl) (by kernel_rfl) (fun w' hS' => by (obtain ⟨r0, r1, r2, r3, _⟩ := hS'; simp only [opr]; go_simp; try with_reducible rfl)) (by first | exact HBW.out _ (Stay.refl _ _).drew | exact HBW.out _ ((Stay.refl _ _).alloc _).drew | exact HBW.out _ (((Stay.refl _ _).alloc _).alloc _).drew) (fun K7 hK7 => ?_)
        clear hK6 K6
        try simp only [Act.put, List.setIfInBounds_toArray, List.set_cons_zero, List.set_cons_succ]
        refine any_take (i := 7) hK7 (some 46) (.binOp BinOp.sub 3 (.tmp 43) (.tmp 45) 3) 3 _ (by kernel_rfl) (fun _ d _ _ _ h => by cases d <;> exact h) (by kernel_rfl) (by kernel_rfl) (fun w' hS' => by simp only [opr]; go_simp; try with_reducible rfl) (by first | exact HBW.out _ (Stay.refl _ _).drew | exact HBW.out _ ((Stay.refl _ _).alloc _).drew | exact HBW.out _ (((Stay.refl _ _).alloc _).alloc _).drew) (fun K8 hK8 => ?_)
        clear hK7 K7
        try simp only [Act.put, List.setIfInBounds_toArray, List.set_cons_zero, List.set_cons_succ]
        refine any_pick (rs := [8, 9]) hK8 (by kernel_rfl) (fun K9 hK9 => ?_)
        clear hK8 K8
        intro i hi
        simp only [List.mem_cons, List.not_mem_nil, or_false] at hi
        rcases hi with rfl | rfl
        · refine op_plain (some 16) (.alloc 3) 0 (by kernel_rfl) (by kernel_rfl) ?_
          go_wp2
          refine hK9 8 (by simp) _ _ (by first | exact HBW.out _ (Stay.refl _ _).drew | exact HBW.out _ ((Stay.refl _ _).alloc _).drew | exact HBW.out _ (((Stay.refl _ _).alloc _).alloc _).drew) (any_more fun K10 hK10 => ?_)
          clear hK9 K9
          refine any_pick (rs := [9]) hK10 (by kernel_rfl) (fun K11 hK11 => ?_)
          clear hK10 K10
          intro i hi
          simp only [List.mem_cons, List.not_mem_nil, or_false] at hi
          rcases hi with rfl
          refine op_plain (some 17) (.alloc 3) 0 (by kernel_rfl) (by kernel_rfl) ?_
          go_wp2
          refine hK11 9 (by simp) _ _ (by first | exact HBW.out _ (Stay.refl _ _).drew | exact HBW.out _ ((Stay.refl _ _).alloc _).drew | exact HBW.out _ (((Stay.refl _ _).alloc _).alloc _).drew) (any_more fun K12 hK12 => ?_)
          clear hK11 K11
          refine any_pick (rs := [10]) hK12 (by kernel_rfl) (fun K13 hK13 => ?_)
          clear hK12 K12
          intro i hi
          simp only [List.mem_cons, List.not_mem_nil, or_false] at hi
          rcases hi with rfl
          refine op_plain none (.store 3 (.tmp 16) (.tmp 42)) 0 (by kernel_rfl) (by kernel_rfl) ?_
          go_wp2
          refine hK13 10 (by simp) _ _ (by first | exact HBW.out _ (Stay.refl _ _).drew | exact HBW.out _ ((Stay.refl _ _).alloc _).drew | exact HBW.out _ (((Stay.refl _ _).alloc _).alloc _).drew) (any_more fun K14 hK14 => ?_)
          clear hK13 K13
          refine any_pick (rs := [11]) hK14 (by kernel_rfl) (fun K15 hK15 => ?_)
          clear hK14 K14
          intro i hi
          simp only [List.mem_cons, List.not_mem_nil, or_false] at hi
          rcases hi with rfl
          refine op_plain none (.store 3 (.tmp 17) (.tmp 46)) 0 (by kernel_rfl) (by kernel_rfl) ?_
          go_wp2
          refine hK15 11 (by simp) _ _ (by first | exact HBW.out _ (Stay.refl _ _).drew | exact HBW.out _ ((Stay.refl _ _).alloc _).drew | exact HBW.out _ (((Stay.refl _ _).alloc _).alloc _).drew) (any_more fun K16 hK16 => ?_)
          clear hK15 K15
          refine anyP_done hK16 (by kernel_rfl) ?_
          clear hK16 K16
          go_wp2_with fail
          go_meet
          first | exact ⟨_, _, rfl, rfl, HT2.out⟩ | exact ⟨_, _, rfl, rfl, HT3.out⟩
        · refine op_plain (some 17) (.alloc 3) 0 (by kernel_rfl) (by kernel_rfl) ?_
          go_wp2
          refine hK9 9 (by simp) _ _ (by first | exact HBW.out _ (Stay.refl _ _).drew | exact HBW.out _ ((Stay.refl _ _).alloc _).drew | exact HBW.out _ (((Stay.refl _ _).alloc _).alloc _).drew) (any_more fun K10 hK10 => ?_)
          clear hK9 K9
          refine any_pick (rs := [8]) hK10 (by kernel_rfl) (fun K11 hK11 => ?_)
          clear hK10 K10
          intro i hi
          simp only [List.mem_cons, List.not_mem_nil, or_false] at hi
          rcases hi with rfl
          refine op_plain (some 16) (.alloc 3) 0 (by kernel_rfl) (by kernel_rfl) ?_
          go_wp2
          refine hK11 8 (by simp) _ _ (by first | exact HBW.out _ (Stay.refl _ _).drew | exact HBW.out _ ((Stay.refl _ _).alloc _).drew | exact HBW.out _ (((Stay.refl _ _).alloc _).alloc _).drew) (any_more fun K12 hK12 => ?_)
          clear hK11 K11
          refine any_pick (rs := [10]) hK12 (by kernel_rfl) (fun K13 hK13 => ?_)
          clear hK12 K12
          intro i hi
          simp only [List.mem_cons, List.not_mem_nil, or_false] at hi
          rcases hi with rfl
          refine op_plain none (.store 3 (.tmp 16) (.tmp 42)) 0 (by kernel_rfl) (by kernel_rfl) ?_
          go_wp2
          refine hK13 10 (by simp) _ _ (by first | exact HBW.out _ (Stay.refl _ _).drew | exact HBW.out _ ((Stay.refl _ _).alloc _).drew | exact HBW.out _ (((Stay.refl _ _).alloc _).alloc _).drew) (any_more fun K14 hK14 => ?_)
          clear hK13 K13
          refine any_pick (rs := [11]) hK14 (by kernel_rfl) (fun K15 hK15 => ?_)
          clear hK14 K14
          intro i hi
          simp only [List.mem_cons, List.not_mem_nil, or_false] at hi
          rcases hi with rfl
          refine op_plain none (.store 3 (.tmp 17) (.tmp 46)) 0 (by kernel_rfl) (by kernel_rfl) ?_
          go_wp2
          refine hK15 11 (by simp) _ _ (by first | exact HBW.out _ (Stay.refl _ _).drew | exact HBW.out _ ((Stay.refl _ _).alloc _).drew | exact HBW.out _ (((Stay.refl _ _).alloc _).alloc _).drew) (any_more fun K16 hK16 => ?_)
          clear hK15 K15
          refine anyP_done hK16 (by kernel_rfl) ?_
          clear hK16 K16
          go_wp2_with fail
          go_meet
          first | exact ⟨_, _, rfl, rfl, HT2.out⟩ | exact ⟨_, _, rfl, rfl, HT3.out⟩
      case rest =>
        obtain ⟨bx, by', rfl, rfl, HTW⟩ := hcut
        clear HBW HT2 HT3 r0 r1 r2 r3
        obtain ⟨wd, hwd⟩ : ∃ W, W = wc := ⟨_, rfl⟩
        rw [← hwd] at HTW
        rw [← hwd]
        clear hwd
        obtain ⟨w3, hw3⟩ : ∃ W, W = wd.alloc (.cells #[.slice none 0 0] 55) := ⟨_, rfl⟩
        obtain ⟨bc, hbc⟩ : ∃ b, b = wd.heap.size := ⟨_, rfl⟩
        have hst3 : Stay (fun _ => False) wd w3 := by rw [hw3]; exact (Stay.refl _ _).alloc _
        have HBC0 : Hid (w3.cell? ⟨bc, 0, none⟩ = some (.slice none 0 0) ∧ w3.frozen? ⟨bc, 0, none⟩ = false) := hide' (by
          have h := Boxed.new wd 55 (.slice none 0 0)
          rw [← hbc, ← hw3] at h
          exact ⟨h.cell, h.frozen⟩)
        have hsa3 := HTW.out.1.trans hst3
        have HS3 := hide' (HSA.out.trans hsa3)
        have HV3 := hide' (HBV.out.keep hsa3)
        have HR3 := hide' (HRA.out.keep hsa3)
        have HXY3 := hide' (show w3.cell? ⟨bx, 0, none⟩ = some (.int .i64 dx) ∧ w3.cell? ⟨by', 0, none⟩ = some (.int .i64 dy) from ⟨keep_cell hst3 HTW.out.2.1, keep_cell hst3 HTW.out.2.2.1⟩)
        have HN3 : Hid (W0.heap.size ≤ bw ∧ W0.heap.size ≤ bx ∧ W0.heap.size ≤ by' ∧ bw < bc ∧ bx < bc ∧ by' < bc ∧ W0.heap.size ≤ bc ∧ bc < w3.heap.size) := hide' (by
          have h1 := HSA.out.size
          obtain ⟨g1, g2, g3, g4, g5⟩ := HTW.out
          have h3 := HN2.out
          have h4 := HBV.out.lt
          have h5 := World.block_lt_of_cell? _ _ g2
          have h6 := World.block_lt_of_cell? _ _ g3
          have h7 := World.block_lt_of_cell? _ _ HBC0.out.1
          have h8 := g1.size
          simp only at h5 h6 h7
          omega)
        have HSC := hide' (fun W => onScreen42 (.pointer (some ⟨sq.b, 0, none⟩)) p r W HOP.out)
        have HOW := hide' (fun W => owned41 (.pointer (some ⟨sq.b, 0, none⟩)) p (scrR p r) _ rfl W)
        have hS : (fun w' => Stay (fun _ => False) w3 w') w3.drew := (Stay.refl _ _).drew
        clear hst3 hsa3 HRA HBV HTW
        go_upto_region 6 with fail
        rw [← hw3, ← hbc]
        clear hw3 hbc
        refine wp_region_mixP (fun w' => Stay (fun _ => False) w3 w') [(0, true), (1, true), (2, true), (3, false), (4, false)] (by kernel_rfl) (by kernel_rfl) hS ?_
        refine mix_begin (fun K0 hK0 => ?_)
        refine mix_take hK0 (some 47) (.load 92 (.tmp 14)) 92 _ (by kernel_rfl) (by kernel_rfl) (fun w' hS' => by (obtain ⟨n0, n1, n2, n3, n4, n5, n6, n7, n8, n9, na, nb', _⟩ := HV3.out.keep hS'; simp only at n0 n1 n2 n3 n4 n5 n6 n7 n8 n9 na nb'; obtain ⟨r0, r1, r2, r3, _⟩ := HR3.out.keep hS'; simp only [opr]; go_simp; try with_reducible rfl)) (fun K1 hK1 => ?_)
        clear hK0 K0
        simp only [Act.put, List.setIfInBounds_toArray, List.set_cons_zero, List.set_cons_succ]
        refine mix_take hK1 (some 48) (.load 92 (.tmp 14)) 92 _ (by kernel_rfl) (by kernel_rfl) (fun w' hS' => by (obtain ⟨n0, n1, n2, n3, n4, n5, n6, n7, n8, n9, na, nb', _⟩ := HV3.out.keep hS'; simp only at n0 n1 n2 n3 n4 n5 n6 n7 n8 n9 na nb'; obtain ⟨r0, r1, r2, r3, _⟩ := HR3.out.keep hS'; simp only [opr]; go_simp; try with_reducible rfl)) (fun K2 hK2 => ?_)
        clear hK1 K1
        simp only [Act.put, List.setIfInBounds_toArray, List.set_cons_zero, List.set_cons_succ]
        refine mix_take hK2 (some 49) (.load 41 (.tmp 9)) 41 _ (by kernel_rfl) (by kernel_rfl) (fun w' hS' => by (obtain ⟨n0, n1, n2, n3, n4, n5, n6, n7, n8, n9, na, nb', _⟩ := HV3.out.keep hS'; simp only at n0 n1 n2 n3 n4 n5 n6 n7 n8 n9 na nb'; obtain ⟨r0, r1, r2, r3, _⟩ := HR3.out.keep hS'; simp only [opr]; go_simp; try with_reducible rfl)) (fun K3 hK3 => ?_)
        clear hK2 K2
        simp only [Act.put, List.setIfInBounds_toArray, List.set_cons_zero, List.set_cons_succ]
        refine mix_call hK3 (some 50) 42 #[.tmp 48, .tmp 49] #[92, 41] 41 _ (by kernel_rfl) (by kernel_rfl) (enters Try.func42 (by kernel_rfl) (by kernel_rfl)) (by go_simp; try with_reducible rfl) (fun K4 hK4 => ?_)
        clear hK3 K3
        refine ((HSC.out _)).mono ?_
        rintro e wm1 ⟨rfl, hs1⟩
        have hS1 : _ := (hS.trans hs1)
        refine ⟨_, rfl, hS1, ?_⟩
        clear hs1
        simp only [Act.put, List.setIfInBounds_toArray, List.set_cons_zero, List.set_cons_succ]
        refine mix_call hK4 (some 51) 41 #[.tmp 47, .tmp 50] #[92, 41] 96 _ (by kernel_rfl) (by kernel_rfl) (enters Try.func41 (by kernel_rfl) (by kernel_rfl)) (by go_simp; try with_reducible rfl) (fun K5 hK5 => ?_)
        clear hK4 K4
        refine ((HOW.out _)).mono ?_
        rintro _ w4 ⟨br2, bv2, rfl, hs4, hb1, hb2, h2, h3⟩
        have hS2 : _ := (hS1.trans hs4)
        refine ⟨_, rfl, hS2, ?_⟩
        have hs2 := True.intro
        clear hs2
        simp only [Act.put, List.setIfInBounds_toArray, List.set_cons_zero, List.set_cons_succ]
        refine hK5 _ _ (mixP_nil ?_)
        clear hK5 K5
        have hs4 := hS2
        have hS1s := hide' hS1.size
        clear hS1 hS hS2
        have HT : Hid (∀ j, fq.own j → j < w.heap.size ∧ ¬ sq.own j) := hide' (fun j hj => ⟨HPW.out.fa.lt j hj, HPW.out.dj j hj⟩)
        have HZ0 : Hid (w.heap.size ≤ W0.heap.size) := hide' HST0.out.size
        have HS4 := hide' (HS3.out.trans hs4)
        have HSW := hide' (HST0.out.trans HS4.out)
        have HZ2 : Hid (w3.heap.size ≤ br2 ∧ w3.heap.size ≤ bv2) := hide' (by have := hS1s.out; omega)
        have HG4 : Hid (GSt bf bx by' bw fq f N sq sw sh m L p dx dy w4) := hide' ⟨HV3.out.keep hs4, keep_cell HS4.out HBF.out, keep_cell hs4 HXY3.out.1, keep_cell hs4 HXY3.out.2, HP0.out.sa.keep HS4.out, HP0.out.fa.keep HS4.out⟩
        have HLT : Hid (bc < w4.heap.size) := hide' (World.block_lt_of_cell? _ _ (keep_cell hs4 HBC0.out.1))
        have HBC : Hid (¬ bf = bc ∧ ¬ bx = bc ∧ ¬ by' = bc ∧ ¬ bw = bc ∧ (∀ j, sq.own j → ¬ j = bc) ∧ (∀ j, fq.own j → ¬ j = bc)) := hide' (by
          have h1 := HN3.out
          have h2 := HNW.out
          have h3 := HZ0.out
          exact ⟨by omega, by omega, by omega, by omega, fun j hj => by have := HPW.out.sa.lt j hj; omega, fun j hj => by have := (HT.out j hj).1; omega⟩)
        have HSEQ := hide' (owned66 (fun j => j = bc) (Stay (fun j => j < w4.heap.size → j = bc)) 2 (if rightB r = true then 262145 else 0) br2 bv2 r p sq sw sh m L w4 hb1 hb2 (HP0.out.sa.keep HS4.out) (fun e => by have := HN3.out; have := HZ2.out; omega) (fun e => by have := HN3.out; have := HZ2.out; omega) HBC.out.2.2.2.2.1 HP0.out.okP HOP.out (fun hr => by rw [if_pos hr]; exact Nat.le_refl _) (fun _ _ h => h))
        have HMB : Hid (MI bc w4 [] (.slice none 0 0) w4) := hide' ⟨⟨rfl, .inl ⟨rfl, rfl⟩⟩, Stay.refl _ _, fun j hj => (by cases hj), fun _ => rfl, keep_cell hs4 HBC0.out.1, keep_frozen hs4 HBC0.out.1 HBC0.out.2⟩
        clear hs4 hb1 hb2 h2 h3 HOW HSC hS1s
        go_wp2
        refine (wpIn_wide (n := 3)).1 ?_
        refine wpIn_rangeFunc_all (n := 3) (gf := 66) rfl (enters Try.func66 (by kernel_rfl) (by kernel_rfl)) HSEQ.out (fun h k => h.trans k) (fun W l o o' hl ho hc _ => (stay_row (grownBy_putObj' W l o')).mono (fun j _ e hj => by cases e; omega)) (fun _ => rfl)
          (fun pre W => ∃ v, MI bc w4 (drawC (copyP2 L p r x y) (copyQ p r x y sw sh f) pre) v W)
          (fun s A B row hs hg hr => by obtain ⟨v, hb⟩ := hs; exact ⟨v, hb.grown hg hr⟩) ⟨_, HMB.out⟩ ?a1 ?assign ?body ?done
        case assign =>
          intro l x W K hK
          unfold encV
          gi_wp2
          exact hK
        case body =>
          rintro l0 pre ⟨⟨j, k⟩, hP⟩ W ⟨v, hb⟩ hlen
          obtain ⟨hk1, hj1, hfa⟩ := fill_at hP
          have hrt : rightB r = true := by
            by_cases hr : rightB r = true
            · exact hr
            · rw [if_neg hr] at hlen
              omega
          rw [if_pos hrt] at hlen
          obtain ⟨hdx1, hdy1⟩ := HDX.out hrt
          have hrb := right_bd hrt
          have hok : 0 ≤ p.x ∧ 0 ≤ p.y ∧ p.x + p.w ≤ sw ∧ p.y + p.h ≤ sh ∧ (sw : Int) ≤ 512 ∧ (sh : Int) ≤ 512 ∧ 0 < p.w ∧ 0 < p.h := by
            have h1 := HOK.out
            have h2 := HP0.out.bd
            unfold OkW at h1
            omega
          have hxb : -1073741824 ≤ x ∧ x ≤ 1073741824 ∧ -1073741824 ≤ y ∧ y ≤ 1073741824 := HXF.out.2.2
          have HPL : Hid (pre.length < 262145) := hide' hlen
          have HLC : Hid ((drawC (copyP2 L p r x y) (copyQ p r x y sw sh f) pre).length ≤ pre.length) := hide' (drawC_len pre)
          have HNM : Hid ((drawC (copyP2 L p r x y) (copyQ p r x y sw sh f) pre).length + 1 ≤ 1000000) := hide' (by have := HPL.out; have := HLC.out; omega)
          have hd1 : -3221225472 ≤ dx ∧ dx ≤ 3221225472 ∧ -3221225472 ≤ dy ∧ dy ≤ 3221225472 := by omega
          obtain ⟨z, hz⟩ : ∃ z, z = copyP2 L p r x y j k := ⟨_, rfl⟩
          have HZ := hide' hz.symm
          have HZZ : Hid (z = (inB ⟨p.x, p.y, p.w, p.h⟩ (p.x + (k : Int) + dx) (p.y + (j : Int) + dy) && (ownerL L (p.x + (k : Int) + dx) (p.y + (j : Int) + dy) == p.id))) := hide' (by
            rw [hz]
            unfold copyP2
            rw [own_scr HOP.out, show p.x + ((k : Int) - r.x + x) = p.x + (k : Int) + dx by omega, show p.y + ((j : Int) - r.y + y) = p.y + (j : Int) + dy by omega])
          have HOS := hide' (fun W2 (h : SAt W2 sq sw sh m L) => owns45 sq sw sh m L p (p.x + (k : Int) + dx) (p.y + (j : Int) + dy) z HZZ.out W2 h HP0.out.okP HOP.out (by unfold I64; omega) (by unfold I64; omega))
          obtain ⟨cl, hcl⟩ : ∃ c, c = atF sw sh f (p.x + k) (p.y + j) := ⟨_, rfl⟩
          have HQE : Hid (copyQ p r x y sw sh f j k = (⟨p.x + (k : Int) + dx, p.y + (j : Int) + dy, cl.r, cl.fg, cl.bg, cl.fl⟩ : Wr)) := hide' (by
            unfold copyQ
            rw [← hcl, show p.x + ((k : Int) - r.x + x) = p.x + (k : Int) + dx by omega, show p.y + ((j : Int) - r.y + y) = p.y + (j : Int) + dy by omega]
            rfl)
          have HAT := hide' (fun W2 (h : FAt W2 fq f N) => at23 fq f N (p.x + k) (p.y + j) W2 h (by unfold I64; omega) (by unfold I64; omega))
          rw [HP0.out.ew, HP0.out.eh, ← hcl] at HAT
          have hwx : IntKind.i64.wrap (p.x + (k : Int) + dx) = p.x + (k : Int) + dx := by rw [IntKind.wrap_i64]; omega
          have hwy : IntKind.i64.wrap (p.y + (j : Int) + dy) = p.y + (j : Int) + dy := by rw [IntKind.wrap_i64]; omega
          have HOFF : Hid (∀ v' : Value, (∀ j, v'.ownBlock = some j → w4.heap.size ≤ j) → (¬ v'.ownBlock = some bf ∧ ¬ v'.ownBlock = some bx ∧ ¬ v'.ownBlock = some by' ∧ ¬ v'.ownBlock = some bw ∧ (∀ j, sq.own j → ¬ v'.ownBlock = some j) ∧ (∀ j, fq.own j → ¬ v'.ownBlock = some j))) := hide' (fun v' hv => by
            have h1 := HN3.out
            have h2 := HNW.out
            have h3 := HLT.out
            have h4 := HG4.out
            exact ⟨fun e => by have := hv _ e; omega, fun e => by have := hv _ e; omega, fun e => by have := hv _ e; omega, fun e => by have := hv _ e; omega, fun j hj e => by have h5 := hv _ e; have h6 := h4.sa.lt j hj; omega, fun j hj e => by have h5 := hv _ e; have h6 := h4.fa.lt j hj; omega⟩)
          have hGW : GSt bf bx by' bw fq f N sq sw sh m L p dx dy W := HG4.out.stay hb.st HBC.out
          have HB0 := hide' hb
          obtain ⟨v0, v1, v2, v3, v4, v5, v6, v7, v8, v9, va', vb, _⟩ := hGW.vw
          simp only at v0 v1 v2 v3 v4 v5 v6 v7 v8 v9 va' vb
          have hcx := hGW.cx
          have hcy := hGW.cy
          have HGW := hide' hGW
          clear hb hfa hlen hrt hz hcl hdx1 hdy1 hGW
          simp only
          gi_wp2
          refine ⟨trivial, ?_⟩
          refine (CallsIn.inRound l0 (callsIn_wide.2 (HOS.out _ HGW.out.sa))).mono ?_
          rintro _ w5 ⟨rfl, hs5⟩
          have HKD5 := hide' (show KeepsFrom w4.heap.size W w5 ∧ Stay (fun j => j < w4.heap.size → j = bc) W w5 from ⟨keepsFrom_of_stay hs5 (fun j h => h.elim), hs5.mono (fun _ _ h => h.elim)⟩)
          have HB5 := hide' (HB0.out.keep hs5)
          have HG5 := hide' (HGW.out.keep hs5)
          clear hs5 v0 v1 v2 v3 v4 v5 v6 v7 v8 v9 va' vb hcx hcy HB0 HGW
          cases z
          · clear HQE HOS HAT
            gi_wp2
            refine ⟨HKD5.out.1, HKD5.out.2, v, ?_⟩
            have e : drawC (copyP2 L p r x y) (copyQ p r x y sw sh f) (pre ++ [⟨(j, k), hP⟩]) = (drawC (copyP2 L p r x y) (copyQ p r x y sw sh f) pre) := by rw [drawC_snoc, HZ.out, if_neg (by decide), List.append_nil]
            rw [e]
            exact HB5.out
          · have HSN : Hid (drawC (copyP2 L p r x y) (copyQ p r x y sw sh f) (pre ++ [⟨(j, k), hP⟩]) = (drawC (copyP2 L p r x y) (copyQ p r x y sw sh f) pre) ++ [(⟨p.x + (k : Int) + dx, p.y + (j : Int) + dy, cl.r, cl.fg, cl.bg, cl.fl⟩ : Wr)]) := hide' (by rw [drawC_snoc, HZ.out, if_pos rfl, HQE.out])
            obtain ⟨Wd, hWd⟩ : ∃ Wq, Wq = w5.drew := ⟨_, rfl⟩
            have hsd : Stay (fun _ => False) w5 Wd := by rw [hWd]; exact (Stay.refl _ _).drew
            have HMI := hide' (HB5.out.keep hsd)
            have HKD := hide' (show KeepsFrom w4.heap.size W Wd ∧ Stay (fun j => j < w4.heap.size → j = bc) W Wd from ⟨HKD5.out.1.trans (keepsFrom_of_stay hsd (fun j h => h.elim)), HKD5.out.2.trans (hsd.mono (fun _ _ h => h.elim))⟩)
            have hS : GSt bf bx by' bw fq f N sq sw sh m L p dx dy Wd := HG5.out.keep hsd
            have HSTWd := hide' (Stay.refl (fun _ => False) Wd)
            clear hsd HB5 HKD5 HG5 HOS
            gi_wp2
            refine anyI_begin (fun w' => GSt bf bx by' bw fq f N sq sw sh m L p dx dy w') (by kernel_rfl) (fun K0 hK0 => ?_)
            rw [← hWd]
            clear hWd
            refine anyI_take (fit_round _ _ l0 (by kernel_rfl)) (i := 1) hK0 (some 63) (.move (.tmp 19)) 3 _ (by kernel_rfl) (fun _ d _ _ _ h => by cases d <;> exact h) (by kernel_rfl) (by kernel_rfl) (fun w' hS' => by (obtain cf := hS'.cf; obtain cx := hS'.cx; obtain cy := hS'.cy; simp only [opr]; go_simp; try with_reducible rfl)) hS (fun K1 hK1 => ?_)
            clear hK0 K0
            try simp only [Act.put, List.setIfInBounds_toArray, List.set_cons_zero, List.set_cons_succ]
            refine anyI_take (fit_round _ _ l0 (by kernel_rfl)) (i := 2) hK1 (some 64) (.load 3 (.tmp 16)) 3 _ (by kernel_rfl) (fun _ d _ _ _ h => by cases d <;> exact h) (by kernel_rfl) (by kernel_rfl) (fun w' hS' => by (obtain cf := hS'.cf; obtain cx := hS'.cx; obtain cy := hS'.cy; simp only [opr]; go_simp; try with_reducible rfl)) hS (fun K2 hK2 => ?_)
            clear hK1 K1
            try simp only [Act.put, List.setIfInBounds_toArray, List.set_cons_zero, List.set_cons_succ]
            refine anyI_take (fit_round _ _ l0 (by kernel_rfl)) (i := 3) hK2 (some 65) (.binOp BinOp.add 3 (.tmp 63) (.tmp 64) 3) 3 _ (by kernel_rfl) (fun _ d _ _ _ h => by cases d <;> exact h) (by kernel_rfl) (by kernel_rfl) (fun w' hS' => by (obtain cf := hS'.cf; obtain cx := hS'.cx; obtain cy := hS'.cy; simp only [opr]; go_simp; try with_reducible rfl)) hS (fun K3 hK3 => ?_)
            clear hK2 K2
            try simp only [Act.put, List.setIfInBounds_toArray, List.set_cons_zero, List.set_cons_succ]
            refine anyI_take (fit_round _ _ l0 (by kernel_rfl)) (i := 4) hK3 (some 66) (.move (.tmp 20)) 3 _ (by kernel_rfl) (fun _ d _ _ _ h => by cases d <;> exact h) (by kernel_rfl) (by kernel_rfl) (fun w' hS' => by (obtain cf := hS'.cf; obtain cx := hS'.cx; obtain cy := hS'.cy; simp only [opr]; go_simp; try with_reducible rfl)) hS (fun K4 hK4 => ?_)
            clear hK3 K3
            try simp only [Act.put, List.setIfInBounds_toArray, List.set_cons_zero, List.set_cons_succ]
            refine anyI_take (fit_round _ _ l0 (by kernel_rfl)) (i := 5) hK4 (some 67) (.load 3 (.tmp 17)) 3 _ (by kernel_rfl) (fun _ d _ _ _ h => by cases d <;> exact h) (by kernel_rfl) (by kernel_rfl) (fun w' hS' => by (obtain cf := hS'.cf; obtain cx := hS'.cx; obtain cy := hS'.cy; simp only [opr]; go_simp; try with_reducible rfl)) hS (fun K5 hK5 => ?_)
            clear hK4 K4
            try simp only [Act.put, List.setIfInBounds_toArray, List.set_cons_zero, List.set_cons_succ]
            refine anyI_take (fit_round _ _ l0 (by kernel_rfl)) (i := 6) hK5 (some 68) (.binOp BinOp.add 3 (.tmp 66) (.tmp 67) 3) 3 _ (by kernel_rfl) (fun _ d _ _ _ h => by cases d <;> exact h) (by kernel_rfl) (by kernel_rfl) (fun w' hS' => by (obtain cf := hS'.cf; obtain cx := hS'.cx; obtain cy := hS'.cy; simp only [opr]; go_simp; try with_reducible rfl)) hS (fun K6 hK6 => ?_)
            clear hK5 K5
            try simp only [Act.put, List.setIfInBounds_toArray, List.set_cons_zero, List.set_cons_succ]
            refine anyI_take (fit_round _ _ l0 (by kernel_rfl)) (i := 7) hK6 (some 69) (.load 26 (.tmp 6)) 26 _ (by kernel_rfl) (fun _ d _ _ _ h => by cases d <;> exact h) (by kernel_rfl) (by kernel_rfl) (fun w' hS' => by (obtain cf := hS'.cf; obtain cx := hS'.cx; obtain cy := hS'.cy; simp only [opr]; go_simp; try with_reducible rfl)) hS (fun K7 hK7 => ?_)
            clear hK6 K6
            try simp only [Act.put, List.setIfInBounds_toArray, List.set_cons_zero, List.set_cons_succ]
            refine anyI_take (fit_round _ _ l0 (by kernel_rfl)) (i := 8) hK7 (some 70) (.move (.tmp 19)) 3 _ (by kernel_rfl) (fun _ d _ _ _ h => by cases d <;> exact h) (by kernel_rfl) (by kernel_rfl) (fun w' hS' => by (obtain cf := hS'.cf; obtain cx := hS'.cx; obtain cy := hS'.cy; simp only [opr]; go_simp; try with_reducible rfl)) hS (fun K8 hK8 => ?_)
            clear hK7 K7
            try simp only [Act.put, List.setIfInBounds_toArray, List.set_cons_zero, List.set_cons_succ]
            refine anyI_take (fit_round _ _ l0 (by kernel_rfl)) (i := 9) hK8 (some 71) (.move (.tmp 20)) 3 _ (by kernel_rfl) (fun _ d _ _ _ h => by cases d <;> exact h) (by kernel_rfl) (by kernel_rfl) (fun w' hS' => by (obtain cf := hS'.cf; obtain cx := hS'.cx; obtain cy := hS'.cy; simp only [opr]; go_simp; try with_reducible rfl)) hS (fun K9 hK9 => ?_)
            clear hK8 K8
            try simp only [Act.put, List.setIfInBounds_toArray, List.set_cons_zero, List.set_cons_succ]
            refine anyI_pick (rs := [0, 10]) hK9 (by kernel_rfl) (fun K10 hK10 => ?_)
            clear hK9 K9
            intro i hi
            simp only [List.mem_cons, List.not_mem_nil, or_false] at hi
            rcases hi with rfl | rfl
            · refine anyI_run (fit_round _ _ l0 (by kernel_rfl)) (some 62) (.load 55 (.tmp 18)) 55 v Wd (by kernel_rfl) (by kernel_rfl) (by (have hcc := HMI.out.cc; simp only [opr]; go_simp; try with_reducible rfl)) ?_
              refine hK10 0 (by simp) _ _ hS (anyI_more fun K11 hK11 => ?_)
              clear hK10 K10
              try simp only [Act.put, List.setIfInBounds_toArray, List.set_cons_zero, List.set_cons_succ]
              refine anyI_pick (rs := [10]) hK11 (by kernel_rfl) (fun K12 hK12 => ?_)
              clear hK11 K11
              intro i hi
              simp only [List.mem_cons, List.not_mem_nil, or_false] at hi
              rcases hi with rfl
              refine anyI_call (fit_round _ _ l0 (by kernel_rfl)) (some 72) 23 #[.tmp 69, .tmp 70, .tmp 71] #[26, 3, 3] 53 _ (by kernel_rfl) (by kernel_rfl) (enters Try.func23 (by kernel_rfl) (by kernel_rfl)) (by go_simp; try with_reducible rfl) ?_
              refine (HAT.out _ hS.fa).mono ?_
              rintro _ wk1 ⟨rfl, hsk⟩
              have hSk2 : GSt bf bx by' bw fq f N sq sw sh m L p dx dy wk1 := hS.keep hsk
              have HMk3 := hide' (HMI.out.keep hsk)
              have HSTwk1 := hide' (HSTWd.out.trans hsk)
              clear hsk
              refine ⟨_, rfl, ?_⟩
              refine hK12 10 (by simp) _ _ hSk2 (anyI_more fun K13 hK13 => ?_)
              clear hK12 K12
              try simp only [Act.put, List.setIfInBounds_toArray, List.set_cons_zero, List.set_cons_succ]
              refine anyI_take (fit_round _ _ l0 (by kernel_rfl)) (i := 11) hK13 (some 73) (.build 59 #[(0, .tmp 65), (1, .tmp 68), (2, .tmp 72)]) 59 _ (by kernel_rfl) (fun _ d _ _ _ h => by cases d <;> exact h) (by kernel_rfl) (by kernel_rfl) (fun w' hS' => by (simp only [opr]; go_simp; try with_reducible rfl)) hSk2 (fun K14 hK14 => ?_)
              clear hK13 K13
              try simp only [Act.put, List.setIfInBounds_toArray, List.set_cons_zero, List.set_cons_succ]
              refine anyI_pick (rs := [12]) hK14 (by kernel_rfl) (fun K15 hK15 => ?_)
              clear hK14 K14
              intro i hi
              simp only [List.mem_cons, List.not_mem_nil, or_false] at hi
              rcases hi with rfl
              obtain ⟨wk4, hWk⟩ : ∃ Wq, Wq = wk1.alloc (.cells #[.int .i64 (p.x + (k : Int) + dx), .int .i64 (p.y + (j : Int) + dy), .int .i32 cl.r, .int .i64 cl.fg, .int .i64 cl.bg, .int .i64 cl.fl] 59) := ⟨_, rfl⟩
              obtain ⟨bk, hbk⟩ : ∃ b, b = wk1.heap.size := ⟨_, rfl⟩
              have hsk : Stay (fun _ => False) wk1 wk4 := by rw [hWk]; exact (Stay.refl _ _).alloc _
              have HSRC : Hid (∀ ad, (some ⟨bk, 0, none⟩ : Option Addr) = some ad → ∀ j' u, (⟨p.x + (k : Int) + dx, p.y + (j : Int) + dy, cl.r, cl.fg, cl.bg, cl.fl⟩ : Wr).parts[j']? = some u → wk4.cell? (ad.add j') = some u) := hide' (by
                have hN := isRowS_new wk1 #[.int .i64 (p.x + (k : Int) + dx), .int .i64 (p.y + (j : Int) + dy), .int .i32 cl.r, .int .i64 cl.fg, .int .i64 cl.bg, .int .i64 cl.fl] 59 6 1 rfl
                rw [← hWk, ← hbk] at hN
                rintro ad e j' u hu
                rcases hN with ⟨h, _⟩ | ⟨ad', cc, h, _, h3⟩
                · cases h
                · cases h
                  cases e
                  exact h3 j' u hu)
              have hSk5 : GSt bf bx by' bw fq f N sq sw sh m L p dx dy wk4 := hSk2.keep hsk
              have HMk6 := hide' (HMk3.out.keep hsk)
              have HSTwk4 := hide' (HSTwk1.out.trans hsk)
              refine anyI_run (fit_round _ _ l0 (by kernel_rfl)) (some 74) (.buildSlice 55 1 #[(0, .tmp 73)]) 55 (.slice (some ⟨bk, 0, none⟩) 1 1) wk4 (by kernel_rfl) (by kernel_rfl) (by (rw [hWk, hbk]; simp only [opr]; go_simp; try with_reducible rfl)) ?_
              clear hsk hWk hbk
              refine hK15 12 (by simp) _ _ hSk5 (anyI_more fun K16 hK16 => ?_)
              clear hK15 K15
              try simp only [Act.put, List.setIfInBounds_toArray, List.set_cons_zero, List.set_cons_succ]
              refine anyI_pick (rs := [13]) hK16 (by kernel_rfl) (fun K17 hK17 => ?_)
              clear hK16 K16
              intro i hi
              simp only [List.mem_cons, List.not_mem_nil, or_false] at hi
              rcases hi with rfl
              obtain ⟨v2, wk7, hrn, hwn, hsa, hba⟩ := run_append_win (P := Try.prog) wk4 55 55 59 6 48 _ Try.underlying55 info59 rfl (by decide) (by decide) v _ _ HMk6.out.row (some ⟨bk, 0, none⟩) 1 1 (⟨p.x + (k : Int) + dx, p.y + (j : Int) + dy, cl.r, cl.fg, cl.bg, cl.fl⟩ : Wr).parts rfl HSRC.out (fun e => by cases e) (parts_one _) HNM.out
              have hSk8 : GSt bf bx by' bw fq f N sq sw sh m L p dx dy wk7 := hSk5.stay hsa (HOFF.out _ HMk6.out.vo)
              have HPUT := hide' (HMI.out.put HLT.out (⟨p.x + (k : Int) + dx, p.y + (j : Int) + dy, cl.r, cl.fg, cl.bg, cl.fl⟩ : Wr) HSTwk4.out hwn hsa hba)
              have hvb : ¬ v.ownBlock = some bc := fun e => by have := HMk6.out.vo _ e; have := HLT.out; omega
              have HCC := hide' (show wk7.cell? ⟨bc, 0, none⟩ = some v ∧ wk7.frozen? ⟨bc, 0, none⟩ = false from ⟨(hsa.cell (p := ⟨bc, 0, none⟩) (World.block_lt_of_cell? _ _ HMk6.out.cc) (fun e => hvb e)).trans HMk6.out.cc, (hsa.frozen (p := ⟨bc, 0, none⟩) (World.block_lt_of_cell? _ _ HMk6.out.cc) (fun e => hvb e)).trans HMk6.out.cf⟩)
              obtain ⟨na, nc, hvn, _, _⟩ := hwn.shape
              subst hvn
              refine anyI_run (fit_round _ _ l0 (by kernel_rfl)) (some 75) (.call { callee := Callee.builtin Builtin.append, args := #[.tmp 62, .tmp 74], argTypes := #[55, 55] }) 55 (.slice na ((drawC (copyP2 L p r x y) (copyQ p r x y sw sh f) pre).length + 1) nc) wk7 (by kernel_rfl) (by kernel_rfl) (by (simp only [opr]; unfold execOp; simp [resolve, invoke, builtin, Act.eval, hrn, Result.andThen])) ?_
              clear hrn hwn hsa hba hvb
              refine hK17 13 (by simp) _ _ hSk8 (anyI_more fun K18 hK18 => ?_)
              clear hK17 K17
              try simp only [Act.put, List.setIfInBounds_toArray, List.set_cons_zero, List.set_cons_succ]
              refine anyI_pick (rs := [14]) hK18 (by kernel_rfl) (fun K19 hK19 => ?_)
              clear hK18 K18
              intro i hi
              simp only [List.mem_cons, List.not_mem_nil, or_false] at hi
              rcases hi with rfl
              obtain ⟨wk9, hWk⟩ : ∃ Wq, Wq = wk7.setCell ⟨bc, 0, none⟩ (.slice na ((drawC (copyP2 L p r x y) (copyQ p r x y sw sh f) pre).length + 1) nc) := ⟨_, rfl⟩
              have hSk10 : GSt bf bx by' bw fq f N sq sw sh m L p dx dy wk9 := by rw [hWk]; exact hSk8.stay ((Stay.refl (fun j => j = bc) wk7).setCell (p := ⟨bc, 0, none⟩) rfl _) HBC.out
              rw [← hWk] at HPUT
              refine anyI_skip (fit_round _ _ l0 (by kernel_rfl)) none (.store 55 (.tmp 18) (.tmp 75)) 0 wk9 (by kernel_rfl) (by kernel_rfl) (by (rw [hWk]; obtain ⟨hcc, hff⟩ := HCC.out; simp only [opr]; go_simp; try with_reducible rfl)) ?_
              clear hWk
              refine hK19 14 (by simp) _ _ hSk10 (anyI_more fun K20 hK20 => ?_)
              clear hK19 K19
              try simp only [Act.put]
              refine anyI_done hK20 (by kernel_rfl) ?_
              clear hK20 K20
              clear HCC
              gi_wp2
              refine ⟨HKD.out.1.trans HPUT.out.2.1, HKD.out.2.trans HPUT.out.2.2, .slice na ((drawC (copyP2 L p r x y) (copyQ p r x y sw sh f) pre).length + 1) nc, ?_⟩
              rw [HSN.out]
              exact HPUT.out.1
            · refine anyI_call (fit_round _ _ l0 (by kernel_rfl)) (some 72) 23 #[.tmp 69, .tmp 70, .tmp 71] #[26, 3, 3] 53 _ (by kernel_rfl) (by kernel_rfl) (enters Try.func23 (by kernel_rfl) (by kernel_rfl)) (by go_simp; try with_reducible rfl) ?_
              refine (HAT.out _ hS.fa).mono ?_
              rintro _ wk11 ⟨rfl, hsk⟩
              have hSk12 : GSt bf bx by' bw fq f N sq sw sh m L p dx dy wk11 := hS.keep hsk
              have HMk13 := hide' (HMI.out.keep hsk)
              have HSTwk11 := hide' (HSTWd.out.trans hsk)
              clear hsk
              refine ⟨_, rfl, ?_⟩
              refine hK10 10 (by simp) _ _ hSk12 (anyI_more fun K11 hK11 => ?_)
              clear hK10 K10
              try simp only [Act.put, List.setIfInBounds_toArray, List.set_cons_zero, List.set_cons_succ]
              refine anyI_take (fit_round _ _ l0 (by kernel_rfl)) (i := 11) hK11 (some 73) (.build 59 #[(0, .tmp 65), (1, .tmp 68), (2, .tmp 72)]) 59 _ (by kernel_rfl) (fun _ d _ _ _ h => by cases d <;> exact h) (by kernel_rfl) (by kernel_rfl) (fun w' hS' => by (simp only [opr]; go_simp; try with_reducible rfl)) hSk12 (fun K12 hK12 => ?_)
              clear hK11 K11
              try simp only [Act.put, List.setIfInBounds_toArray, List.set_cons_zero, List.set_cons_succ]
              refine anyI_pick (rs := [0, 12]) hK12 (by kernel_rfl) (fun K13 hK13 => ?_)
              clear hK12 K12
              intro i hi
              simp only [List.mem_cons, List.not_mem_nil, or_false] at hi
              rcases hi with rfl | rfl
              · refine anyI_run (fit_round _ _ l0 (by kernel_rfl)) (some 62) (.load 55 (.tmp 18)) 55 v wk11 (by kernel_rfl) (by kernel_rfl) (by (have hcc := HMk13.out.cc; simp only [opr]; go_simp; try with_reducible rfl)) ?_
                refine hK13 0 (by simp) _ _ hSk12 (anyI_more fun K14 hK14 => ?_)
                clear hK13 K13
                try simp only [Act.put, List.setIfInBounds_toArray, List.set_cons_zero, List.set_cons_succ]
                refine anyI_pick (rs := [12]) hK14 (by kernel_rfl) (fun K15 hK15 => ?_)
                clear hK14 K14
                intro i hi
                simp only [List.mem_cons, List.not_mem_nil, or_false] at hi
                rcases hi with rfl
                obtain ⟨wk14, hWk⟩ : ∃ Wq, Wq = wk11.alloc (.cells #[.int .i64 (p.x + (k : Int) + dx), .int .i64 (p.y + (j : Int) + dy), .int .i32 cl.r, .int .i64 cl.fg, .int .i64 cl.bg, .int .i64 cl.fl] 59) := ⟨_, rfl⟩
                obtain ⟨bk, hbk⟩ : ∃ b, b = wk11.heap.size := ⟨_, rfl⟩
                have hsk : Stay (fun _ => False) wk11 wk14 := by rw [hWk]; exact (Stay.refl _ _).alloc _
                have HSRC : Hid (∀ ad, (some ⟨bk, 0, none⟩ : Option Addr) = some ad → ∀ j' u, (⟨p.x + (k : Int) + dx, p.y + (j : Int) + dy, cl.r, cl.fg, cl.bg, cl.fl⟩ : Wr).parts[j']? = some u → wk14.cell? (ad.add j') = some u) := hide' (by
                  have hN := isRowS_new wk11 #[.int .i64 (p.x + (k : Int) + dx), .int .i64 (p.y + (j : Int) + dy), .int .i32 cl.r, .int .i64 cl.fg, .int .i64 cl.bg, .int .i64 cl.fl] 59 6 1 rfl
                  rw [← hWk, ← hbk] at hN
                  rintro ad e j' u hu
                  rcases hN with ⟨h, _⟩ | ⟨ad', cc, h, _, h3⟩
                  · cases h
                  · cases h
                    cases e
                    exact h3 j' u hu)
                have hSk15 : GSt bf bx by' bw fq f N sq sw sh m L p dx dy wk14 := hSk12.keep hsk
                have HMk16 := hide' (HMk13.out.keep hsk)
                have HSTwk14 := hide' (HSTwk11.out.trans hsk)
                refine anyI_run (fit_round _ _ l0 (by kernel_rfl)) (some 74) (.buildSlice 55 1 #[(0, .tmp 73)]) 55 (.slice (some ⟨bk, 0, none⟩) 1 1) wk14 (by kernel_rfl) (by kernel_rfl) (by (rw [hWk, hbk]; simp only [opr]; go_simp; try with_reducible rfl)) ?_
                clear hsk hWk hbk
                refine hK15 12 (by simp) _ _ hSk15 (anyI_more fun K16 hK16 => ?_)
                clear hK15 K15
                try simp only [Act.put, List.setIfInBounds_toArray, List.set_cons_zero, List.set_cons_succ]
                refine anyI_pick (rs := [13]) hK16 (by kernel_rfl) (fun K17 hK17 => ?_)
                clear hK16 K16
                intro i hi
                simp only [List.mem_cons, List.not_mem_nil, or_false] at hi
                rcases hi with rfl
                obtain ⟨v2, wk17, hrn, hwn, hsa, hba⟩ := run_append_win (P := Try.prog) wk14 55 55 59 6 48 _ Try.underlying55 info59 rfl (by decide) (by decide) v _ _ HMk16.out.row (some ⟨bk, 0, none⟩) 1 1 (⟨p.x + (k : Int) + dx, p.y + (j : Int) + dy, cl.r, cl.fg, cl.bg, cl.fl⟩ : Wr).parts rfl HSRC.out (fun e => by cases e) (parts_one _) HNM.out
                have hSk18 : GSt bf bx by' bw fq f N sq sw sh m L p dx dy wk17 := hSk15.stay hsa (HOFF.out _ HMk16.out.vo)
                have HPUT := hide' (HMI.out.put HLT.out (⟨p.x + (k : Int) + dx, p.y + (j : Int) + dy, cl.r, cl.fg, cl.bg, cl.fl⟩ : Wr) HSTwk14.out hwn hsa hba)
                have hvb : ¬ v.ownBlock = some bc := fun e => by have := HMk16.out.vo _ e; have := HLT.out; omega
                have HCC := hide' (show wk17.cell? ⟨bc, 0, none⟩ = some v ∧ wk17.frozen? ⟨bc, 0, none⟩ = false from ⟨(hsa.cell (p := ⟨bc, 0, none⟩) (World.block_lt_of_cell? _ _ HMk16.out.cc) (fun e => hvb e)).trans HMk16.out.cc, (hsa.frozen (p := ⟨bc, 0, none⟩) (World.block_lt_of_cell? _ _ HMk16.out.cc) (fun e => hvb e)).trans HMk16.out.cf⟩)
                obtain ⟨na, nc, hvn, _, _⟩ := hwn.shape
                subst hvn
                refine anyI_run (fit_round _ _ l0 (by kernel_rfl)) (some 75) (.call { callee := Callee.builtin Builtin.append, args := #[.tmp 62, .tmp 74], argTypes := #[55, 55] }) 55 (.slice na ((drawC (copyP2 L p r x y) (copyQ p r x y sw sh f) pre).length + 1) nc) wk17 (by kernel_rfl) (by kernel_rfl) (by (simp only [opr]; unfold execOp; simp [resolve, invoke, builtin, Act.eval, hrn, Result.andThen])) ?_
                clear hrn hwn hsa hba hvb
                refine hK17 13 (by simp) _ _ hSk18 (anyI_more fun K18 hK18 => ?_)
                clear hK17 K17
                try simp only [Act.put, List.setIfInBounds_toArray, List.set_cons_zero, List.set_cons_succ]
                refine anyI_pick (rs := [14]) hK18 (by kernel_rfl) (fun K19 hK19 => ?_)
                clear hK18 K18
                intro i hi
                simp only [List.mem_cons, List.not_mem_nil, or_false] at hi
                rcases hi with rfl
                obtain ⟨wk19, hWk⟩ : ∃ Wq, Wq = wk17.setCell ⟨bc, 0, none⟩ (.slice na ((drawC (copyP2 L p r x y) (copyQ p r x y sw sh f) pre).length + 1) nc) := ⟨_, rfl⟩
                have hSk20 : GSt bf bx by' bw fq f N sq sw sh m L p dx dy wk19 := by rw [hWk]; exact hSk18.stay ((Stay.refl (fun j => j = bc) wk17).setCell (p := ⟨bc, 0, none⟩) rfl _) HBC.out
                rw [← hWk] at HPUT
                refine anyI_skip (fit_round _ _ l0 (by kernel_rfl)) none (.store 55 (.tmp 18) (.tmp 75)) 0 wk19 (by kernel_rfl) (by kernel_rfl) (by (rw [hWk]; obtain ⟨hcc, hff⟩ := HCC.out; simp only [opr]; go_simp; try with_reducible rfl)) ?_
                clear hWk
                refine hK19 14 (by simp) _ _ hSk20 (anyI_more fun K20 hK20 => ?_)
                clear hK19 K19
                try simp only [Act.put]
                refine anyI_done hK20 (by kernel_rfl) ?_
                clear hK20 K20
                clear HCC
                gi_wp2
                refine ⟨HKD.out.1.trans HPUT.out.2.1, HKD.out.2.trans HPUT.out.2.2, .slice na ((drawC (copyP2 L p r x y) (copyQ p r x y sw sh f) pre).length + 1) nc, ?_⟩
                rw [HSN.out]
                exact HPUT.out.1
              · obtain ⟨wk21, hWk⟩ : ∃ Wq, Wq = wk11.alloc (.cells #[.int .i64 (p.x + (k : Int) + dx), .int .i64 (p.y + (j : Int) + dy), .int .i32 cl.r, .int .i64 cl.fg, .int .i64 cl.bg, .int .i64 cl.fl] 59) := ⟨_, rfl⟩
                obtain ⟨bk, hbk⟩ : ∃ b, b = wk11.heap.size := ⟨_, rfl⟩
                have hsk : Stay (fun _ => False) wk11 wk21 := by rw [hWk]; exact (Stay.refl _ _).alloc _
                have HSRC : Hid (∀ ad, (some ⟨bk, 0, none⟩ : Option Addr) = some ad → ∀ j' u, (⟨p.x + (k : Int) + dx, p.y + (j : Int) + dy, cl.r, cl.fg, cl.bg, cl.fl⟩ : Wr).parts[j']? = some u → wk21.cell? (ad.add j') = some u) := hide' (by
                  have hN := isRowS_new wk11 #[.int .i64 (p.x + (k : Int) + dx), .int .i64 (p.y + (j : Int) + dy), .int .i32 cl.r, .int .i64 cl.fg, .int .i64 cl.bg, .int .i64 cl.fl] 59 6 1 rfl
                  rw [← hWk, ← hbk] at hN
                  rintro ad e j' u hu
                  rcases hN with ⟨h, _⟩ | ⟨ad', cc, h, _, h3⟩
                  · cases h
                  · cases h
                    cases e
                    exact h3 j' u hu)
                have hSk22 : GSt bf bx by' bw fq f N sq sw sh m L p dx dy wk21 := hSk12.keep hsk
                have HMk23 := hide' (HMk13.out.keep hsk)
                have HSTwk21 := hide' (HSTwk11.out.trans hsk)
                refine anyI_run (fit_round _ _ l0 (by kernel_rfl)) (some 74) (.buildSlice 55 1 #[(0, .tmp 73)]) 55 (.slice (some ⟨bk, 0, none⟩) 1 1) wk21 (by kernel_rfl) (by kernel_rfl) (by (rw [hWk, hbk]; simp only [opr]; go_simp; try with_reducible rfl)) ?_
                clear hsk hWk hbk
                refine hK13 12 (by simp) _ _ hSk22 (anyI_more fun K14 hK14 => ?_)
                clear hK13 K13
                try simp only [Act.put, List.setIfInBounds_toArray, List.set_cons_zero, List.set_cons_succ]
                refine anyI_pick (rs := [0]) hK14 (by kernel_rfl) (fun K15 hK15 => ?_)
                clear hK14 K14
                intro i hi
                simp only [List.mem_cons, List.not_mem_nil, or_false] at hi
                rcases hi with rfl
                refine anyI_run (fit_round _ _ l0 (by kernel_rfl)) (some 62) (.load 55 (.tmp 18)) 55 v wk21 (by kernel_rfl) (by kernel_rfl) (by (have hcc := HMk23.out.cc; simp only [opr]; go_simp; try with_reducible rfl)) ?_
                refine hK15 0 (by simp) _ _ hSk22 (anyI_more fun K16 hK16 => ?_)
                clear hK15 K15
                try simp only [Act.put, List.setIfInBounds_toArray, List.set_cons_zero, List.set_cons_succ]
                refine anyI_pick (rs := [13]) hK16 (by kernel_rfl) (fun K17 hK17 => ?_)
                clear hK16 K16
                intro i hi
                simp only [List.mem_cons, List.not_mem_nil, or_false] at hi
                rcases hi with rfl
                obtain ⟨v2, wk24, hrn, hwn, hsa, hba⟩ := run_append_win (P := Try.prog) wk21 55 55 59 6 48 _ Try.underlying55 info59 rfl (by decide) (by decide) v _ _ HMk23.out.row (some ⟨bk, 0, none⟩) 1 1 (⟨p.x + (k : Int) + dx, p.y + (j : Int) + dy, cl.r, cl.fg, cl.bg, cl.fl⟩ : Wr).parts rfl HSRC.out (fun e => by cases e) (parts_one _) HNM.out
                have hSk25 : GSt bf bx by' bw fq f N sq sw sh m L p dx dy wk24 := hSk22.stay hsa (HOFF.out _ HMk23.out.vo)
                have HPUT := hide' (HMI.out.put HLT.out (⟨p.x + (k : Int) + dx, p.y + (j : Int) + dy, cl.r, cl.fg, cl.bg, cl.fl⟩ : Wr) HSTwk21.out hwn hsa hba)
                have hvb : ¬ v.ownBlock = some bc := fun e => by have := HMk23.out.vo _ e; have := HLT.out; omega
                have HCC := hide' (show wk24.cell? ⟨bc, 0, none⟩ = some v ∧ wk24.frozen? ⟨bc, 0, none⟩ = false from ⟨(hsa.cell (p := ⟨bc, 0, none⟩) (World.block_lt_of_cell? _ _ HMk23.out.cc) (fun e => hvb e)).trans HMk23.out.cc, (hsa.frozen (p := ⟨bc, 0, none⟩) (World.block_lt_of_cell? _ _ HMk23.out.cc) (fun e => hvb e)).trans HMk23.out.cf⟩)
                obtain ⟨na, nc, hvn, _, _⟩ := hwn.shape
                subst hvn
                refine anyI_run (fit_round _ _ l0 (by kernel_rfl)) (some 75) (.call { callee := Callee.builtin Builtin.append, args := #[.tmp 62, .tmp 74], argTypes := #[55, 55] }) 55 (.slice na ((drawC (copyP2 L p r x y) (copyQ p r x y sw sh f) pre).length + 1) nc) wk24 (by kernel_rfl) (by kernel_rfl) (by (simp only [opr]; unfold execOp; simp [resolve, invoke, builtin, Act.eval, hrn, Result.andThen])) ?_
                clear hrn hwn hsa hba hvb
                refine hK17 13 (by simp) _ _ hSk25 (anyI_more fun K18 hK18 => ?_)
                clear hK17 K17
                try simp only [Act.put, List.setIfInBounds_toArray, List.set_cons_zero, List.set_cons_succ]
                refine anyI_pick (rs := [14]) hK18 (by kernel_rfl) (fun K19 hK19 => ?_)
                clear hK18 K18
                intro i hi
                simp only [List.mem_cons, List.not_mem_nil, or_false] at hi
                rcases hi with rfl
                obtain ⟨wk26, hWk⟩ : ∃ Wq, Wq = wk24.setCell ⟨bc, 0, none⟩ (.slice na ((drawC (copyP2 L p r x y) (copyQ p r x y sw sh f) pre).length + 1) nc) := ⟨_, rfl⟩
                have hSk27 : GSt bf bx by' bw fq f N sq sw sh m L p dx dy wk26 := by rw [hWk]; exact hSk25.stay ((Stay.refl (fun j => j = bc) wk24).setCell (p := ⟨bc, 0, none⟩) rfl _) HBC.out
                rw [← hWk] at HPUT
                refine anyI_skip (fit_round _ _ l0 (by kernel_rfl)) none (.store 55 (.tmp 18) (.tmp 75)) 0 wk26 (by kernel_rfl) (by kernel_rfl) (by (rw [hWk]; obtain ⟨hcc, hff⟩ := HCC.out; simp only [opr]; go_simp; try with_reducible rfl)) ?_
                clear hWk
                refine hK19 14 (by simp) _ _ hSk27 (anyI_more fun K20 hK20 => ?_)
                clear hK19 K19
                try simp only [Act.put]
                refine anyI_done hK20 (by kernel_rfl) ?_
                clear hK20 K20
                clear HCC
                gi_wp2
                refine ⟨HKD.out.1.trans HPUT.out.2.1, HKD.out.2.trans HPUT.out.2.2, .slice na ((drawC (copyP2 L p r x y) (copyQ p r x y sw sh f) pre).length + 1) nc, ?_⟩
                rw [HSN.out]
                exact HPUT.out.1
        case done =>
          rintro D xs W hD rfl ⟨v, hb⟩ hK
          rw [← HM2.out] at hb
          obtain ⟨n, hn⟩ : ∃ n, n = M.length := ⟨_, rfl⟩
          have hnb : n ≤ 262144 := by
            rw [hn, HM2.out]
            have h1 := drawC_len (P2 := copyP2 L p r x y) (Q := copyQ p r x y sw sh f) (ownS L p r)
            have h2 : (ownS L p r).length ≤ 512 * 512 := by
              unfold ownS
              by_cases hr : rightB r = true
              · rw [if_pos hr]
                have h3 := allS_len (P := fillP L p r) p.w.toNat p.h.toNat
                have h4 := HOP.out
                unfold OkP at h4
                have h5 : p.h.toNat * p.w.toNat ≤ 512 * 512 := Nat.mul_le_mul (by omega) (by omega)
                omega
              · rw [if_neg hr]
                exact Nat.zero_le _
            omega
          obtain ⟨na, nc, hv, _⟩ := hb.row.shape
          subst hv
          have HMW := hide' hb
          have HGW : Hid (GSt bf bx by' bw fq f N sq sw sh m L p dx dy W) := hide' (HG4.out.stay hb.st HBC.out)
          have HOLD : Hid (∀ j, fq.own j → j < w.heap.size ∧ w.heap.size ≤ w4.heap.size ∧ w4.heap.size ≤ W.heap.size) := hide' (fun j hj => ⟨(HT.out j hj).1, HSW.out.size, hb.st.size⟩)
          have HSWW : Hid (Stay (fun _ => False) w W) := hide' (HSW.out.trans2 hb.st (fun j hj e => by subst e; have := HN3.out; have := HZ0.out; omega))
          have HDK := hide' hK
          have HDD : Hid (w4.heap.size ≤ D) := hide' hD
          have HMC : Hid (W.cell? ⟨bc, 0, none⟩ = some (.slice na n nc)) := hide' (by rw [hn]; exact hb.cc)
          have HN := hide' hn
          have hnz : (n : Int) ≤ 262144 := by omega
          have hcc := HMC.out
          have HX0 : Hid (∃ v', FAt W (fq.with v') (applyW fq.G.w fq.G.h f (M.take 0)) (N ++ M.take 0) ∧ Moved fq (fq.with v') W W) := hide' ⟨fq.v, by rw [List.take_zero, List.append_nil]; exact HGW.out.fa, Moved.turn (Stay.refl _ _)⟩
          clear hb hn hnb hK hD
          go_wp2
          go_loopg [78] n (fun gg v78 wr => ∃ i : Nat, i ≤ n ∧ gg = n - i ∧ v78 = .int .i64 (i : Int) ∧ Hid (∃ v', FAt wr (fq.with v') (applyW fq.G.w fq.G.h f (M.take i)) (N ++ M.take i) ∧ Moved fq (fq.with v') W wr))
          case atStart => exact ⟨0, Nat.zero_le _, by omega, by go_num, HX0⟩
          case round =>
            clear HX0 hcc
            obtain ⟨i, hin, rfl, rfl, HX⟩ := hrel
            obtain ⟨v', hfa, hmv⟩ := HX.out
            by_cases hlt : i < n
            · have hz1 : (i : Int) < (n : Nat) := by omega
              obtain ⟨q, hq⟩ : ∃ q, M[i]? = some q := ⟨M[i]'(by have := HN.out; omega), List.getElem?_eq_getElem _⟩
              obtain ⟨ng, no, hna⟩ : ∃ g o, na = some ⟨g, o, none⟩ := by
                rcases HMW.out.row.2 with ⟨e, h0⟩ | ⟨g, o, cap, e, _⟩
                · have := HN.out; omega
                · cases e
                  exact ⟨g, o, rfl⟩
              subst hna
              have hbq := wr_win (n := M.length) (HMW.out.row) i q hq
              have hgo : ¬ fq.own ng := fun e => by have h1 := HOLD.out _ e; have h2 := HMW.out.vo ng rfl; omega
              have hkc : ∀ {o : Nat} {u : Value}, W.cell? ⟨ng, o, none⟩ = some u → wr.cell? ⟨ng, o, none⟩ = some u := fun {o u} e => (hmv.1.cell (p := ⟨ng, o, none⟩) (World.block_lt_of_cell? _ _ e) hgo).trans e
              have q0 := hkc hbq.c0
              have q1 := hkc hbq.c1
              have q2 := hkc hbq.c2
              have q3 := hkc hbq.c3
              have q4 := hkc hbq.c4
              have q5 := hkc hbq.c5
              have hcf := (hmv.1.cell (p := ⟨bf, 0, none⟩) (World.block_lt_of_cell? _ _ HGW.out.cf) (fun e => by have h1 := (HT.out _ e).1; have h2 := HNW.out; simp only at h1; omega)).trans HGW.out.cf
              obtain ⟨w5, hw5⟩ : ∃ Wq, Wq = wr.alloc (.cells #[.int .i64 q.x, .int .i64 q.y, .int .i32 q.r, .int .i64 q.fg, .int .i64 q.bg, .int .i64 q.fl] 59) := ⟨_, rfl⟩
              obtain ⟨bk, hbk⟩ : ∃ b, b = wr.heap.size := ⟨_, rfl⟩
              have hs5 : Stay (fun _ => False) wr w5 := by rw [hw5]; exact (Stay.refl _ _).alloc _
              have HB5 := hide' (show WBox w5 bk q by rw [hw5]; exact WBox.new q hbk.symm)
              have hqi : p.x ≤ q.x ∧ q.x < p.x + p.w ∧ p.y ≤ q.y ∧ q.y < p.y + p.h := copy_mem (ownS L p r) (by rw [← HM2.out]; exact List.mem_of_getElem? hq)
              have hok := HOK.out
              unfold OkW at hok
              have HPT := hide' (put_fa (hfa.keep hs5) q.x q.y ⟨q.r, q.fg, q.bg, q.fl⟩ (by show 0 ≤ q.x ∧ q.x < (fq.G.w : Nat); rw [HP0.out.ew]; omega) (by show 0 ≤ q.y ∧ q.y < (fq.G.h : Nat); rw [HP0.out.eh]; omega) (by have h1 := HP0.out.nl; rw [List.length_append, List.length_take]; omega))
              have HTK : Hid (M.take (i + 1) = M.take i ++ [q]) := hide' (by
                have hlt' : i < M.length := by have := HN.out; omega
                rw [List.take_succ_eq_append_getElem hlt']
                congr 1
                rw [List.getElem?_eq_getElem hlt'] at hq
                cases hq
                rfl)
              have HMV := hide' hmv
              have HS5 := hide' hs5
              have hcf5 := keep_cell hs5 hcf
              obtain ⟨b0, b1, b2, b3, b4, b5, _⟩ := HB5.out
              clear hfa hmv hbq hkc hgo hq hs5 hcf
              go_upto_region 14 with fail
              rw [← hw5, ← hbk]
              clear hw5 hbk q0 q1 q2 q3 q4 q5
              go_wp2_with fail
              refine HPT.out.mono ?_
              rintro e w6 ⟨v2, rfl, ha, hm⟩
              have HX2 : Hid (∃ v', FAt w6 (fq.with v') (applyW fq.G.w fq.G.h f (M.take (i + 1))) (N ++ M.take (i + 1)) ∧ Moved fq (fq.with v') W w6) := hide' ⟨v2, by
                rw [HTK.out]
                show FAt w6 (fq.with v2) (applyW fq.G.w fq.G.h f (M.take i ++ [Wr.of q.x q.y ⟨q.r, q.fg, q.bg, q.fl⟩])) (N ++ (M.take i ++ [Wr.of q.x q.y ⟨q.r, q.fg, q.bg, q.fl⟩]))
                rw [applyW_snoc, ← List.append_assoc]
                exact ha, HMV.out.step HS5.out hm⟩
              clear ha hm HPT HTK HMV HS5 HB5 HX b0 b1 b2 b3 b4 b5 hcf5
              go_wp2
              go_roundg (n - (i + 1))
              case measure => omega
              case rel => exact ⟨i + 1, by omega, by omega, by go_num, HX2⟩
            · have hii : i = n := by omega
              subst hii
              have hcc : wr.cell? ⟨bc, 0, none⟩ = some (.slice na i nc) := (hmv.1.cell (p := ⟨bc, 0, none⟩) (World.block_lt_of_cell? _ _ HMC.out) (fun e => HBC.out.2.2.2.2.2 _ e rfl)).trans HMC.out
              have hDW : D < W.heap.size := (Array.getElem?_eq_some_iff.1 HDK.out).1
              have hDn : ¬ fq.own D := fun e => by have h1 := HOLD.out _ e; have h2 := HDD.out; omega
              have HK2 : Hid (wr.heap[D]? = some (.deferred (some []))) := hide' ((hmv.1.block D hDW hDn).trans HDK.out)
              have hD' : ¬ (fq.with v').own D := fun e => by
                rcases hmv.2 D e with h1 | h1
                · exact hDn h1
                · omega
              have hsp : Stay (fun j => some D = some j) wr (wr.putObj D (.deferred none)) := stay_row (grownBy_putObj' wr D (.deferred none))
              have HFN : Hid (DrewS fq f N M 0 w (.returned (.tuple #[.int .i64 (i : Nat), .int .i64 0])) (wr.putObj D (.deferred none))) := hide' ⟨v', by rw [HN.out], by
                have h1 := hfa.stay hsp (fun j hj e => by cases e; exact hD' hj)
                rw [HN.out, List.take_length] at h1
                exact h1, ((HSWW.out.mono (fun _ _ h => h.elim)).trans hmv.1).trans2 hsp (fun j hj e => by cases e; have h1 := HDD.out; have h2 := HSW.out.size; omega), fun j hj => by
                rcases hmv.2 j hj with h1 | h1
                · exact .inl h1
                · exact .inr (Nat.le_trans HSWW.out.size h1)⟩
              clear hfa hmv HX
              go_wp2
              refine marks_ret2_D HK2.out rfl ?_
              exact HFN.out

end Go.Proofs.Yticccknocjnkpaa
