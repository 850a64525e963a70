/-
  A window is filled: walked. No conditions.
-/
import Derived.Test.YticccknocjnkpaaGE
namespace Go.Proofs.Yticccknocjnkpaa
open Go.RowKit Go.Shelf

attribute [local go_sem] Oper.semAt_some

set_option maxRecDepth 100000 in
set_option maxHeartbeats 4000000 in
theorem fill16 (fq : Fm) (f : Nat → Cl) (N : List Wr) (sq : Sm) (sw sh : Nat) (m : Int) (L : List Wn) (id : Int) (r : R) (c : Cl) (w : World) (H : Pair w fq f N sq sw sh m L) :
    Calls Try.prog 16 #[.pointer (some ⟨fq.b, 0, none⟩), .pointer (some ⟨sq.b, 0, none⟩), .int .i64 id, .agg #[.int .i64 r.x, .int .i64 r.y, .int .i64 r.w, .int .i64 r.h], .agg #[.int .i32 c.r, .int .i64 c.fg, .int .i64 c.bg, .int .i64 c.fl]] w (DrewS fq f N (drawn L id fun p => fillA L p r c) (errW L id) w) := by
  obtain ⟨W0, hW0⟩ : ∃ W, W = ((w.alloc (.cells #[.pointer (some ⟨fq.b, 0, none⟩)] 26)).alloc (.cells #[.int .i64 r.x, .int .i64 r.y, .int .i64 r.w, .int .i64 r.h] 41)).alloc (.cells #[.int .i32 c.r, .int .i64 c.fg, .int .i64 c.bg, .int .i64 c.fl] 53) := ⟨_, rfl⟩
  obtain ⟨bf, hbf⟩ : ∃ b, b = w.heap.size := ⟨_, rfl⟩
  obtain ⟨br, hbr⟩ : ∃ b, b = bf + 1 := ⟨_, rfl⟩
  obtain ⟨bc, hbc⟩ : ∃ b, b = br + 1 := ⟨_, rfl⟩
  have hst0 : Stay (fun _ => False) w W0 := by rw [hW0]; exact (((Stay.refl _ _).alloc _).alloc _).alloc _
  have HBC := hide' (show BoxC W0 bc c by rw [hW0]; exact BoxC.new c (by rw [hbc, hbr, hbf]; simp))
  have HBR := hide' (show Box W0 br r by rw [hW0]; exact (Box.new r (by rw [hbr, hbf]; simp)).alloc _)
  have HBF : Hid (W0.cell? ⟨bf, 0, none⟩ = some (.pointer (some ⟨fq.b, 0, none⟩))) := hide' (by
    rw [hW0, hbf]
    exact keep_cell (((Stay.refl _ _).alloc _).alloc _) (Boxed.new w 26 (.pointer (some ⟨fq.b, 0, none⟩))).cell)
  have HST0 := hide' hst0
  have HP0 := hide' (H.keep hst0)
  have HP1 := hide' H.fa
  have HNW : Hid (w.heap.size ≤ bf ∧ w.heap.size ≤ br ∧ w.heap.size ≤ bc) := hide' (by omega)
  obtain ⟨M, hM⟩ : ∃ M, M = drawn L id fun p => fillA L p r c := ⟨_, rfl⟩
  obtain ⟨E, hE⟩ : ∃ E, E = errW L id := ⟨_, rfl⟩
  rw [← hM, ← hE]
  have HM := hide' hM
  have HE := hide' hE
  have hcf := HBF.out
  clear hst0 H hM hE
  refine callsIn_wide.1 (callsIn_of_wp_marks (n := 3) Try.func16 rfl trivial ((wpIn_wide (n := 3)).2 ?_) rfl)
  simp only [Try.ntmps16, List.size_toArray, List.length_cons, List.length_nil, Nat.reduceAdd, Nat.reduceSub, Array.replicate_succ, Array.replicate_zero, List.push_toArray, List.append_toArray, List.nil_append, List.cons_append]
  go_upto_region 1 with fail
  rw [← hW0, ← hbf]
  rw [← hbr, ← hbc]
  clear hW0 hbf hbr hbc
  cases hp : L[plN L id]? with
  | none =>
    have e2 : E = 5 := by rw [HE.out]; unfold errW; rw [hp]
    have HM0 : Hid (M = []) := hide' (by rw [HM.out]; unfold drawn; rw [hp])
    have HWD := hide' (look40_no fq.b sq sw sh m L id W0 HP0.out.sa hp)
    subst e2
    clear hp HM HE
    go_wp2_with fail
    refine HWD.out.mono ?_
    rintro _ w1 ⟨rfl, hs⟩
    have hst := hs.alloc (.cells #[.pointer none, .int .i64 0, .int .i64 0, .int .i64 0, .int .i64 0, .int .i64 0, .int .i64 0, .bool false, .int .i64 0, .int .i64 0, .int .i64 0, .int .i64 0] 92)
    have HFN : Hid (DrewS fq f N M 5 w (.returned (.tuple #[.int .i64 0, .int .i64 5])) (w1.alloc (.cells #[.pointer none, .int .i64 0, .int .i64 0, .int .i64 0, .int .i64 0, .int .i64 0, .int .i64 0, .bool false, .int .i64 0, .int .i64 0, .int .i64 0, .int .i64 0] 92))) := hide' ⟨fq.v, by rw [HM0.out]; rfl, by rw [HM0.out, List.append_nil]; exact HP0.out.fa.keep hst, (HST0.out.trans hst).mono (fun _ _ h => h.elim), fun j hj => .inl hj⟩
    clear hs hst HWD
    go_wp2
    refine marks_ret2 rfl ?_
    exact HFN.out
  | some p =>
    have e2 : E = 0 := by rw [HE.out]; unfold errW; rw [hp]
    have HM1 : Hid (M = drawM (fillQ p c) (ownS L p r)) := hide' (by rw [HM.out, drawM_fill]; unfold drawn; rw [hp])
    have hpm : p ∈ L := List.mem_of_getElem? hp
    have HOK : Hid (OkW sw sh p) := hide' (HP0.out.ok p hpm)
    have HOP : Hid (OkP p) := hide' (HP0.out.okP p hpm)
    have HWD := hide' (look40 fq f N sq sw sh m L id p W0 HP0.out hp)
    subst e2
    clear hp HM HE hpm
    go_wp2_with fail
    refine HWD.out.mono ?_
    rintro _ w1 ⟨rfl, hs⟩
    obtain ⟨w3, hw3⟩ : ∃ W, W = (w1.alloc (.cells #[.pointer (some ⟨sq.b, 0, none⟩), .int .i64 p.id, .int .i64 p.env, .int .i64 p.x, .int .i64 p.y, .int .i64 p.w, .int .i64 p.h, .bool p.hid, .int .i64 p.x, .int .i64 p.y, .int .i64 p.w, .int .i64 p.h] 92)).alloc (.cells #[.int .i64 0] 3) := ⟨_, rfl⟩
    obtain ⟨bw, hbw⟩ : ∃ b, b = w1.heap.size := ⟨_, rfl⟩
    obtain ⟨nb, hnb⟩ : ∃ b, b = bw + 1 := ⟨_, rfl⟩
    have hst3 : Stay (fun _ => False) w1 w3 := by rw [hw3]; exact ((Stay.refl _ _).alloc _).alloc _
    have HBV := hide' (show VBox w3 bw ⟨.pointer (some ⟨sq.b, 0, none⟩), p.id, p.env, p.x, p.y, p.w, p.h, p.hid, p.x, p.y, p.w, p.h⟩ by rw [hw3]; exact (VBox.new ⟨.pointer (some ⟨sq.b, 0, none⟩), p.id, p.env, p.x, p.y, p.w, p.h, p.hid, p.x, p.y, p.w, p.h⟩ hbw.symm).alloc _)
    have HNB : Hid (w3.cell? ⟨nb, 0, none⟩ = some (.int .i64 0) ∧ w3.frozen? ⟨nb, 0, none⟩ = false) := hide' (by
      have h := Boxed.new (w1.alloc (.cells #[.pointer (some ⟨sq.b, 0, none⟩), .int .i64 p.id, .int .i64 p.env, .int .i64 p.x, .int .i64 p.y, .int .i64 p.w, .int .i64 p.h, .bool p.hid, .int .i64 p.x, .int .i64 p.y, .int .i64 p.w, .int .i64 p.h] 92)) 3 (.int .i64 0)
      rw [World.size_alloc, ← hbw, ← hnb, ← hw3] at h
      exact ⟨h.cell, h.frozen⟩)
    have HS3 := hide' (hs.trans hst3)
    have HN3 : Hid (W0.heap.size ≤ bw ∧ W0.heap.size ≤ nb) := hide' (by have := hs.size; omega)
    have HSC := hide' (fun W => onScreen42 (.pointer (some ⟨sq.b, 0, none⟩)) p r W HOP.out)
    have HOW := hide' (fun W => owned41 (.pointer (some ⟨sq.b, 0, none⟩)) p (scrR p r) _ rfl W)
    have HRB := hide' (HBR.out.keep HS3.out)
    have HNE : Hid (bw ≠ nb) := hide' (by omega)
    have HNC : Hid (¬ fq.own bc ∧ ¬ fq.own bf) := hide' ⟨fun e => by have := HP1.out.lt bc e; have := HNW.out; omega, fun e => by have := HP1.out.lt bf e; have := HNW.out; omega⟩
    have HLN : Hid (nb < w3.heap.size) := hide' (World.block_lt_of_cell? _ _ HNB.out.1)
    have hS : (fun w' => Stay (fun _ => False) w3 w') w3.drew := (Stay.refl _ _).drew
    clear hs hst3 HWD hcf
    go_upto_region 5 with fail
    rw [← hw3, ← hbw]
    rw [← hnb]
    clear hw3 hbw hnb
    refine wp_region_mixP (fun w' => Stay (fun _ => False) w3 w') [(0, true), (1, true), (2, true), (3, false), (4, false)] (by kernel_rfl) (by kernel_rfl) hS ?_
    refine mix_begin (fun K0 hK0 => ?_)
    refine mix_take hK0 (some 27) (.load 92 (.tmp 12)) 92 _ (by kernel_rfl) (by kernel_rfl) (fun w' hS' => by (obtain ⟨n0, n1, n2, n3, n4, n5, n6, n7, n8, n9, na, nb', _⟩ := HBV.out.keep hS'; simp only at n0 n1 n2 n3 n4 n5 n6 n7 n8 n9 na nb'; obtain ⟨r0, r1, r2, r3, _⟩ := HRB.out.keep hS'; simp only [opr]; go_simp; try with_reducible rfl)) (fun K1 hK1 => ?_)
    clear hK0 K0
    simp only [Act.put, List.setIfInBounds_toArray, List.set_cons_zero, List.set_cons_succ]
    refine mix_take hK1 (some 28) (.load 92 (.tmp 12)) 92 _ (by kernel_rfl) (by kernel_rfl) (fun w' hS' => by (obtain ⟨n0, n1, n2, n3, n4, n5, n6, n7, n8, n9, na, nb', _⟩ := HBV.out.keep hS'; simp only at n0 n1 n2 n3 n4 n5 n6 n7 n8 n9 na nb'; obtain ⟨r0, r1, r2, r3, _⟩ := HRB.out.keep hS'; simp only [opr]; go_simp; try with_reducible rfl)) (fun K2 hK2 => ?_)
    clear hK1 K1
    simp only [Act.put, List.setIfInBounds_toArray, List.set_cons_zero, List.set_cons_succ]
    refine mix_take hK2 (some 29) (.load 41 (.tmp 8)) 41 _ (by kernel_rfl) (by kernel_rfl) (fun w' hS' => by (obtain ⟨n0, n1, n2, n3, n4, n5, n6, n7, n8, n9, na, nb', _⟩ := HBV.out.keep hS'; simp only at n0 n1 n2 n3 n4 n5 n6 n7 n8 n9 na nb'; obtain ⟨r0, r1, r2, r3, _⟩ := HRB.out.keep hS'; simp only [opr]; go_simp; try with_reducible rfl)) (fun K3 hK3 => ?_)
    clear hK2 K2
    simp only [Act.put, List.setIfInBounds_toArray, List.set_cons_zero, List.set_cons_succ]
    refine mix_call hK3 (some 30) 42 #[.tmp 28, .tmp 29] #[92, 41] 41 _ (by kernel_rfl) (by kernel_rfl) (enters Try.func42 (by kernel_rfl) (by kernel_rfl)) (by go_simp; try with_reducible rfl) (fun K4 hK4 => ?_)
    clear hK3 K3
    refine ((HSC.out _)).mono ?_
    rintro e wm1 ⟨rfl, hs1⟩
    have hS1 : _ := (hS.trans hs1)
    refine ⟨_, rfl, hS1, ?_⟩
    clear hs1
    simp only [Act.put, List.setIfInBounds_toArray, List.set_cons_zero, List.set_cons_succ]
    refine mix_call hK4 (some 31) 41 #[.tmp 27, .tmp 30] #[92, 41] 96 _ (by kernel_rfl) (by kernel_rfl) (enters Try.func41 (by kernel_rfl) (by kernel_rfl)) (by go_simp; try with_reducible rfl) (fun K5 hK5 => ?_)
    clear hK4 K4
    refine ((HOW.out _)).mono ?_
    rintro _ w4 ⟨br2, bv2, rfl, hs4, hb1, hb2, h2, h3⟩
    have hS2 : _ := (hS1.trans hs4)
    refine ⟨_, rfl, hS2, ?_⟩
    have hs2 := True.intro
    clear hs2
    simp only [Act.put, List.setIfInBounds_toArray, List.set_cons_zero, List.set_cons_succ]
    refine hK5 _ _ (mixP_nil ?_)
    clear hK5 K5
    have hs4 := hS2
    have hS1s := hide' hS1.size
    clear hS1 hS hS2
    have HT : Hid (∀ j, fq.own j → j < W0.heap.size ∧ ¬ sq.own j) := hide' (fun j hj => ⟨HP0.out.fa.lt j hj, HP0.out.dj j hj⟩)
    have HS4 := hide' (HS3.out.trans hs4)
    have HZ2 : Hid (w3.heap.size ≤ br2 ∧ w3.heap.size ≤ bv2) := hide' (by have := hS1s.out; omega)
    have HB4 := hide' (show BoxC w4 bc c ∧ w4.cell? ⟨bf, 0, none⟩ = some (.pointer (some ⟨fq.b, 0, none⟩)) from ⟨HBC.out.keep HS4.out, keep_cell HS4.out HBF.out⟩)
    have HNO : Hid (¬ fq.own nb ∧ ¬ fq.own bc ∧ ¬ fq.own bf) := hide' ⟨fun e => by have := (HT.out nb e).1; have := HN3.out; omega, fun e => HNC.out.1 e, fun e => HNC.out.2 e⟩
    have HLT : Hid (nb < w4.heap.size ∧ bc < w4.heap.size ∧ bf < w4.heap.size ∧ (∀ j, fq.own j → j < w4.heap.size) ∧ bc ≠ nb ∧ bf ≠ nb) := hide' ⟨World.block_lt_of_cell? _ _ (keep_cell hs4 HNB.out.1), World.block_lt_of_cell? _ _ HB4.out.1.c0, World.block_lt_of_cell? _ _ HB4.out.2, fun j hj => by have := (HT.out j hj).1; have := HS4.out.size; omega, by have h1 := World.block_lt_of_cell? _ _ HBC.out.c0; have := HN3.out; simp only at h1; omega, by have h1 := World.block_lt_of_cell? _ _ HBF.out; have := HN3.out; simp only at h1; omega⟩
    have HSEQ := hide' (owned66 (fun j => fq.own j ∨ j = nb) (Kp (fun j => fq.own j ∨ j = nb) w4.heap.size) 2 262145 br2 bv2 r p sq sw sh m L w4 hb1 hb2 (HP0.out.sa.keep HS4.out) (fun e => by
        rcases e with e | e
        · have := (HT.out _ e).1; have := HS3.out.size; have := HZ2.out; omega
        · have := HLN.out; have := HZ2.out; omega) (fun e => by
        rcases e with e | e
        · have := (HT.out _ e).1; have := HS3.out.size; have := HZ2.out; omega
        · have := HLN.out; have := HZ2.out; omega) (fun j hj e => by
        rcases e with e | e
        · exact (HT.out j e).2 hj
        · have := HP0.out.sa.lt j hj; have := HN3.out; omega) HP0.out.okP HOP.out (fun _ => Nat.le_refl _) (fun _ _ h => h.mono (fun _ _ t => t.1)))
    have HBI := hide' (BI.begin (nb := nb) (HP0.out.fa.keep HS4.out) (keep_cell hs4 HNB.out.1) ((hs4.frozen (p := ⟨nb, 0, none⟩) (World.block_lt_of_cell? _ _ HNB.out.1) (fun h => h)).trans HNB.out.2))
    have HSW := hide' (HST0.out.trans HS4.out)
    clear hs4 hb1 hb2 h2 h3 HOW HSC hS1s
    go_wp2
    refine (wpIn_wide (n := 3)).1 ?_
    refine wpIn_rangeFunc_all (n := 3) (gf := 66) rfl (enters Try.func66 (by kernel_rfl) (by kernel_rfl)) HSEQ.out (fun h k => h.trans k) (Kp.putObj w4 (Nat.le_refl _)) (fun _ => rfl)
      (fun pre W => ∃ v, BI fq nb w4 (applyW fq.G.w fq.G.h f (drawM (fillQ p c) pre)) (N ++ drawM (fillQ p c) pre) pre.length v W)
      (fun s A B row hs hg hr => by obtain ⟨v, hb⟩ := hs; exact ⟨v, hb.grown hg hr⟩) ⟨fq.v, HBI.out⟩ ?a1 ?assign ?body ?done
    case assign =>
      intro l x W K hK
      unfold encV
      gi_wp2
      exact hK
    case body =>
      rintro l pre ⟨⟨j, k⟩, hP⟩ W ⟨v, hb⟩ hlen
      obtain ⟨c0, c1, c2, c3, _⟩ := HB4.out.1.stay hb.st (fun e => by rcases e with e | e; exact HNO.out.2.1 e; exact HLT.out.2.2.2.2.1 e)
      have hcf : W.cell? ⟨bf, 0, none⟩ = some (.pointer (some ⟨fq.b, 0, none⟩)) := (hb.st.cell (p := ⟨bf, 0, none⟩) HLT.out.2.2.1 (fun e => by rcases e with e | e; exact HNO.out.2.2 e; exact HLT.out.2.2.2.2.2 e)).trans HB4.out.2
      obtain ⟨hk1, hj1, _⟩ := fill_at hP
      have HPL : Hid (pre.length < 262145) := hide' hlen
      have HDM : Hid (fq.G.w = sw ∧ fq.G.h = sh ∧ sw ≤ 512 ∧ sh ≤ 512 ∧ N.length ≤ 10000) := hide' ⟨HP0.out.ew, HP0.out.eh, HP0.out.bd.1, HP0.out.bd.2, HP0.out.nl⟩
      have hok : 0 ≤ p.x ∧ 0 ≤ p.y ∧ p.x + k < sw ∧ p.y + j < sh ∧ sw ≤ 512 ∧ sh ≤ 512 := by
        have h1 := HOK.out
        have h2 := HDM.out
        unfold OkW at h1
        omega
      have HPT := hide' (put_bi hb (p.x + k) (p.y + j) c (by have := HDM.out; omega) (by have := HDM.out; omega) (by have h1 := HDM.out; have h2 := HPL.out; rw [List.length_append, drawM_len]; omega))
      have HBB := hide' hb
      have hwk : IntKind.i64.wrap ((pre.length : Int) + 1) = (pre.length : Int) + 1 := by rw [IntKind.wrap_i64]; omega
      clear hb hk1 hj1 hlen
      simp only
      gi_wp2
      refine ⟨trivial, ?_⟩
      refine (CallsIn.inRound l (callsIn_wide.2 HPT.out)).mono ?_
      rintro e w5 ⟨v2, rfl, ha, hm⟩
      obtain ⟨hbi, hc1, hf1, hkf, hkp⟩ := HBB.out.put HLT.out.2.2.2.1 HLT.out.1 HNO.out.1 _ ha hm
      have HBI2 := hide' hbi
      have HKF := hide' hkf
      have HKP := hide' hkp
      clear hbi hkf hkp ha hm
      gi_wp2
      refine ⟨HKF.out, HKP.out, v2, ?_⟩
      rw [drawM_snoc, List.length_append, ← List.append_assoc]
      have e : applyW fq.G.w fq.G.h f (drawM (fillQ p c) pre ++ [fillQ p c j k]) = setF fq.G.w fq.G.h (applyW fq.G.w fq.G.h f (drawM (fillQ p c) pre)) (p.x + k) (p.y + j) c := applyW_snoc _ _ _ _ _ _ _
      rw [e]
      exact HBI2.out
    case done =>
      rintro D xs W hD rfl ⟨v, hb⟩ hK
      have hc := hb.nc
      have HFN := hide' (BI.ends (er := 0) (hb.grown (grownBy_putObj' W D (.deferred none)) (fun r e => by cases e; exact ⟨hD, _, hK, rfl⟩)) HSW.out (by have := HN3.out; have := HST0.out.size; omega) rfl (by rw [drawM_len]))
      rw [← HM1.out] at HFN
      clear hb
      go_wp2
      refine marks_ret2_D hK rfl ?_
      exact HFN.out

end Go.Proofs.Yticccknocjnkpaa
