/-
  Whatever is drawn: walked. No conditions.
-/
import Derived.Test.YticccknocjnkpaaZ6
namespace Go.Proofs.Yticccknocjnkpaa
open Go.RowKit

/-- While drawings are done: frame, stack, the document's windows and grid. -/
structure PgIn (w0 wr : World) (fb sb : Nat) (fq : Fm) (f : Nat → Cl) (N : List Wr) (v : Value) (m : Int) (L : List Wn) (xa : Option Addr) (xc A : Nat) (q : Rf) (g : Nat → Cl) : Prop where
  tw : TwIn w0 wr fb sb 10 10 fq f N v m L
  x : Ws wr xa L.length xc L
  xn : ∀ k, xa.map Addr.block = some k → ¬ fq.own k ∧ k ≠ A
  box : BoxG wr A q.g3
  ref : RefAt wr q g
  ew : q.w = 10
  eh : q.h = 10
  an : w0.heap.size ≤ A ∧ ¬ fq.own A ∧ ¬ (⟨sb, v⟩ : Sm).own A
  qn : ¬ fq.own q.b ∧ q.b ≠ A

variable {w0 wr w1 : World} {fb sb : Nat} {fq fq2 : Fm} {f f2 g g2 : Nat → Cl} {N N2 : List Wr} {v : Value} {m : Int} {L : List Wn} {xa : Option Addr} {xc A : Nat} {q q2 : Rf}

theorem PgIn.keep (H : PgIn w0 wr fb sb fq f N v m L xa xc A q g) (hs : Stay (fun _ => False) wr w1) : PgIn w0 w1 fb sb fq f N v m L xa xc A q g :=
  ⟨H.tw.keep hs, H.x.keep hs, H.xn, H.box.keep hs, H.ref.keep hs, H.ew, H.eh, H.an, H.qn⟩

/-- The document has another grid. -/
theorem PgIn.grid (H : PgIn w0 wr fb sb fq f N v m L xa xc A q g) (hr : RefAt wr q2 g2) (hw : q2.w = 10) (hh : q2.h = 10) (hn : ¬ fq.own q2.b ∧ q2.b ≠ A) {w4 : World} (e : w4 = wr.setCells A 0 (#[.int .i64 q2.g3.w, .int .i64 q2.g3.h, q2.g3.l] : Array Value).toList) : PgIn w0 w4 fb sb fq f N v m L xa xc A q2 g2 := by
  have hs : Stay (fun j => j = A) wr w4 := by rw [e]; exact (Stay.refl (fun j => j = A) wr).setCells A _ 0 rfl
  refine ⟨⟨H.tw.fi.other hs (fun j e => by rw [e]; exact ⟨H.an.1, H.an.2.1⟩), H.tw.sa.stay hs (fun j hj e => by rw [e] at hj; exact H.an.2.2 hj), H.tw.so⟩, H.x.stay hs (fun k hk e => (H.xn k hk).2 e), H.xn, ?_, hr.stay hs hn.2, hw, hh, H.an, hn⟩
  rw [e]
  exact H.box.put q2.g3

/-- The frame has turned. -/
theorem PgIn.frame (H : PgIn w0 wr fb sb fq f N v m L xa xc A q g) (ht : TwIn w0 w1 fb sb 10 10 fq2 f2 N2 v m L) (hs : Stay fq.own wr w1) (hn : ∀ j, fq2.own j → fq.own j ∨ wr.heap.size ≤ j) : PgIn w0 w1 fb sb fq2 f2 N2 v m L xa xc A q g := by
  have key : ∀ k, k < wr.heap.size → ¬ fq.own k → ¬ fq2.own k := fun k hk h e => by
    rcases hn k e with h1 | h1
    · exact h h1
    · omega
  have hA : A < wr.heap.size := World.block_lt_of_cell? _ _ H.box.1
  exact ⟨ht, H.x.stay hs (fun k hk e => (H.xn k hk).1 e), fun k hk => ⟨key k (H.x.lt k hk) (H.xn k hk).1, (H.xn k hk).2⟩, H.box.stay hs H.an.2.1, H.ref.stay hs H.qn.1, H.ew, H.eh, ⟨H.an.1, key A hA H.an.2.1, H.an.2.2⟩, key q.b H.ref.lt H.qn.1, H.qn.2⟩

theorem TwIn.drew2 {w0 w w1 : World} {fb sb a h : Nat} {fq : Fm} {f : Nat → Cl} {N M : List Wr} {v : Value} {m : Int} {L : List Wn} {er : Int} {e : Ending} (H : TwIn w0 w fb sb a h fq f N v m L) (hd : DrewS fq f N M er w e w1) : ∃ fq2, e = .returned (.tuple #[.int .i64 (M.length : Nat), .int .i64 er]) ∧ TwIn w0 w1 fb sb a h fq2 (applyW a h f M) (N ++ M) v m L ∧ Stay fq.own w w1 ∧ (∀ j, fq2.own j → fq.own j ∨ w.heap.size ≤ j) := by
  obtain ⟨vn, rfl, hf, hm⟩ := hd
  rw [H.fi.ew, H.fi.eh] at hf
  exact ⟨_, rfl, H.frame hf hm H.fi.eb H.fi.ew H.fi.eh, hm.1, hm.2⟩

theorem dBoxAt_stay {T : Nat → Prop} {w w1 : World} {g o : Nat} {D : Dr} (h : DBoxAt w g o D) (hs : Stay T w w1) (hn : ¬ T g) : DBoxAt w1 g o D := by
  have hb : g < w.heap.size := World.block_lt_of_cell? _ _ h.c0
  have c' : ∀ o, w1.cell? ⟨g, o, none⟩ = w.cell? ⟨g, o, none⟩ := fun o => hs.cell (p := ⟨g, o, none⟩) hb hn
  exact ⟨(c' _).trans h.c0, (c' _).trans h.c1, (c' _).trans h.c2, (c' _).trans h.c3, (c' _).trans h.c4, (c' _).trans h.c5, (c' _).trans h.c6, (c' _).trans h.c7, (c' _).trans h.c8⟩

/-- A block beside all has turned. -/
theorem PgIn.aside {B : Nat} (H : PgIn w0 wr fb sb fq f N v m L xa xc A q g) (hs : Stay (fun j => j = B) wr w1) (hq : ¬ q.b = B) (hn : ¬ fq.own B ∧ ¬ (⟨sb, v⟩ : Sm).own B ∧ w0.heap.size ≤ B ∧ A ≠ B ∧ (∀ k, xa.map Addr.block = some k → k ≠ B)) : PgIn w0 w1 fb sb fq f N v m L xa xc A q g :=
  ⟨⟨H.tw.fi.other hs (fun j e => by rw [e]; exact ⟨hn.2.2.1, hn.1⟩), H.tw.sa.stay hs (fun j hj e => by rw [e] at hj; exact hn.2.1 hj), H.tw.so⟩, H.x.stay hs (fun k hk e => hn.2.2.2.2 k hk e), H.xn, H.box.stay hs hn.2.2.2.1, H.ref.stay hs hq, H.ew, H.eh, H.an, H.qn⟩

set_option maxRecDepth 100000 in
set_option maxHeartbeats 8000000 in
theorem drawPlays3 (D : DrawC) (aa : Option Addr) (n acp : Nat) (ac : Nat → Ac) (da : Option Addr) (k dcp : Nat) (dr : Nat → Dr) (ll : Nat → Ll) (lf : Nat → Nat → Cl) (w : World) (hA : AIn w aa n ac) (hD : DRd w da k dr) (hO : DrOk w k dr ll lf) (hn : n ≤ 9223372036854775807) (hk : k ≤ 9223372036854775807) (hb : ∀ i, i < k → (ll i).n ≤ 9223372036854775807) :
    Calls Try.prog 3 #[.slice aa n acp, .slice da k dcp] w (LawTrue w) := by
  have HGR := hide' (great6 aa n acp da k dcp dr ll w hD hO.l hn hk hb)
  have HA := hide' hA
  have HD := hide' hD
  have HO := hide' hO
  clear hA hD hO hn hk hb
  go_enter Try.func3, Try.ntmps3
  go_wp2_with fail
  refine HGR.out.mono ?_
  rintro _ w1 ⟨b, rfl, hs, hb⟩
  have HS1 := hide' hs
  have HB := hide' hb
  clear hs hb HGR
  cases b
  · obtain ⟨hn, hk, hl20⟩ := HB.out rfl
    have HL20 := hide' hl20
    have HN := hide' (new_in (w0 := w) (a := 10) (h := 10) HS1.out (by decide) (by decide) (by decide) (by decide))
    clear HB hl20
    go_wp2_with fail
    refine HN.out.mono ?_
    rintro e w2 ⟨q0, rfl, hi, _⟩
    have HI := hide' hi
    have HM := hide' (news9 10 10 w2 (by decide) (by decide))
    obtain ⟨fb, hfb⟩ : ∃ b, b = q0.b := ⟨_, rfl⟩
    rw [← hfb]
    have HFB := hide' hfb
    clear hi HN hfb HS1
    go_wp2_with fail
    refine HM.out.mono ?_
    rintro e w3 ⟨sq, rfl, hs2, hsa, hsn⟩
    obtain ⟨sb, sv⟩ := sq
    have HT : Hid (TwIn w w3 fb sb 10 10 q0 (fun _ => Cl.zero) [] sv 0 []) := hide' (by rw [HFB.out]; exact TwIn.begin HI.out hsa hs2 hsn)
    have HPL := hide' (play10 ⟨sb, sv⟩ 10 10 aa n acp ac w3 HT.out.sa (by decide) (by decide) hn (HA.out.ard HT.out.fi.stay (fun j hj => (HT.out.so j hj).1)))
    have HOK := hide' (playK_ok 10 10 ac n (by omega))
    obtain ⟨LM, hLM⟩ : ∃ s, s = playK 10 10 ac n := ⟨_, rfl⟩
    rw [← hLM] at HPL HOK
    obtain ⟨L, m⟩ := LM
    clear hs2 hsa hsn HM HI HFB hLM
    simp only at HPL
    go_wp2_with fail
    refine HPL.out.mono ?_
    rintro e w4 ⟨v, xa, xc, rfl, hP⟩
    simp only at hP
    have HT4 := hide' (HT.out.stack hP.s ⟨hP.stay, hP.own⟩)
    have HOW : Hid (∀ p ∈ L, OkW 10 10 p) := hide' HOK.out.1
    have HOP : Hid (∀ p ∈ L, OkP p) := hide' (fun p hp => (HOK.out.1 p hp).ok (by decide) (by decide))
    have HLN : Hid (L.length ≤ 20) := hide' (by have h1 := HOK.out.2.2.1; have h2 := HOK.out.2.2.2; simp only at h1 h2; omega)
    have HXA := hide' (show Ws w4 xa L.length xc L ∧ (∀ kk, xa.map Addr.block = some kk → w3.heap.size ≤ kk) from ⟨hP.x, fun kk hkk => (hP.xn kk hkk).1⟩)
    have HXF := hide' (show ∀ kk, xa.map Addr.block = some kk → ¬ q0.own kk from fun kk hkk e => by have := HT.out.fi.at'.lt kk e; have := (hP.xn kk hkk).1; omega)
    have HRN := hide' (refNew11 10 10 w4 (by decide) (by decide) (by decide) (by decide))
    clear hP HPL HOK HT HA
    have hkz : (k : Int) ≤ 20 := by omega
    go_wp2_with fail
    refine HRN.out.mono ?_
    rintro e w5 ⟨q1, rfl, hs5, hr5, hw5, hh5, hb5⟩
    obtain ⟨w6, hw6⟩ : ∃ W, W = w5.alloc (.cells #[.int .i64 q1.g3.w, .int .i64 q1.g3.h, .slice (some ⟨q1.b, 0, none⟩) q1.n q1.cap] 35) := ⟨_, rfl⟩
    obtain ⟨A9, hA9⟩ : ∃ b, b = w5.heap.size := ⟨_, rfl⟩
    have hst6 : Stay (fun _ => False) w5 w6 := by rw [hw6]; exact (Stay.refl _ _).alloc _
    have hq1 := hr5.lt
    have HP6 : Hid (PgIn w w6 fb sb q0 (fun _ => Cl.zero) [] v m L xa xc A9 q1 (fun _ => Cl.zero)) := hide' ⟨HT4.out.keep (hs5.trans hst6), HXA.out.1.keep (hs5.trans hst6), fun kk hkk => ⟨HXF.out kk hkk, by have := HXA.out.1.lt kk hkk; have := hs5.size; omega⟩, by rw [hw6]; exact BoxG.new q1.g3 hA9.symm, hr5.keep hst6, hw5, hh5, ⟨by have := (HT4.out.keep hs5).fi.stay.size; omega, (HT4.out.keep hs5).fi.at'.fresh (by omega), fun e => by have := (HT4.out.keep hs5).sa.lt _ e; omega⟩, HT4.out.fi.at'.fresh hb5, by omega⟩
    have HX0 : Hid (∃ fq f N q9, PgIn w w6 fb sb fq f N v m L xa xc A9 q9 f ∧ N.length ≤ 100 * 0) := hide' ⟨_, _, _, _, HP6.out, Nat.zero_le _⟩
    have hgl : q1.g3.l = .slice (some ⟨q1.b, 0, none⟩) q1.n q1.cap := rfl
    clear hs5 hr5 hw5 hh5 hb5 hst6 hq1 HP6 HRN HT4
    go_upto_region 10 with fail
    rw [← hw6, ← hA9]
    clear hw6 hA9 hgl
    go_wp2
    go_loopg [10] k (fun gg v10 wr => ∃ i : Nat, i ≤ k ∧ gg = k - i ∧ v10 = .int .i64 (i : Int) ∧ Hid (∃ fq f N q9, PgIn w wr fb sb fq f N v m L xa xc A9 q9 f ∧ N.length ≤ 100 * i))
    case atStart => exact ⟨0, Nat.zero_le _, rfl, rfl, HX0⟩
    case round =>
      clear HX0
      obtain ⟨i, hik, rfl, rfl, HX⟩ := hrel
      obtain ⟨fq, f, N, q9, hP, hnl⟩ := HX.out
      by_cases hlt : i < k
      · have hz1 : (i : Int) < (k : Nat) := by omega
        obtain ⟨A, hA⟩ : ∃ A, A = dr i := ⟨_, rfl⟩
        obtain ⟨l, hl⟩ : ∃ l, l = lf i := ⟨_, rfl⟩
        obtain ⟨Q, hQ⟩ : ∃ Q, Q = ll i := ⟨_, rfl⟩
        have hnum := HO.out.num i hlt
        have hll := HO.out.l i hlt
        have hrd := HO.out.rd i hlt
        have hlt2 := HO.out.lt i hlt
        have hcc := HO.out.nc i hlt
        have h20 := HL20.out i hlt
        obtain ⟨ga, go, e, hb⟩ := HD.out i hlt
        subst e
        rw [← hA] at hnum hll hb
        rw [← hl] at hrd
        rw [← hQ] at hll hrd hlt2 h20 hcc
        obtain ⟨d, id, x, y, rx, ry, rw', rh, lv⟩ := A
        obtain ⟨la, nn, lc⟩ := Q
        simp only at hnum hll hrd hlt2 h20 hcc
        subst hll
        have HNL0 := hide' hnl
        have HNL : Hid (N.length ≤ 2000) := hide' (by omega)
        have HDB := hide' (fun W (hs : Stay (fun _ => False) w W) => hb.keep hs)
        have HCR := hide' (fun W (hs : Stay (fun _ => False) w W) => hrd.keep hs)
        have HLT := hide' hlt2
        have HNN := hide' (show nn ≤ 100 ∧ nn ≤ lc by omega)
        have HXY := hide' hnum
        obtain ⟨M, hM⟩ : ∃ M, M = drawn L id fun p => drawW L 10 10 f d x y ⟨rx, ry, rw', rh⟩ l nn p := ⟨_, rfl⟩
        have HMM := hide' hM
        have HML : Hid (M.length ≤ 100) := hide' (by rw [hM]; exact drawn_len HOW.out _ _ _ _ _ _ _ _ _ _ h20)
        have HWT : Hid (∀ W, RefAt W q9 f → Ws W xa L.length xc L → Stay (fun _ => False) w W → Calls Try.prog 12 #[.agg #[.int .i64 q9.g3.w, .int .i64 q9.g3.h, q9.g3.l], .slice xa L.length xc, .agg #[.int .i64 d, .int .i64 id, .int .i64 x, .int .i64 y, .int .i64 rx, .int .i64 ry, .int .i64 rw', .int .i64 rh, .slice la nn lc]] W (WantO q9 f M (errW L id) W)) := hide' (fun W hr hx hs => by
          have h := want12 q9 f xa L.length xc L d id x y rx ry rw' rh la nn lc l W hr hx.rds rfl (by have := HLN.out; omega) HOP.out (hrd.keep hs) (by omega) hnum.1 hnum.2.1
          rw [hP.ew, hP.eh, ← hM] at h
          exact h)
        have HPG0 := hide' hP
        clear hA hl hQ hnum hrd hlt2 h20 hcc hb hM HX hP hnl
        go_upto_region 13 with fail
        refine any_begin (fun w' => BoxG w' A9 q9.g3 ∧ DBoxAt w' ga (go + i * 9) ⟨d, id, x, y, rx, ry, rw', rh, .slice la nn lc⟩) (by kernel_rfl) (fun K0 hK0 => ?_)
        obtain ⟨wz, hwz⟩ : ∃ W, W = wr.drew := ⟨_, rfl⟩
        have hsz : Stay (fun _ => False) wr wz := by rw [hwz]; exact (Stay.refl _ _).drew
        have HPG := hide' (HPG0.out.keep hsz)
        have HSZ : Hid ((fun w' => BoxG w' A9 q9.g3 ∧ DBoxAt w' ga (go + i * 9) ⟨d, id, x, y, rx, ry, rw', rh, .slice la nn lc⟩) wz) := hide' ⟨HPG.out.box, HDB.out wz HPG.out.tw.fi.stay⟩
        rw [← hwz]
        clear hwz hsz HPG0
        refine any_take (i := 0) hK0 (some 48) (.load 35 (.tmp 9)) 35 _ (by kernel_rfl) (fun _ d _ _ _ h => by cases d <;> exact h) (by kernel_rfl) (by kernel_rfl) (fun w' hS' => by exact run_load_BoxG rfl rfl hS'.1) HSZ.out (fun K1 hK1 => ?_)
        clear hK0 K0
        try simp only [Act.put, List.setIfInBounds_toArray, List.set_cons_zero, List.set_cons_succ]
        refine any_take (i := 1) hK1 (some 49) (.move (.tmp 7)) 30 _ (by kernel_rfl) (fun _ d _ _ _ h => by cases d <;> exact h) (by kernel_rfl) (by kernel_rfl) (fun w' hS' => by simp only [opr]; go_simp; try with_reducible rfl) HSZ.out (fun K2 hK2 => ?_)
        clear hK1 K1
        try simp only [Act.put, List.setIfInBounds_toArray, List.set_cons_zero, List.set_cons_succ]
        refine any_take (i := 2) hK2 (some 50) (.move (.tmp 1)) 23 _ (by kernel_rfl) (fun _ d _ _ _ h => by cases d <;> exact h) (by kernel_rfl) (by kernel_rfl) (fun w' hS' => by simp only [opr]; go_simp; try with_reducible rfl) HSZ.out (fun K3 hK3 => ?_)
        clear hK2 K2
        try simp only [Act.put, List.setIfInBounds_toArray, List.set_cons_zero, List.set_cons_succ]
        refine any_take (i := 3) hK3 (some 51) (.move (.tmp 10)) 3 _ (by kernel_rfl) (fun _ d _ _ _ h => by cases d <;> exact h) (by kernel_rfl) (by kernel_rfl) (fun w' hS' => by simp only [opr]; go_simp; try with_reducible rfl) HSZ.out (fun K4 hK4 => ?_)
        clear hK3 K3
        try simp only [Act.put, List.setIfInBounds_toArray, List.set_cons_zero, List.set_cons_succ]
        refine any_take (i := 4) hK4 (some 52) (.indexAddr 23 (.tmp 50) (.tmp 51)) 0 _ (by kernel_rfl) (fun _ d _ _ _ h => by cases d <;> exact h) (by kernel_rfl) (by kernel_rfl) (fun w' hS' => by (have hz1 := hz1; simp only [opr]; go_simp; try with_reducible rfl)) HSZ.out (fun K5 hK5 => ?_)
        clear hK4 K4
        try simp only [Act.put, List.setIfInBounds_toArray, List.set_cons_zero, List.set_cons_succ]
        refine any_take (i := 5) hK5 (some 53) (.load 43 (.tmp 52)) 43 _ (by kernel_rfl) (fun _ d _ _ _ h => by cases d <;> exact h) (by kernel_rfl) (by kernel_rfl) (fun w' hS' => by exact run_load_DBoxAt rfl rfl hS'.2) HSZ.out (fun K6 hK6 => ?_)
        clear hK5 K5
        try simp only [Act.put, List.setIfInBounds_toArray, List.set_cons_zero, List.set_cons_succ]
        refine any_pick (rs := [6, 11]) hK6 (by kernel_rfl) (fun K7 hK7 => ?_)
        clear hK6 K6
        intro i hi
        simp only [List.mem_cons, List.not_mem_nil, or_false] at hi
        rcases hi with rfl | rfl
        · refine op_plain (some 54) (.call { callee := Callee.value (.func 12), args := #[.tmp 48, .tmp 49, .tmp 53], argTypes := #[35, 30, 43] }) 38 (by kernel_rfl) (by kernel_rfl) ?_
          go_wp2_with fail
          refine (HWT.out wz HPG.out.ref HPG.out.x (HPG.out.tw.fi.stay)).mono ?_
          rintro _ Wk1 ⟨q2, rfl, hs, hr, hw, hh, ho⟩
          have HR2 := hide' (show RefAt Wk1 q2 (applyW 10 10 f M) by have h := hr; rw [HPG.out.ew, HPG.out.eh] at h; exact h)
          have HE2 := hide' (show q2.w = 10 ∧ q2.h = 10 from ⟨hw.trans HPG.out.ew, hh.trans HPG.out.eh⟩)
          have HN2 : Hid (¬ fq.own q2.b ∧ q2.b ≠ A9) := hide' (by
            rcases ho with e | e
            · rw [e]; exact HPG.out.qn
            · have h1 : A9 < wz.heap.size := World.block_lt_of_cell? _ _ HPG.out.box.1
              exact ⟨HPG.out.tw.fi.at'.fresh e, by omega⟩)
          have HPG' := hide' (HPG.out.keep hs)
          have HSZ' := hide' (show (fun w' => BoxG w' A9 q9.g3 ∧ DBoxAt w' ga (go + i * 9) ⟨d, id, x, y, rx, ry, rw', rh, .slice la nn lc⟩) Wk1 from ⟨HSZ.out.1.keep hs, HSZ.out.2.keep hs⟩)
          clear hs hr hw hh ho
          clear HPG
          have HPG := HPG'
          clear HPG'
          clear HSZ
          have HSZ := HSZ'
          clear HSZ'
          go_wp2
          refine hK7 6 (by simp) _ _ HSZ.out (any_more fun K8 hK8 => ?_)
          clear hK7 K7
          refine any_take (i := 7) hK8 (some 47) (.move (.tmp 54)) 38 _ (by kernel_rfl) (fun _ d _ _ _ h => by cases d <;> exact h) (by kernel_rfl) (by kernel_rfl) (fun w' hS' => by simp only [opr]; go_simp; try with_reducible rfl) HSZ.out (fun K9 hK9 => ?_)
          clear hK8 K8
          try simp only [Act.put, List.setIfInBounds_toArray, List.set_cons_zero, List.set_cons_succ]
          refine any_take (i := 8) hK9 (some 55) (.extract (.tmp 47) 0) 35 _ (by kernel_rfl) (fun _ d _ _ _ h => by cases d <;> exact h) (by kernel_rfl) (by kernel_rfl) (fun w' hS' => by simp only [opr]; go_simp; try with_reducible rfl) HSZ.out (fun K10 hK10 => ?_)
          clear hK9 K9
          try simp only [Act.put, List.setIfInBounds_toArray, List.set_cons_zero, List.set_cons_succ]
          refine any_take (i := 9) hK10 (some 56) (.extract (.tmp 47) 1) 3 _ (by kernel_rfl) (fun _ d _ _ _ h => by cases d <;> exact h) (by kernel_rfl) (by kernel_rfl) (fun w' hS' => by simp only [opr]; go_simp; try with_reducible rfl) HSZ.out (fun K11 hK11 => ?_)
          clear hK10 K10
          try simp only [Act.put, List.setIfInBounds_toArray, List.set_cons_zero, List.set_cons_succ]
          refine any_take (i := 10) hK11 (some 57) (.extract (.tmp 47) 2) 37 _ (by kernel_rfl) (fun _ d _ _ _ h => by cases d <;> exact h) (by kernel_rfl) (by kernel_rfl) (fun w' hS' => by simp only [opr]; go_simp; try with_reducible rfl) HSZ.out (fun K12 hK12 => ?_)
          clear hK11 K11
          try simp only [Act.put, List.setIfInBounds_toArray, List.set_cons_zero, List.set_cons_succ]
          refine any_pick (rs := [11]) hK12 (by kernel_rfl) (fun K13 hK13 => ?_)
          clear hK12 K12
          intro i hi
          simp only [List.mem_cons, List.not_mem_nil, or_false] at hi
          rcases hi with rfl
          refine op_plain (some 11) (.alloc 35) 0 (by kernel_rfl) (by kernel_rfl) ?_
          go_wp2
          have hst : Stay (fun _ => False) Wk1 (Wk1.alloc (.cells #[.int .i64 0, .int .i64 0, .slice none 0 0] 35)) := (Stay.refl _ _).alloc _
          have HPG' := hide' (HPG.out.keep hst)
          have HSZ' := hide' (show (fun w' => BoxG w' A9 q9.g3 ∧ DBoxAt w' ga (go + i * 9) ⟨d, id, x, y, rx, ry, rw', rh, .slice la nn lc⟩) (Wk1.alloc (.cells #[.int .i64 0, .int .i64 0, .slice none 0 0] 35)) from ⟨HSZ.out.1.keep hst, HSZ.out.2.keep hst⟩)
          have HBH : Hid (BoxG (Wk1.alloc (.cells #[.int .i64 0, .int .i64 0, .slice none 0 0] 35)) Wk1.heap.size ⟨0, 0, .slice none 0 0⟩) := hide' (BoxG.new ⟨0, 0, .slice none 0 0⟩ rfl)
          have HQB : Hid (¬ q9.b = Wk1.heap.size) := hide' (by have := HPG.out.ref.lt; omega)
          have HFB2 : Hid (¬ fq.own Wk1.heap.size ∧ ¬ (⟨sb, v⟩ : Sm).own Wk1.heap.size ∧ w.heap.size ≤ Wk1.heap.size ∧ A9 ≠ Wk1.heap.size ∧ (∀ k, xa.map Addr.block = some k → k ≠ Wk1.heap.size)) := hide' ⟨HPG.out.tw.fi.at'.fresh (Nat.le_refl _), fun e => by have := HPG.out.tw.sa.lt _ e; omega, HPG.out.tw.fi.stay.size, by have : A9 < Wk1.heap.size := World.block_lt_of_cell? _ _ HPG.out.box.1; omega, fun k hk e => by have := HPG.out.x.lt k hk; omega⟩
          have HGB2 : Hid (¬ ga = Wk1.heap.size) := hide' (by have : ga < Wk1.heap.size := World.block_lt_of_cell? _ _ HSZ.out.2.c0; omega)
          have HR2' := hide' (HR2.out.keep hst)
          have HQH : Hid (¬ q2.b = Wk1.heap.size) := hide' (by have := HR2.out.lt; omega)
          clear hst
          clear HPG
          have HPG := HPG'
          clear HPG'
          clear HSZ
          have HSZ := HSZ'
          clear HSZ'
          clear HR2
          have HR2 := HR2'
          clear HR2'
          obtain ⟨Bh3, hB⟩ : ∃ B, B = Wk1.heap.size := ⟨_, rfl⟩
          rw [← hB] at HBH HQB HFB2 HGB2 HQH
          rw [← hB]
          clear hB
          obtain ⟨Wk2, hW⟩ : ∃ Wq, Wq = (Wk1.alloc (.cells #[.int .i64 0, .int .i64 0, .slice none 0 0] 35)) := ⟨_, rfl⟩
          rw [← hW] at HPG HSZ HBH HR2
          rw [← hW]
          clear hW
          refine hK13 11 (by simp) _ _ HSZ.out (any_more fun K14 hK14 => ?_)
          clear hK13 K13
          refine any_pick (rs := [12]) hK14 (by kernel_rfl) (fun K15 hK15 => ?_)
          clear hK14 K14
          intro i hi
          simp only [List.mem_cons, List.not_mem_nil, or_false] at hi
          rcases hi with rfl
          refine op_plain none (.store 35 (.tmp 11) (.tmp 55)) 0 (by kernel_rfl) (by kernel_rfl) ?_
          have HTH := hide' (boxG_there HBH.out)
          refine wpList_store_mid rfl 35 _ _ rfl Bh3 0 #[.int .i64 q2.g3.w, .int .i64 q2.g3.h, q2.g3.l] rfl rfl HTH.out (by kernel_rfl) (by simp [Value.oneCell', Rf.g3]) ?_
          refine wpList_nil ?_
          obtain ⟨Wk4, hw4⟩ : ∃ Wq, Wq = Wk2.setCells Bh3 0 (#[.int .i64 q2.g3.w, .int .i64 q2.g3.h, q2.g3.l] : Array Value).toList := ⟨_, rfl⟩
          rw [← hw4]
          have hst : Stay (fun j => j = Bh3) Wk2 Wk4 := by rw [hw4]; exact (Stay.refl (fun j => j = Bh3) Wk2).setCells Bh3 _ 0 rfl
          have HBH' : Hid (BoxG Wk4 Bh3 q2.g3) := hide' (by rw [hw4]; exact HBH.out.put q2.g3)
          have HPG' := hide' (HPG.out.aside hst (fun e => HQB.out e) HFB2.out)
          have HR2' := hide' (HR2.out.stay hst HQH.out)
          have HSZ' := hide' (show (fun w' => BoxG w' A9 q9.g3 ∧ DBoxAt w' ga (go + i * 9) ⟨d, id, x, y, rx, ry, rw', rh, .slice la nn lc⟩) Wk4 from ⟨HPG'.out.box, dBoxAt_stay HSZ.out.2 hst HGB2.out⟩)
          clear hst hw4 HTH
          clear HBH
          have HBH := HBH'
          clear HBH'
          clear HPG
          have HPG := HPG'
          clear HPG'
          clear HR2
          have HR2 := HR2'
          clear HR2'
          clear HSZ
          have HSZ := HSZ'
          clear HSZ'
          refine hK15 12 (by simp) _ _ HSZ.out (any_more fun K16 hK16 => ?_)
          clear hK15 K15
          refine any_take (i := 13) hK16 (some 12) (.assign (.tmp 56)) 3 _ (by kernel_rfl) (fun _ d _ _ _ h => by cases d <;> exact h) (by kernel_rfl) (by kernel_rfl) (fun w' hS' => by simp only [opr]; go_simp; try with_reducible rfl) HSZ.out (fun K17 hK17 => ?_)
          clear hK16 K16
          try simp only [Act.put, List.setIfInBounds_toArray, List.set_cons_zero, List.set_cons_succ]
          refine any_take (i := 14) hK17 (some 13) (.assign (.tmp 57)) 37 _ (by kernel_rfl) (fun _ d _ _ _ h => by cases d <;> exact h) (by kernel_rfl) (by kernel_rfl) (fun w' hS' => by simp only [opr]; go_simp; try with_reducible rfl) HSZ.out (fun K18 hK18 => ?_)
          clear hK17 K17
          try simp only [Act.put, List.setIfInBounds_toArray, List.set_cons_zero, List.set_cons_succ]
          refine any_done hK18 (by kernel_rfl) ?_
          clear hK18 K18
          have hb0 := HBH.out
          obtain ⟨h0, h1, h2, _⟩ := hb0
          obtain ⟨_, _, _, a3, a4, a5⟩ := HPG.out.box
          have hgl : q2.g3.l = .slice (some ⟨q2.b, 0, none⟩) q2.n q2.cap := rfl
          go_upto_region 15 with fail
          clear h0 h1 h2 a3 a4 a5 hgl
          obtain ⟨wg, hwg⟩ : ∃ Wq, Wq = Wk4.setCells A9 0 (#[.int .i64 q2.g3.w, .int .i64 q2.g3.h, q2.g3.l] : Array Value).toList := ⟨_, rfl⟩
          have hPG := HPG.out.grid HR2.out HE2.out.1 HE2.out.2 HN2.out hwg
          have HPH := hide' hPG
          have hwg2 : wg = ((Wk4.setCell ⟨A9, 0, none⟩ (.int .i64 q2.g3.w)).setCell ⟨A9, 1, none⟩ (.int .i64 q2.g3.h)).setCell ⟨A9, 2, none⟩ (.slice (some ⟨q2.b, 0, none⟩) q2.n q2.cap) := hwg
          rw [← hwg2]
          clear hwg hwg2 hPG HPG HSZ HBH HR2 HQB HFB2 HGB2 HQH
          have HPR := hide' (HPH.out.tw.pair HOW.out (by decide) (by decide) (by have := HNL.out; omega))
          have HDO := hide' (do13 D fq f N ⟨sb, v⟩ 10 10 m L d id x y rx ry rw' rh la nn lc l wg HPR.out (HCR.out wg HPH.out.tw.fi.stay) (CRd.apart HLT.out HPH.out.tw.fi.new (fun j hj => (HPH.out.tw.so j hj).1)) HNN.out.1 HNN.out.2 HXY.out.1 HXY.out.2.1 HXY.out.2.2)
          rw [HPH.out.tw.fi.eb, ← HMM.out] at HDO
          simp only at HDO
          obtain ⟨u0, u1, u2, u3, u4, u5, u6, u7, u8⟩ := HDB.out wg HPH.out.tw.fi.stay
          simp only at u0 u1 u2 u3 u4 u5 u6 u7 u8
          clear HPR
          go_wp2_with fail
          refine HDO.out.mono ?_
          rintro _ we hd
          obtain ⟨fq2, rfl, ht, hfs, hfn⟩ := HPH.out.tw.drew2 hd
          have HPE := hide' (HPH.out.frame ht hfs hfn)
          clear hd ht hfs hfn HDO HPH u0 u1 u2 u3 u4 u5 u6 u7 u8
          obtain ⟨mm, hmm⟩ : ∃ mm, M.length = mm := ⟨_, rfl⟩
          rw [hmm]
          have HML2 := hide' hmm
          have hmz : (mm : Int) ≤ 100 := by have := HML.out; omega
          clear hmm
          go_upto_region 16 with fail
          obtain ⟨wf, hwf⟩ : ∃ W, W = we.drew := ⟨_, rfl⟩
          have hsf : Stay (fun _ => False) we wf := by rw [hwf]; exact (Stay.refl _ _).drew
          have HPF := hide' (HPE.out.keep hsf)
          have hS : (fun w' => Stay (fun _ => False) wf w') we.drew := by rw [← hwf]; exact Stay.refl _ _
          clear hwf hsf HPE
          have HGR2 := hide' (fun W (hs : Stay (fun _ => False) wf W) => grid_in (w := W) (HPF.out.keep hs).tw.fi)
          refine wp_region_mix (fun w' => Stay (fun _ => False) wf w') [(0, true), (1, true), (2, true), (3, true), (4, true), (5, true), (6, true), (7, true), (8, true), (9, true), (11, true), (10, false), (12, false), (13, true), (14, true)] (by kernel_rfl) (by kernel_rfl) (fun _ d _ _ _ h => by cases d <;> exact h) hS ?_
          refine mix_begin (fun K0 hK0 => ?_)
          refine mix_take hK0 (some 69) (.move (.tmp 14)) 3 _ (by kernel_rfl) (by kernel_rfl) (fun w' hS' => by (simp only [opr]; go_simp; try with_reducible rfl)) (fun K1 hK1 => ?_)
          clear hK0 K0
          simp only [Act.put, List.setIfInBounds_toArray, List.set_cons_zero, List.set_cons_succ]
          refine mix_take hK1 (some 70) (.move (.tmp 12)) 3 _ (by kernel_rfl) (by kernel_rfl) (fun w' hS' => by (simp only [opr]; go_simp; try with_reducible rfl)) (fun K2 hK2 => ?_)
          clear hK1 K1
          simp only [Act.put, List.setIfInBounds_toArray, List.set_cons_zero, List.set_cons_succ]
          refine mix_take hK2 (some 71) (.binOp BinOp.neq 3 (.tmp 69) (.tmp 70) 3) 4 _ (by kernel_rfl) (by kernel_rfl) (fun w' hS' => by (simp only [opr]; go_simp; try with_reducible rfl)) (fun K3 hK3 => ?_)
          clear hK2 K2
          simp only [Act.put, List.setIfInBounds_toArray, List.set_cons_zero, List.set_cons_succ]
          refine mix_take hK3 (some 72) (.move (.tmp 71)) 4 _ (by kernel_rfl) (by kernel_rfl) (fun w' hS' => by (simp only [opr]; go_simp; try with_reducible rfl)) (fun K4 hK4 => ?_)
          clear hK3 K3
          simp only [Act.put, List.setIfInBounds_toArray, List.set_cons_zero, List.set_cons_succ]
          refine mix_take hK4 (some 73) (.move (.tmp 15)) 37 _ (by kernel_rfl) (by kernel_rfl) (fun w' hS' => by (simp only [opr]; go_simp; try with_reducible rfl)) (fun K5 hK5 => ?_)
          clear hK4 K4
          simp only [Act.put, List.setIfInBounds_toArray, List.set_cons_zero, List.set_cons_succ]
          refine mix_take hK5 (some 74) (.move (.tmp 13)) 37 _ (by kernel_rfl) (by kernel_rfl) (fun w' hS' => by (simp only [opr]; go_simp; try with_reducible rfl)) (fun K6 hK6 => ?_)
          clear hK5 K5
          simp only [Act.put, List.setIfInBounds_toArray, List.set_cons_zero, List.set_cons_succ]
          refine mix_take hK6 (some 75) (.binOp BinOp.neq 37 (.tmp 73) (.tmp 74) 37) 4 _ (by kernel_rfl) (by kernel_rfl) (fun w' hS' => by (simp only [opr]; go_simp; try with_reducible rfl)) (fun K7 hK7 => ?_)
          clear hK6 K6
          simp only [Act.put, List.setIfInBounds_toArray, List.set_cons_zero, List.set_cons_succ]
          refine mix_take hK7 (some 76) (.pick (.tmp 72) (.const (Value.bool true)) (.tmp 75)) 4 _ (by kernel_rfl) (by kernel_rfl) (fun w' hS' => by (simp only [opr]; go_simp; try with_reducible rfl)) (fun K8 hK8 => ?_)
          clear hK7 K7
          simp only [Act.put, List.setIfInBounds_toArray, List.set_cons_zero, List.set_cons_succ]
          refine mix_take hK8 (some 77) (.move (.tmp 76)) 4 _ (by kernel_rfl) (by kernel_rfl) (fun w' hS' => by (simp only [opr]; go_simp; try with_reducible rfl)) (fun K9 hK9 => ?_)
          clear hK8 K8
          simp only [Act.put, List.setIfInBounds_toArray, List.set_cons_zero, List.set_cons_succ]
          refine mix_take hK9 (some 78) (.move (.tmp 5)) 26 _ (by kernel_rfl) (by kernel_rfl) (fun w' hS' => by (simp only [opr]; go_simp; try with_reducible rfl)) (fun K10 hK10 => ?_)
          clear hK9 K9
          simp only [Act.put, List.setIfInBounds_toArray, List.set_cons_zero, List.set_cons_succ]
          refine mix_take hK10 (some 80) (.load 35 (.tmp 9)) 35 _ (by kernel_rfl) (by kernel_rfl) (fun w' hS' => by exact run_load_BoxG rfl rfl (HPF.out.keep hS').box) (fun K11 hK11 => ?_)
          clear hK10 K10
          simp only [Act.put, List.setIfInBounds_toArray, List.set_cons_zero, List.set_cons_succ]
          refine mix_call hK11 (some 79) 15 #[.tmp 78] #[26] 47 _ (by kernel_rfl) (by kernel_rfl) (enters Try.func15 (by kernel_rfl) (by kernel_rfl)) (by go_simp; try with_reducible rfl) (fun K12 hK12 => ?_)
          clear hK11 K11
          refine ((HGR2.out _ hS)).mono ?_
          rintro e wm1 ⟨G, rfl, hs1, hGG, hgw, hgh, hga⟩
          have hS1 : _ := (hS.trans hs1)
          refine ⟨_, rfl, hS1, ?_⟩
          have HGG := hide' (show GridAt wm1 G (applyW 10 10 f M) ∧ G.w = 10 ∧ G.h = 10 from ⟨hGG, hgw, hgh⟩)
          clear hGG hgw hgh hga
          clear hs1
          simp only [Act.put, List.setIfInBounds_toArray, List.set_cons_zero, List.set_cons_succ]
          refine mix_call hK12 (some 81) 14 #[.tmp 79, .tmp 80] #[47, 35] 3 _ (by kernel_rfl) (by kernel_rfl) (enters Try.func14 (by kernel_rfl) (by kernel_rfl)) (by go_simp; try with_reducible rfl) (fun K13 hK13 => ?_)
          clear hK12 K12
          refine ((shows14 G (applyW 10 10 f M) q2 (applyW 10 10 f M) wm1 HGG.out.1 (HPF.out.keep hS1).ref ((HPF.out.keep hS1).ew.trans HGG.out.2.1.symm) ((HPF.out.keep hS1).eh.trans HGG.out.2.2.symm) (fun _ _ _ _ => rfl))).mono ?_
          rintro e wm2 ⟨rfl, hs2⟩
          have hS2 : _ := (hS1.trans hs2)
          refine ⟨_, rfl, hS2, ?_⟩
          clear hs2
          simp only [Act.put, List.setIfInBounds_toArray, List.set_cons_zero, List.set_cons_succ]
          refine mix_take hK13 (some 82) (.binOp BinOp.neq 3 (.tmp 81) (.const (Value.int IntKind.i64 0)) 3) 4 _ (by kernel_rfl) (by kernel_rfl) (fun w' hS' => by (simp only [opr]; go_simp; try with_reducible rfl)) (fun K14 hK14 => ?_)
          clear hK13 K13
          simp only [Act.put, List.setIfInBounds_toArray, List.set_cons_zero, List.set_cons_succ]
          refine mix_take hK14 (some 83) (.pick (.tmp 77) (.const (Value.bool true)) (.tmp 82)) 4 _ (by kernel_rfl) (by kernel_rfl) (fun w' hS' => by (simp only [opr]; go_simp; try with_reducible rfl)) (fun K15 hK15 => ?_)
          clear hK14 K14
          simp only [Act.put, List.setIfInBounds_toArray, List.set_cons_zero, List.set_cons_succ]
          refine hK15 _ _ (mix_nil ?_)
          clear hK15 K15
          have HPX := hide' (HPF.out.keep hS2)
          have HXN : Hid (∃ fq f N q9, PgIn w wm2 fb sb fq f N v m L xa xc A9 q9 f ∧ N.length ≤ 100 * (i + 1)) := hide' ⟨_, _, _, _, HPX.out, by have h1 := HNL0.out; have h2 := HML.out; rw [List.length_append]; omega⟩
          clear HPX HPF HGR2 HGG
          go_wp2
          go_roundg (k - (i + 1))
          case measure => omega
          case rel => exact ⟨i + 1, by omega, rfl, by go_num, HXN⟩
        · refine op_plain (some 11) (.alloc 35) 0 (by kernel_rfl) (by kernel_rfl) ?_
          go_wp2
          have hst : Stay (fun _ => False) wz (wz.alloc (.cells #[.int .i64 0, .int .i64 0, .slice none 0 0] 35)) := (Stay.refl _ _).alloc _
          have HPG' := hide' (HPG.out.keep hst)
          have HSZ' := hide' (show (fun w' => BoxG w' A9 q9.g3 ∧ DBoxAt w' ga (go + i * 9) ⟨d, id, x, y, rx, ry, rw', rh, .slice la nn lc⟩) (wz.alloc (.cells #[.int .i64 0, .int .i64 0, .slice none 0 0] 35)) from ⟨HSZ.out.1.keep hst, HSZ.out.2.keep hst⟩)
          have HBH : Hid (BoxG (wz.alloc (.cells #[.int .i64 0, .int .i64 0, .slice none 0 0] 35)) wz.heap.size ⟨0, 0, .slice none 0 0⟩) := hide' (BoxG.new ⟨0, 0, .slice none 0 0⟩ rfl)
          have HQB : Hid (¬ q9.b = wz.heap.size) := hide' (by have := HPG.out.ref.lt; omega)
          have HFB2 : Hid (¬ fq.own wz.heap.size ∧ ¬ (⟨sb, v⟩ : Sm).own wz.heap.size ∧ w.heap.size ≤ wz.heap.size ∧ A9 ≠ wz.heap.size ∧ (∀ k, xa.map Addr.block = some k → k ≠ wz.heap.size)) := hide' ⟨HPG.out.tw.fi.at'.fresh (Nat.le_refl _), fun e => by have := HPG.out.tw.sa.lt _ e; omega, HPG.out.tw.fi.stay.size, by have : A9 < wz.heap.size := World.block_lt_of_cell? _ _ HPG.out.box.1; omega, fun k hk e => by have := HPG.out.x.lt k hk; omega⟩
          have HGB2 : Hid (¬ ga = wz.heap.size) := hide' (by have : ga < wz.heap.size := World.block_lt_of_cell? _ _ HSZ.out.2.c0; omega)
          clear hst
          clear HPG
          have HPG := HPG'
          clear HPG'
          clear HSZ
          have HSZ := HSZ'
          clear HSZ'
          obtain ⟨Bh6, hB⟩ : ∃ B, B = wz.heap.size := ⟨_, rfl⟩
          rw [← hB] at HBH HQB HFB2 HGB2
          rw [← hB]
          clear hB
          obtain ⟨Wk5, hW⟩ : ∃ Wq, Wq = (wz.alloc (.cells #[.int .i64 0, .int .i64 0, .slice none 0 0] 35)) := ⟨_, rfl⟩
          rw [← hW] at HPG HSZ HBH
          rw [← hW]
          clear hW
          refine hK7 11 (by simp) _ _ HSZ.out (any_more fun K8 hK8 => ?_)
          clear hK7 K7
          refine any_pick (rs := [6]) hK8 (by kernel_rfl) (fun K9 hK9 => ?_)
          clear hK8 K8
          intro i hi
          simp only [List.mem_cons, List.not_mem_nil, or_false] at hi
          rcases hi with rfl
          refine op_plain (some 54) (.call { callee := Callee.value (.func 12), args := #[.tmp 48, .tmp 49, .tmp 53], argTypes := #[35, 30, 43] }) 38 (by kernel_rfl) (by kernel_rfl) ?_
          go_wp2_with fail
          refine (HWT.out Wk5 HPG.out.ref HPG.out.x (HPG.out.tw.fi.stay)).mono ?_
          rintro _ Wk7 ⟨q2, rfl, hs, hr, hw, hh, ho⟩
          have HR2 := hide' (show RefAt Wk7 q2 (applyW 10 10 f M) by have h := hr; rw [HPG.out.ew, HPG.out.eh] at h; exact h)
          have HE2 := hide' (show q2.w = 10 ∧ q2.h = 10 from ⟨hw.trans HPG.out.ew, hh.trans HPG.out.eh⟩)
          have HN2 : Hid (¬ fq.own q2.b ∧ q2.b ≠ A9) := hide' (by
            rcases ho with e | e
            · rw [e]; exact HPG.out.qn
            · have h1 : A9 < Wk5.heap.size := World.block_lt_of_cell? _ _ HPG.out.box.1
              exact ⟨HPG.out.tw.fi.at'.fresh e, by omega⟩)
          have HPG' := hide' (HPG.out.keep hs)
          have HSZ' := hide' (show (fun w' => BoxG w' A9 q9.g3 ∧ DBoxAt w' ga (go + i * 9) ⟨d, id, x, y, rx, ry, rw', rh, .slice la nn lc⟩) Wk7 from ⟨HSZ.out.1.keep hs, HSZ.out.2.keep hs⟩)
          have HBH' := hide' (HBH.out.keep hs)
          have HQH : Hid (¬ q2.b = Bh6) := hide' (by
            rcases ho with e | e
            · intro e2; exact HQB.out (by rw [← e, e2])
            · have h1 : Bh6 < Wk5.heap.size := World.block_lt_of_cell? _ _ HBH.out.1
              omega)
          clear hs hr hw hh ho
          clear HPG
          have HPG := HPG'
          clear HPG'
          clear HSZ
          have HSZ := HSZ'
          clear HSZ'
          clear HBH
          have HBH := HBH'
          clear HBH'
          go_wp2
          refine hK9 6 (by simp) _ _ HSZ.out (any_more fun K10 hK10 => ?_)
          clear hK9 K9
          refine any_take (i := 7) hK10 (some 47) (.move (.tmp 54)) 38 _ (by kernel_rfl) (fun _ d _ _ _ h => by cases d <;> exact h) (by kernel_rfl) (by kernel_rfl) (fun w' hS' => by simp only [opr]; go_simp; try with_reducible rfl) HSZ.out (fun K11 hK11 => ?_)
          clear hK10 K10
          try simp only [Act.put, List.setIfInBounds_toArray, List.set_cons_zero, List.set_cons_succ]
          refine any_take (i := 8) hK11 (some 55) (.extract (.tmp 47) 0) 35 _ (by kernel_rfl) (fun _ d _ _ _ h => by cases d <;> exact h) (by kernel_rfl) (by kernel_rfl) (fun w' hS' => by simp only [opr]; go_simp; try with_reducible rfl) HSZ.out (fun K12 hK12 => ?_)
          clear hK11 K11
          try simp only [Act.put, List.setIfInBounds_toArray, List.set_cons_zero, List.set_cons_succ]
          refine any_take (i := 9) hK12 (some 56) (.extract (.tmp 47) 1) 3 _ (by kernel_rfl) (fun _ d _ _ _ h => by cases d <;> exact h) (by kernel_rfl) (by kernel_rfl) (fun w' hS' => by simp only [opr]; go_simp; try with_reducible rfl) HSZ.out (fun K13 hK13 => ?_)
          clear hK12 K12
          try simp only [Act.put, List.setIfInBounds_toArray, List.set_cons_zero, List.set_cons_succ]
          refine any_take (i := 10) hK13 (some 57) (.extract (.tmp 47) 2) 37 _ (by kernel_rfl) (fun _ d _ _ _ h => by cases d <;> exact h) (by kernel_rfl) (by kernel_rfl) (fun w' hS' => by simp only [opr]; go_simp; try with_reducible rfl) HSZ.out (fun K14 hK14 => ?_)
          clear hK13 K13
          try simp only [Act.put, List.setIfInBounds_toArray, List.set_cons_zero, List.set_cons_succ]
          refine any_pick (rs := [12]) hK14 (by kernel_rfl) (fun K15 hK15 => ?_)
          clear hK14 K14
          intro i hi
          simp only [List.mem_cons, List.not_mem_nil, or_false] at hi
          rcases hi with rfl
          refine op_plain none (.store 35 (.tmp 11) (.tmp 55)) 0 (by kernel_rfl) (by kernel_rfl) ?_
          have HTH := hide' (boxG_there HBH.out)
          refine wpList_store_mid rfl 35 _ _ rfl Bh6 0 #[.int .i64 q2.g3.w, .int .i64 q2.g3.h, q2.g3.l] rfl rfl HTH.out (by kernel_rfl) (by simp [Value.oneCell', Rf.g3]) ?_
          refine wpList_nil ?_
          obtain ⟨Wk8, hw4⟩ : ∃ Wq, Wq = Wk7.setCells Bh6 0 (#[.int .i64 q2.g3.w, .int .i64 q2.g3.h, q2.g3.l] : Array Value).toList := ⟨_, rfl⟩
          rw [← hw4]
          have hst : Stay (fun j => j = Bh6) Wk7 Wk8 := by rw [hw4]; exact (Stay.refl (fun j => j = Bh6) Wk7).setCells Bh6 _ 0 rfl
          have HBH' : Hid (BoxG Wk8 Bh6 q2.g3) := hide' (by rw [hw4]; exact HBH.out.put q2.g3)
          have HPG' := hide' (HPG.out.aside hst (fun e => HQB.out e) HFB2.out)
          have HR2' := hide' (HR2.out.stay hst HQH.out)
          have HSZ' := hide' (show (fun w' => BoxG w' A9 q9.g3 ∧ DBoxAt w' ga (go + i * 9) ⟨d, id, x, y, rx, ry, rw', rh, .slice la nn lc⟩) Wk8 from ⟨HPG'.out.box, dBoxAt_stay HSZ.out.2 hst HGB2.out⟩)
          clear hst hw4 HTH
          clear HBH
          have HBH := HBH'
          clear HBH'
          clear HPG
          have HPG := HPG'
          clear HPG'
          clear HR2
          have HR2 := HR2'
          clear HR2'
          clear HSZ
          have HSZ := HSZ'
          clear HSZ'
          refine hK15 12 (by simp) _ _ HSZ.out (any_more fun K16 hK16 => ?_)
          clear hK15 K15
          refine any_take (i := 13) hK16 (some 12) (.assign (.tmp 56)) 3 _ (by kernel_rfl) (fun _ d _ _ _ h => by cases d <;> exact h) (by kernel_rfl) (by kernel_rfl) (fun w' hS' => by simp only [opr]; go_simp; try with_reducible rfl) HSZ.out (fun K17 hK17 => ?_)
          clear hK16 K16
          try simp only [Act.put, List.setIfInBounds_toArray, List.set_cons_zero, List.set_cons_succ]
          refine any_take (i := 14) hK17 (some 13) (.assign (.tmp 57)) 37 _ (by kernel_rfl) (fun _ d _ _ _ h => by cases d <;> exact h) (by kernel_rfl) (by kernel_rfl) (fun w' hS' => by simp only [opr]; go_simp; try with_reducible rfl) HSZ.out (fun K18 hK18 => ?_)
          clear hK17 K17
          try simp only [Act.put, List.setIfInBounds_toArray, List.set_cons_zero, List.set_cons_succ]
          refine any_done hK18 (by kernel_rfl) ?_
          clear hK18 K18
          have hb0 := HBH.out
          obtain ⟨h0, h1, h2, _⟩ := hb0
          obtain ⟨_, _, _, a3, a4, a5⟩ := HPG.out.box
          have hgl : q2.g3.l = .slice (some ⟨q2.b, 0, none⟩) q2.n q2.cap := rfl
          go_upto_region 15 with fail
          clear h0 h1 h2 a3 a4 a5 hgl
          obtain ⟨wg, hwg⟩ : ∃ Wq, Wq = Wk8.setCells A9 0 (#[.int .i64 q2.g3.w, .int .i64 q2.g3.h, q2.g3.l] : Array Value).toList := ⟨_, rfl⟩
          have hPG := HPG.out.grid HR2.out HE2.out.1 HE2.out.2 HN2.out hwg
          have HPH := hide' hPG
          have hwg2 : wg = ((Wk8.setCell ⟨A9, 0, none⟩ (.int .i64 q2.g3.w)).setCell ⟨A9, 1, none⟩ (.int .i64 q2.g3.h)).setCell ⟨A9, 2, none⟩ (.slice (some ⟨q2.b, 0, none⟩) q2.n q2.cap) := hwg
          rw [← hwg2]
          clear hwg hwg2 hPG HPG HSZ HBH HR2 HQB HFB2 HGB2 HQH
          have HPR := hide' (HPH.out.tw.pair HOW.out (by decide) (by decide) (by have := HNL.out; omega))
          have HDO := hide' (do13 D fq f N ⟨sb, v⟩ 10 10 m L d id x y rx ry rw' rh la nn lc l wg HPR.out (HCR.out wg HPH.out.tw.fi.stay) (CRd.apart HLT.out HPH.out.tw.fi.new (fun j hj => (HPH.out.tw.so j hj).1)) HNN.out.1 HNN.out.2 HXY.out.1 HXY.out.2.1 HXY.out.2.2)
          rw [HPH.out.tw.fi.eb, ← HMM.out] at HDO
          simp only at HDO
          obtain ⟨u0, u1, u2, u3, u4, u5, u6, u7, u8⟩ := HDB.out wg HPH.out.tw.fi.stay
          simp only at u0 u1 u2 u3 u4 u5 u6 u7 u8
          clear HPR
          go_wp2_with fail
          refine HDO.out.mono ?_
          rintro _ we hd
          obtain ⟨fq2, rfl, ht, hfs, hfn⟩ := HPH.out.tw.drew2 hd
          have HPE := hide' (HPH.out.frame ht hfs hfn)
          clear hd ht hfs hfn HDO HPH u0 u1 u2 u3 u4 u5 u6 u7 u8
          obtain ⟨mm, hmm⟩ : ∃ mm, M.length = mm := ⟨_, rfl⟩
          rw [hmm]
          have HML2 := hide' hmm
          have hmz : (mm : Int) ≤ 100 := by have := HML.out; omega
          clear hmm
          go_upto_region 16 with fail
          obtain ⟨wf, hwf⟩ : ∃ W, W = we.drew := ⟨_, rfl⟩
          have hsf : Stay (fun _ => False) we wf := by rw [hwf]; exact (Stay.refl _ _).drew
          have HPF := hide' (HPE.out.keep hsf)
          have hS : (fun w' => Stay (fun _ => False) wf w') we.drew := by rw [← hwf]; exact Stay.refl _ _
          clear hwf hsf HPE
          have HGR2 := hide' (fun W (hs : Stay (fun _ => False) wf W) => grid_in (w := W) (HPF.out.keep hs).tw.fi)
          refine wp_region_mix (fun w' => Stay (fun _ => False) wf w') [(0, true), (1, true), (2, true), (3, true), (4, true), (5, true), (6, true), (7, true), (8, true), (9, true), (11, true), (10, false), (12, false), (13, true), (14, true)] (by kernel_rfl) (by kernel_rfl) (fun _ d _ _ _ h => by cases d <;> exact h) hS ?_
          refine mix_begin (fun K0 hK0 => ?_)
          refine mix_take hK0 (some 69) (.move (.tmp 14)) 3 _ (by kernel_rfl) (by kernel_rfl) (fun w' hS' => by (simp only [opr]; go_simp; try with_reducible rfl)) (fun K1 hK1 => ?_)
          clear hK0 K0
          simp only [Act.put, List.setIfInBounds_toArray, List.set_cons_zero, List.set_cons_succ]
          refine mix_take hK1 (some 70) (.move (.tmp 12)) 3 _ (by kernel_rfl) (by kernel_rfl) (fun w' hS' => by (simp only [opr]; go_simp; try with_reducible rfl)) (fun K2 hK2 => ?_)
          clear hK1 K1
          simp only [Act.put, List.setIfInBounds_toArray, List.set_cons_zero, List.set_cons_succ]
          refine mix_take hK2 (some 71) (.binOp BinOp.neq 3 (.tmp 69) (.tmp 70) 3) 4 _ (by kernel_rfl) (by kernel_rfl) (fun w' hS' => by (simp only [opr]; go_simp; try with_reducible rfl)) (fun K3 hK3 => ?_)
          clear hK2 K2
          simp only [Act.put, List.setIfInBounds_toArray, List.set_cons_zero, List.set_cons_succ]
          refine mix_take hK3 (some 72) (.move (.tmp 71)) 4 _ (by kernel_rfl) (by kernel_rfl) (fun w' hS' => by (simp only [opr]; go_simp; try with_reducible rfl)) (fun K4 hK4 => ?_)
          clear hK3 K3
          simp only [Act.put, List.setIfInBounds_toArray, List.set_cons_zero, List.set_cons_succ]
          refine mix_take hK4 (some 73) (.move (.tmp 15)) 37 _ (by kernel_rfl) (by kernel_rfl) (fun w' hS' => by (simp only [opr]; go_simp; try with_reducible rfl)) (fun K5 hK5 => ?_)
          clear hK4 K4
          simp only [Act.put, List.setIfInBounds_toArray, List.set_cons_zero, List.set_cons_succ]
          refine mix_take hK5 (some 74) (.move (.tmp 13)) 37 _ (by kernel_rfl) (by kernel_rfl) (fun w' hS' => by (simp only [opr]; go_simp; try with_reducible rfl)) (fun K6 hK6 => ?_)
          clear hK5 K5
          simp only [Act.put, List.setIfInBounds_toArray, List.set_cons_zero, List.set_cons_succ]
          refine mix_take hK6 (some 75) (.binOp BinOp.neq 37 (.tmp 73) (.tmp 74) 37) 4 _ (by kernel_rfl) (by kernel_rfl) (fun w' hS' => by (simp only [opr]; go_simp; try with_reducible rfl)) (fun K7 hK7 => ?_)
          clear hK6 K6
          simp only [Act.put, List.setIfInBounds_toArray, List.set_cons_zero, List.set_cons_succ]
          refine mix_take hK7 (some 76) (.pick (.tmp 72) (.const (Value.bool true)) (.tmp 75)) 4 _ (by kernel_rfl) (by kernel_rfl) (fun w' hS' => by (simp only [opr]; go_simp; try with_reducible rfl)) (fun K8 hK8 => ?_)
          clear hK7 K7
          simp only [Act.put, List.setIfInBounds_toArray, List.set_cons_zero, List.set_cons_succ]
          refine mix_take hK8 (some 77) (.move (.tmp 76)) 4 _ (by kernel_rfl) (by kernel_rfl) (fun w' hS' => by (simp only [opr]; go_simp; try with_reducible rfl)) (fun K9 hK9 => ?_)
          clear hK8 K8
          simp only [Act.put, List.setIfInBounds_toArray, List.set_cons_zero, List.set_cons_succ]
          refine mix_take hK9 (some 78) (.move (.tmp 5)) 26 _ (by kernel_rfl) (by kernel_rfl) (fun w' hS' => by (simp only [opr]; go_simp; try with_reducible rfl)) (fun K10 hK10 => ?_)
          clear hK9 K9
          simp only [Act.put, List.setIfInBounds_toArray, List.set_cons_zero, List.set_cons_succ]
          refine mix_take hK10 (some 80) (.load 35 (.tmp 9)) 35 _ (by kernel_rfl) (by kernel_rfl) (fun w' hS' => by exact run_load_BoxG rfl rfl (HPF.out.keep hS').box) (fun K11 hK11 => ?_)
          clear hK10 K10
          simp only [Act.put, List.setIfInBounds_toArray, List.set_cons_zero, List.set_cons_succ]
          refine mix_call hK11 (some 79) 15 #[.tmp 78] #[26] 47 _ (by kernel_rfl) (by kernel_rfl) (enters Try.func15 (by kernel_rfl) (by kernel_rfl)) (by go_simp; try with_reducible rfl) (fun K12 hK12 => ?_)
          clear hK11 K11
          refine ((HGR2.out _ hS)).mono ?_
          rintro e wm1 ⟨G, rfl, hs1, hGG, hgw, hgh, hga⟩
          have hS1 : _ := (hS.trans hs1)
          refine ⟨_, rfl, hS1, ?_⟩
          have HGG := hide' (show GridAt wm1 G (applyW 10 10 f M) ∧ G.w = 10 ∧ G.h = 10 from ⟨hGG, hgw, hgh⟩)
          clear hGG hgw hgh hga
          clear hs1
          simp only [Act.put, List.setIfInBounds_toArray, List.set_cons_zero, List.set_cons_succ]
          refine mix_call hK12 (some 81) 14 #[.tmp 79, .tmp 80] #[47, 35] 3 _ (by kernel_rfl) (by kernel_rfl) (enters Try.func14 (by kernel_rfl) (by kernel_rfl)) (by go_simp; try with_reducible rfl) (fun K13 hK13 => ?_)
          clear hK12 K12
          refine ((shows14 G (applyW 10 10 f M) q2 (applyW 10 10 f M) wm1 HGG.out.1 (HPF.out.keep hS1).ref ((HPF.out.keep hS1).ew.trans HGG.out.2.1.symm) ((HPF.out.keep hS1).eh.trans HGG.out.2.2.symm) (fun _ _ _ _ => rfl))).mono ?_
          rintro e wm2 ⟨rfl, hs2⟩
          have hS2 : _ := (hS1.trans hs2)
          refine ⟨_, rfl, hS2, ?_⟩
          clear hs2
          simp only [Act.put, List.setIfInBounds_toArray, List.set_cons_zero, List.set_cons_succ]
          refine mix_take hK13 (some 82) (.binOp BinOp.neq 3 (.tmp 81) (.const (Value.int IntKind.i64 0)) 3) 4 _ (by kernel_rfl) (by kernel_rfl) (fun w' hS' => by (simp only [opr]; go_simp; try with_reducible rfl)) (fun K14 hK14 => ?_)
          clear hK13 K13
          simp only [Act.put, List.setIfInBounds_toArray, List.set_cons_zero, List.set_cons_succ]
          refine mix_take hK14 (some 83) (.pick (.tmp 77) (.const (Value.bool true)) (.tmp 82)) 4 _ (by kernel_rfl) (by kernel_rfl) (fun w' hS' => by (simp only [opr]; go_simp; try with_reducible rfl)) (fun K15 hK15 => ?_)
          clear hK14 K14
          simp only [Act.put, List.setIfInBounds_toArray, List.set_cons_zero, List.set_cons_succ]
          refine hK15 _ _ (mix_nil ?_)
          clear hK15 K15
          have HPX := hide' (HPF.out.keep hS2)
          have HXN : Hid (∃ fq f N q9, PgIn w wm2 fb sb fq f N v m L xa xc A9 q9 f ∧ N.length ≤ 100 * (i + 1)) := hide' ⟨_, _, _, _, HPX.out, by have h1 := HNL0.out; have h2 := HML.out; rw [List.length_append]; omega⟩
          clear HPX HPF HGR2 HGG
          go_wp2
          go_roundg (k - (i + 1))
          case measure => omega
          case rel => exact ⟨i + 1, by omega, rfl, by go_num, HXN⟩

      · have hik2 : i = k := by omega
        subst hik2
        have HS1 := hide' hP.tw.fi.stay
        have HFN := hide' (fun W => D.fillN sb 1 ⟨0, 0, 0, 0⟩ ⟨0, 0, 0, 0⟩ W)
        have HCN := hide' (fun W => D.copyN fb 1 ⟨0, 0, 0, 0⟩ 0 0 W)
        simp only at HFN HCN
        clear hP HX hnl
        go_wp2_with fail
        refine (HFN.out _).mono ?_
        rintro _ w7 ⟨rfl, hs⟩
        have HS2 := hide' (HS1.out.trans hs)
        clear hs HS1 HFN
        go_wp2_with fail
        refine (HCN.out _).mono ?_
        rintro _ w8 ⟨rfl, hs⟩
        have HS1 := hide' (HS2.out.trans hs)
        clear hs HS2 HCN
        go_wp2_with fail
        refine (awake7 D _).mono ?_
        rintro _ w9 ⟨rfl, hs⟩
        have HS2 := hide' (HS1.out.trans hs)
        clear hs
        go_wp2
        go_ret
        exact ⟨rfl, HS2.out⟩
  · skip
    go_wp2_with fail
    refine (awake7 D _).mono ?_
    rintro _ w2 ⟨rfl, hs⟩
    have HS2 := hide' (HS1.out.trans hs)
    clear hs
    go_wp2
    go_ret
    exact ⟨rfl, HS2.out⟩

end Go.Proofs.Yticccknocjnkpaa
