/-
  The document's Set, walked. No conditions.
-/
import Derived.Test.YticccknocjnkpaaE0
import Derived.Deep.DeepCutAuto
namespace Go.Proofs.Yticccknocjnkpaa
open Go.RowKit

theorem cell_info : (Try.prog.info? 53).map (fun i => (i.zero, i.size, i.bytes)) = some (some (.agg #[.int .i32 0, .int .i64 0, .int .i64 0, .int .i64 0]), 4, 32) := by kernel_rfl

theorem Pix.row0 {w : World} {b n c : Nat} {f : Nat → Cl} (h : Pix w b n f) : IsRowS w 4 (.slice (some ⟨b, 0, none⟩) n c) n (seg n f) := by
  have := h.row 0 n c (by omega)
  simpa using this

theorem own_shape {w : World} {base n : Nat} {v : Value} {xs : List Value} (h : w.ownsRow base 53 4 v (0 + n) xs) (hn : 0 < n) : ∃ g cp, v = .slice (some ⟨g, 0, none⟩) n cp := by
  simp only [Nat.zero_add] at h
  rcases h.2 with ⟨_, h0⟩ | ⟨g, cap, cur, rfl, _⟩
  · omega
  · exact ⟨g, cap, rfl⟩

/-- A copy of the document's grid, in a box of its own. -/
def Copied (W0 : World) (q : Rf) (f : Nat → Cl) (A : Nat) (W : World) : Prop := ∃ p : Rf, Stay (fun _ => False) W0 W ∧ BoxG W A p.g3 ∧ RefAt W p f ∧ p.w = q.w ∧ p.h = q.h ∧ p.n = q.n ∧ W0.heap.size ≤ p.b ∧ W0.heap.size ≤ A ∧ p.b ≠ A

theorem copied_of {W0 Wq W : World} {q : Rf} {f : Nat → Cl} {A : Nat} {v : Value} (hq : RefAt Wq q f) (hs : Stay (fun k => W0.heap.size ≤ k) W0 W) (ho : W.ownsRow W0.heap.size 53 4 v (0 + q.n) ([] ++ seg q.n f)) (hne : v.ownBlock ≠ some A) (hA : W0.heap.size ≤ A)
    (hb : BoxG W A ⟨q.g3.w, q.g3.h, v⟩) : Hid (Copied W0 q f A W) := by
  simp only [Nat.zero_add, List.nil_append] at ho
  have ho' := ho
  rcases ho'.2 with ⟨_, h0⟩ | ⟨g, cap, cur, rfl, hbg, _, h2, h3, _⟩
  · have := hq.pos
    omega
  · refine ⟨⟨g, q.w, q.h, q.n, cap⟩, hs.mono (fun k hk h => by omega), hb, ⟨Pix.of_owns ho, hq.n1, h2, h3, hq.w1, hq.w2, hq.h1, hq.h2⟩, rfl, rfl, rfl, hbg, hA, fun h => hne ?_⟩
    have h' : g = A := h
    rw [← h']
    rfl

theorem CAt.eight {W : World} {b o : Nat} {c : Cl} (h : CAt W b o c) : (W.cell? ⟨b, o, none⟩ = some (.int .i32 c.r) ∧ W.cell? ⟨b, o + 1, none⟩ = some (.int .i64 c.fg) ∧ W.cell? ⟨b, o + 2, none⟩ = some (.int .i64 c.bg) ∧ W.cell? ⟨b, o + 3, none⟩ = some (.int .i64 c.fl)) ∧
    W.frozen? ⟨b, o, none⟩ = false ∧ W.frozen? ⟨b, o + 1, none⟩ = false ∧ W.frozen? ⟨b, o + 2, none⟩ = false ∧ W.frozen? ⟨b, o + 3, none⟩ = false :=
  ⟨h.four, (h.2 0 (by decide)).2, (h.2 1 (by decide)).2, (h.2 2 (by decide)).2, (h.2 3 (by decide)).2⟩

theorem refSet57 (q : Rf) (f : Nat → Cl) (x y : Int) (c : Cl) (w : World) (hq : RefAt w q f) : Calls Try.prog 57 #[.agg #[.int .i64 q.g3.w, .int .i64 q.g3.h, q.g3.l], .int .i64 x, .int .i64 y, .agg #[.int .i32 c.r, .int .i64 c.fg, .int .i64 c.bg, .int .i64 c.fl]] w (NewRef q.w q.h (setF q.w q.h f x y c) w) := by
  have hs0 : Stay (fun _ => False) w (((w.alloc (.cells #[.int .i64 q.g3.w, .int .i64 q.g3.h, q.g3.l] 35)).alloc (.cells #[.int .i32 c.r, .int .i64 c.fg, .int .i64 c.bg, .int .i64 c.fl] 53)).alloc (.cells #[.int .i64 0, .int .i64 0, .slice none 0 0] 35)) := (((Stay.refl _ _).alloc _).alloc _).alloc _
  have HS := hide' hs0
  have HQ := hide' (hq.keep hs0)
  have HQB := hide' (((BoxG.new (w := w) q.g3 rfl).alloc (.cells #[.int .i32 c.r, .int .i64 c.fg, .int .i64 c.bg, .int .i64 c.fl] 53)).alloc (.cells #[.int .i64 0, .int .i64 0, .slice none 0 0] 35))
  have HCB := hide' ((BoxC.new (w := w.alloc (.cells #[.int .i64 q.g3.w, .int .i64 q.g3.h, q.g3.l] 35)) c (by simp) : BoxC _ (w.heap.size + 1) c).alloc (.cells #[.int .i64 0, .int .i64 0, .slice none 0 0] 35))
  have HZB := hide' (BoxG.new (w := (w.alloc (.cells #[.int .i64 q.g3.w, .int .i64 q.g3.h, q.g3.l] 35)).alloc (.cells #[.int .i32 c.r, .int .i64 c.fg, .int .i64 c.bg, .int .i64 c.fl] 53)) ⟨0, 0, .slice none 0 0⟩ (by simp) : BoxG _ (w.heap.size + 2) _)
  have HI := hide' (fun w => refIn78 q x y w hq.w1 hq.h1)
  obtain ⟨F, hF⟩ : ∃ F, F = setF q.w q.h f x y c := ⟨_, rfl⟩
  rw [← hF]
  have HFF := hide' hF
  obtain ⟨cn, hc⟩ : ∃ c, c = insB q.w q.h x y := ⟨_, rfl⟩
  rw [← hc] at HI
  have HC := hide' hc
  have HSZ : Hid (w.heap.size + 3 = (((w.alloc (.cells #[.int .i64 q.g3.w, .int .i64 q.g3.h, q.g3.l] 35)).alloc (.cells #[.int .i32 c.r, .int .i64 c.fg, .int .i64 c.bg, .int .i64 c.fl] 53)).alloc (.cells #[.int .i64 0, .int .i64 0, .slice none 0 0] 35)).heap.size) := show _ = _ by simp
  clear hs0 hq hF hc
  go_enter Try.func57, Try.ntmps57
  go_upto_region 1 with fail
  obtain ⟨W0, hW⟩ : ∃ W, W = (((w.alloc (.cells #[.int .i64 q.g3.w, .int .i64 q.g3.h, q.g3.l] 35)).alloc (.cells #[.int .i32 c.r, .int .i64 c.fg, .int .i64 c.bg, .int .i64 c.fl] 53)).alloc (.cells #[.int .i64 0, .int .i64 0, .slice none 0 0] 35)) := ⟨_, rfl⟩
  rw [← hW] at HS HQ HQB HCB HZB HSZ
  rw [← hW]
  clear hW
  go_cut [9] (fun s9 wx => ∃ A, s9 = .pointer (some ⟨A, 0, none⟩) ∧ Hid (Copied W0 q f A wx))
  case first =>
    refine any_begin (fun w' => Stay (fun k => W0.heap.size ≤ k) W0 w') (by kernel_rfl) (fun K0 hK0 => ?_)
    have HST : Hid (Stay (fun k => W0.heap.size ≤ k) W0 W0.drew) := (Stay.refl _ _).drew
    have HBW : Hid (W0.heap.size ≤ W0.drew.heap.size) := Nat.le_refl _
    obtain ⟨Wd, hWd⟩ : ∃ Wd, Wd = W0.drew := ⟨_, rfl⟩
    rw [← hWd] at HST HBW
    rw [← hWd]
    clear hWd
    refine any_take (i := 0) hK0 (some 10) (.fieldAddr 35 (.tmp 4) 0) 0 _ (by kernel_rfl) (fun _ d _ _ _ h => by cases d <;> exact h) (by kernel_rfl) (by kernel_rfl) (fun w' hS' => by simp only [opr]; go_simp; try with_reducible rfl) HST.out (fun K1 hK1 => ?_)
    clear hK0 K0
    try simp only [Act.put, List.setIfInBounds_toArray, List.set_cons_zero, List.set_cons_succ]
    refine any_take (i := 1) hK1 (some 11) (.load 3 (.tmp 10)) 3 _ (by kernel_rfl) (fun _ d _ _ _ h => by cases d <;> exact h) (by kernel_rfl) (by kernel_rfl) (fun w' hS' => by (have hb := HQB.out.stay hS' (by have := HQB.out.lt; omega); obtain ⟨b0, b1, b2, _⟩ := hb; simp only [opr]; go_simp; try with_reducible rfl)) HST.out (fun K2 hK2 => ?_)
    clear hK1 K1
    try simp only [Act.put, List.setIfInBounds_toArray, List.set_cons_zero, List.set_cons_succ]
    refine any_take (i := 2) hK2 (some 12) (.fieldAddr 35 (.tmp 4) 1) 0 _ (by kernel_rfl) (fun _ d _ _ _ h => by cases d <;> exact h) (by kernel_rfl) (by kernel_rfl) (fun w' hS' => by simp only [opr]; go_simp; try with_reducible rfl) HST.out (fun K3 hK3 => ?_)
    clear hK2 K2
    try simp only [Act.put, List.setIfInBounds_toArray, List.set_cons_zero, List.set_cons_succ]
    refine any_take (i := 3) hK3 (some 13) (.load 3 (.tmp 12)) 3 _ (by kernel_rfl) (fun _ d _ _ _ h => by cases d <;> exact h) (by kernel_rfl) (by kernel_rfl) (fun w' hS' => by (have hb := HQB.out.stay hS' (by have := HQB.out.lt; omega); obtain ⟨b0, b1, b2, _⟩ := hb; simp only [opr]; go_simp; try with_reducible rfl)) HST.out (fun K4 hK4 => ?_)
    clear hK3 K3
    try simp only [Act.put, List.setIfInBounds_toArray, List.set_cons_zero, List.set_cons_succ]
    refine any_take (i := 5) hK4 (some 15) (.fieldAddr 35 (.tmp 4) 2) 0 _ (by kernel_rfl) (fun _ d _ _ _ h => by cases d <;> exact h) (by kernel_rfl) (by kernel_rfl) (fun w' hS' => by simp only [opr]; go_simp; try with_reducible rfl) HST.out (fun K5 hK5 => ?_)
    clear hK4 K4
    try simp only [Act.put, List.setIfInBounds_toArray, List.set_cons_zero, List.set_cons_succ]
    refine any_take (i := 6) hK5 (some 16) (.load 33 (.tmp 15)) 33 _ (by kernel_rfl) (fun _ d _ _ _ h => by cases d <;> exact h) (by kernel_rfl) (by kernel_rfl) (fun w' hS' => by (have hb := HQB.out.stay hS' (by have := HQB.out.lt; omega); obtain ⟨b0, b1, b2, _⟩ := hb; simp only [opr]; go_simp; try with_reducible rfl)) HST.out (fun K6 hK6 => ?_)
    clear hK5 K5
    try simp only [Act.put, List.setIfInBounds_toArray, List.set_cons_zero, List.set_cons_succ]
    refine any_pick (rs := [4, 9]) hK6 (by kernel_rfl) (fun K7 hK7 => ?_)
    clear hK6 K6
    intro i hi
    simp only [List.mem_cons, List.not_mem_nil, or_false] at hi
    rcases hi with rfl | rfl
    · refine op_plain (some 14) (.buildSlice 33 0 #[]) 33 (by kernel_rfl) (by kernel_rfl) ?_
      go_wp2
      have st : Stay (fun _ => False) Wd (Wd.alloc (.cells #[] 53)) := (Stay.refl _ _).alloc _
      have HO := hide' (ownsRow_base (owns_newS Wd #[] 53 4 0 rfl (by decide)) HBW.out)
      have HST' := hide' (HST.out.trans (stay_any st))
      have HBW' := hide' (Nat.le_trans HBW.out st.size)
      clear st
      clear HST
      have HST := HST'
      clear HST'
      clear HBW
      have HBW := HBW'
      clear HBW'
      obtain ⟨vO2, hvO⟩ : ∃ v, v = Value.slice (some ⟨Wd.heap.size, 0, none⟩) 0 0 := ⟨_, rfl⟩
      rw [← hvO] at HO
      rw [← hvO]
      clear hvO
      obtain ⟨W1, hW⟩ : ∃ Wq, Wq = (Wd.alloc (.cells #[] 53)) := ⟨_, rfl⟩
      rw [← hW] at HO HST HBW
      rw [← hW]
      clear hW
      refine hK7 4 (by simp) _ _ HST.out (any_more fun K8 hK8 => ?_)
      clear hK7 K7
      refine any_pick (rs := [7, 9]) hK8 (by kernel_rfl) (fun K9 hK9 => ?_)
      clear hK8 K8
      intro i hi
      simp only [List.mem_cons, List.not_mem_nil, or_false] at hi
      rcases hi with rfl | rfl
      · refine op_plain (some 17) (.call { callee := Callee.builtin Builtin.append, args := #[.tmp 14, .tmp 16], argTypes := #[33, 33] }) 33 (by kernel_rfl) (by kernel_rfl) ?_
        have HSRC := hide' ((HQ.out.stay HST.out (by have := HQ.out.lt; omega)).pix.row0 (c := q.cap))
        have hbig := HQ.out.big
        go_wp2_with (at_builtin; refine appS rfl _ _ 33 rfl Try.underlying33 cell_info rfl (by decide) (by decide) HO.out rfl HSRC.out rfl (seg_one _ _) (by omega) HBW.out ?_; intro v4 W3 ho hst hb; have HO2 := hide' ho; have HT2 := hide' hst; have HB2 := hide' hb; clear ho hst hb)
        have HST' := hide' (HST.out.trans (HT2.out.mono fun k _ hk => (HO.out.lt k hk).1))
        have HBW' := hide' (Nat.le_trans HBW.out HT2.out.size)
        clear HO HT2 HB2 HSRC hbig
        clear HST
        have HST := HST'
        clear HST'
        clear HBW
        have HBW := HBW'
        clear HBW'
        have HO := HO2
        clear HO2
        obtain ⟨g5, cp6, rfl⟩ := own_shape HO.out HQ.out.pos
        refine hK9 7 (by simp) _ _ HST.out (any_more fun K10 hK10 => ?_)
        clear hK9 K9
        refine any_take (i := 8) hK10 (some 18) (.build 35 #[(0, .tmp 11), (1, .tmp 13), (2, .tmp 17)]) 35 _ (by kernel_rfl) (fun _ d _ _ _ h => by cases d <;> exact h) (by kernel_rfl) (by kernel_rfl) (fun w' hS' => by simp only [opr]; go_simp; try with_reducible rfl) HST.out (fun K11 hK11 => ?_)
        clear hK10 K10
        try simp only [Act.put, List.setIfInBounds_toArray, List.set_cons_zero, List.set_cons_succ]
        refine any_pick (rs := [9]) hK11 (by kernel_rfl) (fun K12 hK12 => ?_)
        clear hK11 K11
        intro i hi
        simp only [List.mem_cons, List.not_mem_nil, or_false] at hi
        rcases hi with rfl
        refine op_plain (some 9) (.alloc 35) 0 (by kernel_rfl) (by kernel_rfl) ?_
        go_wp2
        have st : Stay (fun _ => False) W3 (W3.alloc (.cells #[.int .i64 0, .int .i64 0, .slice none 0 0] 35)) := (Stay.refl _ _).alloc _
        have HAb := hide' (BoxG.new (w := W3) ⟨0, 0, .slice none 0 0⟩ rfl)
        have HAG : Hid (W0.heap.size ≤ W3.heap.size) := HBW.out
        have HAA : Hid (Apart (W3.alloc (.cells #[.int .i64 0, .int .i64 0, .slice none 0 0] 35)) (.slice (some ⟨g5, 0, none⟩) q.n cp6) W3.heap.size) := Apart.new HO.out
        have HST' := hide' (HST.out.trans (stay_any st))
        have HBW' := hide' (Nat.le_trans HBW.out st.size)
        have HO' := hide' (st.owns HO.out (fun _ _ h => h))
        clear st
        clear HST
        have HST := HST'
        clear HST'
        clear HBW
        have HBW := HBW'
        clear HBW'
        clear HO
        have HO := HO'
        clear HO'
        obtain ⟨A8, hA'⟩ : ∃ B, B = W3.heap.size := ⟨_, rfl⟩
        rw [← hA'] at HAb HAA HAG
        rw [← hA']
        clear hA'
        obtain ⟨W7, hW⟩ : ∃ Wq, Wq = (W3.alloc (.cells #[.int .i64 0, .int .i64 0, .slice none 0 0] 35)) := ⟨_, rfl⟩
        rw [← hW] at HAb HAA HST HBW HO
        rw [← hW]
        clear hW
        refine hK12 9 (by simp) _ _ HST.out (any_more fun K13 hK13 => ?_)
        clear hK12 K12
        refine any_pick (rs := [10]) hK13 (by kernel_rfl) (fun K14 hK14 => ?_)
        clear hK13 K13
        intro i hi
        simp only [List.mem_cons, List.not_mem_nil, or_false] at hi
        rcases hi with rfl
        refine op_plain none (.store 35 (.tmp 9) (.tmp 18)) 0 (by kernel_rfl) (by kernel_rfl) ?_
        obtain ⟨z0, z1, z2, e0, e1, e2⟩ := HAb.out
        go_wp2
        generalize hW2 : World.setCell (World.setCell (World.setCell _ _ _) _ _) _ _ = W9
        have HF : Hid (BoxG W9 A8 ⟨q.g3.w, q.g3.h, (.slice (some ⟨g5, 0, none⟩) q.n cp6)⟩) := by rw [← hW2]; exact HAb.out.put ⟨q.g3.w, q.g3.h, (.slice (some ⟨g5, 0, none⟩) q.n cp6)⟩
        have hst : Stay (fun k => k = A8) W7 W9 := by rw [← hW2]; exact (((Stay.refl (fun k => k = A8) W7).setCell (p := ⟨A8, 0, none⟩) rfl _).setCell (p := ⟨A8, 1, none⟩) rfl _).setCell (p := ⟨A8, 2, none⟩) rfl _
        have HO' := hide' (hst.owns HO.out (fun k hk e => HAA.out.2 (by rw [hk, e])))
        have HST' := hide' (HST.out.trans (hst.mono fun k _ e => by rw [e]; exact HAG.out))
        have HNE : Hid (Value.ownBlock (.slice (some ⟨g5, 0, none⟩) q.n cp6) ≠ some A8) := HAA.out.2
        clear z0 z1 z2 e0 e1 e2 hW2 HAb HAA hst HBW
        clear HO
        have HO := HO'
        clear HO'
        clear HST
        have HST := HST'
        clear HST'
        refine hK14 10 (by simp) _ _ HST.out (any_more fun K15 hK15 => ?_)
        clear hK14 K14
        refine any_done hK15 (by kernel_rfl) ?_
        clear hK15 K15
        go_wp2_with fail
        go_meet
        exact ⟨A8, rfl, copied_of HQ.out HST.out HO.out HNE.out HAG.out HF.out⟩
      · refine op_plain (some 9) (.alloc 35) 0 (by kernel_rfl) (by kernel_rfl) ?_
        go_wp2
        have st : Stay (fun _ => False) W1 (W1.alloc (.cells #[.int .i64 0, .int .i64 0, .slice none 0 0] 35)) := (Stay.refl _ _).alloc _
        have HAb := hide' (BoxG.new (w := W1) ⟨0, 0, .slice none 0 0⟩ rfl)
        have HAG : Hid (W0.heap.size ≤ W1.heap.size) := HBW.out
        have HAA : Hid (Apart (W1.alloc (.cells #[.int .i64 0, .int .i64 0, .slice none 0 0] 35)) vO2 W1.heap.size) := Apart.new HO.out
        have HST' := hide' (HST.out.trans (stay_any st))
        have HBW' := hide' (Nat.le_trans HBW.out st.size)
        have HO' := hide' (st.owns HO.out (fun _ _ h => h))
        clear st
        clear HST
        have HST := HST'
        clear HST'
        clear HBW
        have HBW := HBW'
        clear HBW'
        clear HO
        have HO := HO'
        clear HO'
        obtain ⟨A11, hA'⟩ : ∃ B, B = W1.heap.size := ⟨_, rfl⟩
        rw [← hA'] at HAb HAA HAG
        rw [← hA']
        clear hA'
        obtain ⟨W10, hW⟩ : ∃ Wq, Wq = (W1.alloc (.cells #[.int .i64 0, .int .i64 0, .slice none 0 0] 35)) := ⟨_, rfl⟩
        rw [← hW] at HAb HAA HST HBW HO
        rw [← hW]
        clear hW
        refine hK9 9 (by simp) _ _ HST.out (any_more fun K10 hK10 => ?_)
        clear hK9 K9
        refine any_pick (rs := [7]) hK10 (by kernel_rfl) (fun K11 hK11 => ?_)
        clear hK10 K10
        intro i hi
        simp only [List.mem_cons, List.not_mem_nil, or_false] at hi
        rcases hi with rfl
        refine op_plain (some 17) (.call { callee := Callee.builtin Builtin.append, args := #[.tmp 14, .tmp 16], argTypes := #[33, 33] }) 33 (by kernel_rfl) (by kernel_rfl) ?_
        have HSRC := hide' ((HQ.out.stay HST.out (by have := HQ.out.lt; omega)).pix.row0 (c := q.cap))
        have hbig := HQ.out.big
        go_wp2_with (at_builtin; refine appS rfl _ _ 33 rfl Try.underlying33 cell_info rfl (by decide) (by decide) HO.out rfl HSRC.out rfl (seg_one _ _) (by omega) HBW.out ?_; intro v13 W12 ho hst hb; have HO2 := hide' ho; have HT2 := hide' hst; have HB2 := hide' hb; clear ho hst hb)
        have HST' := hide' (HST.out.trans (HT2.out.mono fun k _ hk => (HO.out.lt k hk).1))
        have HBW' := hide' (Nat.le_trans HBW.out HT2.out.size)
        have HAb' := hide' (HAb.out.stay HT2.out (fun h => HAA.out.2 h))
        have HAA' := hide' (HAA.out.step HT2.out HB2.out)
        clear HO HT2 HB2 HSRC hbig
        clear HST
        have HST := HST'
        clear HST'
        clear HBW
        have HBW := HBW'
        clear HBW'
        clear HAb
        have HAb := HAb'
        clear HAb'
        clear HAA
        have HAA := HAA'
        clear HAA'
        have HO := HO2
        clear HO2
        obtain ⟨g14, cp15, rfl⟩ := own_shape HO.out HQ.out.pos
        refine hK11 7 (by simp) _ _ HST.out (any_more fun K12 hK12 => ?_)
        clear hK11 K11
        refine any_take (i := 8) hK12 (some 18) (.build 35 #[(0, .tmp 11), (1, .tmp 13), (2, .tmp 17)]) 35 _ (by kernel_rfl) (fun _ d _ _ _ h => by cases d <;> exact h) (by kernel_rfl) (by kernel_rfl) (fun w' hS' => by simp only [opr]; go_simp; try with_reducible rfl) HST.out (fun K13 hK13 => ?_)
        clear hK12 K12
        try simp only [Act.put, List.setIfInBounds_toArray, List.set_cons_zero, List.set_cons_succ]
        refine any_pick (rs := [10]) hK13 (by kernel_rfl) (fun K14 hK14 => ?_)
        clear hK13 K13
        intro i hi
        simp only [List.mem_cons, List.not_mem_nil, or_false] at hi
        rcases hi with rfl
        refine op_plain none (.store 35 (.tmp 9) (.tmp 18)) 0 (by kernel_rfl) (by kernel_rfl) ?_
        obtain ⟨z0, z1, z2, e0, e1, e2⟩ := HAb.out
        go_wp2
        generalize hW2 : World.setCell (World.setCell (World.setCell _ _ _) _ _) _ _ = W16
        have HF : Hid (BoxG W16 A11 ⟨q.g3.w, q.g3.h, (.slice (some ⟨g14, 0, none⟩) q.n cp15)⟩) := by rw [← hW2]; exact HAb.out.put ⟨q.g3.w, q.g3.h, (.slice (some ⟨g14, 0, none⟩) q.n cp15)⟩
        have hst : Stay (fun k => k = A11) W12 W16 := by rw [← hW2]; exact (((Stay.refl (fun k => k = A11) W12).setCell (p := ⟨A11, 0, none⟩) rfl _).setCell (p := ⟨A11, 1, none⟩) rfl _).setCell (p := ⟨A11, 2, none⟩) rfl _
        have HO' := hide' (hst.owns HO.out (fun k hk e => HAA.out.2 (by rw [hk, e])))
        have HST' := hide' (HST.out.trans (hst.mono fun k _ e => by rw [e]; exact HAG.out))
        have HNE : Hid (Value.ownBlock (.slice (some ⟨g14, 0, none⟩) q.n cp15) ≠ some A11) := HAA.out.2
        clear z0 z1 z2 e0 e1 e2 hW2 HAb HAA hst HBW
        clear HO
        have HO := HO'
        clear HO'
        clear HST
        have HST := HST'
        clear HST'
        refine hK14 10 (by simp) _ _ HST.out (any_more fun K15 hK15 => ?_)
        clear hK14 K14
        refine any_done hK15 (by kernel_rfl) ?_
        clear hK15 K15
        go_wp2_with fail
        go_meet
        exact ⟨A11, rfl, copied_of HQ.out HST.out HO.out HNE.out HAG.out HF.out⟩
    · refine op_plain (some 9) (.alloc 35) 0 (by kernel_rfl) (by kernel_rfl) ?_
      go_wp2
      have st : Stay (fun _ => False) Wd (Wd.alloc (.cells #[.int .i64 0, .int .i64 0, .slice none 0 0] 35)) := (Stay.refl _ _).alloc _
      have HAb := hide' (BoxG.new (w := Wd) ⟨0, 0, .slice none 0 0⟩ rfl)
      have HAG : Hid (W0.heap.size ≤ Wd.heap.size) := HBW.out
      have HAA : Hid (Apart (Wd.alloc (.cells #[.int .i64 0, .int .i64 0, .slice none 0 0] 35)) (.slice none 0 0) Wd.heap.size) := Apart.none _ _
      have HST' := hide' (HST.out.trans (stay_any st))
      have HBW' := hide' (Nat.le_trans HBW.out st.size)
      clear st
      clear HST
      have HST := HST'
      clear HST'
      clear HBW
      have HBW := HBW'
      clear HBW'
      obtain ⟨A18, hA'⟩ : ∃ B, B = Wd.heap.size := ⟨_, rfl⟩
      rw [← hA'] at HAb HAA HAG
      rw [← hA']
      clear hA'
      obtain ⟨W17, hW⟩ : ∃ Wq, Wq = (Wd.alloc (.cells #[.int .i64 0, .int .i64 0, .slice none 0 0] 35)) := ⟨_, rfl⟩
      rw [← hW] at HAb HAA HST HBW
      rw [← hW]
      clear hW
      refine hK7 9 (by simp) _ _ HST.out (any_more fun K8 hK8 => ?_)
      clear hK7 K7
      refine any_pick (rs := [4]) hK8 (by kernel_rfl) (fun K9 hK9 => ?_)
      clear hK8 K8
      intro i hi
      simp only [List.mem_cons, List.not_mem_nil, or_false] at hi
      rcases hi with rfl
      refine op_plain (some 14) (.buildSlice 33 0 #[]) 33 (by kernel_rfl) (by kernel_rfl) ?_
      go_wp2
      have st : Stay (fun _ => False) W17 (W17.alloc (.cells #[] 53)) := (Stay.refl _ _).alloc _
      have HO := hide' (ownsRow_base (owns_newS W17 #[] 53 4 0 rfl (by decide)) HBW.out)
      have HST' := hide' (HST.out.trans (stay_any st))
      have HBW' := hide' (Nat.le_trans HBW.out st.size)
      have HAb' := hide' (HAb.out.keep st)
      have HAA' := hide' (HAA.out.fresh (.cells #[] 53))
      clear st
      clear HST
      have HST := HST'
      clear HST'
      clear HBW
      have HBW := HBW'
      clear HBW'
      clear HAb
      have HAb := HAb'
      clear HAb'
      clear HAA
      have HAA := HAA'
      clear HAA'
      obtain ⟨vO20, hvO⟩ : ∃ v, v = Value.slice (some ⟨W17.heap.size, 0, none⟩) 0 0 := ⟨_, rfl⟩
      rw [← hvO] at HO HAA
      rw [← hvO]
      clear hvO
      obtain ⟨W19, hW⟩ : ∃ Wq, Wq = (W17.alloc (.cells #[] 53)) := ⟨_, rfl⟩
      rw [← hW] at HO HST HBW HAb HAA
      rw [← hW]
      clear hW
      refine hK9 4 (by simp) _ _ HST.out (any_more fun K10 hK10 => ?_)
      clear hK9 K9
      refine any_pick (rs := [7]) hK10 (by kernel_rfl) (fun K11 hK11 => ?_)
      clear hK10 K10
      intro i hi
      simp only [List.mem_cons, List.not_mem_nil, or_false] at hi
      rcases hi with rfl
      refine op_plain (some 17) (.call { callee := Callee.builtin Builtin.append, args := #[.tmp 14, .tmp 16], argTypes := #[33, 33] }) 33 (by kernel_rfl) (by kernel_rfl) ?_
      have HSRC := hide' ((HQ.out.stay HST.out (by have := HQ.out.lt; omega)).pix.row0 (c := q.cap))
      have hbig := HQ.out.big
      go_wp2_with (at_builtin; refine appS rfl _ _ 33 rfl Try.underlying33 cell_info rfl (by decide) (by decide) HO.out rfl HSRC.out rfl (seg_one _ _) (by omega) HBW.out ?_; intro v22 W21 ho hst hb; have HO2 := hide' ho; have HT2 := hide' hst; have HB2 := hide' hb; clear ho hst hb)
      have HST' := hide' (HST.out.trans (HT2.out.mono fun k _ hk => (HO.out.lt k hk).1))
      have HBW' := hide' (Nat.le_trans HBW.out HT2.out.size)
      have HAb' := hide' (HAb.out.stay HT2.out (fun h => HAA.out.2 h))
      have HAA' := hide' (HAA.out.step HT2.out HB2.out)
      clear HO HT2 HB2 HSRC hbig
      clear HST
      have HST := HST'
      clear HST'
      clear HBW
      have HBW := HBW'
      clear HBW'
      clear HAb
      have HAb := HAb'
      clear HAb'
      clear HAA
      have HAA := HAA'
      clear HAA'
      have HO := HO2
      clear HO2
      obtain ⟨g23, cp24, rfl⟩ := own_shape HO.out HQ.out.pos
      refine hK11 7 (by simp) _ _ HST.out (any_more fun K12 hK12 => ?_)
      clear hK11 K11
      refine any_take (i := 8) hK12 (some 18) (.build 35 #[(0, .tmp 11), (1, .tmp 13), (2, .tmp 17)]) 35 _ (by kernel_rfl) (fun _ d _ _ _ h => by cases d <;> exact h) (by kernel_rfl) (by kernel_rfl) (fun w' hS' => by simp only [opr]; go_simp; try with_reducible rfl) HST.out (fun K13 hK13 => ?_)
      clear hK12 K12
      try simp only [Act.put, List.setIfInBounds_toArray, List.set_cons_zero, List.set_cons_succ]
      refine any_pick (rs := [10]) hK13 (by kernel_rfl) (fun K14 hK14 => ?_)
      clear hK13 K13
      intro i hi
      simp only [List.mem_cons, List.not_mem_nil, or_false] at hi
      rcases hi with rfl
      refine op_plain none (.store 35 (.tmp 9) (.tmp 18)) 0 (by kernel_rfl) (by kernel_rfl) ?_
      obtain ⟨z0, z1, z2, e0, e1, e2⟩ := HAb.out
      go_wp2
      generalize hW2 : World.setCell (World.setCell (World.setCell _ _ _) _ _) _ _ = W25
      have HF : Hid (BoxG W25 A18 ⟨q.g3.w, q.g3.h, (.slice (some ⟨g23, 0, none⟩) q.n cp24)⟩) := by rw [← hW2]; exact HAb.out.put ⟨q.g3.w, q.g3.h, (.slice (some ⟨g23, 0, none⟩) q.n cp24)⟩
      have hst : Stay (fun k => k = A18) W21 W25 := by rw [← hW2]; exact (((Stay.refl (fun k => k = A18) W21).setCell (p := ⟨A18, 0, none⟩) rfl _).setCell (p := ⟨A18, 1, none⟩) rfl _).setCell (p := ⟨A18, 2, none⟩) rfl _
      have HO' := hide' (hst.owns HO.out (fun k hk e => HAA.out.2 (by rw [hk, e])))
      have HST' := hide' (HST.out.trans (hst.mono fun k _ e => by rw [e]; exact HAG.out))
      have HNE : Hid (Value.ownBlock (.slice (some ⟨g23, 0, none⟩) q.n cp24) ≠ some A18) := HAA.out.2
      clear z0 z1 z2 e0 e1 e2 hW2 HAb HAA hst HBW
      clear HO
      have HO := HO'
      clear HO'
      clear HST
      have HST := HST'
      clear HST'
      refine hK14 10 (by simp) _ _ HST.out (any_more fun K15 hK15 => ?_)
      clear hK14 K14
      refine any_done hK15 (by kernel_rfl) ?_
      clear hK15 K15
      go_wp2_with fail
      go_meet
      exact ⟨A18, rfl, copied_of HQ.out HST.out HO.out HNE.out HAG.out HF.out⟩
  case rest =>
  obtain ⟨A, rfl, HCP⟩ := hcut
  obtain ⟨p, p1, p2, p3, p4, p5, p6, p7, p8, p9⟩ := HCP.out
  have HS1 := hide' (HS.out.trans p1)
  have HQB1 := hide' (HQB.out.keep p1)
  have HCB1 := hide' (HCB.out.keep p1)
  have HZB1 := hide' (HZB.out.keep p1)
  have HPA := hide' p2
  have HPR := hide' p3
  have HPN := hide' (show p.w = q.w ∧ p.h = q.h ∧ w.heap.size + 3 ≤ p.b ∧ w.heap.size + 3 ≤ A ∧ p.b ≠ A from ⟨p4, p5, by have := HSZ.out; omega, by have := HSZ.out; omega, p9⟩)
  clear p1 p2 p3 p4 p5 p6 p7 p8 p9 HCP HS HQ HQB HCB HZB HSZ
  obtain ⟨b0, b1, b2, b3, b4, b5⟩ := HQB1.out
  go_wp2_with fail
  refine (HI.out _).mono ?_
  rintro e w2 ⟨rfl, hs⟩
  clear b0 b1 b2 b3 b4 b5
  have HS2 := hide' (HS1.out.trans hs)
  have HQB2 := hide' (HQB1.out.keep hs)
  have HCB2 := hide' (HCB1.out.keep hs)
  have HZB2 := hide' (HZB1.out.keep hs)
  have HPA2 := hide' (HPA.out.keep hs)
  have HPR2 := hide' (HPR.out.keep hs)
  clear hs HS1 HQB1 HCB1 HZB1 HPA HPR HI
  cases cn
  · have hp : F = f := by rw [HFF.out]; exact setF_out f c HC.out.symm
    have HP2 := hide' hp
    clear hp HFF
    obtain ⟨a0, a1, a2, a3, a4, a5⟩ := HPA2.out
    obtain ⟨z0, z1, z2, f0, f1, f2⟩ := HZB2.out
    simp only [Rf.g3] at a0 a1 a2
    go_wp2
    exact bodyPost_ret (results_BoxG rfl _ _ _ p.g3 rfl (HZB2.out.put p.g3)) rfl ⟨p, rfl, BoxG.stay_put HS2.out (by omega) _ _ _, by
      rw [HP2.out]
      exact HPR2.out.stay ((((Stay.refl (fun k => k = w.heap.size + 2) w2).setCell (p := ⟨w.heap.size + 2, 0, none⟩) rfl _).setCell (p := ⟨w.heap.size + 2, 1, none⟩) rfl _).setCell (p := ⟨w.heap.size + 2, 2, none⟩) rfl _) (by have := HPN.out; omega), HPN.out.1, HPN.out.2.1, by have := HPN.out; omega⟩
  · obtain ⟨X, Y, rfl, rfl, hX, hY⟩ := ins_true HC.out.symm
    have hp : F = _ := HFF.out.trans (setF_nat f c hX hY)
    have hX' : X < p.w := by rw [HPN.out.1]; exact hX
    have hY' : Y < p.h := by rw [HPN.out.2.1]; exact hY
    have hil := idx_lt hX' hY'
    rw [← HPR2.out.n1, HPN.out.1] at hil
    have hbig := HPR2.out.big
    obtain ⟨i, hi⟩ : ∃ i, i = Y * q.w + X := ⟨_, rfl⟩
    rw [← hi] at hp hil
    obtain ⟨⟨t0, t1, t2, t3⟩, t4, t5, t6, t7⟩ := (HPR2.out.pix i hil).eight
    have HPF : Hid (RefAt (w2.setCells p.b (i * 4) c.parts) p F) := by rw [hp]; exact HPR2.out.put i c
    have hst : Stay (fun k => k = p.b) w2 (w2.setCells p.b (i * 4) c.parts) := (Stay.refl (fun k => k = p.b) w2).setCells p.b _ _ rfl
    have HS3 : Hid (Stay (fun _ => False) w (w2.setCells p.b (i * 4) c.parts)) := HS2.out.setCellsNew p.b _ _ (by have := HPN.out; omega)
    have HPA3 := hide' (HPA2.out.stay hst (by have := HPN.out; omega))
    have HZB3 := hide' (HZB2.out.stay hst (by have := HPN.out; omega))
    have hYw : Y * q.w ≤ i := by omega
    obtain ⟨lo, hlo⟩ : ∃ i, i = Y * q.w := ⟨_, rfl⟩
    have m1 : IntKind.i64.wrap ((Y : Int) * (q.w : Nat)) = (lo : Nat) := by rw [hlo, ← Int.natCast_mul, IntKind.wrap_i64, ← hlo]; omega
    have m2 : IntKind.i64.wrap ((lo : Int) + (X : Int)) = (i : Nat) := by rw [IntKind.wrap_i64]; omega
    have i1 : (i : Int) < (p.n : Nat) := by omega
    obtain ⟨b0, b1, b2, b3, b4, b5⟩ := HQB2.out
    obtain ⟨c0, c1, c2, c3, c4, c5, c6, c7⟩ := HCB2.out
    obtain ⟨a0, a1, a2, a3, a4, a5⟩ := HPA2.out
    have HPN2 := HPN
    clear hp hil hbig hi hYw hlo hX hY hX' hY' hst HFF HC
    simp only [Rf.g3] at b0 b1 b2 a0 a1 a2
    go_upto_region 4 with fail
    generalize hW3 : World.setCell (World.setCell (World.setCell (World.setCell _ _ _) _ _) _ _) _ _ = W3
    have hW4 : W3 = w2.setCells p.b (i * 4) c.parts := hW3.symm
    rw [← hW4] at HPF HS3 HPA3 HZB3
    clear hW3 hW4 a0 a1 a2 a3 a4 a5 b0 b1 b2 b3 b4 b5 c0 c1 c2 c3 c4 c5 c6 c7 t0 t1 t2 t3 t4 t5 t6 t7
    obtain ⟨a0, a1, a2, a3, a4, a5⟩ := HPA3.out
    obtain ⟨z0, z1, z2, f0, f1, f2⟩ := HZB3.out
    simp only [Rf.g3] at a0 a1 a2
    go_wp2
    exact bodyPost_ret (results_BoxG rfl _ _ _ p.g3 rfl (HZB3.out.put p.g3)) rfl ⟨p, rfl, BoxG.stay_put HS3.out (by omega) _ _ _,
      HPF.out.stay ((((Stay.refl (fun k => k = w.heap.size + 2) W3).setCell (p := ⟨w.heap.size + 2, 0, none⟩) rfl _).setCell (p := ⟨w.heap.size + 2, 1, none⟩) rfl _).setCell (p := ⟨w.heap.size + 2, 2, none⟩) rfl _) (by have := HPN.out; omega), HPN.out.1, HPN.out.2.1, by have := HPN.out; omega⟩

end Go.Proofs.Yticccknocjnkpaa
