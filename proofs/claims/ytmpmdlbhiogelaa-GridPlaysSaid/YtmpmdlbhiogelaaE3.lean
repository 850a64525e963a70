/-
  The document's Blit, walked. No conditions.
-/
import Derived.Test.YtmpmdlbhiogelaaE2
namespace Go.Proofs.Ytmpmdlbhiogelaa
open Go.RowKit

/-- The boxes of the document's Blit: from q to t. -/
structure BB (w : World) (q t p : Rf) (r : R) (A : Nat) (wr : World) : Prop where
  stay : Stay (fun _ => False) w wr
  b5 : BoxG wr w.heap.size q.g3
  b6 : BoxG wr (w.heap.size + 1) t.g3
  b7 : Box wr (w.heap.size + 2) r
  b10 : BoxG wr (w.heap.size + 3) ⟨0, 0, .slice none 0 0⟩
  b12 : BoxG wr A p.g3
  num : p.w = t.w ∧ p.h = t.h ∧ w.heap.size + 4 ≤ p.b ∧ w.heap.size + 4 ≤ A ∧ p.b ≠ A

theorem BB.keep {w wr w1 : World} {q t p : Rf} {r : R} {A : Nat} (h : BB w q t p r A wr) (hs : Stay (fun _ => False) wr w1) : BB w q t p r A w1 := ⟨h.stay.trans hs, h.b5.keep hs, h.b6.keep hs, h.b7.keep hs, h.b10.keep hs, h.b12.keep hs, h.num⟩

theorem BB.put {w wr : World} {q t p : Rf} {r : R} {A : Nat} (h : BB w q t p r A wr) (o : Nat) (vs : List Value) : BB w q t p r A (wr.setCells p.b o vs) := by
  have hs : Stay (fun k => k = p.b) wr (wr.setCells p.b o vs) := (Stay.refl (fun k => k = p.b) wr).setCells p.b _ _ rfl
  have := h.num
  exact ⟨h.stay.setCellsNew p.b _ _ (by omega), h.b5.stay hs (by omega), h.b6.stay hs (by omega), h.b7.stay hs (by omega), h.b10.stay hs (by omega), h.b12.stay hs (by omega), h.num⟩

/-- While the document's Blit goes on. -/
structure BS (w : World) (q t p : Rf) (r : R) (A : Nat) (fg f : Nat → Cl) (P : Nat → Nat → Bool) (S : Nat → Nat → Cl) (k j : Nat) (wr : World) : Prop where
  box : BB w q t p r A wr
  src : RefAt wr q fg
  ref : ∃ g, RefAt wr p g ∧ Scan t.w t.h P S f g k j

theorem BS.keep {w wr w1 : World} {q t p : Rf} {r : R} {A : Nat} {fg f : Nat → Cl} {P : Nat → Nat → Bool} {S : Nat → Nat → Cl} {k j : Nat} (h : BS w q t p r A fg f P S k j wr) (hs : Stay (fun _ => False) wr w1) : BS w q t p r A fg f P S k j w1 := by
  obtain ⟨h1, h0, g, h2, h3⟩ := h
  exact ⟨h1.keep hs, h0.keep hs, g, h2.keep hs, h3⟩

/-- The document's Blit: another grid, and how many cells have come. -/
def RefBlitted (q t : Rf) (fg f : Nat → Cl) (r : R) (x y : Int) (w : World) (e : Ending) (w' : World) : Prop := ∃ p f', e = .returned (.tuple #[.agg #[.int .i64 p.g3.w, .int .i64 p.g3.h, p.g3.l], .int .i64 (cntAll (comesB q.w q.h r x y) t.w t.h : Nat)]) ∧ Stay (fun _ => False) w w' ∧ RefAt w' p f' ∧ p.w = t.w ∧ p.h = t.h ∧ w.heap.size ≤ p.b ∧ Blits q.w q.h t.w t.h r x y fg f f'

set_option maxRecDepth 100000 in
set_option maxHeartbeats 4000000 in
theorem refBlit15 (q t : Rf) (fg f : Nat → Cl) (r : R) (x y : Int) (w : World) (hg : RefAt w q fg) (ht : RefAt w t f) (hx : I64 x) (hy : I64 y) : Calls Try.prog 15 #[.agg #[.int .i64 q.g3.w, .int .i64 q.g3.h, q.g3.l], .agg #[.int .i64 t.g3.w, .int .i64 t.g3.h, t.g3.l], .agg #[.int .i64 r.x, .int .i64 r.y, .int .i64 r.w, .int .i64 r.h], .int .i64 x, .int .i64 y] w
    (RefBlitted q t fg f r x y w) := by
  have hs0 : Stay (fun _ => False) w ((((w.alloc (.cells #[.int .i64 q.g3.w, .int .i64 q.g3.h, q.g3.l] 28)).alloc (.cells #[.int .i64 t.g3.w, .int .i64 t.g3.h, t.g3.l] 28)).alloc (.cells #[.int .i64 r.x, .int .i64 r.y, .int .i64 r.w, .int .i64 r.h] 31)).alloc (.cells #[.int .i64 0, .int .i64 0, .slice none 0 0] 28)) := ((((Stay.refl _ _).alloc _).alloc _).alloc _).alloc _
  have HS := hide' hs0
  have HG := hide' (hg.keep hs0)
  have HQ := hide' (ht.keep hs0)
  have HGB := hide' ((((BoxG.new (w := w) q.g3 rfl).alloc (.cells #[.int .i64 t.g3.w, .int .i64 t.g3.h, t.g3.l] 28)).alloc (.cells #[.int .i64 r.x, .int .i64 r.y, .int .i64 r.w, .int .i64 r.h] 31)).alloc (.cells #[.int .i64 0, .int .i64 0, .slice none 0 0] 28))
  have HQB := hide' (((BoxG.new (w := (w.alloc (.cells #[.int .i64 q.g3.w, .int .i64 q.g3.h, q.g3.l] 28))) t.g3 (by simp) : BoxG _ (w.heap.size + 1) t.g3).alloc (.cells #[.int .i64 r.x, .int .i64 r.y, .int .i64 r.w, .int .i64 r.h] 31)).alloc (.cells #[.int .i64 0, .int .i64 0, .slice none 0 0] 28))
  have HRB := hide' ((Box.new (w := ((w.alloc (.cells #[.int .i64 q.g3.w, .int .i64 q.g3.h, q.g3.l] 28)).alloc (.cells #[.int .i64 t.g3.w, .int .i64 t.g3.h, t.g3.l] 28))) r (by simp) : Box _ (w.heap.size + 2) r).alloc (.cells #[.int .i64 0, .int .i64 0, .slice none 0 0] 28))
  have HZB := hide' (BoxG.new (w := (((w.alloc (.cells #[.int .i64 q.g3.w, .int .i64 q.g3.h, q.g3.l] 28)).alloc (.cells #[.int .i64 t.g3.w, .int .i64 t.g3.h, t.g3.l] 28)).alloc (.cells #[.int .i64 r.x, .int .i64 r.y, .int .i64 r.w, .int .i64 r.h] 31))) ⟨0, 0, .slice none 0 0⟩ (by simp) : BoxG _ (w.heap.size + 3) _)
  have HSZ : Hid (w.heap.size + 4 = ((((w.alloc (.cells #[.int .i64 q.g3.w, .int .i64 q.g3.h, q.g3.l] 28)).alloc (.cells #[.int .i64 t.g3.w, .int .i64 t.g3.h, t.g3.l] 28)).alloc (.cells #[.int .i64 r.x, .int .i64 r.y, .int .i64 r.w, .int .i64 r.h] 31)).alloc (.cells #[.int .i64 0, .int .i64 0, .slice none 0 0] 28)).heap.size) := show _ = _ by simp
  have HR := hide' (refRight29 r)
  have HRX := hide' (refRight29 ⟨x, y, 0, 0⟩)
  obtain ⟨c1, hc1⟩ : ∃ c, c = rightB r := ⟨_, rfl⟩
  obtain ⟨c2, hc2⟩ : ∃ c, c = rightB ⟨x, y, 0, 0⟩ := ⟨_, rfl⟩
  rw [← hc1] at HR
  rw [← hc2] at HRX
  obtain ⟨P, hP⟩ : ∃ P : Nat → Nat → Bool, P = comesB q.w q.h r x y := ⟨_, rfl⟩
  have HPE := hide' hP
  have HP : Hid (c1 = true → c2 = true → ∀ X Y, P X Y = (inB r (X - x + r.x) (Y - y + r.y) && insB q.w q.h (X - x + r.x) (Y - y + r.y))) := fun h1 h2 X Y => by
    rw [hP]
    unfold comesB
    rw [← hc1, ← hc2, h1, h2]
    rfl
  have HW : Hid ((c1 && c2) = false → cntAll P t.w t.h = 0 ∧ Blits q.w q.h t.w t.h r x y fg f f) := fun h => by
    rw [hc1, hc2] at h
    have := Blits.wrong (gw := q.w) (gh := q.h) (ow := t.w) (oh := t.h) fg f h
    rw [hP]
    exact ⟨this.2, this.1⟩
  have HBD : Hid (c1 = true → c2 = true → (-1073741824 ≤ r.x ∧ r.x ≤ 1073741824) ∧ (-1073741824 ≤ r.y ∧ r.y ≤ 1073741824) ∧ (-1073741824 ≤ x ∧ x ≤ 1073741824) ∧ -1073741824 ≤ y ∧ y ≤ 1073741824) := fun h1 h2 => by
    have e1 := right_bd (hc1.symm.trans h1)
    have e2 := xy_bd (hc2.symm.trans h2)
    exact ⟨e1.1, e1.2.1, e2.1, e2.2⟩
  have HI : Hid (∀ (u v : Int) w, c1 = true → Mid u → Mid v → Calls Try.prog 30 #[.agg #[.int .i64 r.x, .int .i64 r.y, .int .i64 r.w, .int .i64 r.h], .int .i64 u, .int .i64 v] w (Gives (.bool (inB r u v)) w)) := fun u v w h hu hv => refIn30 r u v w (by rw [← hc1, h]) hu hv
  have HIN := hide' (fun u v w => refIn11 q u v w hg.w1 hg.h1)
  have HAT : Hid (∀ u v w, RefAt w q fg → Calls Try.prog 21 #[.agg #[.int .i64 q.g3.w, .int .i64 q.g3.h, q.g3.l], .int .i64 u, .int .i64 v] w (Gives (.agg #[.int .i32 (atF q.w q.h fg u v).r, .int .i64 (atF q.w q.h fg u v).fg, .int .i64 (atF q.w q.h fg u v).bg, .int .i64 (atF q.w q.h fg u v).fl]) w)) := fun u v w h => refAt21 q fg u v w h
  obtain ⟨S, hSS⟩ : ∃ S : Nat → Nat → Cl, S = fun (X Y : Nat) => atF q.w q.h fg ((X : Int) - x + r.x) ((Y : Int) - y + r.y) := ⟨_, rfl⟩
  have HSS : Hid (∀ X Y : Nat, S X Y = atF q.w q.h fg (X - x + r.x) (Y - y + r.y)) := fun X Y => by rw [hSS]
  have HFI : Hid (∀ g, (∀ X Y : Nat, X < t.w → Y < t.h → g (Y * t.w + X) = if P X Y = true then S X Y else f (Y * t.w + X)) → Blits q.w q.h t.w t.h r x y fg f g) := fun g hg X Y hX hY => by
    rw [hg X Y hX hY, hP, hSS]
  have hw2 : (t.w : Int) ≤ 512 := by have := ht.w2; omega
  have hh2 : (t.h : Int) ≤ 512 := by have := ht.h2; omega
  have HLQ := hide' hg.lt
  obtain ⟨_, _⟩ := hx
  obtain ⟨_, _⟩ := hy
  clear hs0 hg ht hc1 hc2 hP hSS
  go_enter Try.func15, Try.ntmps15
  go_upto_region 1 with fail
  obtain ⟨W0, hW⟩ : ∃ W, W = ((((w.alloc (.cells #[.int .i64 q.g3.w, .int .i64 q.g3.h, q.g3.l] 28)).alloc (.cells #[.int .i64 t.g3.w, .int .i64 t.g3.h, t.g3.l] 28)).alloc (.cells #[.int .i64 r.x, .int .i64 r.y, .int .i64 r.w, .int .i64 r.h] 31)).alloc (.cells #[.int .i64 0, .int .i64 0, .slice none 0 0] 28)) := ⟨_, rfl⟩
  rw [← hW] at HS HG HQ HGB HQB HRB HZB HSZ
  rw [← hW]
  clear hW
  have HW0 : Hid (q.b < W0.heap.size) := HG.out.lt
  go_cut [12] (fun s12 wx => ∃ A, s12 = .pointer (some ⟨A, 0, none⟩) ∧ Hid (Copied W0 t f A wx))
  case first =>
    refine any_begin (fun w' => Stay (fun k => W0.heap.size ≤ k) W0 w') (by kernel_rfl) (fun K0 hK0 => ?_)
    have HST : Hid (Stay (fun k => W0.heap.size ≤ k) W0 W0.drew) := (Stay.refl _ _).drew
    have HBW : Hid (W0.heap.size ≤ W0.drew.heap.size) := Nat.le_refl _
    obtain ⟨Wd, hWd⟩ : ∃ Wd, Wd = W0.drew := ⟨_, rfl⟩
    rw [← hWd] at HST HBW
    rw [← hWd]
    clear hWd
    refine any_take (i := 0) hK0 (some 18) (.fieldAddr 28 (.tmp 6) 0) 0 _ (by kernel_rfl) (fun _ d _ _ _ h => by cases d <;> exact h) (by kernel_rfl) (by kernel_rfl) (fun w' hS' => by simp only [opr]; go_simp; try with_reducible rfl) HST.out (fun K1 hK1 => ?_)
    clear hK0 K0
    try simp only [Act.put, List.setIfInBounds_toArray, List.set_cons_zero, List.set_cons_succ]
    refine any_take (i := 1) hK1 (some 19) (.load 3 (.tmp 18)) 3 _ (by kernel_rfl) (fun _ d _ _ _ h => by cases d <;> exact h) (by kernel_rfl) (by kernel_rfl) (fun w' hS' => by (have hb := HQB.out.stay hS' (by have := HQB.out.lt; omega); obtain ⟨b0, b1, b2, _⟩ := hb; simp only [opr]; go_simp; try with_reducible rfl)) HST.out (fun K2 hK2 => ?_)
    clear hK1 K1
    try simp only [Act.put, List.setIfInBounds_toArray, List.set_cons_zero, List.set_cons_succ]
    refine any_take (i := 2) hK2 (some 20) (.fieldAddr 28 (.tmp 6) 1) 0 _ (by kernel_rfl) (fun _ d _ _ _ h => by cases d <;> exact h) (by kernel_rfl) (by kernel_rfl) (fun w' hS' => by simp only [opr]; go_simp; try with_reducible rfl) HST.out (fun K3 hK3 => ?_)
    clear hK2 K2
    try simp only [Act.put, List.setIfInBounds_toArray, List.set_cons_zero, List.set_cons_succ]
    refine any_take (i := 3) hK3 (some 21) (.load 3 (.tmp 20)) 3 _ (by kernel_rfl) (fun _ d _ _ _ h => by cases d <;> exact h) (by kernel_rfl) (by kernel_rfl) (fun w' hS' => by (have hb := HQB.out.stay hS' (by have := HQB.out.lt; omega); obtain ⟨b0, b1, b2, _⟩ := hb; simp only [opr]; go_simp; try with_reducible rfl)) HST.out (fun K4 hK4 => ?_)
    clear hK3 K3
    try simp only [Act.put, List.setIfInBounds_toArray, List.set_cons_zero, List.set_cons_succ]
    refine any_take (i := 5) hK4 (some 23) (.fieldAddr 28 (.tmp 6) 2) 0 _ (by kernel_rfl) (fun _ d _ _ _ h => by cases d <;> exact h) (by kernel_rfl) (by kernel_rfl) (fun w' hS' => by simp only [opr]; go_simp; try with_reducible rfl) HST.out (fun K5 hK5 => ?_)
    clear hK4 K4
    try simp only [Act.put, List.setIfInBounds_toArray, List.set_cons_zero, List.set_cons_succ]
    refine any_take (i := 6) hK5 (some 24) (.load 26 (.tmp 23)) 26 _ (by kernel_rfl) (fun _ d _ _ _ h => by cases d <;> exact h) (by kernel_rfl) (by kernel_rfl) (fun w' hS' => by (have hb := HQB.out.stay hS' (by have := HQB.out.lt; omega); obtain ⟨b0, b1, b2, _⟩ := hb; simp only [opr]; go_simp; try with_reducible rfl)) HST.out (fun K6 hK6 => ?_)
    clear hK5 K5
    try simp only [Act.put, List.setIfInBounds_toArray, List.set_cons_zero, List.set_cons_succ]
    refine any_pick (rs := [4, 9]) hK6 (by kernel_rfl) (fun K7 hK7 => ?_)
    clear hK6 K6
    intro i hi
    simp only [List.mem_cons, List.not_mem_nil, or_false] at hi
    rcases hi with rfl | rfl
    · refine op_plain (some 22) (.buildSlice 26 0 #[]) 26 (by kernel_rfl) (by kernel_rfl) ?_
      go_wp2
      have st : Stay (fun _ => False) Wd (Wd.alloc (.cells #[] 35)) := (Stay.refl _ _).alloc _
      have HO := hide' (ownsRow_base (owns_newS Wd #[] 35 4 0 rfl (by decide)) HBW.out)
      have HST' := hide' (HST.out.trans (stay_any st))
      have HBW' := hide' (Nat.le_trans HBW.out st.size)
      clear st
      clear HST
      have HST := HST'
      clear HST'
      clear HBW
      have HBW := HBW'
      clear HBW'
      obtain ⟨vO2, hvO⟩ : ∃ v, v = Value.slice (some ⟨Wd.heap.size, 0, none⟩) 0 0 := ⟨_, rfl⟩
      rw [← hvO] at HO
      rw [← hvO]
      clear hvO
      obtain ⟨W1, hW⟩ : ∃ Wq, Wq = (Wd.alloc (.cells #[] 35)) := ⟨_, rfl⟩
      rw [← hW] at HO HST HBW
      rw [← hW]
      clear hW
      refine hK7 4 (by simp) _ _ HST.out (any_more fun K8 hK8 => ?_)
      clear hK7 K7
      refine any_pick (rs := [7, 9]) hK8 (by kernel_rfl) (fun K9 hK9 => ?_)
      clear hK8 K8
      intro i hi
      simp only [List.mem_cons, List.not_mem_nil, or_false] at hi
      rcases hi with rfl | rfl
      · refine op_plain (some 25) (.call { callee := Callee.builtin Builtin.append, args := #[.tmp 22, .tmp 24], argTypes := #[26, 26] }) 26 (by kernel_rfl) (by kernel_rfl) ?_
        have HSRC := hide' ((HQ.out.stay HST.out (by have := HQ.out.lt; omega)).pix.row0 (c := t.cap))
        have hbig := HQ.out.big
        go_wp2_with (at_builtin; refine appS rfl _ _ 26 rfl Try.underlying26 cell_info rfl (by decide) (by decide) HO.out rfl HSRC.out rfl (seg_one _ _) (by omega) HBW.out ?_; intro v4 W3 ho hst hb; have HO2 := hide' ho; have HT2 := hide' hst; have HB2 := hide' hb; clear ho hst hb)
        have HST' := hide' (HST.out.trans (HT2.out.mono fun k _ hk => (HO.out.lt k hk).1))
        have HBW' := hide' (Nat.le_trans HBW.out HT2.out.size)
        clear HO HT2 HB2 HSRC hbig
        clear HST
        have HST := HST'
        clear HST'
        clear HBW
        have HBW := HBW'
        clear HBW'
        have HO := HO2
        clear HO2
        obtain ⟨g5, cp6, rfl⟩ := own_shape HO.out HQ.out.pos
        refine hK9 7 (by simp) _ _ HST.out (any_more fun K10 hK10 => ?_)
        clear hK9 K9
        refine any_take (i := 8) hK10 (some 26) (.build 28 #[(0, .tmp 19), (1, .tmp 21), (2, .tmp 25)]) 28 _ (by kernel_rfl) (fun _ d _ _ _ h => by cases d <;> exact h) (by kernel_rfl) (by kernel_rfl) (fun w' hS' => by simp only [opr]; go_simp; try with_reducible rfl) HST.out (fun K11 hK11 => ?_)
        clear hK10 K10
        try simp only [Act.put, List.setIfInBounds_toArray, List.set_cons_zero, List.set_cons_succ]
        refine any_pick (rs := [9]) hK11 (by kernel_rfl) (fun K12 hK12 => ?_)
        clear hK11 K11
        intro i hi
        simp only [List.mem_cons, List.not_mem_nil, or_false] at hi
        rcases hi with rfl
        refine op_plain (some 12) (.alloc 28) 0 (by kernel_rfl) (by kernel_rfl) ?_
        go_wp2
        have st : Stay (fun _ => False) W3 (W3.alloc (.cells #[.int .i64 0, .int .i64 0, .slice none 0 0] 28)) := (Stay.refl _ _).alloc _
        have HAb := hide' (BoxG.new (w := W3) ⟨0, 0, .slice none 0 0⟩ rfl)
        have HAG : Hid (W0.heap.size ≤ W3.heap.size) := HBW.out
        have HAA : Hid (Apart (W3.alloc (.cells #[.int .i64 0, .int .i64 0, .slice none 0 0] 28)) (.slice (some ⟨g5, 0, none⟩) t.n cp6) W3.heap.size) := Apart.new HO.out
        have HST' := hide' (HST.out.trans (stay_any st))
        have HBW' := hide' (Nat.le_trans HBW.out st.size)
        have HO' := hide' (st.owns HO.out (fun _ _ h => h))
        clear st
        clear HST
        have HST := HST'
        clear HST'
        clear HBW
        have HBW := HBW'
        clear HBW'
        clear HO
        have HO := HO'
        clear HO'
        obtain ⟨A8, hA'⟩ : ∃ B, B = W3.heap.size := ⟨_, rfl⟩
        rw [← hA'] at HAb HAA HAG
        rw [← hA']
        clear hA'
        obtain ⟨W7, hW⟩ : ∃ Wq, Wq = (W3.alloc (.cells #[.int .i64 0, .int .i64 0, .slice none 0 0] 28)) := ⟨_, rfl⟩
        rw [← hW] at HAb HAA HST HBW HO
        rw [← hW]
        clear hW
        refine hK12 9 (by simp) _ _ HST.out (any_more fun K13 hK13 => ?_)
        clear hK12 K12
        refine any_pick (rs := [10]) hK13 (by kernel_rfl) (fun K14 hK14 => ?_)
        clear hK13 K13
        intro i hi
        simp only [List.mem_cons, List.not_mem_nil, or_false] at hi
        rcases hi with rfl
        refine op_plain none (.store 28 (.tmp 12) (.tmp 26)) 0 (by kernel_rfl) (by kernel_rfl) ?_
        obtain ⟨z0, z1, z2, e0, e1, e2⟩ := HAb.out
        go_wp2
        generalize hW2 : World.setCell (World.setCell (World.setCell _ _ _) _ _) _ _ = W9
        have HF : Hid (BoxG W9 A8 ⟨t.g3.w, t.g3.h, (.slice (some ⟨g5, 0, none⟩) t.n cp6)⟩) := by rw [← hW2]; exact HAb.out.put ⟨t.g3.w, t.g3.h, (.slice (some ⟨g5, 0, none⟩) t.n cp6)⟩
        have hst : Stay (fun k => k = A8) W7 W9 := by rw [← hW2]; exact (((Stay.refl (fun k => k = A8) W7).setCell (p := ⟨A8, 0, none⟩) rfl _).setCell (p := ⟨A8, 1, none⟩) rfl _).setCell (p := ⟨A8, 2, none⟩) rfl _
        have HO' := hide' (hst.owns HO.out (fun k hk e => HAA.out.2 (by rw [hk, e])))
        have HST' := hide' (HST.out.trans (hst.mono fun k _ e => by rw [e]; exact HAG.out))
        have HNE : Hid (Value.ownBlock (.slice (some ⟨g5, 0, none⟩) t.n cp6) ≠ some A8) := HAA.out.2
        clear z0 z1 z2 e0 e1 e2 hW2 HAb HAA hst HBW
        clear HO
        have HO := HO'
        clear HO'
        clear HST
        have HST := HST'
        clear HST'
        refine hK14 10 (by simp) _ _ HST.out (any_more fun K15 hK15 => ?_)
        clear hK14 K14
        refine any_done hK15 (by kernel_rfl) ?_
        clear hK15 K15
        go_wp2_with fail
        go_meet
        exact ⟨A8, rfl, copied_of HQ.out HST.out HO.out HNE.out HAG.out HF.out⟩
      · refine op_plain (some 12) (.alloc 28) 0 (by kernel_rfl) (by kernel_rfl) ?_
        go_wp2
        have st : Stay (fun _ => False) W1 (W1.alloc (.cells #[.int .i64 0, .int .i64 0, .slice none 0 0] 28)) := (Stay.refl _ _).alloc _
        have HAb := hide' (BoxG.new (w := W1) ⟨0, 0, .slice none 0 0⟩ rfl)
        have HAG : Hid (W0.heap.size ≤ W1.heap.size) := HBW.out
        have HAA : Hid (Apart (W1.alloc (.cells #[.int .i64 0, .int .i64 0, .slice none 0 0] 28)) vO2 W1.heap.size) := Apart.new HO.out
        have HST' := hide' (HST.out.trans (stay_any st))
        have HBW' := hide' (Nat.le_trans HBW.out st.size)
        have HO' := hide' (st.owns HO.out (fun _ _ h => h))
        clear st
        clear HST
        have HST := HST'
        clear HST'
        clear HBW
        have HBW := HBW'
        clear HBW'
        clear HO
        have HO := HO'
        clear HO'
        obtain ⟨A11, hA'⟩ : ∃ B, B = W1.heap.size := ⟨_, rfl⟩
        rw [← hA'] at HAb HAA HAG
        rw [← hA']
        clear hA'
        obtain ⟨W10, hW⟩ : ∃ Wq, Wq = (W1.alloc (.cells #[.int .i64 0, .int .i64 0, .slice none 0 0] 28)) := ⟨_, rfl⟩
        rw [← hW] at HAb HAA HST HBW HO
        rw [← hW]
        clear hW
        refine hK9 9 (by simp) _ _ HST.out (any_more fun K10 hK10 => ?_)
        clear hK9 K9
        refine any_pick (rs := [7]) hK10 (by kernel_rfl) (fun K11 hK11 => ?_)
        clear hK10 K10
        intro i hi
        simp only [List.mem_cons, List.not_mem_nil, or_false] at hi
        rcases hi with rfl
        refine op_plain (some 25) (.call { callee := Callee.builtin Builtin.append, args := #[.tmp 22, .tmp 24], argTypes := #[26, 26] }) 26 (by kernel_rfl) (by kernel_rfl) ?_
        have HSRC := hide' ((HQ.out.stay HST.out (by have := HQ.out.lt; omega)).pix.row0 (c := t.cap))
        have hbig := HQ.out.big
        go_wp2_with (at_builtin; refine appS rfl _ _ 26 rfl Try.underlying26 cell_info rfl (by decide) (by decide) HO.out rfl HSRC.out rfl (seg_one _ _) (by omega) HBW.out ?_; intro v13 W12 ho hst hb; have HO2 := hide' ho; have HT2 := hide' hst; have HB2 := hide' hb; clear ho hst hb)
        have HST' := hide' (HST.out.trans (HT2.out.mono fun k _ hk => (HO.out.lt k hk).1))
        have HBW' := hide' (Nat.le_trans HBW.out HT2.out.size)
        have HAb' := hide' (HAb.out.stay HT2.out (fun h => HAA.out.2 h))
        have HAA' := hide' (HAA.out.step HT2.out HB2.out)
        clear HO HT2 HB2 HSRC hbig
        clear HST
        have HST := HST'
        clear HST'
        clear HBW
        have HBW := HBW'
        clear HBW'
        clear HAb
        have HAb := HAb'
        clear HAb'
        clear HAA
        have HAA := HAA'
        clear HAA'
        have HO := HO2
        clear HO2
        obtain ⟨g14, cp15, rfl⟩ := own_shape HO.out HQ.out.pos
        refine hK11 7 (by simp) _ _ HST.out (any_more fun K12 hK12 => ?_)
        clear hK11 K11
        refine any_take (i := 8) hK12 (some 26) (.build 28 #[(0, .tmp 19), (1, .tmp 21), (2, .tmp 25)]) 28 _ (by kernel_rfl) (fun _ d _ _ _ h => by cases d <;> exact h) (by kernel_rfl) (by kernel_rfl) (fun w' hS' => by simp only [opr]; go_simp; try with_reducible rfl) HST.out (fun K13 hK13 => ?_)
        clear hK12 K12
        try simp only [Act.put, List.setIfInBounds_toArray, List.set_cons_zero, List.set_cons_succ]
        refine any_pick (rs := [10]) hK13 (by kernel_rfl) (fun K14 hK14 => ?_)
        clear hK13 K13
        intro i hi
        simp only [List.mem_cons, List.not_mem_nil, or_false] at hi
        rcases hi with rfl
        refine op_plain none (.store 28 (.tmp 12) (.tmp 26)) 0 (by kernel_rfl) (by kernel_rfl) ?_
        obtain ⟨z0, z1, z2, e0, e1, e2⟩ := HAb.out
        go_wp2
        generalize hW2 : World.setCell (World.setCell (World.setCell _ _ _) _ _) _ _ = W16
        have HF : Hid (BoxG W16 A11 ⟨t.g3.w, t.g3.h, (.slice (some ⟨g14, 0, none⟩) t.n cp15)⟩) := by rw [← hW2]; exact HAb.out.put ⟨t.g3.w, t.g3.h, (.slice (some ⟨g14, 0, none⟩) t.n cp15)⟩
        have hst : Stay (fun k => k = A11) W12 W16 := by rw [← hW2]; exact (((Stay.refl (fun k => k = A11) W12).setCell (p := ⟨A11, 0, none⟩) rfl _).setCell (p := ⟨A11, 1, none⟩) rfl _).setCell (p := ⟨A11, 2, none⟩) rfl _
        have HO' := hide' (hst.owns HO.out (fun k hk e => HAA.out.2 (by rw [hk, e])))
        have HST' := hide' (HST.out.trans (hst.mono fun k _ e => by rw [e]; exact HAG.out))
        have HNE : Hid (Value.ownBlock (.slice (some ⟨g14, 0, none⟩) t.n cp15) ≠ some A11) := HAA.out.2
        clear z0 z1 z2 e0 e1 e2 hW2 HAb HAA hst HBW
        clear HO
        have HO := HO'
        clear HO'
        clear HST
        have HST := HST'
        clear HST'
        refine hK14 10 (by simp) _ _ HST.out (any_more fun K15 hK15 => ?_)
        clear hK14 K14
        refine any_done hK15 (by kernel_rfl) ?_
        clear hK15 K15
        go_wp2_with fail
        go_meet
        exact ⟨A11, rfl, copied_of HQ.out HST.out HO.out HNE.out HAG.out HF.out⟩
    · refine op_plain (some 12) (.alloc 28) 0 (by kernel_rfl) (by kernel_rfl) ?_
      go_wp2
      have st : Stay (fun _ => False) Wd (Wd.alloc (.cells #[.int .i64 0, .int .i64 0, .slice none 0 0] 28)) := (Stay.refl _ _).alloc _
      have HAb := hide' (BoxG.new (w := Wd) ⟨0, 0, .slice none 0 0⟩ rfl)
      have HAG : Hid (W0.heap.size ≤ Wd.heap.size) := HBW.out
      have HAA : Hid (Apart (Wd.alloc (.cells #[.int .i64 0, .int .i64 0, .slice none 0 0] 28)) (.slice none 0 0) Wd.heap.size) := Apart.none _ _
      have HST' := hide' (HST.out.trans (stay_any st))
      have HBW' := hide' (Nat.le_trans HBW.out st.size)
      clear st
      clear HST
      have HST := HST'
      clear HST'
      clear HBW
      have HBW := HBW'
      clear HBW'
      obtain ⟨A18, hA'⟩ : ∃ B, B = Wd.heap.size := ⟨_, rfl⟩
      rw [← hA'] at HAb HAA HAG
      rw [← hA']
      clear hA'
      obtain ⟨W17, hW⟩ : ∃ Wq, Wq = (Wd.alloc (.cells #[.int .i64 0, .int .i64 0, .slice none 0 0] 28)) := ⟨_, rfl⟩
      rw [← hW] at HAb HAA HST HBW
      rw [← hW]
      clear hW
      refine hK7 9 (by simp) _ _ HST.out (any_more fun K8 hK8 => ?_)
      clear hK7 K7
      refine any_pick (rs := [4]) hK8 (by kernel_rfl) (fun K9 hK9 => ?_)
      clear hK8 K8
      intro i hi
      simp only [List.mem_cons, List.not_mem_nil, or_false] at hi
      rcases hi with rfl
      refine op_plain (some 22) (.buildSlice 26 0 #[]) 26 (by kernel_rfl) (by kernel_rfl) ?_
      go_wp2
      have st : Stay (fun _ => False) W17 (W17.alloc (.cells #[] 35)) := (Stay.refl _ _).alloc _
      have HO := hide' (ownsRow_base (owns_newS W17 #[] 35 4 0 rfl (by decide)) HBW.out)
      have HST' := hide' (HST.out.trans (stay_any st))
      have HBW' := hide' (Nat.le_trans HBW.out st.size)
      have HAb' := hide' (HAb.out.keep st)
      have HAA' := hide' (HAA.out.fresh (.cells #[] 35))
      clear st
      clear HST
      have HST := HST'
      clear HST'
      clear HBW
      have HBW := HBW'
      clear HBW'
      clear HAb
      have HAb := HAb'
      clear HAb'
      clear HAA
      have HAA := HAA'
      clear HAA'
      obtain ⟨vO20, hvO⟩ : ∃ v, v = Value.slice (some ⟨W17.heap.size, 0, none⟩) 0 0 := ⟨_, rfl⟩
      rw [← hvO] at HO HAA
      rw [← hvO]
      clear hvO
      obtain ⟨W19, hW⟩ : ∃ Wq, Wq = (W17.alloc (.cells #[] 35)) := ⟨_, rfl⟩
      rw [← hW] at HO HST HBW HAb HAA
      rw [← hW]
      clear hW
      refine hK9 4 (by simp) _ _ HST.out (any_more fun K10 hK10 => ?_)
      clear hK9 K9
      refine any_pick (rs := [7]) hK10 (by kernel_rfl) (fun K11 hK11 => ?_)
      clear hK10 K10
      intro i hi
      simp only [List.mem_cons, List.not_mem_nil, or_false] at hi
      rcases hi with rfl
      refine op_plain (some 25) (.call { callee := Callee.builtin Builtin.append, args := #[.tmp 22, .tmp 24], argTypes := #[26, 26] }) 26 (by kernel_rfl) (by kernel_rfl) ?_
      have HSRC := hide' ((HQ.out.stay HST.out (by have := HQ.out.lt; omega)).pix.row0 (c := t.cap))
      have hbig := HQ.out.big
      go_wp2_with (at_builtin; refine appS rfl _ _ 26 rfl Try.underlying26 cell_info rfl (by decide) (by decide) HO.out rfl HSRC.out rfl (seg_one _ _) (by omega) HBW.out ?_; intro v22 W21 ho hst hb; have HO2 := hide' ho; have HT2 := hide' hst; have HB2 := hide' hb; clear ho hst hb)
      have HST' := hide' (HST.out.trans (HT2.out.mono fun k _ hk => (HO.out.lt k hk).1))
      have HBW' := hide' (Nat.le_trans HBW.out HT2.out.size)
      have HAb' := hide' (HAb.out.stay HT2.out (fun h => HAA.out.2 h))
      have HAA' := hide' (HAA.out.step HT2.out HB2.out)
      clear HO HT2 HB2 HSRC hbig
      clear HST
      have HST := HST'
      clear HST'
      clear HBW
      have HBW := HBW'
      clear HBW'
      clear HAb
      have HAb := HAb'
      clear HAb'
      clear HAA
      have HAA := HAA'
      clear HAA'
      have HO := HO2
      clear HO2
      obtain ⟨g23, cp24, rfl⟩ := own_shape HO.out HQ.out.pos
      refine hK11 7 (by simp) _ _ HST.out (any_more fun K12 hK12 => ?_)
      clear hK11 K11
      refine any_take (i := 8) hK12 (some 26) (.build 28 #[(0, .tmp 19), (1, .tmp 21), (2, .tmp 25)]) 28 _ (by kernel_rfl) (fun _ d _ _ _ h => by cases d <;> exact h) (by kernel_rfl) (by kernel_rfl) (fun w' hS' => by simp only [opr]; go_simp; try with_reducible rfl) HST.out (fun K13 hK13 => ?_)
      clear hK12 K12
      try simp only [Act.put, List.setIfInBounds_toArray, List.set_cons_zero, List.set_cons_succ]
      refine any_pick (rs := [10]) hK13 (by kernel_rfl) (fun K14 hK14 => ?_)
      clear hK13 K13
      intro i hi
      simp only [List.mem_cons, List.not_mem_nil, or_false] at hi
      rcases hi with rfl
      refine op_plain none (.store 28 (.tmp 12) (.tmp 26)) 0 (by kernel_rfl) (by kernel_rfl) ?_
      obtain ⟨z0, z1, z2, e0, e1, e2⟩ := HAb.out
      go_wp2
      generalize hW2 : World.setCell (World.setCell (World.setCell _ _ _) _ _) _ _ = W25
      have HF : Hid (BoxG W25 A18 ⟨t.g3.w, t.g3.h, (.slice (some ⟨g23, 0, none⟩) t.n cp24)⟩) := by rw [← hW2]; exact HAb.out.put ⟨t.g3.w, t.g3.h, (.slice (some ⟨g23, 0, none⟩) t.n cp24)⟩
      have hst : Stay (fun k => k = A18) W21 W25 := by rw [← hW2]; exact (((Stay.refl (fun k => k = A18) W21).setCell (p := ⟨A18, 0, none⟩) rfl _).setCell (p := ⟨A18, 1, none⟩) rfl _).setCell (p := ⟨A18, 2, none⟩) rfl _
      have HO' := hide' (hst.owns HO.out (fun k hk e => HAA.out.2 (by rw [hk, e])))
      have HST' := hide' (HST.out.trans (hst.mono fun k _ e => by rw [e]; exact HAG.out))
      have HNE : Hid (Value.ownBlock (.slice (some ⟨g23, 0, none⟩) t.n cp24) ≠ some A18) := HAA.out.2
      clear z0 z1 z2 e0 e1 e2 hW2 HAb HAA hst HBW
      clear HO
      have HO := HO'
      clear HO'
      clear HST
      have HST := HST'
      clear HST'
      refine hK14 10 (by simp) _ _ HST.out (any_more fun K15 hK15 => ?_)
      clear hK14 K14
      refine any_done hK15 (by kernel_rfl) ?_
      clear hK15 K15
      go_wp2_with fail
      go_meet
      exact ⟨A18, rfl, copied_of HQ.out HST.out HO.out HNE.out HAG.out HF.out⟩
  case rest =>
  obtain ⟨A, rfl, HCP⟩ := hcut
  obtain ⟨p, p1, p2, p3, p4, p5, p6, p7, p8, p9⟩ := HCP.out
  have HFS : Hid (BS w q t p r A fg f P S 0 0 wc) := ⟨⟨HS.out.trans p1, HGB.out.keep p1, HQB.out.keep p1, HRB.out.keep p1, HZB.out.keep p1, p2, p4, p5, by have := HSZ.out; omega, by have := HSZ.out; omega, p9⟩, HG.out.keep p1, f, p3, Scan.none _ _ _ _ _⟩
  have HNE : Hid (¬ q.b = p.b) := by have := HW0.out; show ¬ q.b = p.b; omega
  have HPF : Hid (RefAt wc p f) := p3
  clear p1 p2 p3 p4 p5 p6 p7 p8 p9 HCP HS HQ HG HGB HQB HRB HZB HSZ HW0
  obtain ⟨d0, d1, d2, d3, d4, d5, d6, d7⟩ := HFS.out.box.b7
  go_wp2_with fail
  refine (HR.out _).mono ?_
  rintro e w1 ⟨rfl, hs⟩
  have HFS1 := hide' (HFS.out.keep hs)
  have HPF1 := hide' (HPF.out.keep hs)
  clear hs d0 d1 d2 d3 d4 d5 d6 d7 HFS HPF
  cases c1
  · skip
    have HWW := hide' (HW.out (by first | rfl | simp))
    obtain ⟨b0, b1, b2, b3, b4, b5⟩ := HFS1.out.box.b12
    simp only [Rf.g3] at b0 b1 b2
    obtain ⟨z0, z1, z2, f0, f1, f2⟩ := HFS1.out.box.b10
    go_wp2
    have hnum := HFS1.out.box.num
    refine bodyPost_ret (results_g3_int rfl _ _ _ p.g3 0 rfl rfl (HFS1.out.box.b10.put p.g3)) rfl ⟨p, f, ?_, BoxG.stay_put HFS1.out.box.stay (by omega) _ _ _, ?_, hnum.1, hnum.2.1, by omega, HWW.out.2⟩
    · rw [← HPE.out, HWW.out.1]; rfl
    · exact HPF1.out.stay ((((Stay.refl (fun k => k = w.heap.size + 3) w1).setCell (p := ⟨w.heap.size + 3, 0, none⟩) rfl _).setCell (p := ⟨w.heap.size + 3, 1, none⟩) rfl _).setCell (p := ⟨w.heap.size + 3, 2, none⟩) rfl _) (by omega)
  · go_wp2_with fail
    refine (HRX.out _).mono ?_
    rintro e w2 ⟨rfl, hs⟩
    have HFS2 := hide' (HFS1.out.keep hs)
    have HPF2 := hide' (HPF1.out.keep hs)
    clear hs HFS1 HPF1
    cases c2
    · skip
      have HWW := hide' (HW.out (by first | rfl | simp))
      obtain ⟨b0, b1, b2, b3, b4, b5⟩ := HFS2.out.box.b12
      simp only [Rf.g3] at b0 b1 b2
      obtain ⟨z0, z1, z2, f0, f1, f2⟩ := HFS2.out.box.b10
      go_wp2
      have hnum := HFS2.out.box.num
      refine bodyPost_ret (results_g3_int rfl _ _ _ p.g3 0 rfl rfl (HFS2.out.box.b10.put p.g3)) rfl ⟨p, f, ?_, BoxG.stay_put HFS2.out.box.stay (by omega) _ _ _, ?_, hnum.1, hnum.2.1, by omega, HWW.out.2⟩
      · rw [← HPE.out, HWW.out.1]; rfl
      · exact HPF2.out.stay ((((Stay.refl (fun k => k = w.heap.size + 3) w2).setCell (p := ⟨w.heap.size + 3, 0, none⟩) rfl _).setCell (p := ⟨w.heap.size + 3, 1, none⟩) rfl _).setCell (p := ⟨w.heap.size + 3, 2, none⟩) rfl _) (by omega)
    · obtain ⟨⟨x1, x2⟩, ⟨x3, x4⟩, ⟨x5, x6⟩, x7, x8⟩ := HBD.out (by first | rfl | trivial) (by first | rfl | trivial)
      clear HW HBD HPF2
      go_wp2_with fail
      go_loopg [13, 14] t.h (fun g v13 v14 wr => ∃ k : Nat, k ≤ t.h ∧ g = t.h - k ∧ v13 = .int .i64 (cntAll P t.w k : Nat) ∧ v14 = .int .i64 (k : Int) ∧ Hid (BS w q t p r A fg f P S k 0 wr))
      case atStart => exact ⟨0, Nat.zero_le _, rfl, rfl, rfl, HFS2⟩
      case round =>
        obtain ⟨k, hk, rfl, rfl, rfl, HFS⟩ := hrel
        obtain ⟨a0, a1, a2, a3, a4, a5⟩ := HFS.out.box.b6
        simp only [Rf.g3] at a0 a1 a2
        by_cases hkh : k < t.h
        · have k1 : (k : Int) < (t.h : Nat) := by omega
          go_wp2_with fail
          clear a0 a1 a2 a3 a4 a5
          go_loopg [13, 15] t.w (fun g v13 v15 wr => ∃ j : Nat, j ≤ t.w ∧ g = t.w - j ∧ v13 = .int .i64 (cntAll P t.w k + cntRow (fun X => P X k) j : Nat) ∧ v15 = .int .i64 (j : Int) ∧ Hid (BS w q t p r A fg f P S k j wr))
          case atStart => exact ⟨0, Nat.zero_le _, rfl, rfl, rfl, HFS⟩
          case round =>
            obtain ⟨j, hj, rfl, rfl, rfl, HFS⟩ := hrel
            obtain ⟨a0, a1, a2, a3, a4, a5⟩ := HFS.out.box.b6
            simp only [Rf.g3] at a0 a1 a2
            by_cases hjw : j < t.w
            · have j1 : (j : Int) < (t.w : Nat) := by omega
              obtain ⟨d0, d1, d2, d3, d4, d5, d6, d7⟩ := HFS.out.box.b7
              have hpj := HP.out (by first | rfl | trivial) (by first | rfl | trivial) j k
              have HCV0 := hide' (HSS.out j k)
              obtain ⟨u1, hu1⟩ : ∃ u, u = (j : Int) - x := ⟨_, rfl⟩
              obtain ⟨v1, hv1⟩ : ∃ u, u = (k : Int) - y := ⟨_, rfl⟩
              obtain ⟨u, hu⟩ : ∃ u, u = (j : Int) - x + r.x := ⟨_, rfl⟩
              obtain ⟨v, hv⟩ : ∃ u, u = (k : Int) - y + r.y := ⟨_, rfl⟩
              rw [← hu, ← hv] at hpj HCV0
              have e1 : IntKind.i64.wrap ((j : Int) - x) = u1 := by rw [IntKind.wrap_i64]; omega
              have e2 : IntKind.i64.wrap ((k : Int) - y) = v1 := by rw [IntKind.wrap_i64]; omega
              have e3 : IntKind.i64.wrap (u1 + r.x) = u := by rw [IntKind.wrap_i64]; omega
              have e4 : IntKind.i64.wrap (v1 + r.y) = v := by rw [IntKind.wrap_i64]; omega
              have HI2 := hide' (fun w => HI.out u v w (by first | rfl | trivial) (by unfold Mid; omega) (by unfold Mid; omega))
              have HIN2 := hide' (fun w => HIN.out u v w)
              obtain ⟨i1, hi1⟩ : ∃ b, b = inB r u v := ⟨_, rfl⟩
              obtain ⟨i2, hi2⟩ : ∃ b, b = insB q.w q.h u v := ⟨_, rfl⟩
              rw [← hi1] at HI2 hpj
              rw [← hi2] at HIN2 hpj
              obtain ⟨m, hm⟩ : ∃ m, m = cntAll P t.w k + cntRow (fun X => P X k) j := ⟨_, rfl⟩
              have hmb : m ≤ 263000 := by
                have h1 := cnt_bd P t.w k
                have h2 := cntRow_bd (fun X => P X k) j
                have h3 : k * t.w ≤ 512 * 512 := Nat.mul_le_mul (by omega) (by omega)
                omega
              have HM : Hid (∀ b, P j k = b → cntAll P t.w k + cntRow (fun X => P X k) (j + 1) = m + if b = true then 1 else 0) := fun b hb => by
                rw [← hb]
                show _ + (cntRow (fun X => P X k) j + if P j k = true then 1 else 0) = _
                rw [hm]
                omega
              rw [← hm]
              have HPJ0 := hide' hpj
              clear hm hpj hu1 hv1 hu hv hi1 hi2
              go_wp2_with fail
              go_quiet (fail)
              go_wp2_with fail
              refine (HI2.out _).mono ?_
              rintro e w3 ⟨rfl, hs⟩
              have HFS3 := hide' (HFS.out.keep (((Stay.refl _ _).drewN _).trans hs))
              clear hs a0 a1 a2 a3 a4 a5 d0 d1 d2 d3 d4 d5 d6 d7 HFS HI2
              cases i1
              · have HPJ : Hid (P j k = false) := HPJ0.out
                have HFS5 : Hid (BS w q t p r A fg f P S k (j + 1) w3) := by
                  obtain ⟨h1, h0, g, h2, h3⟩ := HFS3.out
                  exact ⟨h1, h0, g, h2, h3.miss HPJ.out⟩
                have hm2 := HM.out false HPJ.out
                have HM2 := hide' hm2
                clear hm2 HM HPJ0 HIN2
                go_wp2
                go_roundg (t.w - (j + 1))
                case measure => omega
                case rel => exact ⟨j + 1, by omega, rfl, by rw [HM2.out]; simp, by go_num, HFS5⟩
              · obtain ⟨a0, a1, a2, a3, a4, a5⟩ := HFS3.out.box.b5
                go_wp2_with fail
                refine (HIN2.out _).mono ?_
                rintro e w4 ⟨rfl, hs⟩
                have HFS4 := hide' (HFS3.out.keep hs)
                clear hs a0 a1 a2 a3 a4 a5 HFS3 HIN2
                cases i2
                · have HPJ : Hid (P j k = false) := HPJ0.out
                  have HFS5 : Hid (BS w q t p r A fg f P S k (j + 1) w4) := by
                    obtain ⟨h1, h0, g, h2, h3⟩ := HFS4.out
                    exact ⟨h1, h0, g, h2, h3.miss HPJ.out⟩
                  have hm2 := HM.out false HPJ.out
                  have HM2 := hide' hm2
                  clear hm2 HM HPJ0
                  go_wp2
                  go_roundg (t.w - (j + 1))
                  case measure => omega
                  case rel => exact ⟨j + 1, by omega, rfl, by rw [HM2.out]; simp, by go_num, HFS5⟩
                · have HPJ : Hid (P j k = true) := HPJ0.out
                  have hm2 := HM.out true HPJ.out
                  have HM2 := hide' hm2
                  have hnum := HFS4.out.box.num
                  have hil := idx_lt hjw hkh
                  obtain ⟨gq, hgq, _hgs⟩ := HFS4.out.ref
                  have hn1 := hgq.n1
                  rw [hnum.1, hnum.2.1] at hn1
                  rw [← hn1] at hil
                  have hbig := hgq.big
                  obtain ⟨i, hi⟩ : ∃ i, i = k * t.w + j := ⟨_, rfl⟩
                  rw [← hi] at hil
                  have HIX := hide' hi
                  have hYw : k * t.w ≤ i := by omega
                  obtain ⟨lo, hlo⟩ : ∃ i, i = k * t.w := ⟨_, rfl⟩
                  have m1 : IntKind.i64.wrap ((k : Int) * (t.w : Nat)) = (lo : Nat) := by rw [hlo, ← Int.natCast_mul, IntKind.wrap_i64, ← hlo]; omega
                  have m2 : IntKind.i64.wrap ((lo : Int) + (j : Int)) = (i : Nat) := by rw [IntKind.wrap_i64]; omega
                  have i3 : (i : Int) < (p.n : Nat) := by omega
                  obtain ⟨cv, hcv⟩ : ∃ c, c = atF q.w q.h fg u v := ⟨_, rfl⟩
                  have HCV : Hid (cv = S j k) := show cv = S j k by rw [HCV0.out, hcv]
                  have HAT2 : Hid (∀ w, RefAt w q fg → Calls Try.prog 21 #[.agg #[.int .i64 q.g3.w, .int .i64 q.g3.h, q.g3.l], .int .i64 u, .int .i64 v] w (Gives (.agg #[.int .i32 cv.r, .int .i64 cv.fg, .int .i64 cv.bg, .int .i64 cv.fl]) w)) := fun w h => by rw [hcv]; exact HAT.out u v w h
                  clear hm2 HM _hgs hgq gq hbig hi hYw hlo hn1 HPJ0 HCV0 hcv hnum
                  go_upto_region 13 with fail
                  have hS : (fun w' => BB w q t p r A w' ∧ RefAt w' q fg ∧ Stay (fun k => k = p.b) w4 w') w4.drew := ⟨HFS4.out.box.keep (Stay.refl _ _).drew, HFS4.out.src.keep (Stay.refl _ _).drew, (Stay.refl _ _).drew⟩
                  refine wp_region_mix (fun w' => BB w q t p r A w' ∧ RefAt w' q fg ∧ Stay (fun k => k = p.b) w4 w') [(0, true), (1, true), (2, true), (3, true), (4, true), (5, true), (6, true), (7, true), (8, true), (9, true), (10, true), (11, false), (12, true), (13, false)] (by kernel_rfl) (by kernel_rfl) (fun _ d _ _ _ h => by cases d <;> exact h) hS ?_
                  refine mix_begin (fun K0 hK0 => ?_)
                  refine mix_take hK0 (some 72) (.fieldAddr 28 (.tmp 12) 2) 0 _ (by kernel_rfl) (by kernel_rfl) (fun w' hS' => by simp only [opr]; go_simp; try with_reducible rfl) (fun K1 hK1 => ?_)
                  clear hK0 K0
                  simp only [Act.put, List.setIfInBounds_toArray, List.set_cons_zero, List.set_cons_succ]
                  refine mix_take hK1 (some 73) (.load 26 (.tmp 72)) 26 _ (by kernel_rfl) (by kernel_rfl) (fun w' hS' => by (obtain ⟨c0, c1, c2, _⟩ := hS'.1.b12; simp only [Rf.g3] at c0 c1 c2; simp only [opr]; go_simp; try with_reducible rfl)) (fun K2 hK2 => ?_)
                  clear hK1 K1
                  simp only [Act.put, List.setIfInBounds_toArray, List.set_cons_zero, List.set_cons_succ]
                  refine mix_take hK2 (some 74) (.move (.tmp 14)) 3 _ (by kernel_rfl) (by kernel_rfl) (fun w' hS' => by simp only [opr]; go_simp; try with_reducible rfl) (fun K3 hK3 => ?_)
                  clear hK2 K2
                  simp only [Act.put, List.setIfInBounds_toArray, List.set_cons_zero, List.set_cons_succ]
                  refine mix_take hK3 (some 75) (.fieldAddr 28 (.tmp 6) 0) 0 _ (by kernel_rfl) (by kernel_rfl) (fun w' hS' => by simp only [opr]; go_simp; try with_reducible rfl) (fun K4 hK4 => ?_)
                  clear hK3 K3
                  simp only [Act.put, List.setIfInBounds_toArray, List.set_cons_zero, List.set_cons_succ]
                  refine mix_take hK4 (some 76) (.load 3 (.tmp 75)) 3 _ (by kernel_rfl) (by kernel_rfl) (fun w' hS' => by (obtain ⟨c0, c1, c2, _⟩ := hS'.1.b6; simp only [Rf.g3] at c0 c1 c2; simp only [opr]; go_simp; try with_reducible rfl)) (fun K5 hK5 => ?_)
                  clear hK4 K4
                  simp only [Act.put, List.setIfInBounds_toArray, List.set_cons_zero, List.set_cons_succ]
                  refine mix_take hK5 (some 77) (.binOp BinOp.mul 3 (.tmp 74) (.tmp 76) 3) 3 _ (by kernel_rfl) (by kernel_rfl) (fun w' hS' => by simp only [opr]; go_simp; try with_reducible rfl) (fun K6 hK6 => ?_)
                  clear hK5 K5
                  simp only [Act.put, List.setIfInBounds_toArray, List.set_cons_zero, List.set_cons_succ]
                  refine mix_take hK6 (some 78) (.move (.tmp 15)) 3 _ (by kernel_rfl) (by kernel_rfl) (fun w' hS' => by simp only [opr]; go_simp; try with_reducible rfl) (fun K7 hK7 => ?_)
                  clear hK6 K6
                  simp only [Act.put, List.setIfInBounds_toArray, List.set_cons_zero, List.set_cons_succ]
                  refine mix_take hK7 (some 79) (.binOp BinOp.add 3 (.tmp 77) (.tmp 78) 3) 3 _ (by kernel_rfl) (by kernel_rfl) (fun w' hS' => by simp only [opr]; go_simp; try with_reducible rfl) (fun K8 hK8 => ?_)
                  clear hK7 K7
                  simp only [Act.put, List.setIfInBounds_toArray, List.set_cons_zero, List.set_cons_succ]
                  refine mix_take hK8 (some 80) (.load 28 (.tmp 5)) 28 _ (by kernel_rfl) (by kernel_rfl) (fun w' hS' => by exact run_load_BoxG rfl rfl hS'.1.b5) (fun K9 hK9 => ?_)
                  clear hK8 K8
                  simp only [Act.put, List.setIfInBounds_toArray, List.set_cons_zero, List.set_cons_succ]
                  refine mix_take hK9 (some 81) (.move (.tmp 16)) 3 _ (by kernel_rfl) (by kernel_rfl) (fun w' hS' => by simp only [opr]; go_simp; try with_reducible rfl) (fun K10 hK10 => ?_)
                  clear hK9 K9
                  simp only [Act.put, List.setIfInBounds_toArray, List.set_cons_zero, List.set_cons_succ]
                  refine mix_take hK10 (some 82) (.move (.tmp 17)) 3 _ (by kernel_rfl) (by kernel_rfl) (fun w' hS' => by simp only [opr]; go_simp; try with_reducible rfl) (fun K11 hK11 => ?_)
                  clear hK10 K10
                  simp only [Act.put, List.setIfInBounds_toArray, List.set_cons_zero, List.set_cons_succ]
                  refine mix_call hK11 (some 83) 21 #[.tmp 80, .tmp 81, .tmp 82] #[28, 3, 3] 35 _ (by kernel_rfl) (by kernel_rfl) (enters Try.func21 (by kernel_rfl) (by kernel_rfl)) (by go_simp; try with_reducible rfl) (fun K12 hK12 => ?_)
                  clear hK11 K11
                  refine (HAT2.out _ hS.2.1).mono ?_
                  rintro e wm1 ⟨rfl, hs1⟩
                  have hS1 : _ := (⟨hS.1.keep hs1, hS.2.1.keep hs1, hS.2.2.trans (stay_any hs1)⟩ : (fun w' => BB w q t p r A w' ∧ RefAt w' q fg ∧ Stay (fun k => k = p.b) w4 w') wm1)
                  refine ⟨_, rfl, hS1, ?_⟩
                  have HMM := hide' hs1
                  clear hs1
                  simp only [Act.put, List.setIfInBounds_toArray, List.set_cons_zero, List.set_cons_succ]
                  refine mix_take hK12 (some 84) (.indexAddr 26 (.tmp 73) (.tmp 79)) 0 _ (by kernel_rfl) (by kernel_rfl) (fun w' hS' => by simp only [opr]; go_simp; try with_reducible rfl) (fun K13 hK13 => ?_)
                  clear hK12 K12
                  simp only [Act.put, List.setIfInBounds_toArray, List.set_cons_zero, List.set_cons_succ]
                  refine mix_chain hK13 (fun K13c hK13c => ?_)
                  clear hK13 K13
                  refine op_plain none (.store 35 (.tmp 84) (.tmp 83)) 0 (by kernel_rfl) (by kernel_rfl) ?_
                  obtain ⟨g0, hg0, hsc⟩ := HFS4.out.ref
                  have hg1 := hg0.keep ((Stay.refl _ w4).drew.trans HMM.out)
                  obtain ⟨⟨t0, t1, t2, t3⟩, t4, t5, t6, t7⟩ := (hg1.pix i hil).eight
                  refine wpList_store_mid rfl 35 (.tmp 84) (.tmp 83) rfl p.b (i * 4) #[.int .i32 cv.r, .int .i64 cv.fg, .int .i64 cv.bg, .int .i64 cv.fl] rfl rfl (hg1.pix i hil).2 (by kernel_rfl) (Cl.all_one _) ?_
                  refine wpList_nil ?_
                  have hSf : (fun w' => BB w q t p r A w' ∧ RefAt w' q fg ∧ Stay (fun k => k = p.b) w4 w') (wm1.setCells p.b (i * 4) cv.parts) := ⟨hS1.1.put _ _, hS1.2.1.stay (T := fun k => k = p.b) ((Stay.refl (fun k => k = p.b) _).setCells p.b _ _ rfl) (fun h => HNE.out h), hS1.2.2.setCells p.b _ _ rfl⟩
                  have HFS5 : Hid (BS w q t p r A fg f P S k (j + 1) (wm1.setCells p.b (i * 4) cv.parts)) := ⟨hSf.1, hSf.2.1, _, hg1.put i cv, by rw [HIX.out]; exact hsc.hit hjw HPJ.out HCV.out⟩
                  clear hg0 hg1 hsc t0 t1 t2 t3 t4 t5 t6 t7 g0
                  refine hK13c _ _ hSf (mix_begin fun K14 hK14 => ?_)
                  clear hK13c K13c
                  try simp only [Act.put]
                  refine hK14 _ _ (mix_nil ?_)
                  clear hK14 K14
                  clear hSf
                  go_wp2
                  go_roundg (t.w - (j + 1))
                  case measure => omega
                  case rel => exact ⟨j + 1, by omega, rfl, by rw [HM2.out]; go_num, by go_num, HFS5⟩
            · have j3 : decide ((j : Int) < (t.w : Nat)) = false := by simp; omega
              have hjw' : j = t.w := by omega
              subst hjw'
              have HFS5 : Hid (BS w q t p r A fg f P S (k + 1) 0 wr) := by
                obtain ⟨h1, h0, g, h2, h3⟩ := HFS.out
                exact ⟨h1, h0, g, h2, h3.next (Nat.le_refl _)⟩
              go_wp2
              go_roundg (t.h - (k + 1))
              case measure => omega
              case rel => exact ⟨k + 1, by omega, rfl, rfl, by go_num, HFS5⟩
        · have hkb' : k = t.h := by omega
          subst hkb'
          have k3 : decide ((t.h : Int) < (t.h : Nat)) = false := by simp
          obtain ⟨b0, b1, b2, b3, b4, b5⟩ := HFS.out.box.b12
          simp only [Rf.g3] at b0 b1 b2
          obtain ⟨z0, z1, z2, f0, f1, f2⟩ := HFS.out.box.b10
          go_wp2
          obtain ⟨g, hg, hsc⟩ := HFS.out.ref
          have hnum := HFS.out.box.num
          refine bodyPost_ret (results_g3_int rfl _ _ _ p.g3 (cntAll P t.w t.h : Nat) rfl rfl (HFS.out.box.b10.put p.g3)) rfl ⟨p, g, by rw [HPE.out], BoxG.stay_put HFS.out.box.stay (by omega) _ _ _, ?_, hnum.1, hnum.2.1, by omega, HFI.out g hsc.all⟩
          exact hg.stay ((((Stay.refl (fun k => k = w.heap.size + 3) wr).setCell (p := ⟨w.heap.size + 3, 0, none⟩) rfl _).setCell (p := ⟨w.heap.size + 3, 1, none⟩) rfl _).setCell (p := ⟨w.heap.size + 3, 2, none⟩) rfl _) (by omega)

end Go.Proofs.Ytmpmdlbhiogelaa
