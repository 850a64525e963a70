/-
  The program: the setting is turned: walked. No conditions.
  The program: what is read: walked. No conditions.
-/
import Derived.Test.YtkggmjjjopfdbaaG5
import Derived.Deep.CutBlock
import Derived.Deep.MidRow
namespace Go.Proofs.Ytkggmjjjopfdbaa
open Go.RowKit
open L17

section
variable {w w1 : World} {p : Nat} {r : Pd} {x : PS}

/-- With Icanon, or not any more. -/
def turnX (x : PS) : PS := if hasB x.t.fl 1 = true then ⟨x.t, x.all.take 254, 0, [], x.st, x.nx⟩ else ⟨x.t, x.all, x.all.length, [], x.st, x.nx⟩

set_option maxRecDepth 100000 in
set_option maxHeartbeats 1000000 in
theorem p_turn (h : Core w p r x) (ht : rightB x.t = true) (hm : x.all.length ≤ 100000) : Calls Try.prog 43 #[.pointer (some ⟨p, 0, none⟩)] w (TurnC p r (turnX x) (.tuple #[]) w) := by
  have HC := hide' h
  have HL : Hid (∀ w' r' y, y.t = x.t → Core w' p r' y → Calls Try.prog 41 #[.pointer (some ⟨p, 0, none⟩), .int .i64 1] w' (Gives (.bool (hasB x.t.fl 1)) w')) := fun w' r' y et hh => by
    rw [← et]
    exact p_local hh (by rw [et]; exact ht) 1 (by simp)
  obtain ⟨a, cap, e17, hcap, _⟩ := h.ip.shape
  have HE17 := hide' e17
  have HQ : Hid (turnX x = if hasB x.t.fl 1 = true then ⟨x.t, x.all.take 254, 0, [], x.st, x.nx⟩ else ⟨x.t, x.all, x.all.length, [], x.st, x.nx⟩) := rfl
  obtain ⟨q1, hq1⟩ : ∃ z, z = hasB x.t.fl 1 := ⟨_, rfl⟩
  rw [← hq1] at HL HQ
  obtain ⟨n, hnn⟩ : ∃ z, z = x.all.length := ⟨_, rfl⟩
  have HNN := hide' hnn
  rw [← hnn] at e17 hcap hm
  obtain ⟨c0, c1, c2, c3, c4, c5, c6, c7, c8, c9, c10, c11, c12, c13, c14, c15, c16, c17, c18, c19, c20, c21, f0, f1, f2, f3, f4, f5, f6, f7, f8, f9, f10, f11, f12, f13, f14, f15, f16, f17, f18, f19, f20, f21⟩ := h.box
  rw [e17] at c17
  have H1 := hide' (h.put_li (v := .slice none 0 0) (l := []) (Stay.refl _ w) (Win.nil w 1) (fun j hj => by cases hj))
  obtain ⟨r1, hc1, hi1, hl1⟩ := H1.out
  have H2 := hide' (hc1.put_rd (z := (n : Int)) n rfl)
  clear hq1 h ht hc1 hnn H1
  go_enter Try.func43, Try.ntmps43
  go_upto_region 1 with fail
  obtain ⟨w2, hw2⟩ : ∃ z, z = (w.setCell ⟨p, 19, none⟩ (.slice none 0 0)).setCell ⟨p, 18, none⟩ (.int .i64 (n : Nat)) := ⟨_, rfl⟩
  rw [← hw2] at H2 ⊢
  have HS2 : Hid (Stay (fun j => j = p) w w2) := by rw [hw2]; exact (at_p w p 19 _).trans (at_p _ p 18 _)
  clear hw2 e17 c0 c1 c2 c3 c4 c5 c6 c7 c8 c9 c10 c11 c12 c13 c14 c15 c16 c17 c18 c19 c20 c21 f0 f1 f2 f3 f4 f5 f6 f7 f8 f9 f10 f11 f12 f13 f14 f15 f16 f17 f18 f19 f20 f21
  obtain ⟨r2, hc2, hi2, hl2⟩ := H2.out
  have HC2 := hide' hc2
  have HR2 : Hid (r2.ip = r.ip ∧ r2.li = .slice none 0 0) := ⟨hi2.trans hi1, hl2.trans hl1⟩
  clear hc2 hi2 hl2 hi1 hl1 H2
  go_wp2_with fail
  refine (HL.out w2 r2 ((x.setLns []).setRd n) rfl HC2.out).mono ?_
  rintro e w3 ⟨rfl, hs⟩
  have HS3 := hide' (HS2.out.trans (hs.mono (fun _ _ h => h.elim)))
  have HC3 := hide' (HC2.out.keep hs)
  clear hs HS2 HC2
  cases q1
  · go_wp2
    go_returns
    refine ⟨r2, rfl, ?_, HS3.out.mono (fun j _ e => .inl e), fun j hj => ?_⟩
    · rw [HQ.out, if_neg (by simp), ← HNN.out]
      exact HC3.out
    · rcases hj with hj | hj | hj
      · exact .inl (.inl hj)
      · rw [HR2.out.1] at hj; exact .inl (.inr (.inl hj))
      · rw [HR2.out.2] at hj; cases hj
  · obtain ⟨c0, c1, c2, c3, c4, c5, c6, c7, c8, c9, c10, c11, c12, c13, c14, c15, c16, c17, c18, c19, c20, c21, f0, f1, f2, f3, f4, f5, f6, f7, f8, f9, f10, f11, f12, f13, f14, f15, f16, f17, f18, f19, f20, f21⟩ := HC3.out.box
    have H4 := hide' (HC3.out.put_rd (z := 0) 0 rfl)
    go_upto_region 3 with fail
    obtain ⟨w4, hw4⟩ : ∃ z, z = w3.setCell ⟨p, 18, none⟩ (.int .i64 0) := ⟨_, rfl⟩
    rw [← hw4] at H4 ⊢
    have HS4 : Hid (Stay (fun j => j = p) w w4) := by rw [hw4]; exact HS3.out.trans (at_p w3 p 18 _)
    clear hw4 HS3 HC3 c0 c1 c2 c3 c4 c5 c6 c7 c8 c9 c10 c11 c12 c13 c14 c15 c16 c17 c18 c19 c20 c21 f0 f1 f2 f3 f4 f5 f6 f7 f8 f9 f10 f11 f12 f13 f14 f15 f16 f17 f18 f19 f20 f21
    obtain ⟨r4, hc4, hi4, hl4⟩ := H4.out
    have hv : r4.ip = .slice a n cap := by rw [hi4, HR2.out.1, HE17.out, HNN.out]
    obtain ⟨c0, c1, c2, c3, c4, c5, c6, c7, c8, c9, c10, c11, c12, c13, c14, c15, c16, c17, c18, c19, c20, c21, f0, f1, f2, f3, f4, f5, f6, f7, f8, f9, f10, f11, f12, f13, f14, f15, f16, f17, f18, f19, f20, f21⟩ := hc4.box
    rw [hv] at c17
    obtain ⟨m, hmm⟩ : ∃ m, m = min n 254 := ⟨_, rfl⟩
    have emin : min (n : Int) 254 = (m : Nat) := by omega
    have hmc : m ≤ cap := by omega
    have HWT : Hid (Win w4 1 (.slice a m cap) (x.all.take 254).length (bys (x.all.take 254))) := by
      have h1 : Win w4 1 r4.ip x.all.length (bys x.all) := hc4.ip
      rw [hv, ← HNN.out] at h1
      have h2 := h1.take (k := m) (by omega)
      have e1 : (x.all.take 254).length = m := by rw [List.length_take, ← HNN.out]; omega
      have e2 : x.all.take m = x.all.take 254 := by
        rw [hmm, HNN.out, Nat.min_comm, ← List.take_take, List.take_of_length_le (Nat.le_refl _)]
      rw [bys_take, e2] at h2
      rw [e1]
      exact h2
    have hslh := fun w => slice_h_eq (P := Try.prog) (sa := a) (m := n) (cap := cap) (k := m) elemB sizeB hmc w
    have HFN := hide' ((hc4.keep ((Stay.refl _ w4).drew)).put_ip (v := .slice a m cap) (l := x.all.take 254) (Stay.refl _ _) (HWT.out.stay ((Stay.refl (fun _ => False) w4).drew) (fun _ _ h => h)) (fun j hj => .inl (by rw [hv]; cases a <;> exact hj)) (fun y hy => HC.out.wf y (List.mem_of_mem_take hy)))
    have HR4 : Hid (r4.li = .slice none 0 0) := hl4.trans HR2.out.2
    have HOB : Hid (∀ j, (Value.slice a m cap).ownBlock = some j → r.ip.ownBlock = some j) := fun j hj => by rw [HE17.out]; cases a <;> exact hj
    clear hc4 hi4 hl4 hv hmm HWT H4
    go_still_tail 14, (by kernel_rfl)
    change wpList _ _ _ _ _ w4.drew
    obtain ⟨wd, hwd⟩ : ∃ z, z = w4.drew := ⟨_, rfl⟩
    have hfr : wd.frozen? ⟨p, 17, none⟩ = false := by rw [hwd]; exact f17
    have hce : wd.cell? ⟨p, 17, none⟩ = w4.cell? ⟨p, 17, none⟩ := by rw [hwd]; rfl
    rw [c17] at hce
    have HSD := hide' ((Stay.refl (fun _ => False) w4).drew)
    rw [← hwd] at HFN HSD ⊢
    clear hwd hslh hmc emin c0 c1 c2 c3 c4 c5 c6 c7 c8 c9 c10 c11 c12 c13 c14 c15 c16 c17 c18 c19 c20 c21 f0 f1 f2 f3 f4 f5 f6 f7 f8 f9 f10 f11 f12 f13 f14 f15 f16 f17 f18 f19 f20 f21
    go_wp2
    go_returns
    obtain ⟨r5, hc5, hi5, hl5⟩ := HFN.out
    refine ⟨r5, rfl, ?_, ?_, fun j hj => ?_⟩
    · rw [HQ.out, if_pos (by first | rfl | trivial)]
      exact hc5
    · exact (((HS4.out.trans (HSD.out.mono (fun _ _ h => h.elim))).trans (at_p wd p 17 _))).mono (fun j _ e => .inl e)
    · rcases hj with hj | hj | hj
      · exact .inl (.inl hj)
      · rw [hi5] at hj; exact .inl (.inr (.inl (HOB.out j hj)))
      · rw [hl5, HR4.out] at hj; cases hj

theorem DBox.there17 {b : Nat} {r : Pd} (h : DBox w b r) : w.there b 0 17 := L17.TBox.there h.tm

theorem Core.putT (h : Core w p r x) (t : Tm) : Core (w.setCells p 0 (#[.int .i64 t.fi, .int .i64 t.fo, .int .i64 t.fl, .int .i64 t.k0, .int .i64 t.k1, .int .i64 t.k2, .int .i64 t.k3, .int .i64 t.k4, .int .i64 t.k5, .int .i64 t.k6, .int .i64 t.k7, .int .i64 t.k8, .int .i64 t.k9, .int .i64 t.k10, .int .i64 t.k11, .int .i64 t.mn, .int .i64 t.ti] : Array Value).toList) p (r.put t) (x.setT t) ∧ Stay (fun k => k = p) w (w.setCells p 0 (#[.int .i64 t.fi, .int .i64 t.fo, .int .i64 t.fl, .int .i64 t.k0, .int .i64 t.k1, .int .i64 t.k2, .int .i64 t.k3, .int .i64 t.k4, .int .i64 t.k5, .int .i64 t.k6, .int .i64 t.k7, .int .i64 t.k8, .int .i64 t.k9, .int .i64 t.k10, .int .i64 t.k11, .int .i64 t.mn, .int .i64 t.ti] : Array Value).toList) := by
  have hs : Stay (fun k => k = p) w (w.setCells p 0 (#[.int .i64 t.fi, .int .i64 t.fo, .int .i64 t.fl, .int .i64 t.k0, .int .i64 t.k1, .int .i64 t.k2, .int .i64 t.k3, .int .i64 t.k4, .int .i64 t.k5, .int .i64 t.k6, .int .i64 t.k7, .int .i64 t.k8, .int .i64 t.k9, .int .i64 t.k10, .int .i64 t.k11, .int .i64 t.mn, .int .i64 t.ti] : Array Value).toList) := (Stay.refl (fun k => k = p) w).setCells p _ _ rfl
  refine ⟨⟨?_, rfl, h.ip.stay hs h.n1, h.rd, h.li.stay hs h.n2, h.st, h.wt, h.wf, h.n1, h.n2, h.n3⟩, hs⟩
  have hb := h.box
  rw [L17.set_all]
  exact ((((((((((((((((hb.put0 rfl).put1 rfl).put2 rfl).put3 rfl).put4 rfl).put5 rfl).put6 rfl).put7 rfl).put8 rfl).put9 rfl).put10 rfl).put11 rfl).put12 rfl).put13 rfl).put14 rfl).put15 rfl).put16 rfl
end

theorem set_turn {N : Nat} (d : DS) (t : Tm) (_hO : Ok N d) (h : ¬ d.loc 1 = (d.setT t).loc 1) : turnX (d.ps.setT t) = (d.set t).ps := by
  unfold DS.set
  rw [if_neg h]
  have e1 : (d.setT t).loc 1 = hasB t.fl 1 := rfl
  unfold turnX
  show (if hasB t.fl 1 = true then _ else _) = _
  rw [← e1]
  cases h2 : (d.setT t).loc 1
  · rw [if_neg (by simp), if_pos rfl]
    have e : ((d.setT t).flush.setRaw d.all).all = d.all := by show d.all ++ [].flatten ++ [] = _; simp
    show (⟨t, d.all, d.all.length, [], d.stp, d.nxt⟩ : PS) = ⟨t, ((d.setT t).flush.setRaw d.all).all, d.all.length + ([] : List (List Int)).flatten.length, [], d.stp, d.nxt⟩
    rw [e]; rfl
  · rw [if_pos rfl, if_neg (by simp)]
    have e : ((d.setT t).flush.setLine (d.all.take 254)).all = d.all.take 254 := by show [] ++ [].flatten ++ d.all.take 254 = _; simp
    show (⟨t, d.all.take 254, 0, [], d.stp, d.nxt⟩ : PS) = ⟨t, ((d.setT t).flush.setLine (d.all.take 254)).all, 0, [], d.stp, d.nxt⟩
    rw [e]

theorem wpList_exec_g {P : Program} {ops : Array Oper} {rest : List Oper} {o : Oper} {a : Act} {w : World} {Q : Exit → Act → World → Prop} {v : Value} (hg : Region.wanted o (yielded ops a.tmps) = true) (hr : (execOp a.eval o).run P w = .ok (.value v) w) (h : wpList P ops Q rest (a.put o.dst v) w) : wpList P ops Q (o :: rest) a w := by
  unfold wpList
  rw [if_pos hg]
  left
  unfold Oper.wp
  rw [hr]
  exact h

/-- The setting is turned, if it is right. -/
def SetP (b : Bool) (p : Nat) (O : Nat → Prop) (d : DS) (t : Tm) (w : World) (e : Ending) (w' : World) : Prop := (b = true → TurnP At p O (d.set t) (.bool true) w e w') ∧ (b = false → Gives (.bool false) w e w')

section
variable {w : World} {p : Nat} {O : Nat → Prop} {d : DS}

set_option maxRecDepth 100000 in
set_option maxHeartbeats 1000000 in
theorem a_set {N : Nat} (t : Tm) (h : At w p O d) (hO : Ok N d) : Calls Try.prog 17 #[.pointer (some ⟨p, 0, none⟩), .agg #[.int .i64 t.fi, .int .i64 t.fo, .int .i64 t.fl, .int .i64 t.k0, .int .i64 t.k1, .int .i64 t.k2, .int .i64 t.k3, .int .i64 t.k4, .int .i64 t.k5, .int .i64 t.k6, .int .i64 t.k7, .int .i64 t.k8, .int .i64 t.k9, .int .i64 t.k10, .int .i64 t.k11, .int .i64 t.mn, .int .i64 t.ti]] w (SetP (rightB t) p O d t w) := by
  obtain ⟨r, hc, h2, h3⟩ := h
  have HO2 := hide' h2
  have HTN := hide' (L17.TBox.new (w := w) t rfl)
  have HS0 := hide' ((Stay.refl (fun _ => False) w).alloc (.cells #[.int .i64 t.fi, .int .i64 t.fo, .int .i64 t.fl, .int .i64 t.k0, .int .i64 t.k1, .int .i64 t.k2, .int .i64 t.k3, .int .i64 t.k4, .int .i64 t.k5, .int .i64 t.k6, .int .i64 t.k7, .int .i64 t.k8, .int .i64 t.k9, .int .i64 t.k10, .int .i64 t.k11, .int .i64 t.mn, .int .i64 t.ti] 24))
  have HRT := hide' (L17.right29 t)
  have HC0 := hide' (hc.keep HS0.out)
  have HBL : Hid (¬ w.heap.size = p) := by have := hc.box.lt; show ¬ w.heap.size = p; omega
  have HL1 : Hid (∀ w' r', Core w' p r' d.ps → Calls Try.prog 41 #[.pointer (some ⟨p, 0, none⟩), .int .i64 1] w' (Gives (.bool (d.loc 1)) w')) := fun w' r' hh => p_local (x := d.ps) hh hO.right 1 (by simp)
  have HL2 : Hid (rightB t = true → ∀ w' r', Core w' p r' (d.ps.setT t) → Calls Try.prog 41 #[.pointer (some ⟨p, 0, none⟩), .int .i64 1] w' (Gives (.bool ((d.setT t).loc 1)) w')) := fun ht w' r' hh => p_local (x := d.ps.setT t) hh ht 1 (by simp)
  have HTU : Hid (rightB t = true → ∀ w' r', Core w' p r' (d.ps.setT t) → Calls Try.prog 43 #[.pointer (some ⟨p, 0, none⟩)] w' (TurnC p r' (turnX (d.ps.setT t)) (.tuple #[]) w')) := fun ht w' r' hh => p_turn hh ht (by show d.all.length ≤ _; have := hO.all_le.1; omega)
  have HSE : Hid (d.loc 1 = (d.setT t).loc 1 → d.ps.setT t = (d.set t).ps) := fun e => by
    show d.ps.setT t = _
    unfold DS.set
    rw [if_pos e]
    rfl
  have HSN := hide' (set_turn d t hO)
  obtain ⟨rt, hrt⟩ : ∃ z, z = rightB t := ⟨_, rfl⟩
  rw [← hrt] at HRT HL2 HTU ⊢
  clear hrt hc h2 h3 hO
  go_enter Try.func17, Try.ntmps17
  go_upto_region 1 with fail
  obtain ⟨W0, hW0⟩ : ∃ W, W = w.alloc (.cells #[.int .i64 t.fi, .int .i64 t.fo, .int .i64 t.fl, .int .i64 t.k0, .int .i64 t.k1, .int .i64 t.k2, .int .i64 t.k3, .int .i64 t.k4, .int .i64 t.k5, .int .i64 t.k6, .int .i64 t.k7, .int .i64 t.k8, .int .i64 t.k9, .int .i64 t.k10, .int .i64 t.k11, .int .i64 t.mn, .int .i64 t.ti] 24) := ⟨_, rfl⟩
  obtain ⟨B, hB⟩ : ∃ z, z = w.heap.size := ⟨_, rfl⟩
  rw [← hW0] at HTN HS0 HC0 ⊢
  rw [← hB] at HTN HBL ⊢
  clear hW0 hB
  go_wp2_with (refine wpList_exec_g (by kernel_rfl) (L17.run_load_TBox rfl rfl HTN.out) ?_)
  refine (HRT.out _).mono ?_
  rintro e w1 ⟨rfl, hs⟩
  have HS1 := hide' (HS0.out.trans hs)
  have HT1 := hide' (HTN.out.keep hs)
  have HC1 := hide' (HC0.out.keep hs)
  clear hs HS0 HTN HC0 HRT
  cases rt
  · go_wp2
    go_ret
    exact ⟨fun h => (by cases h), fun _ => ⟨rfl, HS1.out⟩⟩
  · have HL3 := hide' (HL2.out (by first | rfl | trivial))
    have HTU3 := hide' (HTU.out (by first | rfl | trivial))
    clear HL2 HTU
    go_wp2_with fail
    refine (HL1.out _ _ HC1.out).mono ?_
    rintro e w2 ⟨rfl, hs⟩
    have HS2 := hide' (HS1.out.trans hs)
    have HT2 := hide' (HT1.out.keep hs)
    have HC2 := hide' (HC1.out.keep hs)
    clear hs HS1 HT1 HC1 HL1
    obtain ⟨q, hq⟩ : ∃ z, z = d.loc 1 := ⟨_, rfl⟩
    rw [← hq] at HSE HSN ⊢
    clear hq
    have HP2 := hide' (HC2.out.putT t)
    have HTH := hide' HC2.out.box.there17
    obtain ⟨W3, hW3⟩ : ∃ W, W = w2.setCells p 0 (#[.int .i64 t.fi, .int .i64 t.fo, .int .i64 t.fl, .int .i64 t.k0, .int .i64 t.k1, .int .i64 t.k2, .int .i64 t.k3, .int .i64 t.k4, .int .i64 t.k5, .int .i64 t.k6, .int .i64 t.k7, .int .i64 t.k8, .int .i64 t.k9, .int .i64 t.k10, .int .i64 t.k11, .int .i64 t.mn, .int .i64 t.ti] : Array Value).toList := ⟨_, rfl⟩
    have HW3 := hide' hW3
    rw [← hW3] at HP2
    clear hW3
    go_wp2_with (first
      | refine wpList_exec rfl (L17.run_load_TBox rfl rfl HT2.out) ?_
      | (refine wpList_store_mid rfl 24 (.tmp 18) (.tmp 16) rfl p 0 #[.int .i64 t.fi, .int .i64 t.fo, .int .i64 t.fl, .int .i64 t.k0, .int .i64 t.k1, .int .i64 t.k2, .int .i64 t.k3, .int .i64 t.k4, .int .i64 t.k5, .int .i64 t.k6, .int .i64 t.k7, .int .i64 t.k8, .int .i64 t.k9, .int .i64 t.k10, .int .i64 t.k11, .int .i64 t.mn, .int .i64 t.ti] rfl rfl HTH.out (by kernel_rfl) (by simp [Value.oneCell']) ?_
         rw [← HW3.out]; clear HW3 HTH))
    refine (HL3.out _ _ HP2.out.1).mono ?_
    rintro e w4 ⟨rfl, hs⟩
    have HS4 := hide' (((HS2.out.mono (T := fun k => k = p) (fun _ _ h => h.elim)).trans HP2.out.2).trans (hs.mono (fun _ _ h => h.elim)))
    have HC4 := hide' (HP2.out.1.keep hs)
    clear hs HP2 HS2 HC2 HT2 HL3
    obtain ⟨q2, hq2⟩ : ∃ z, z = (d.setT t).loc 1 := ⟨_, rfl⟩
    rw [← hq2] at HSE HSN ⊢
    clear hq2
    by_cases hqq : q = q2
    · have HE := hide' (HSE.out hqq)
      have eq1 : (q2 == q) = true := by rw [hqq]; simp
      clear hqq
      go_wp2
      go_ret
      refine ⟨fun _ => ⟨Bl p r, rfl, ⟨r.put t, ?_, fun j hj => hj, ?_⟩, HS4.out.mono (fun j _ e => HO2.out j (.inl e)), fun k hk => .inl (HO2.out k hk)⟩, fun h => (by cases h)⟩
      · rw [← HE.out]; exact HC4.out
      · exact HC4.out.lt
    · have HE := hide' (HSN.out hqq)
      have eq1 : (q2 == q) = false := by cases q <;> cases q2 <;> simp_all
      clear hqq
      go_wp2_with fail
      refine (HTU3.out _ _ HC4.out).mono ?_
      rintro e w5 ⟨r5, rfl, hc5, hs5, hb5⟩
      have HC5 := hide' hc5
      have HS5 := hide' hs5
      have HB5 := hide' hb5
      clear hc5 hs5 hb5
      go_wp2
      go_ret
      refine ⟨fun _ => ⟨Bl p r5, rfl, ⟨r5, ?_, fun j hj => hj, HC5.out.lt⟩, ?_, fun k hk => ?_⟩, fun h => (by cases h)⟩
      · rw [← HE.out]; exact HC5.out
      · exact (HS4.out.mono (T := O) (fun j _ e => HO2.out j (.inl e))).trans (HS5.out.mono (fun j _ hj => HO2.out j hj))
      · rcases HB5.out k hk with h | h
        · exact .inl (HO2.out k h)
        · exact .inr (Nat.le_trans HS4.out.size h)
end

end Go.Proofs.Ytkggmjjjopfdbaa

namespace Go.Proofs.Ytkggmjjjopfdbaa
open Go.RowKit
open L17

section
variable {w w1 : World} {p : Nat} {r : Pd} {x : PS}

/-- The first line's length is stored. -/
theorem Core.put_l0 (h : Core w p r x) {n0 m cap g o : Nat} {L : List Nat} (hl : x.lns = n0 :: L) (hv : r.li = .slice (some ⟨g, o, none⟩) m cap) (z : Nat) :
    Core (w.setCell ⟨g, o, none⟩ (.int .i64 (z : Nat))) p r (x.setLns (z :: L)) ∧ Stay (Bl p r) w (w.setCell ⟨g, o, none⟩ (.int .i64 (z : Nat))) ∧ w.cell? ⟨g, o, none⟩ = some (.int .i64 (n0 : Nat)) ∧ w.frozen? ⟨g, o, none⟩ = false := by
  have hs : Stay (fun j => j = g) w (w.setCell ⟨g, o, none⟩ (.int .i64 (z : Nat))) := at_p w g o _
  have hg : r.li.ownBlock = some g := by rw [hv]; rfl
  have hgp : g ≠ p := h.n2 g hg
  have hli := h.li
  rw [hl] at hli
  obtain ⟨h1, h2⟩ := hli
  rcases h2 with ⟨h2, h3⟩ | ⟨g', o', cap', h2, h3, h4, h5, h6, h7⟩
  · rw [hv] at h2; cases h2
  · have e := hv.symm.trans h2
    cases e
    have hc0 := h6 0 _ (show (nts (n0 :: L))[0]? = some (.int .i64 (n0 : Nat)) from rfl)
    have ht0 := h7 0 (by have : 0 < (n0 :: L).length := by simp
                         omega)
    refine ⟨⟨h.box.stay hs (fun e => hgp e.symm), h.t, h.ip.stay hs (fun j hj e => h.n3 j hj (by rw [e]; exact hg)), h.rd, ?_, h.st, h.wt, h.wf, h.n1, h.n2, h.n3⟩, hs.mono (fun j _ e => .inr (.inr (by rw [e]; exact hg))), hc0, ht0.2⟩
    have hone : w.there g o [Value.int .i64 (z : Nat)].length := fun j hj => by
      have : j = 0 := by simpa using hj
      subst this
      exact ht0
    refine ⟨nts_len _, .inr ⟨g, o, cap, ?_, h3, h4, Nat.lt_of_lt_of_le h5 hs.size, fun j u hu => ?_, fun j hj => ?_⟩⟩
    · rw [hv]; rfl
    · cases j with
      | zero => exact World.rangeAt_setCells_same w g o [Value.int .i64 (z : Nat)] hone 0 u hu
      | succ j =>
        have hrest : w.rangeAt g (o + 1) (nts L) := fun i v hv => by
          have := h6 (i + 1) v hv
          rw [show o + 1 + i = o + (i + 1) by omega]
          exact this
        have := World.rangeAt_setCells_apart hrest g o [Value.int .i64 (z : Nat)] (.inr (.inr (by simp))) j u hu
        rw [show o + 1 + j = o + (j + 1) by omega] at this
        exact this
    · exact World.there_setCells h7 g o [Value.int .i64 (z : Nat)] j hj
end

section
variable {w : World} {p : Nat} {O : Nat → Prop} {d : DS}

theorem a_read0 (n : Int) (h : At w p O d) (hn : n < 1) : Calls Try.prog 16 #[.pointer (some ⟨p, 0, none⟩), .int .i64 n] w (RdP At p O d n w) := by
  have HA := hide' h
  have HS := hide' (Stay.refl O w)
  obtain ⟨e1, e2⟩ := rd_small d n hn
  unfold RdP
  rw [e1, e2]
  have dn : decide (n < 1) = true := by simpa using hn
  clear e1 e2 h hn
  go_enter Try.func16, Try.ntmps16
  go_wp2
  go_returns
  exact ⟨.slice none 0 0, O, rfl, (BRow.nil w ⟨0, fun _ => True, trivial⟩).br, HA.out, HS.out, fun k hk => .inl hk⟩

theorem raw_take {N : Nat} (d : DS) (n : Int) (hO : Ok N d) (hc : d.loc 1 = false) (k : Nat) (hk : k = min n.toNat d.cnt) : d.all.take k = d.raw.take n.toNat ∧ (d.ps.setAll (d.all.drop k)).setRd (d.cnt - k) = (d.setRaw (d.raw.drop n.toNat)).ps := by
  obtain ⟨e1, e2⟩ := hO.plain hc
  have ea : d.all = d.raw := by unfold DS.all; rw [e1, e2]; simp
  have ec : d.cnt = d.raw.length := by unfold DS.cnt; rw [e1]; simp
  subst hk
  rw [ea, ec]
  have h1 : d.raw.take (min n.toNat d.raw.length) = d.raw.take n.toNat := by rw [← List.take_take, List.take_of_length_le (Nat.le_refl _)]
  have h2 : d.raw.drop (min n.toNat d.raw.length) = d.raw.drop n.toNat := by
    by_cases h : n.toNat ≤ d.raw.length
    · rw [Nat.min_eq_left h]
    · rw [Nat.min_eq_right (by omega), List.drop_of_length_le (Nat.le_refl _), List.drop_of_length_le (by omega)]
  refine ⟨h1, ?_⟩
  rw [h2]
  have e3 : (d.setRaw (d.raw.drop n.toNat)).all = d.raw.drop n.toNat := by show d.raw.drop n.toNat ++ d.lines.flatten ++ d.line = _; rw [e1, e2]; simp
  have e4 : (d.setRaw (d.raw.drop n.toNat)).cnt = d.raw.length - min n.toNat d.raw.length := by
    show (d.raw.drop n.toNat).length + d.lines.flatten.length = _
    rw [e1, List.length_drop]; simp; omega
  show (⟨d.t, d.raw.drop n.toNat, d.raw.length - min n.toNat d.raw.length, d.lines.map List.length, d.stp, d.nxt⟩ : PS) = ⟨d.t, (d.setRaw (d.raw.drop n.toNat)).all, (d.setRaw (d.raw.drop n.toNat)).cnt, d.lines.map List.length, d.stp, d.nxt⟩
  rw [e3, e4]

set_option maxRecDepth 100000 in
theorem a_read1 {N : Nat} (n : Int) (h : At w p O d) (hO : Ok N d) (hn : ¬ n < 1) (hm : n ≤ 9223372036854775807) (hc : d.loc 1 = false) : Calls Try.prog 16 #[.pointer (some ⟨p, 0, none⟩), .int .i64 n] w (RdP At p O d n w) := by
  obtain ⟨r, hcr, h2, h3⟩ := h
  have HO2 := hide' h2
  have HC0 := hide' hcr
  have HL := hide' (p_local (x := d.ps) hcr hO.right 1 (by simp))
  have e1 : hasB d.ps.t.fl 1 = false := hc
  rw [e1] at HL
  obtain ⟨k, hk⟩ : ∃ k, k = min n.toNat d.cnt := ⟨_, rfl⟩
  have hal := (all_line d).2.2.1
  have HTK : Hid (∀ w' r', Core w' p r' d.ps → Calls Try.prog 42 #[.pointer (some ⟨p, 0, none⟩), .int .i64 (k : Nat)] w' (TakeC p r' d.ps k w')) := fun w' r' hh => p_take hh k (show k ≤ d.cnt by omega) hal (show d.all.length ≤ 100000 by have := hO.all_le.1; omega)
  have HRT := hide' (raw_take d n hO hc k hk)
  obtain ⟨e2, e3⟩ := rd_raw d n hn hc
  unfold RdP
  rw [e2, e3]
  have hcb := hO.all_le.2
  obtain ⟨cn, hcn⟩ : ∃ c, c = d.cnt := ⟨_, rfl⟩
  have HRD : Hid (r.rd = (cn : Nat)) := by rw [hcn]; exact hcr.rd
  rw [← hcn] at hk hcb
  have emin : min n (cn : Int) = (k : Nat) := by omega
  have dn : decide (n < 1) = false := by simpa using hn
  clear hcr h2 h3 hO e1 e2 e3 hk hal hcn hn hcb hm
  go_enter Try.func16, Try.ntmps16
  go_wp2_with fail
  refine HL.out.mono ?_
  rintro e w1 ⟨rfl, hs⟩
  have HS1 := hide' hs
  have HC1 := hide' (HC0.out.keep hs)
  clear hs HL HC0
  obtain ⟨c0, c1, c2, c3, c4, c5, c6, c7, c8, c9, c10, c11, c12, c13, c14, c15, c16, c17, c18, c19, c20, c21, f0, f1, f2, f3, f4, f5, f6, f7, f8, f9, f10, f11, f12, f13, f14, f15, f16, f17, f18, f19, f20, f21⟩ := HC1.out.box
  rw [HRD.out] at c18
  go_wp2_with fail
  refine (HTK.out _ _ HC1.out).mono ?_
  rintro e w2 ⟨v, r2, rfl, hb, hc2, hs2, hg2⟩
  have HB2 := hide' hb
  have HC2 := hide' hc2
  have HS2 := hide' hs2
  have HG2 := hide' hg2
  clear hb hc2 hs2 hg2 emin dn c0 c1 c2 c3 c4 c5 c6 c7 c8 c9 c10 c11 c12 c13 c14 c15 c16 c17 c18 c19 c20 c21 f0 f1 f2 f3 f4 f5 f6 f7 f8 f9 f10 f11 f12 f13 f14 f15 f16 f17 f18 f19 f20 f21
  go_wp2
  go_returns
  refine ⟨_, Bl p r2, rfl, ?_, ⟨r2, ?_, fun j hj => hj, HC2.out.lt⟩, ?_, fun j hj => ?_⟩
  · have h1 : BR w2 v (d.all.take k) := HB2.out
    rw [HRT.out.1] at h1
    exact h1
  · rw [← HRT.out.2]; exact HC2.out
  · exact (HS1.out.mono (fun _ _ h => h.elim)).trans (HS2.out.mono (fun j _ hj => HO2.out j hj))
  · rcases HG2.out j hj with h | h
    · exact .inl (HO2.out j h)
    · exact .inr (Nat.le_trans HS1.out.size h)

set_option maxRecDepth 100000 in
theorem a_read2 {N : Nat} (n : Int) (h : At w p O d) (hO : Ok N d) (hn : ¬ n < 1) (hc : d.loc 1 = true) (hl : d.lines = []) : Calls Try.prog 16 #[.pointer (some ⟨p, 0, none⟩), .int .i64 n] w (RdP At p O d n w) := by
  have HA := hide' h
  obtain ⟨r, hcr, h2, h3⟩ := h
  have HC0 := hide' hcr
  have HL := hide' (p_local (x := d.ps) hcr hO.right 1 (by simp))
  have e1 : hasB d.ps.t.fl 1 = true := hc
  rw [e1] at HL
  obtain ⟨e2, e3⟩ := rd_none d n hn hc hl
  unfold RdP
  rw [e2, e3]
  obtain ⟨la, lc, hv, _⟩ := hcr.li.shape
  have hz : d.ps.lns.length = 0 := by show (d.lines.map List.length).length = 0; rw [hl]; rfl
  rw [hz] at hv
  have HV := hide' hv
  have dn : decide (n < 1) = false := by simpa using hn
  clear hcr h2 h3 hO e1 e2 e3 hn hz hv
  go_enter Try.func16, Try.ntmps16
  go_wp2_with fail
  refine HL.out.mono ?_
  rintro e w1 ⟨rfl, hs⟩
  have HS1 := hide' hs
  have HC1 := hide' (HC0.out.keep hs)
  clear hs HL HC0
  obtain ⟨c0, c1, c2, c3, c4, c5, c6, c7, c8, c9, c10, c11, c12, c13, c14, c15, c16, c17, c18, c19, c20, c21, f0, f1, f2, f3, f4, f5, f6, f7, f8, f9, f10, f11, f12, f13, f14, f15, f16, f17, f18, f19, f20, f21⟩ := HC1.out.box
  rw [HV.out] at c19
  go_wp2
  go_returns
  exact ⟨.slice none 0 0, O, rfl, (BRow.nil w1 ⟨0, fun _ => True, trivial⟩).br, HA.out.keep HS1.out (fun _ h => h.elim), HS1.out.mono (fun _ _ h => h.elim), fun k hk => .inl hk⟩
end

end Go.Proofs.Ytkggmjjjopfdbaa
