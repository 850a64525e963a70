/-
  A byte is put: walked. No conditions.
-/
import Derived.Test.YtkggmjjjopfdbaaR6
namespace Go.Proofs.Ytkggmjjjopfdbaa
open Go.RowKit
open L17

theorem lay_loc (d : DS) (c f : Int) : (d.lay c).loc f = d.loc f := by unfold DS.lay; split <;> rfl

theorem nl_loc (d : DS) (c f : Int) : (d.nl c).loc f = d.loc f := by unfold DS.nl; split <;> rfl

theorem lay_ec (d : DS) (c : Int) : (d.lay c).ec = d.ec := by unfold DS.lay; split <;> rfl

theorem nl_ec (d : DS) (c : Int) : (d.nl c).ec.length ≤ d.ec.length + 1 := by unfold DS.nl DS.out; split <;> simp

set_option maxRecDepth 100000 in
set_option maxHeartbeats 1000000 in
theorem r_put (b : Bx) (d : DS) (c : Int) (w : World) (h : RAt w b d) (h0 : 0 ≤ c) (h1 : c < 256) (hl : d.line.length ≤ 10000) (hr : d.raw.length ≤ 10000) (he : d.ec.length ≤ 700000) : Calls Try.prog 31 #[.pointer (some ⟨b, 0, none⟩), .int .u8 c] w (TurnR b (d.put c) (.bool (d.room c)) w) := by
  have HLO := hide' (fun (f : Int) (w' : World) (d' : DS) (hh : RAt w' b d') => r_local b d' f w' hh)
  have HIS := hide' (fun w' (hs : Stay (fun _ => False) w w') => r_is b d 4 c w' (h.keep hs) h0 h1)
  have HLS := hide' (fun w' (hs : Stay (fun _ => False) w w') => r_lost b d w' (h.keep hs) (by omega))
  have HR0 := hide' h
  have HS0 := hide' (Stay.refl (fun _ => False) w)
  have HSH : Hid (∀ w' d', RAt w' b d' → d'.ec.length ≤ 800000 → Calls Try.prog 35 #[.pointer (some ⟨b, 0, none⟩), .int .u8 c] w' (TurnR b (d'.shw c) (.tuple #[]) w')) := fun w' d' hh hn => r_shw b d' c w' hh h0 h1 hn
  have HOU : Hid (∀ w' d' v, RAt w' b d' → BRow w' b v [10] → d'.ec.length ≤ 800000 → Calls Try.prog 36 #[.pointer (some ⟨b, 0, none⟩), v] w' (TurnR b (d'.out [10]) (.tuple #[]) w')) := fun w' d' v hh hv hn => r_out b d' v [10] w' hh hv (by simp; omega)
  have HWC := hide' (wf_u8_of h0 h1)
  have HEC := hide' he
  have HPUT : Hid (d.put c = if d.room c = true then ((d.lay c).nl c).shw c else d.lost) := rfl
  have HRM : Hid (d.room c = ((d.loc 1 && (decide (d.line.length < 254) || (d.ends c && decide (d.line.length < 255)))) || (!d.loc 1 && decide (d.raw.length < 1024)))) := rfl
  have HEN : Hid (d.ends c = (c == 10 || isB d.t 4 c)) := rfl
  have HLAY : Hid (d.lay c = if d.loc 1 = true then d.setLine (d.line ++ [c]) else d.setRaw (d.raw ++ [c])) := rfl
  have HLL : Hid (∀ f, (d.lay c).loc f = d.loc f) := fun f => lay_loc d c f
  have HNL : Hid ((d.lay c).nl c = if c = 10 ∧ d.loc 1 = true ∧ d.loc 16 = true ∧ d.loc 2 = false then (d.lay c).out [10] else d.lay c) := by
    show (d.lay c).nl c = _
    unfold DS.nl
    rw [lay_loc, lay_loc, lay_loc]
  have HLE : Hid ((d.lay c).ec = d.ec) := lay_ec d c
  have HNE : Hid (((d.lay c).nl c).ec.length ≤ 700001) := by
    have h1 := nl_ec (d.lay c) c
    rw [lay_ec] at h1
    show _ ≤ _; omega
  obtain ⟨r, HB, HP⟩ := h
  obtain ⟨al, cl, e17⟩ := HP.ln.shape
  obtain ⟨ar, cr, e19⟩ := HP.rw.shape
  have HX := hide' (And.intro HB HP)
  clear HB HP
  have hnl1 : ([] : List Int).length + d.line.length ≤ 1000000 := by simp; omega
  have hnr1 : ([] : List Int).length + d.raw.length ≤ 1000000 := by simp; omega
  have hnl2 : ([] ++ d.line : List Int).length + [c].length ≤ 1000000 := by simp; omega
  have hnr2 : ([] ++ d.raw : List Int).length + [c].length ≤ 1000000 := by simp; omega
  have HNS := hide' (And.intro hnl1 (And.intro hnr1 (And.intro hnl2 hnr2)))
  obtain ⟨nl, hnl⟩ : ∃ n, n = d.line.length := ⟨_, rfl⟩
  obtain ⟨nr, hnr⟩ : ∃ n, n = d.raw.length := ⟨_, rfl⟩
  rw [← hnl] at e17 HRM
  rw [← hnr] at e19 HRM
  have kl : nl ≤ 10000 := by omega
  have kr : nr ≤ 10000 := by omega
  obtain ⟨dn, hdn⟩ : ∃ x, x = (d.lay c).nl c := ⟨_, rfl⟩
  rw [← hdn] at HNL HNE HPUT
  obtain ⟨dl, hdl⟩ : ∃ x, x = d.lay c := ⟨_, rfl⟩
  rw [← hdl] at HNL HLAY HLE
  have HLL2 : Hid (∀ f, dl.loc f = d.loc f) := fun f => by rw [hdl]; exact HLL.out f
  obtain ⟨rm, hrm⟩ : ∃ x, x = d.room c := ⟨_, rfl⟩
  obtain ⟨dp, hdp⟩ : ∃ x, x = d.put c := ⟨_, rfl⟩
  rw [← hrm] at HPUT HRM ⊢
  rw [← hdp] at HPUT ⊢
  obtain ⟨en, hen⟩ : ∃ x, x = d.ends c := ⟨_, rfl⟩
  rw [← hen] at HEN HRM
  obtain ⟨i4, hi4⟩ : ∃ x, x = isB d.t 4 c := ⟨_, rfl⟩
  rw [← hi4] at HEN HIS
  obtain ⟨q1, hq1⟩ : ∃ x, x = d.loc 1 := ⟨_, rfl⟩
  have HQ1 := hide' hq1
  rw [← hq1] at HRM HLAY HNL
  clear hnl1 hnr1 hnl2 hnr2 hnl hnr hl hr hdn hdl HLL hrm hdp hen hi4 hq1 h0 h1 he
  by_cases h10 : c = 10
  · subst h10
    have HEN2 : Hid (en = true) := by show en = true; rw [HEN.out]; rfl
    have hen := HEN2.out
    subst hen
    go_enter Try.func31, Try.ntmps31
    cases q1
    · go_wp2_with fail
      refine (HLO.out 1 _ d (HR0.out.keep HS0.out)).mono ?_
      rintro e w1 ⟨rfl, hs⟩
      have HS1 := hide' (HS0.out.trans hs)
      clear hs
      rw [← HQ1.out]
      go_wp2_with fail
      refine (HLO.out 1 _ d (HR0.out.keep HS1.out)).mono ?_
      rintro e w2 ⟨rfl, hs⟩
      have HS2 := hide' (HS1.out.trans hs)
      clear hs
      rw [← HQ1.out]
      have HX2 := hide' (HX.out.1.keep HS2.out)
      obtain ⟨c0, c1, c2, c3, c4, c5, c6, c7, c8, c9, c10, c11, c12, c13, c14, c15, c16, c17, c18, c19, c20, c21, c22, _⟩ := HX2.out
      rw [e17] at c17
      rw [e19] at c19
      by_cases hraw : nr < 1024
      · have kn : decide ((nr : Int) < 1024) = true := by simp; omega
        have HRT : Hid (rm = true) := by show rm = true; rw [HRM.out]; simp [*]
        go_wp2_with fail
        refine (HLO.out 1 _ d (HR0.out.keep HS2.out)).mono ?_
        rintro e w3 ⟨rfl, hs⟩
        have HS3 := hide' (HS2.out.trans hs)
        clear hs
        rw [← HQ1.out]
        clear c0 c1 c2 c3 c4 c5 c6 c7 c8 c9 c10 c11 c12 c13 c14 c15 c16 c17 c18 c19 c20 c21 c22
        have HBA := hide' (HX.out.1.keep (HS3.out.alloc (.cells #[] 5)))
        have HAA := hide' (Acc.begin w3)
        have HEA := hide' (HX.out.2.rw.keep (HS3.out.alloc (.cells #[] 5)))
        obtain ⟨c0, c1, c2, c3, c4, c5, c6, c7, c8, c9, c10, c11, c12, c13, c14, c15, c16, c17, c18, c19, c20, c21, c22, _⟩ := HBA.out
        rw [e17] at c17
        rw [e19] at c19
        have hn1 := HNS.out.2.1
        rw [e19] at HEA
        go_wp2_with (at_builtin; refine acc_app rfl _ _ rfl HAA.out rfl HEA.out rfl hn1 ?_; intro v1 wa hA1; have HA1 := hide' (hA1.keep ((Stay.refl _ wa).alloc (.cells #[.int .u8 10] 5))); have HC1 := hide' (brow_new wa #[.int .u8 10] [10] 1 b (Bx.le HR0.out.lt (Nat.le_trans HS3.out.size hA1.stay.size)) rfl rfl (fun y hy => by simp at hy; subst hy; exact HWC.out) (by omega)); obtain ⟨a1, z1, p1, ev1⟩ := hA1.form; clear hA1 HAA HEA hn1 c0 c1 c2 c3 c4 c5 c6 c7 c8 c9 c10 c11 c12 c13 c14 c15 c16 c17 c18 c19 c20 c21 c22; subst ev1; have hn2 := HNS.out.2.2.2; go_wp2_with (at_builtin; refine acc_app rfl _ _ rfl HA1.out rfl HC1.out rfl hn2 ?_; intro v2 wb hA2; have HA2 := hide' hA2; have HSB := hide' (HS3.out.trans hA2.stay); have HB2 := hide' (HX.out.1.keep HSB.out); obtain ⟨a2, z2, p2, ev2⟩ := hA2.form; clear hA2 HA1 HC1 hn2; obtain ⟨c0, c1, c2, c3, c4, c5, c6, c7, c8, c9, c10, c11, c12, c13, c14, c15, c16, c17, c18, c19, c20, c21, c22, f0, f1, f2, f3, f4, f5, f6, f7, f8, f9, f10, f11, f12, f13, f14, f15, f16, f17, f18, f19, f20, f21, f22⟩ := HB2.out; subst ev2; go_wp2_with fail))
        go_upto_region 9 with fail
        have HRD : Hid (RAt (wb.setCell ⟨b, 19, none⟩ (.slice a2 z2 p2)) b dl) := by
          have h1 := RAt.put_rw HB2.out (HX.out.2.stay HSB.out (fun _ h => h.elim)) (HA2.out.brow (Bx.le HR0.out.lt HS3.out.size))
          have e : dl = d.setRaw ([] ++ d.raw ++ [10]) := by rw [HLAY.out]; rfl
          rw [← e] at h1
          exact h1
        have HSD : Hid (Stay (fun k => k = b) w (wb.setCell ⟨b, 19, none⟩ (.slice a2 z2 p2))) := stay_b HSB.out _ _
        obtain ⟨wc, hwc⟩ : ∃ W, W = wb.setCell ⟨b, 19, none⟩ (.slice a2 z2 p2) := ⟨_, rfl⟩
        rw [← hwc] at HRD HSD ⊢
        clear hwc HB2 HSB HA2 c0 c1 c2 c3 c4 c5 c6 c7 c8 c9 c10 c11 c12 c13 c14 c15 c16 c17 c18 c19 c20 c21 c22 f0 f1 f2 f3 f4 f5 f6 f7 f8 f9 f10 f11 f12 f13 f14 f15 f16 f17 f18 f19 f20 f21 f22
        go_wp2_with fail
        refine (HLO.out 1 _ dl HRD.out).mono ?_
        rintro e wl1 ⟨rfl, hs⟩
        have HRL1 := hide' (HRD.out.keep hs)
        have HSL1 := hide' (HSD.out.trans (hs.mono (fun _ _ h => h.elim)))
        clear hs
        rw [HLL2.out, ← HQ1.out]
        have HDN : Hid (dl = dn) := by show dl = dn; rw [HNL.out]; simp
        have hdn2 := HDN.out
        have HRN := hide' HRL1.out
        rw [hdn2] at HRN
        go_wp2_with fail
        refine (HSH.out _ dn HRN.out (by have := HNE.out; omega)).mono ?_
        rintro e wz ⟨rfl, hr, hs⟩
        have HRZ := hide' hr
        have HSZ := hide' (HSL1.out.trans hs)
        clear hr hs hdn2
        go_wp2
        go_ret
        refine ⟨ret_bool HRT.out.symm, ?_, HSZ.out⟩
        rw [HPUT.out, HRT.out]
        simpa using HRZ.out
      · have kn : decide ((nr : Int) < 1024) = false := by simp; omega
        have HRF : Hid (rm = false) := by show rm = false; rw [HRM.out]; simp [*]
        go_wp2_with fail
        refine (HLS.out _ HS2.out).mono ?_
        rintro e wz ⟨rfl, hr, hs⟩
        have HRZ := hide' hr
        have HSZ := hide' ((HS2.out.mono (fun _ _ h => h.elim)).trans hs)
        clear hr hs
        go_wp2
        go_ret
        refine ⟨ret_bool HRF.out.symm, ?_, HSZ.out⟩
        rw [HPUT.out, HRF.out]
        simpa using HRZ.out
    · go_wp2_with fail
      refine (HLO.out 1 _ d (HR0.out.keep HS0.out)).mono ?_
      rintro e w1 ⟨rfl, hs⟩
      have HS1 := hide' (HS0.out.trans hs)
      clear hs
      rw [← HQ1.out]
      have HX1 := hide' (HX.out.1.keep HS1.out)
      obtain ⟨c0, c1, c2, c3, c4, c5, c6, c7, c8, c9, c10, c11, c12, c13, c14, c15, c16, c17, c18, c19, c20, c21, c22, _⟩ := HX1.out
      rw [e17] at c17
      rw [e19] at c19
      by_cases h254 : nl < 254
      · have kn : decide ((nl : Int) < 254) = true := by simp; omega
        have HRT : Hid (rm = true) := by show rm = true; rw [HRM.out]; simp [*]
        go_wp2_with fail
        refine (HLO.out 1 _ d (HR0.out.keep HS1.out)).mono ?_
        rintro e w2 ⟨rfl, hs⟩
        have HS2 := hide' (HS1.out.trans hs)
        clear hs
        rw [← HQ1.out]
        clear c0 c1 c2 c3 c4 c5 c6 c7 c8 c9 c10 c11 c12 c13 c14 c15 c16 c17 c18 c19 c20 c21 c22
        have HBA := hide' (HX.out.1.keep (HS2.out.alloc (.cells #[] 5)))
        have HAA := hide' (Acc.begin w2)
        have HEA := hide' (HX.out.2.ln.keep (HS2.out.alloc (.cells #[] 5)))
        obtain ⟨c0, c1, c2, c3, c4, c5, c6, c7, c8, c9, c10, c11, c12, c13, c14, c15, c16, c17, c18, c19, c20, c21, c22, _⟩ := HBA.out
        rw [e17] at c17
        rw [e19] at c19
        have hn1 := HNS.out.1
        rw [e17] at HEA
        go_wp2_with (at_builtin; refine acc_app rfl _ _ rfl HAA.out rfl HEA.out rfl hn1 ?_; intro v1 wa hA1; have HA1 := hide' (hA1.keep ((Stay.refl _ wa).alloc (.cells #[.int .u8 10] 5))); have HC1 := hide' (brow_new wa #[.int .u8 10] [10] 1 b (Bx.le HR0.out.lt (Nat.le_trans HS2.out.size hA1.stay.size)) rfl rfl (fun y hy => by simp at hy; subst hy; exact HWC.out) (by omega)); obtain ⟨a1, z1, p1, ev1⟩ := hA1.form; clear hA1 HAA HEA hn1 c0 c1 c2 c3 c4 c5 c6 c7 c8 c9 c10 c11 c12 c13 c14 c15 c16 c17 c18 c19 c20 c21 c22; subst ev1; have hn2 := HNS.out.2.2.1; go_wp2_with (at_builtin; refine acc_app rfl _ _ rfl HA1.out rfl HC1.out rfl hn2 ?_; intro v2 wb hA2; have HA2 := hide' hA2; have HSB := hide' (HS2.out.trans hA2.stay); have HB2 := hide' (HX.out.1.keep HSB.out); obtain ⟨a2, z2, p2, ev2⟩ := hA2.form; clear hA2 HA1 HC1 hn2; obtain ⟨c0, c1, c2, c3, c4, c5, c6, c7, c8, c9, c10, c11, c12, c13, c14, c15, c16, c17, c18, c19, c20, c21, c22, f0, f1, f2, f3, f4, f5, f6, f7, f8, f9, f10, f11, f12, f13, f14, f15, f16, f17, f18, f19, f20, f21, f22⟩ := HB2.out; subst ev2; go_wp2_with fail))
        go_upto_region 9 with fail
        have HRD : Hid (RAt (wb.setCell ⟨b, 17, none⟩ (.slice a2 z2 p2)) b dl) := by
          have h1 := RAt.put_ln HB2.out (HX.out.2.stay HSB.out (fun _ h => h.elim)) (HA2.out.brow (Bx.le HR0.out.lt HS2.out.size))
          have e : dl = d.setLine ([] ++ d.line ++ [10]) := by rw [HLAY.out]; rfl
          rw [← e] at h1
          exact h1
        have HSD : Hid (Stay (fun k => k = b) w (wb.setCell ⟨b, 17, none⟩ (.slice a2 z2 p2))) := stay_b HSB.out _ _
        obtain ⟨wc, hwc⟩ : ∃ W, W = wb.setCell ⟨b, 17, none⟩ (.slice a2 z2 p2) := ⟨_, rfl⟩
        rw [← hwc] at HRD HSD ⊢
        clear hwc HB2 HSB HA2 c0 c1 c2 c3 c4 c5 c6 c7 c8 c9 c10 c11 c12 c13 c14 c15 c16 c17 c18 c19 c20 c21 c22 f0 f1 f2 f3 f4 f5 f6 f7 f8 f9 f10 f11 f12 f13 f14 f15 f16 f17 f18 f19 f20 f21 f22
        go_wp2_with fail
        refine (HLO.out 1 _ dl HRD.out).mono ?_
        rintro e wl1 ⟨rfl, hs⟩
        have HRL1 := hide' (HRD.out.keep hs)
        have HSL1 := hide' (HSD.out.trans (hs.mono (fun _ _ h => h.elim)))
        clear hs
        rw [HLL2.out, ← HQ1.out]
        obtain ⟨q16, hq16⟩ : ∃ q, q = d.loc 16 := ⟨_, rfl⟩
        obtain ⟨q2, hq2⟩ : ∃ q, q = d.loc 2 := ⟨_, rfl⟩
        have HQ16 := hide' hq16
        have HQ2 := hide' hq2
        rw [← hq16, ← hq2] at HNL
        clear hq16 hq2
        go_wp2_with fail
        refine (HLO.out 16 _ dl HRL1.out).mono ?_
        rintro e wl2 ⟨rfl, hs⟩
        have HRL2 := hide' (HRL1.out.keep hs)
        have HSL2 := hide' (HSL1.out.trans (hs.mono (fun _ _ h => h.elim)))
        clear hs
        rw [HLL2.out, ← HQ16.out]
        cases q16
        · have HDN : Hid (dl = dn) := by show dl = dn; rw [HNL.out]; simp
          have hdn2 := HDN.out
          have HRN := hide' HRL2.out
          rw [hdn2] at HRN
          go_wp2_with fail
          refine (HSH.out _ dn HRN.out (by have := HNE.out; omega)).mono ?_
          rintro e wz ⟨rfl, hr, hs⟩
          have HRZ := hide' hr
          have HSZ := hide' (HSL2.out.trans hs)
          clear hr hs hdn2
          go_wp2
          go_ret
          refine ⟨ret_bool HRT.out.symm, ?_, HSZ.out⟩
          rw [HPUT.out, HRT.out]
          simpa using HRZ.out
        · go_wp2_with fail
          refine (HLO.out 2 _ dl HRL2.out).mono ?_
          rintro e wl3 ⟨rfl, hs⟩
          have HRL3 := hide' (HRL2.out.keep hs)
          have HSL3 := hide' (HSL2.out.trans (hs.mono (fun _ _ h => h.elim)))
          clear hs
          rw [HLL2.out, ← HQ2.out]
          cases q2
          · go_wp2_with fail
            have HRA := hide' (HRL3.out.keep ((Stay.refl _ wl3).alloc (.cells #[.int .u8 10] 5)))
            have HSA := hide' (HSL3.out.alloc (.cells #[.int .u8 10] 5))
            refine (HOU.out _ dl _ HRA.out (brow_const wl3 10 b (by decide) HRL3.out.lt) (by rw [HLE.out]; have := HEC.out; omega)).mono ?_
            rintro e wo ⟨rfl, hr, hs⟩
            have HRO := hide' hr
            have HSO := hide' (HSA.out.trans hs)
            clear hr hs
            have HDN : Hid (dl.out [10] = dn) := by show dl.out [10] = dn; rw [HNL.out]; simp
            have hdn2 := HDN.out
            have HRN := hide' HRO.out
            rw [hdn2] at HRN
            go_wp2_with fail
            refine (HSH.out _ dn HRN.out (by have := HNE.out; omega)).mono ?_
            rintro e wz ⟨rfl, hr, hs⟩
            have HRZ := hide' hr
            have HSZ := hide' (HSO.out.trans hs)
            clear hr hs hdn2
            go_wp2
            go_ret
            refine ⟨ret_bool HRT.out.symm, ?_, HSZ.out⟩
            rw [HPUT.out, HRT.out]
            simpa using HRZ.out
          · have HDN : Hid (dl = dn) := by show dl = dn; rw [HNL.out]; simp
            have hdn2 := HDN.out
            have HRN := hide' HRL3.out
            rw [hdn2] at HRN
            go_wp2_with fail
            refine (HSH.out _ dn HRN.out (by have := HNE.out; omega)).mono ?_
            rintro e wz ⟨rfl, hr, hs⟩
            have HRZ := hide' hr
            have HSZ := hide' (HSL3.out.trans hs)
            clear hr hs hdn2
            go_wp2
            go_ret
            refine ⟨ret_bool HRT.out.symm, ?_, HSZ.out⟩
            rw [HPUT.out, HRT.out]
            simpa using HRZ.out
      · have kn : decide ((nl : Int) < 254) = false := by simp; omega
        by_cases h255 : nl < 255
        · have kn2 : decide ((nl : Int) < 255) = true := by simp; omega
          have HRT : Hid (rm = true) := by show rm = true; rw [HRM.out]; simp [*]
          go_wp2_with fail
          refine (HLO.out 1 _ d (HR0.out.keep HS1.out)).mono ?_
          rintro e w2 ⟨rfl, hs⟩
          have HS2 := hide' (HS1.out.trans hs)
          clear hs
          rw [← HQ1.out]
          clear c0 c1 c2 c3 c4 c5 c6 c7 c8 c9 c10 c11 c12 c13 c14 c15 c16 c17 c18 c19 c20 c21 c22
          have HBA := hide' (HX.out.1.keep (HS2.out.alloc (.cells #[] 5)))
          have HAA := hide' (Acc.begin w2)
          have HEA := hide' (HX.out.2.ln.keep (HS2.out.alloc (.cells #[] 5)))
          obtain ⟨c0, c1, c2, c3, c4, c5, c6, c7, c8, c9, c10, c11, c12, c13, c14, c15, c16, c17, c18, c19, c20, c21, c22, _⟩ := HBA.out
          rw [e17] at c17
          rw [e19] at c19
          have hn1 := HNS.out.1
          rw [e17] at HEA
          go_wp2_with (at_builtin; refine acc_app rfl _ _ rfl HAA.out rfl HEA.out rfl hn1 ?_; intro v1 wa hA1; have HA1 := hide' (hA1.keep ((Stay.refl _ wa).alloc (.cells #[.int .u8 10] 5))); have HC1 := hide' (brow_new wa #[.int .u8 10] [10] 1 b (Bx.le HR0.out.lt (Nat.le_trans HS2.out.size hA1.stay.size)) rfl rfl (fun y hy => by simp at hy; subst hy; exact HWC.out) (by omega)); obtain ⟨a1, z1, p1, ev1⟩ := hA1.form; clear hA1 HAA HEA hn1 c0 c1 c2 c3 c4 c5 c6 c7 c8 c9 c10 c11 c12 c13 c14 c15 c16 c17 c18 c19 c20 c21 c22; subst ev1; have hn2 := HNS.out.2.2.1; go_wp2_with (at_builtin; refine acc_app rfl _ _ rfl HA1.out rfl HC1.out rfl hn2 ?_; intro v2 wb hA2; have HA2 := hide' hA2; have HSB := hide' (HS2.out.trans hA2.stay); have HB2 := hide' (HX.out.1.keep HSB.out); obtain ⟨a2, z2, p2, ev2⟩ := hA2.form; clear hA2 HA1 HC1 hn2; obtain ⟨c0, c1, c2, c3, c4, c5, c6, c7, c8, c9, c10, c11, c12, c13, c14, c15, c16, c17, c18, c19, c20, c21, c22, f0, f1, f2, f3, f4, f5, f6, f7, f8, f9, f10, f11, f12, f13, f14, f15, f16, f17, f18, f19, f20, f21, f22⟩ := HB2.out; subst ev2; go_wp2_with fail))
          go_upto_region 9 with fail
          have HRD : Hid (RAt (wb.setCell ⟨b, 17, none⟩ (.slice a2 z2 p2)) b dl) := by
            have h1 := RAt.put_ln HB2.out (HX.out.2.stay HSB.out (fun _ h => h.elim)) (HA2.out.brow (Bx.le HR0.out.lt HS2.out.size))
            have e : dl = d.setLine ([] ++ d.line ++ [10]) := by rw [HLAY.out]; rfl
            rw [← e] at h1
            exact h1
          have HSD : Hid (Stay (fun k => k = b) w (wb.setCell ⟨b, 17, none⟩ (.slice a2 z2 p2))) := stay_b HSB.out _ _
          obtain ⟨wc, hwc⟩ : ∃ W, W = wb.setCell ⟨b, 17, none⟩ (.slice a2 z2 p2) := ⟨_, rfl⟩
          rw [← hwc] at HRD HSD ⊢
          clear hwc HB2 HSB HA2 c0 c1 c2 c3 c4 c5 c6 c7 c8 c9 c10 c11 c12 c13 c14 c15 c16 c17 c18 c19 c20 c21 c22 f0 f1 f2 f3 f4 f5 f6 f7 f8 f9 f10 f11 f12 f13 f14 f15 f16 f17 f18 f19 f20 f21 f22
          go_wp2_with fail
          refine (HLO.out 1 _ dl HRD.out).mono ?_
          rintro e wl1 ⟨rfl, hs⟩
          have HRL1 := hide' (HRD.out.keep hs)
          have HSL1 := hide' (HSD.out.trans (hs.mono (fun _ _ h => h.elim)))
          clear hs
          rw [HLL2.out, ← HQ1.out]
          obtain ⟨q16, hq16⟩ : ∃ q, q = d.loc 16 := ⟨_, rfl⟩
          obtain ⟨q2, hq2⟩ : ∃ q, q = d.loc 2 := ⟨_, rfl⟩
          have HQ16 := hide' hq16
          have HQ2 := hide' hq2
          rw [← hq16, ← hq2] at HNL
          clear hq16 hq2
          go_wp2_with fail
          refine (HLO.out 16 _ dl HRL1.out).mono ?_
          rintro e wl2 ⟨rfl, hs⟩
          have HRL2 := hide' (HRL1.out.keep hs)
          have HSL2 := hide' (HSL1.out.trans (hs.mono (fun _ _ h => h.elim)))
          clear hs
          rw [HLL2.out, ← HQ16.out]
          cases q16
          · have HDN : Hid (dl = dn) := by show dl = dn; rw [HNL.out]; simp
            have hdn2 := HDN.out
            have HRN := hide' HRL2.out
            rw [hdn2] at HRN
            go_wp2_with fail
            refine (HSH.out _ dn HRN.out (by have := HNE.out; omega)).mono ?_
            rintro e wz ⟨rfl, hr, hs⟩
            have HRZ := hide' hr
            have HSZ := hide' (HSL2.out.trans hs)
            clear hr hs hdn2
            go_wp2
            go_ret
            refine ⟨ret_bool HRT.out.symm, ?_, HSZ.out⟩
            rw [HPUT.out, HRT.out]
            simpa using HRZ.out
          · go_wp2_with fail
            refine (HLO.out 2 _ dl HRL2.out).mono ?_
            rintro e wl3 ⟨rfl, hs⟩
            have HRL3 := hide' (HRL2.out.keep hs)
            have HSL3 := hide' (HSL2.out.trans (hs.mono (fun _ _ h => h.elim)))
            clear hs
            rw [HLL2.out, ← HQ2.out]
            cases q2
            · go_wp2_with fail
              have HRA := hide' (HRL3.out.keep ((Stay.refl _ wl3).alloc (.cells #[.int .u8 10] 5)))
              have HSA := hide' (HSL3.out.alloc (.cells #[.int .u8 10] 5))
              refine (HOU.out _ dl _ HRA.out (brow_const wl3 10 b (by decide) HRL3.out.lt) (by rw [HLE.out]; have := HEC.out; omega)).mono ?_
              rintro e wo ⟨rfl, hr, hs⟩
              have HRO := hide' hr
              have HSO := hide' (HSA.out.trans hs)
              clear hr hs
              have HDN : Hid (dl.out [10] = dn) := by show dl.out [10] = dn; rw [HNL.out]; simp
              have hdn2 := HDN.out
              have HRN := hide' HRO.out
              rw [hdn2] at HRN
              go_wp2_with fail
              refine (HSH.out _ dn HRN.out (by have := HNE.out; omega)).mono ?_
              rintro e wz ⟨rfl, hr, hs⟩
              have HRZ := hide' hr
              have HSZ := hide' (HSO.out.trans hs)
              clear hr hs hdn2
              go_wp2
              go_ret
              refine ⟨ret_bool HRT.out.symm, ?_, HSZ.out⟩
              rw [HPUT.out, HRT.out]
              simpa using HRZ.out
            · have HDN : Hid (dl = dn) := by show dl = dn; rw [HNL.out]; simp
              have hdn2 := HDN.out
              have HRN := hide' HRL3.out
              rw [hdn2] at HRN
              go_wp2_with fail
              refine (HSH.out _ dn HRN.out (by have := HNE.out; omega)).mono ?_
              rintro e wz ⟨rfl, hr, hs⟩
              have HRZ := hide' hr
              have HSZ := hide' (HSL3.out.trans hs)
              clear hr hs hdn2
              go_wp2
              go_ret
              refine ⟨ret_bool HRT.out.symm, ?_, HSZ.out⟩
              rw [HPUT.out, HRT.out]
              simpa using HRZ.out
        · have kn2 : decide ((nl : Int) < 255) = false := by simp; omega
          go_wp2_with fail
          refine (HLO.out 1 _ d (HR0.out.keep HS1.out)).mono ?_
          rintro e w2 ⟨rfl, hs⟩
          have HS2 := hide' (HS1.out.trans hs)
          clear hs
          rw [← HQ1.out]
          have HRF : Hid (rm = false) := by show rm = false; rw [HRM.out]; simp [*]
          go_wp2_with fail
          refine (HLS.out _ HS2.out).mono ?_
          rintro e wz ⟨rfl, hr, hs⟩
          have HRZ := hide' hr
          have HSZ := hide' ((HS2.out.mono (fun _ _ h => h.elim)).trans hs)
          clear hr hs
          go_wp2
          go_ret
          refine ⟨ret_bool HRF.out.symm, ?_, HSZ.out⟩
          rw [HPUT.out, HRF.out]
          simpa using HRZ.out
  · have e10 : (c == 10) = false := by simpa using h10
    have HEN2 : Hid (en = i4) := by show en = i4; rw [HEN.out, e10]; rfl
    have hen := HEN2.out
    subst hen
    clear e10
    go_enter Try.func31, Try.ntmps31
    go_wp2_with fail
    refine (HIS.out _ HS0.out).mono ?_
    rintro e w1 ⟨rfl, hs⟩
    have HS1 := hide' (HS0.out.trans hs)
    clear hs
    cases q1
    · go_wp2_with fail
      refine (HLO.out 1 _ d (HR0.out.keep HS1.out)).mono ?_
      rintro e w2 ⟨rfl, hs⟩
      have HS2 := hide' (HS1.out.trans hs)
      clear hs
      rw [← HQ1.out]
      go_wp2_with fail
      refine (HLO.out 1 _ d (HR0.out.keep HS2.out)).mono ?_
      rintro e w3 ⟨rfl, hs⟩
      have HS3 := hide' (HS2.out.trans hs)
      clear hs
      rw [← HQ1.out]
      have HX3 := hide' (HX.out.1.keep HS3.out)
      obtain ⟨c0, c1, c2, c3, c4, c5, c6, c7, c8, c9, c10, c11, c12, c13, c14, c15, c16, c17, c18, c19, c20, c21, c22, _⟩ := HX3.out
      rw [e17] at c17
      rw [e19] at c19
      by_cases hraw : nr < 1024
      · have kn : decide ((nr : Int) < 1024) = true := by simp; omega
        have HRT : Hid (rm = true) := by show rm = true; rw [HRM.out]; simp [*]
        go_wp2_with fail
        refine (HLO.out 1 _ d (HR0.out.keep HS3.out)).mono ?_
        rintro e w4 ⟨rfl, hs⟩
        have HS4 := hide' (HS3.out.trans hs)
        clear hs
        rw [← HQ1.out]
        clear c0 c1 c2 c3 c4 c5 c6 c7 c8 c9 c10 c11 c12 c13 c14 c15 c16 c17 c18 c19 c20 c21 c22
        have HBA := hide' (HX.out.1.keep (HS4.out.alloc (.cells #[] 5)))
        have HAA := hide' (Acc.begin w4)
        have HEA := hide' (HX.out.2.rw.keep (HS4.out.alloc (.cells #[] 5)))
        obtain ⟨c0, c1, c2, c3, c4, c5, c6, c7, c8, c9, c10, c11, c12, c13, c14, c15, c16, c17, c18, c19, c20, c21, c22, _⟩ := HBA.out
        rw [e17] at c17
        rw [e19] at c19
        have hn1 := HNS.out.2.1
        rw [e19] at HEA
        go_wp2_with (at_builtin; refine acc_app rfl _ _ rfl HAA.out rfl HEA.out rfl hn1 ?_; intro v1 wa hA1; have HA1 := hide' (hA1.keep ((Stay.refl _ wa).alloc (.cells #[.int .u8 c] 5))); have HC1 := hide' (brow_new wa #[.int .u8 c] [c] 1 b (Bx.le HR0.out.lt (Nat.le_trans HS4.out.size hA1.stay.size)) rfl rfl (fun y hy => by simp at hy; subst hy; exact HWC.out) (by omega)); obtain ⟨a1, z1, p1, ev1⟩ := hA1.form; clear hA1 HAA HEA hn1 c0 c1 c2 c3 c4 c5 c6 c7 c8 c9 c10 c11 c12 c13 c14 c15 c16 c17 c18 c19 c20 c21 c22; subst ev1; have hn2 := HNS.out.2.2.2; go_wp2_with (at_builtin; refine acc_app rfl _ _ rfl HA1.out rfl HC1.out rfl hn2 ?_; intro v2 wb hA2; have HA2 := hide' hA2; have HSB := hide' (HS4.out.trans hA2.stay); have HB2 := hide' (HX.out.1.keep HSB.out); obtain ⟨a2, z2, p2, ev2⟩ := hA2.form; clear hA2 HA1 HC1 hn2; obtain ⟨c0, c1, c2, c3, c4, c5, c6, c7, c8, c9, c10, c11, c12, c13, c14, c15, c16, c17, c18, c19, c20, c21, c22, f0, f1, f2, f3, f4, f5, f6, f7, f8, f9, f10, f11, f12, f13, f14, f15, f16, f17, f18, f19, f20, f21, f22⟩ := HB2.out; subst ev2; go_wp2_with fail))
        go_upto_region 9 with fail
        have HRD : Hid (RAt (wb.setCell ⟨b, 19, none⟩ (.slice a2 z2 p2)) b dl) := by
          have h1 := RAt.put_rw HB2.out (HX.out.2.stay HSB.out (fun _ h => h.elim)) (HA2.out.brow (Bx.le HR0.out.lt HS4.out.size))
          have e : dl = d.setRaw ([] ++ d.raw ++ [c]) := by rw [HLAY.out]; rfl
          rw [← e] at h1
          exact h1
        have HSD : Hid (Stay (fun k => k = b) w (wb.setCell ⟨b, 19, none⟩ (.slice a2 z2 p2))) := stay_b HSB.out _ _
        obtain ⟨wc, hwc⟩ : ∃ W, W = wb.setCell ⟨b, 19, none⟩ (.slice a2 z2 p2) := ⟨_, rfl⟩
        rw [← hwc] at HRD HSD ⊢
        clear hwc HB2 HSB HA2 c0 c1 c2 c3 c4 c5 c6 c7 c8 c9 c10 c11 c12 c13 c14 c15 c16 c17 c18 c19 c20 c21 c22 f0 f1 f2 f3 f4 f5 f6 f7 f8 f9 f10 f11 f12 f13 f14 f15 f16 f17 f18 f19 f20 f21 f22
        have HDN : Hid (dl = dn) := by show dl = dn; rw [HNL.out]; simp [*]
        have hdn2 := HDN.out
        have HRN := hide' HRD.out
        rw [hdn2] at HRN
        go_wp2_with fail
        refine (HSH.out _ dn HRN.out (by have := HNE.out; omega)).mono ?_
        rintro e wz ⟨rfl, hr, hs⟩
        have HRZ := hide' hr
        have HSZ := hide' (HSD.out.trans hs)
        clear hr hs hdn2
        go_wp2
        go_ret
        refine ⟨ret_bool HRT.out.symm, ?_, HSZ.out⟩
        rw [HPUT.out, HRT.out]
        simpa using HRZ.out
      · have kn : decide ((nr : Int) < 1024) = false := by simp; omega
        have HRF : Hid (rm = false) := by show rm = false; rw [HRM.out]; simp [*]
        go_wp2_with fail
        refine (HLS.out _ HS3.out).mono ?_
        rintro e wz ⟨rfl, hr, hs⟩
        have HRZ := hide' hr
        have HSZ := hide' ((HS3.out.mono (fun _ _ h => h.elim)).trans hs)
        clear hr hs
        go_wp2
        go_ret
        refine ⟨ret_bool HRF.out.symm, ?_, HSZ.out⟩
        rw [HPUT.out, HRF.out]
        simpa using HRZ.out
    · go_wp2_with fail
      refine (HLO.out 1 _ d (HR0.out.keep HS1.out)).mono ?_
      rintro e w2 ⟨rfl, hs⟩
      have HS2 := hide' (HS1.out.trans hs)
      clear hs
      rw [← HQ1.out]
      have HX2 := hide' (HX.out.1.keep HS2.out)
      obtain ⟨c0, c1, c2, c3, c4, c5, c6, c7, c8, c9, c10, c11, c12, c13, c14, c15, c16, c17, c18, c19, c20, c21, c22, _⟩ := HX2.out
      rw [e17] at c17
      rw [e19] at c19
      by_cases h254 : nl < 254
      · have kn : decide ((nl : Int) < 254) = true := by simp; omega
        have HRT : Hid (rm = true) := by show rm = true; rw [HRM.out]; simp [*]
        go_wp2_with fail
        refine (HLO.out 1 _ d (HR0.out.keep HS2.out)).mono ?_
        rintro e w3 ⟨rfl, hs⟩
        have HS3 := hide' (HS2.out.trans hs)
        clear hs
        rw [← HQ1.out]
        clear c0 c1 c2 c3 c4 c5 c6 c7 c8 c9 c10 c11 c12 c13 c14 c15 c16 c17 c18 c19 c20 c21 c22
        have HBA := hide' (HX.out.1.keep (HS3.out.alloc (.cells #[] 5)))
        have HAA := hide' (Acc.begin w3)
        have HEA := hide' (HX.out.2.ln.keep (HS3.out.alloc (.cells #[] 5)))
        obtain ⟨c0, c1, c2, c3, c4, c5, c6, c7, c8, c9, c10, c11, c12, c13, c14, c15, c16, c17, c18, c19, c20, c21, c22, _⟩ := HBA.out
        rw [e17] at c17
        rw [e19] at c19
        have hn1 := HNS.out.1
        rw [e17] at HEA
        go_wp2_with (at_builtin; refine acc_app rfl _ _ rfl HAA.out rfl HEA.out rfl hn1 ?_; intro v1 wa hA1; have HA1 := hide' (hA1.keep ((Stay.refl _ wa).alloc (.cells #[.int .u8 c] 5))); have HC1 := hide' (brow_new wa #[.int .u8 c] [c] 1 b (Bx.le HR0.out.lt (Nat.le_trans HS3.out.size hA1.stay.size)) rfl rfl (fun y hy => by simp at hy; subst hy; exact HWC.out) (by omega)); obtain ⟨a1, z1, p1, ev1⟩ := hA1.form; clear hA1 HAA HEA hn1 c0 c1 c2 c3 c4 c5 c6 c7 c8 c9 c10 c11 c12 c13 c14 c15 c16 c17 c18 c19 c20 c21 c22; subst ev1; have hn2 := HNS.out.2.2.1; go_wp2_with (at_builtin; refine acc_app rfl _ _ rfl HA1.out rfl HC1.out rfl hn2 ?_; intro v2 wb hA2; have HA2 := hide' hA2; have HSB := hide' (HS3.out.trans hA2.stay); have HB2 := hide' (HX.out.1.keep HSB.out); obtain ⟨a2, z2, p2, ev2⟩ := hA2.form; clear hA2 HA1 HC1 hn2; obtain ⟨c0, c1, c2, c3, c4, c5, c6, c7, c8, c9, c10, c11, c12, c13, c14, c15, c16, c17, c18, c19, c20, c21, c22, f0, f1, f2, f3, f4, f5, f6, f7, f8, f9, f10, f11, f12, f13, f14, f15, f16, f17, f18, f19, f20, f21, f22⟩ := HB2.out; subst ev2; go_wp2_with fail))
        go_upto_region 9 with fail
        have HRD : Hid (RAt (wb.setCell ⟨b, 17, none⟩ (.slice a2 z2 p2)) b dl) := by
          have h1 := RAt.put_ln HB2.out (HX.out.2.stay HSB.out (fun _ h => h.elim)) (HA2.out.brow (Bx.le HR0.out.lt HS3.out.size))
          have e : dl = d.setLine ([] ++ d.line ++ [c]) := by rw [HLAY.out]; rfl
          rw [← e] at h1
          exact h1
        have HSD : Hid (Stay (fun k => k = b) w (wb.setCell ⟨b, 17, none⟩ (.slice a2 z2 p2))) := stay_b HSB.out _ _
        obtain ⟨wc, hwc⟩ : ∃ W, W = wb.setCell ⟨b, 17, none⟩ (.slice a2 z2 p2) := ⟨_, rfl⟩
        rw [← hwc] at HRD HSD ⊢
        clear hwc HB2 HSB HA2 c0 c1 c2 c3 c4 c5 c6 c7 c8 c9 c10 c11 c12 c13 c14 c15 c16 c17 c18 c19 c20 c21 c22 f0 f1 f2 f3 f4 f5 f6 f7 f8 f9 f10 f11 f12 f13 f14 f15 f16 f17 f18 f19 f20 f21 f22
        have HDN : Hid (dl = dn) := by show dl = dn; rw [HNL.out]; simp [*]
        have hdn2 := HDN.out
        have HRN := hide' HRD.out
        rw [hdn2] at HRN
        go_wp2_with fail
        refine (HSH.out _ dn HRN.out (by have := HNE.out; omega)).mono ?_
        rintro e wz ⟨rfl, hr, hs⟩
        have HRZ := hide' hr
        have HSZ := hide' (HSD.out.trans hs)
        clear hr hs hdn2
        go_wp2
        go_ret
        refine ⟨ret_bool HRT.out.symm, ?_, HSZ.out⟩
        rw [HPUT.out, HRT.out]
        simpa using HRZ.out
      · have kn : decide ((nl : Int) < 254) = false := by simp; omega
        cases en
        · go_wp2_with fail
          refine (HLO.out 1 _ d (HR0.out.keep HS2.out)).mono ?_
          rintro e w3 ⟨rfl, hs⟩
          have HS3 := hide' (HS2.out.trans hs)
          clear hs
          rw [← HQ1.out]
          have HRF : Hid (rm = false) := by show rm = false; rw [HRM.out]; simp [*]
          go_wp2_with fail
          refine (HLS.out _ HS3.out).mono ?_
          rintro e wz ⟨rfl, hr, hs⟩
          have HRZ := hide' hr
          have HSZ := hide' ((HS3.out.mono (fun _ _ h => h.elim)).trans hs)
          clear hr hs
          go_wp2
          go_ret
          refine ⟨ret_bool HRF.out.symm, ?_, HSZ.out⟩
          rw [HPUT.out, HRF.out]
          simpa using HRZ.out
        · by_cases h255 : nl < 255
          · have kn2 : decide ((nl : Int) < 255) = true := by simp; omega
            have HRT : Hid (rm = true) := by show rm = true; rw [HRM.out]; simp [*]
            go_wp2_with fail
            refine (HLO.out 1 _ d (HR0.out.keep HS2.out)).mono ?_
            rintro e w3 ⟨rfl, hs⟩
            have HS3 := hide' (HS2.out.trans hs)
            clear hs
            rw [← HQ1.out]
            clear c0 c1 c2 c3 c4 c5 c6 c7 c8 c9 c10 c11 c12 c13 c14 c15 c16 c17 c18 c19 c20 c21 c22
            have HBA := hide' (HX.out.1.keep (HS3.out.alloc (.cells #[] 5)))
            have HAA := hide' (Acc.begin w3)
            have HEA := hide' (HX.out.2.ln.keep (HS3.out.alloc (.cells #[] 5)))
            obtain ⟨c0, c1, c2, c3, c4, c5, c6, c7, c8, c9, c10, c11, c12, c13, c14, c15, c16, c17, c18, c19, c20, c21, c22, _⟩ := HBA.out
            rw [e17] at c17
            rw [e19] at c19
            have hn1 := HNS.out.1
            rw [e17] at HEA
            go_wp2_with (at_builtin; refine acc_app rfl _ _ rfl HAA.out rfl HEA.out rfl hn1 ?_; intro v1 wa hA1; have HA1 := hide' (hA1.keep ((Stay.refl _ wa).alloc (.cells #[.int .u8 c] 5))); have HC1 := hide' (brow_new wa #[.int .u8 c] [c] 1 b (Bx.le HR0.out.lt (Nat.le_trans HS3.out.size hA1.stay.size)) rfl rfl (fun y hy => by simp at hy; subst hy; exact HWC.out) (by omega)); obtain ⟨a1, z1, p1, ev1⟩ := hA1.form; clear hA1 HAA HEA hn1 c0 c1 c2 c3 c4 c5 c6 c7 c8 c9 c10 c11 c12 c13 c14 c15 c16 c17 c18 c19 c20 c21 c22; subst ev1; have hn2 := HNS.out.2.2.1; go_wp2_with (at_builtin; refine acc_app rfl _ _ rfl HA1.out rfl HC1.out rfl hn2 ?_; intro v2 wb hA2; have HA2 := hide' hA2; have HSB := hide' (HS3.out.trans hA2.stay); have HB2 := hide' (HX.out.1.keep HSB.out); obtain ⟨a2, z2, p2, ev2⟩ := hA2.form; clear hA2 HA1 HC1 hn2; obtain ⟨c0, c1, c2, c3, c4, c5, c6, c7, c8, c9, c10, c11, c12, c13, c14, c15, c16, c17, c18, c19, c20, c21, c22, f0, f1, f2, f3, f4, f5, f6, f7, f8, f9, f10, f11, f12, f13, f14, f15, f16, f17, f18, f19, f20, f21, f22⟩ := HB2.out; subst ev2; go_wp2_with fail))
            go_upto_region 9 with fail
            have HRD : Hid (RAt (wb.setCell ⟨b, 17, none⟩ (.slice a2 z2 p2)) b dl) := by
              have h1 := RAt.put_ln HB2.out (HX.out.2.stay HSB.out (fun _ h => h.elim)) (HA2.out.brow (Bx.le HR0.out.lt HS3.out.size))
              have e : dl = d.setLine ([] ++ d.line ++ [c]) := by rw [HLAY.out]; rfl
              rw [← e] at h1
              exact h1
            have HSD : Hid (Stay (fun k => k = b) w (wb.setCell ⟨b, 17, none⟩ (.slice a2 z2 p2))) := stay_b HSB.out _ _
            obtain ⟨wc, hwc⟩ : ∃ W, W = wb.setCell ⟨b, 17, none⟩ (.slice a2 z2 p2) := ⟨_, rfl⟩
            rw [← hwc] at HRD HSD ⊢
            clear hwc HB2 HSB HA2 c0 c1 c2 c3 c4 c5 c6 c7 c8 c9 c10 c11 c12 c13 c14 c15 c16 c17 c18 c19 c20 c21 c22 f0 f1 f2 f3 f4 f5 f6 f7 f8 f9 f10 f11 f12 f13 f14 f15 f16 f17 f18 f19 f20 f21 f22
            have HDN : Hid (dl = dn) := by show dl = dn; rw [HNL.out]; simp [*]
            have hdn2 := HDN.out
            have HRN := hide' HRD.out
            rw [hdn2] at HRN
            go_wp2_with fail
            refine (HSH.out _ dn HRN.out (by have := HNE.out; omega)).mono ?_
            rintro e wz ⟨rfl, hr, hs⟩
            have HRZ := hide' hr
            have HSZ := hide' (HSD.out.trans hs)
            clear hr hs hdn2
            go_wp2
            go_ret
            refine ⟨ret_bool HRT.out.symm, ?_, HSZ.out⟩
            rw [HPUT.out, HRT.out]
            simpa using HRZ.out
          · have kn2 : decide ((nl : Int) < 255) = false := by simp; omega
            go_wp2_with fail
            refine (HLO.out 1 _ d (HR0.out.keep HS2.out)).mono ?_
            rintro e w3 ⟨rfl, hs⟩
            have HS3 := hide' (HS2.out.trans hs)
            clear hs
            rw [← HQ1.out]
            have HRF : Hid (rm = false) := by show rm = false; rw [HRM.out]; simp [*]
            go_wp2_with fail
            refine (HLS.out _ HS3.out).mono ?_
            rintro e wz ⟨rfl, hr, hs⟩
            have HRZ := hide' hr
            have HSZ := hide' ((HS3.out.mono (fun _ _ h => h.elim)).trans hs)
            clear hr hs
            go_wp2
            go_ret
            refine ⟨ret_bool HRF.out.symm, ?_, HSZ.out⟩
            rw [HPUT.out, HRF.out]
            simpa using HRZ.out

end Go.Proofs.Ytkggmjjjopfdbaa
