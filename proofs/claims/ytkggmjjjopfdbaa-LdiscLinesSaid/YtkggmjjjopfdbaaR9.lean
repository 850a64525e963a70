/-
  The setting is turned: walked. No conditions.
-/
import Derived.Test.YtkggmjjjopfdbaaR8
import Derived.Test.YtkggmjjjopfdbaaL17C6
import Derived.Deep.MidRow
namespace Go.Proofs.Ytkggmjjjopfdbaa
open Go.RowKit
open L17

theorem RBox.there17 {w : World} {b : Nat} {r : Rr} (h : RBox w b r) : w.there b 0 17 := by
  intro j hj
  have : j = 0 ∨ j = 1 ∨ j = 2 ∨ j = 3 ∨ j = 4 ∨ j = 5 ∨ j = 6 ∨ j = 7 ∨ j = 8 ∨ j = 9 ∨ j = 10 ∨ j = 11 ∨ j = 12 ∨ j = 13 ∨ j = 14 ∨ j = 15 ∨ j = 16 := by omega
  rcases this with rfl | rfl | rfl | rfl | rfl | rfl | rfl | rfl | rfl | rfl | rfl | rfl | rfl | rfl | rfl | rfl | rfl
  · exact ⟨Option.isSome_iff_exists.2 ⟨_, h.c0⟩, h.f0⟩
  · exact ⟨Option.isSome_iff_exists.2 ⟨_, h.c1⟩, h.f1⟩
  · exact ⟨Option.isSome_iff_exists.2 ⟨_, h.c2⟩, h.f2⟩
  · exact ⟨Option.isSome_iff_exists.2 ⟨_, h.c3⟩, h.f3⟩
  · exact ⟨Option.isSome_iff_exists.2 ⟨_, h.c4⟩, h.f4⟩
  · exact ⟨Option.isSome_iff_exists.2 ⟨_, h.c5⟩, h.f5⟩
  · exact ⟨Option.isSome_iff_exists.2 ⟨_, h.c6⟩, h.f6⟩
  · exact ⟨Option.isSome_iff_exists.2 ⟨_, h.c7⟩, h.f7⟩
  · exact ⟨Option.isSome_iff_exists.2 ⟨_, h.c8⟩, h.f8⟩
  · exact ⟨Option.isSome_iff_exists.2 ⟨_, h.c9⟩, h.f9⟩
  · exact ⟨Option.isSome_iff_exists.2 ⟨_, h.c10⟩, h.f10⟩
  · exact ⟨Option.isSome_iff_exists.2 ⟨_, h.c11⟩, h.f11⟩
  · exact ⟨Option.isSome_iff_exists.2 ⟨_, h.c12⟩, h.f12⟩
  · exact ⟨Option.isSome_iff_exists.2 ⟨_, h.c13⟩, h.f13⟩
  · exact ⟨Option.isSome_iff_exists.2 ⟨_, h.c14⟩, h.f14⟩
  · exact ⟨Option.isSome_iff_exists.2 ⟨_, h.c15⟩, h.f15⟩
  · exact ⟨Option.isSome_iff_exists.2 ⟨_, h.c16⟩, h.f16⟩

theorem RBox.putT {w : World} {b : Nat} {r : Rr} (h : RBox w b r) (t : Tm) : RBox (w.setCells b 0 (#[.int .i64 t.fi, .int .i64 t.fo, .int .i64 t.fl, .int .i64 t.k0, .int .i64 t.k1, .int .i64 t.k2, .int .i64 t.k3, .int .i64 t.k4, .int .i64 t.k5, .int .i64 t.k6, .int .i64 t.k7, .int .i64 t.k8, .int .i64 t.k9, .int .i64 t.k10, .int .i64 t.k11, .int .i64 t.mn, .int .i64 t.ti] : Array Value).toList) b (r.put t) := by
  rw [L17.set_all]
  exact ((((((((((((((((h.put0 rfl).put1 rfl).put2 rfl).put3 rfl).put4 rfl).put5 rfl).put6 rfl).put7 rfl).put8 rfl).put9 rfl).put10 rfl).put11 rfl).put12 rfl).put13 rfl).put14 rfl).put15 rfl).put16 rfl

theorem RAt.putT {w : World} {b : Bx} {r : Rr} {d : DS} (HB : RBox w b r) (HP : Parts w b r d) (t : Tm) : RAt (w.setCells b 0 (#[.int .i64 t.fi, .int .i64 t.fo, .int .i64 t.fl, .int .i64 t.k0, .int .i64 t.k1, .int .i64 t.k2, .int .i64 t.k3, .int .i64 t.k4, .int .i64 t.k5, .int .i64 t.k6, .int .i64 t.k7, .int .i64 t.k8, .int .i64 t.k9, .int .i64 t.k10, .int .i64 t.k11, .int .i64 t.mn, .int .i64 t.ti] : Array Value).toList) b (d.setT t) ∧ Stay (fun k => k = b) w (w.setCells b 0 (#[.int .i64 t.fi, .int .i64 t.fo, .int .i64 t.fl, .int .i64 t.k0, .int .i64 t.k1, .int .i64 t.k2, .int .i64 t.k3, .int .i64 t.k4, .int .i64 t.k5, .int .i64 t.k6, .int .i64 t.k7, .int .i64 t.k8, .int .i64 t.k9, .int .i64 t.k10, .int .i64 t.k11, .int .i64 t.mn, .int .i64 t.ti] : Array Value).toList) := by
  have hs : Stay (fun k => k = b) w (w.setCells b 0 (#[.int .i64 t.fi, .int .i64 t.fo, .int .i64 t.fl, .int .i64 t.k0, .int .i64 t.k1, .int .i64 t.k2, .int .i64 t.k3, .int .i64 t.k4, .int .i64 t.k5, .int .i64 t.k6, .int .i64 t.k7, .int .i64 t.k8, .int .i64 t.k9, .int .i64 t.k10, .int .i64 t.k11, .int .i64 t.mn, .int .i64 t.ti] : Array Value).toList) := (Stay.refl (fun k => k = b) w).setCells b _ _ rfl
  exact ⟨⟨_, HB.putT t, Bx.le HP.lt hs.size, rfl, HP.ln.stay hs b.on, HP.ls.stay hs b.on, HP.rw.stay hs b.on, HP.st, HP.nx, HP.ec.stay hs b.on⟩, hs⟩

theorem BRow.take {w : World} {b : Bx} {a : Option Addr} {n cap : Nat} {l : List Int} (h : BRow w b (.slice a n cap) l) (k : Nat) (hk : k ≤ n) : BRow w b (.slice a k cap) (l.take k) := by
  obtain ⟨a', cap', h, hb⟩ := h
  have hs := h.shape
  cases hs
  exact ⟨_, _, h.take k hk, fun hne => hb (fun e => hne (by rw [e]; simp))⟩

set_option maxRecDepth 100000 in
theorem r_set (b : Bx) (d : DS) (t : Tm) (w : World) (h : RAt w b d) (hf : Small d) : Calls Try.prog 18 #[.pointer (some ⟨b, 0, none⟩), .agg #[.int .i64 t.fi, .int .i64 t.fo, .int .i64 t.fl, .int .i64 t.k0, .int .i64 t.k1, .int .i64 t.k2, .int .i64 t.k3, .int .i64 t.k4, .int .i64 t.k5, .int .i64 t.k6, .int .i64 t.k7, .int .i64 t.k8, .int .i64 t.k9, .int .i64 t.k10, .int .i64 t.k11, .int .i64 t.mn, .int .i64 t.ti]] w (TurnR b (d.set t) (.tuple #[]) w) := by
  have hlt := h.lt
  have HLO := hide' (fun (w' : World) (d' : DS) (hh : RAt w' b d') => r_local b d' 1 w' hh)
  have HAL : Hid (∀ w', RAt w' b (d.setT t) → Calls Try.prog 44 #[.pointer (some ⟨b, 0, none⟩)] w' (GivesB b d.all w')) := fun w' hh => r_all b (d.setT t) w' hh ⟨hf.bytes, hf.lines⟩
  have HFL := hide' (fun (w' : World) (d' : DS) (hh : RAt w' b d') => r_flush b d' w' hh)
  have HDF : Hid (d.set t = if d.loc 1 = (d.setT t).loc 1 then d.setT t else if (d.setT t).loc 1 = false then (d.setT t).flush.setRaw d.all else (d.setT t).flush.setLine (d.all.take 254)) := rfl
  have hal : d.all.length ≤ 10000 := by have := hf.bytes; unfold DS.all; rw [List.length_append, List.length_append]; omega
  have HAB := hide' hal
  have HTN := hide' (L17.TBox.new (w := w) t rfl)
  have HS0 := hide' ((Stay.refl (fun _ => False) w).alloc (.cells #[.int .i64 t.fi, .int .i64 t.fo, .int .i64 t.fl, .int .i64 t.k0, .int .i64 t.k1, .int .i64 t.k2, .int .i64 t.k3, .int .i64 t.k4, .int .i64 t.k5, .int .i64 t.k6, .int .i64 t.k7, .int .i64 t.k8, .int .i64 t.k9, .int .i64 t.k10, .int .i64 t.k11, .int .i64 t.mn, .int .i64 t.ti] 24))
  have HR0 := hide' (h.keep HS0.out)
  have HBL : Hid (¬ w.heap.size = b.b) := by have := hlt b.b b.self; show ¬ w.heap.size = b.b; omega
  clear h hf hal hlt
  go_enter Try.func18, Try.ntmps18
  go_upto_region 1 with fail
  obtain ⟨W0, hW0⟩ : ∃ W, W = w.alloc (.cells #[.int .i64 t.fi, .int .i64 t.fo, .int .i64 t.fl, .int .i64 t.k0, .int .i64 t.k1, .int .i64 t.k2, .int .i64 t.k3, .int .i64 t.k4, .int .i64 t.k5, .int .i64 t.k6, .int .i64 t.k7, .int .i64 t.k8, .int .i64 t.k9, .int .i64 t.k10, .int .i64 t.k11, .int .i64 t.mn, .int .i64 t.ti] 24) := ⟨_, rfl⟩
  obtain ⟨B, hB⟩ : ∃ x, x = w.heap.size := ⟨_, rfl⟩
  rw [← hW0] at HTN HS0 HR0 ⊢
  rw [← hB] at HTN HBL ⊢
  clear hW0 hB
  go_wp2_with fail
  refine (HLO.out _ d HR0.out).mono ?_
  rintro e w1 ⟨rfl, hs⟩
  have HS1 := hide' (HS0.out.trans hs)
  have HR1 := hide' (HR0.out.keep hs)
  have HT1 := hide' (HTN.out.keep hs)
  clear hs HS0 HR0 HTN
  obtain ⟨q, hq⟩ : ∃ q, q = d.loc 1 := ⟨_, rfl⟩
  rw [← hq] at HDF ⊢
  clear hq
  obtain ⟨r, B1, P1⟩ := HR1.out
  have HP2 := hide' (RAt.putT B1 P1 t)
  have HTH := hide' B1.there17
  clear B1 P1
  obtain ⟨W2, hW2⟩ : ∃ W, W = w1.setCells b 0 (#[.int .i64 t.fi, .int .i64 t.fo, .int .i64 t.fl, .int .i64 t.k0, .int .i64 t.k1, .int .i64 t.k2, .int .i64 t.k3, .int .i64 t.k4, .int .i64 t.k5, .int .i64 t.k6, .int .i64 t.k7, .int .i64 t.k8, .int .i64 t.k9, .int .i64 t.k10, .int .i64 t.k11, .int .i64 t.mn, .int .i64 t.ti] : Array Value).toList := ⟨_, rfl⟩
  have HW2 := hide' hW2
  rw [← hW2] at HP2
  clear hW2
  go_wp2_with (first
    | refine wpList_exec rfl (L17.run_load_TBox rfl rfl HT1.out) ?_
    | (refine wpList_store_mid rfl 24 (.tmp 11) (.tmp 9) rfl b 0 #[.int .i64 t.fi, .int .i64 t.fo, .int .i64 t.fl, .int .i64 t.k0, .int .i64 t.k1, .int .i64 t.k2, .int .i64 t.k3, .int .i64 t.k4, .int .i64 t.k5, .int .i64 t.k6, .int .i64 t.k7, .int .i64 t.k8, .int .i64 t.k9, .int .i64 t.k10, .int .i64 t.k11, .int .i64 t.mn, .int .i64 t.ti] rfl rfl HTH.out (by kernel_rfl) (by simp [Value.oneCell']) ?_
       rw [← HW2.out]; clear HW2 HTH))
  refine (HLO.out _ _ HP2.out.1).mono ?_
  rintro e w3 ⟨rfl, hs⟩
  have HS3 := hide' (((HS1.out.mono (fun _ _ h => h.elim)).trans HP2.out.2).trans (hs.mono (fun _ _ h => h.elim)))
  have HR3 := hide' (HP2.out.1.keep hs)
  clear hs HP2 HS1 HR1 HT1
  obtain ⟨q2, hq2⟩ : ∃ q, q = (d.setT t).loc 1 := ⟨_, rfl⟩
  have HQ2 := hide' hq2
  rw [← hq2] at HDF ⊢
  obtain ⟨dt, hdt⟩ : ∃ x, x = d.setT t := ⟨_, rfl⟩
  rw [← hdt] at HDF HAL HR3 HQ2
  clear hdt hq2
  by_cases hqq : q = q2
  · have eq1 : (q == q2) = true := by simpa using hqq
    have HD2 : Hid (d.set t = dt) := by show d.set t = dt; rw [HDF.out, if_pos hqq]
    clear hqq
    go_wp2
    go_returns
    refine ⟨rfl, ?_, HS3.out⟩
    rw [HD2.out]
    exact HR3.out
  · have eq1 : (q == q2) = false := by simpa using hqq
    go_wp2_with fail
    refine (HAL.out _ HR3.out).mono ?_
    rintro e w4 ⟨v, rfl, hv, hs⟩
    have HV4 := hide' hv
    have HS4 := hide' (HS3.out.trans (hs.mono (fun _ _ h => h.elim)))
    have HR4 := hide' (HR3.out.keep hs)
    obtain ⟨av, cv, ev⟩ := hv.shape
    obtain ⟨nv, hnv⟩ : ∃ n, n = d.all.length := ⟨_, rfl⟩
    rw [← hnv] at ev HAB
    have hnb := HAB.out
    subst ev
    have HNV := hide' hnv
    clear hs hv HS3 HR3 hnv
    go_wp2_with fail
    refine (HFL.out _ _ HR4.out).mono ?_
    rintro e w5 ⟨rfl, hr, hs⟩
    have HR5 := hide' hr
    have HS5 := hide' (HS4.out.trans hs)
    have HV5 := hide' (HV4.out.stay hs b.on)
    clear hr hs HS4 HR4 HV4
    go_wp2_with fail
    refine (HLO.out _ _ HR5.out).mono ?_
    rintro e w6 ⟨rfl, hs⟩
    have HR6 := hide' (HR5.out.keep hs)
    have HS6 := hide' (HS5.out.trans (hs.mono (fun _ _ h => h.elim)))
    have HV6 := hide' (HV5.out.keep hs)
    have e6 : dt.flush.loc 1 = q2 := HQ2.out.symm
    rw [e6]
    clear hs HS5 HR5 HV5 e6
    obtain ⟨r6, B6, P6⟩ := HR6.out
    have HX6 := hide' (And.intro B6 P6)
    clear P6
    obtain ⟨c0, c1, c2, c3, c4, c5, c6, c7, c8, c9, c10, c11, c12, c13, c14, c15, c16, c17, c18, c19, c20, c21, c22, f0, f1, f2, f3, f4, f5, f6, f7, f8, f9, f10, f11, f12, f13, f14, f15, f16, f17, f18, f19, f20, f21, f22⟩ := B6
    cases q2
    · have HD2 : Hid (d.set t = dt.flush.setRaw d.all) := by show d.set t = _; rw [HDF.out, if_neg hqq, if_pos rfl]
      go_wp2
      go_returns
      refine ⟨rfl, ?_, HS6.out.trans (stay_b (Stay.refl _ _) _ _)⟩
      rw [HD2.out]
      exact RAt.put_rw HX6.out.1 HX6.out.2 HV6.out
    · have HD2 : Hid (d.set t = dt.flush.setLine (d.all.take 254)) := by show d.set t = _; rw [HDF.out, if_neg hqq, if_neg (by simp)]
      by_cases hgt : 254 < nv
      · have kn : decide ((254 : Int) < nv) = true := by simp; omega
        have hcp : nv ≤ cv := by
          obtain ⟨a', c', hh, _⟩ := HV6.out
          have e1 := hh.shape
          have e2 := hh.lenLe
          cases e1
          exact e2
        have hslh : ∀ w, (Instr.slice 31 (.slice av nv cv) none (some (.int .i64 254)) none).run Try.prog w = .ok (.slice av 254 cv) w := fun w => slice_h_eq (P := Try.prog) (k := 254) elemB sizeB (by omega) w
        have HBT := hide' (HV6.out.take 254 (by omega))
        go_wp2
        go_returns
        refine ⟨rfl, ?_, HS6.out.trans (stay_b (Stay.refl _ _) _ _)⟩
        rw [HD2.out]
        exact RAt.put_ln HX6.out.1 HX6.out.2 HBT.out
      · have kn : decide ((254 : Int) < nv) = false := by simp; omega
        have HTK : Hid (d.all.take 254 = d.all) := List.take_of_length_le (by rw [← HNV.out]; omega)
        go_wp2
        go_returns
        refine ⟨rfl, ?_, HS6.out.trans (stay_b (Stay.refl _ _) _ _)⟩
        rw [HD2.out, HTK.out]
        exact RAt.put_ln HX6.out.1 HX6.out.2 HV6.out

end Go.Proofs.Ytkggmjjjopfdbaa
