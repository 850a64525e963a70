/-
  The program: a byte of input, as a step: walked. No conditions.
-/
import Derived.Test.YtjfhmpjpdcckhaaL18DE
import Derived.Deep.CutBlock
namespace Go.Proofs.Ytjfhmpjpdcckhaa.L18
open Go.RowKit

open L17

variable {q : Pl} {d : DS} {sg : Int}

theorem low_low (f c : Int) (_h0 : 0 ≤ c) (_h1 : c < 256) : low f (low f c) = low f c := by
  unfold low
  by_cases h : hasB f 1 = true
  · rw [if_pos h, if_pos h]; omega
  · rw [if_neg h, if_neg h]

theorem mapI_low (f c : Int) (h0 : 0 ≤ c) (h1 : c < 256) : mapI f (low f c) = mapI f c := by
  unfold mapI
  rw [low_low f c h0 h1]

theorem flowS_t (d : DS) (c : Int) : (flowS d c).t = d.t := by unfold flowS; split; rfl; split <;> rfl
theorem flowS_ec (d : DS) (c : Int) : (flowS d c).ec = d.ec := by unfold flowS; split; rfl; split <;> rfl
theorem Ok.flowS {N : Nat} {d : DS} (h : Ok N d) (c : Int) : Ok N (flowS d c) := by
  unfold L18.flowS
  split
  · exact h.like (like_stp _ _)
  · split
    · exact h.like (like_stp _ _)
    · exact h

/-- A byte of input: by what the start and the stop, and the signals, leave. -/
theorem input_steps (d : DS) (c m : Int) (hx : (d.setEc []).nxt = false) (hm : mapI (d.setEc []).t.fi c = m) (h0 : 0 ≤ m) :
    ((hasB (d.setEc []).t.fi 16 && (isB (d.setEc []).t 11 m || isB (d.setEc []).t 10 m)) = true → d.input c = (flowS (d.setEc []) m, 0)) ∧
    ((hasB (d.setEc []).t.fi 16 && (isB (d.setEc []).t 11 m || isB (d.setEc []).t 10 m)) = false →
      ((flowS (d.setEc []) m).sigOf m < 3 → d.input c = ((flowS (d.setEc []) m).signal m, ((flowS (d.setEc []) m).sigOf m : Int) + 1)) ∧
      ((flowS (d.setEc []) m).sigOf m = 3 → d.input c = (lookS (flowS (d.setEc []) m) m, 0))) := by
  have hi := input_some d c hx (by rw [hm]; omega)
  rw [hm, mapped_eq] at hi
  obtain ⟨e, he⟩ : ∃ e, e = d.setEc [] := ⟨_, rfl⟩
  rw [← he] at hi ⊢
  have k16 : e.inp 16 = hasB e.t.fi 16 := rfl
  have k32 : e.inp 32 = hasB e.t.fi 32 := rfl
  rw [k16, k32] at hi
  refine ⟨fun h => ?_, fun h => ?_⟩
  · rw [if_pos h] at hi
    unfold flowS
    rw [if_pos h]
    exact hi
  · rw [if_neg (by rw [h]; simp)] at hi
    have hf : flowS e m = if (hasB e.t.fi 16 && hasB e.t.fi 32) = true then e.setStp false else e := by
      unfold flowS
      rw [if_neg (by rw [h]; simp)]
    have hi2 : d.input c = (flowS e m).plainIn m := by
      rw [hi, hf]
      split <;> rfl
    rw [hi2]
    unfold DS.plainIn lookS
    refine ⟨fun h => by rw [if_pos h], fun h => ?_⟩
    rw [if_neg (by rw [h]; decide)]
    split <;> rfl

set_option maxRecDepth 100000 in
set_option maxHeartbeats 2000000 in
theorem s_come {N : Nat} (c : Int) (w : World) (h : SD w q (d.setEc []) 0) (hO : Ok N d) (hN : N ≤ 80000) (hc0 : 0 ≤ c) (hc1 : c < 256) : Calls Try.prog 35 #[.pointer (some ⟨q.b, 0, none⟩), .int .u8 c] w (TurnD q (d.input c).1 (d.input c).2 (.tuple #[]) w) := by
  have hE : Ok N (d.setEc []) := hO.like (like_ec d [])
  have HI1 := hide' (input_next d c)
  have HI2 := hide' (input_none d c)
  have HI3 := hide' (fun m => input_steps d c m)
  have HEC : Hid ((d.setEc []).ec = []) := rfl
  obtain ⟨D, hD⟩ : ∃ z, z = d.setEc [] := ⟨_, rfl⟩
  rw [← hD] at h hE HI1 HI2 HI3 HEC
  clear hD
  have HR0 := hide' h
  have HS0 := hide' (Stay.refl q.U w)
  have HOK := hide' hE
  have HV := hide' (mapI_range D.t.fi c hc0 hc1)
  have HLR := hide' (low_range D.t.fi c hc0 hc1)
  have HML := hide' (mapI_low D.t.fi c hc0 hc1)
  have HLW : Hid (low D.t.fi c = if hasB D.t.fi 1 = true then c % 128 else c) := rfl
  have HA := hide' (L17.and_127 c hc0 hc1)
  have HPT : Hid (∀ w' l, 0 ≤ l → l < 256 → SD w' q (D.setNxt false) 0 → Calls Try.prog 42 #[.pointer (some ⟨q.b, 0, none⟩), .int .u8 l] w' (TurnD q ((D.setNxt false).put l) 0 (.bool ((D.setNxt false).room l)) w')) := fun w' l h0 h1 hh => s_put l w' hh (hE.like (like_nxt D false)) h0 h1 (by show D.ec.length ≤ _; rw [HEC.out]; simp)
  have HFL : Hid (∀ w' m, 0 ≤ m → m < 256 → SD w' q D 0 → Calls Try.prog 44 #[.pointer (some ⟨q.b, 0, none⟩), .int .u8 m] w' (TurnD q (flowS D m) 0 (.bool (hasB D.t.fi 16 && (isB D.t 11 m || isB D.t 10 m))) w')) := fun w' m h0 h1 hh => s_flow m w' hh h0 h1
  have HSG : Hid (∀ w' m, 0 ≤ m → m < 256 → SD w' q (flowS D m) 0 → Calls Try.prog 45 #[.pointer (some ⟨q.b, 0, none⟩), .int .u8 m] w' (fun e w'' => ((flowS D m).sigOf m = 3 ∧ TurnD q (flowS D m) 0 (.bool false) w' e w'') ∨ ((flowS D m).sigOf m < 3 ∧ TurnD q ((flowS D m).signal m) (((flowS D m).sigOf m : Int) + 1) (.bool true) w' e w''))) := fun w' m h0 h1 hh => s_signal m w' hh (by rw [flowS_t]; exact hE.right) h0 h1 (by rw [flowS_ec, HEC.out]; simp)
  have HLK : Hid (∀ w' m, 0 ≤ m → m < 256 → SD w' q (flowS D m) 0 → Calls Try.prog 46 #[.pointer (some ⟨q.b, 0, none⟩), .int .u8 m] w' (TurnD q (lookS (flowS D m) m) 0 (.tuple #[]) w')) := fun w' m h0 h1 hh => s_look m w' hh (hE.flowS m) (by omega) h0 h1 (by rw [flowS_ec, HEC.out]; simp)
  have HMP : Hid (∀ l, 0 ≤ l → l < 256 → ∀ w', Calls Try.prog 43 #[.agg #[.int .i64 D.t.fi, .int .i64 D.t.fo, .int .i64 D.t.fl, .int .i64 D.t.k0, .int .i64 D.t.k1, .int .i64 D.t.k2, .int .i64 D.t.k3, .int .i64 D.t.k4, .int .i64 D.t.k5, .int .i64 D.t.k6, .int .i64 D.t.k7, .int .i64 D.t.k8, .int .i64 D.t.k9, .int .i64 D.t.k10, .int .i64 D.t.k11, .int .i64 D.t.mn, .int .i64 D.t.ti], .int .u8 l] w' (Gives (.tuple #[.int .u8 (L17.gB D.t.fi l), .bool (L17.gI D.t.fi l)]) w')) := fun l h0 h1 w' => L17.map43 D.t l w' h0 h1
  have HGB : Hid (∀ l, L17.gB D.t.fi l = if mapI D.t.fi l = -1 then 0 else mapI D.t.fi l) := fun l => rfl
  have HGI : Hid (∀ l, L17.gI D.t.fi l = !(mapI D.t.fi l == -1)) := fun l => rfl
  obtain ⟨qi, h_qi⟩ : ∃ z, z = hasB D.t.fi 1 := ⟨_, rfl⟩
  have HK_qi : Hid (∀ w' d' sg', d'.t = D.t → SD w' q d' sg' → Calls Try.prog 41 #[.pointer (some ⟨q.p, 0, none⟩), .int .i64 1] w' (Gives (.bool qi) w')) := fun w' d' sg' et hh => by
    rw [h_qi, ← et]
    exact s_in (x := d'.ps) (ec := d'.ec) hh 1
  have HE_qi := hide' h_qi
  clear h_qi
  rw [← HE_qi.out] at HLW
  obtain ⟨l, hl⟩ : ∃ z, z = low D.t.fi c := ⟨_, rfl⟩
  rw [← hl] at HLW HLR HML HI1
  obtain ⟨m, hm⟩ : ∃ z, z = mapI D.t.fi c := ⟨_, rfl⟩
  rw [← hm] at HV HML HI2
  have HI4 : Hid (D.nxt = false → 0 ≤ m → _) := fun a b => HI3.out m a hm.symm b
  clear HI3
  obtain ⟨qn, hqn⟩ : ∃ z, z = D.nxt := ⟨_, rfl⟩
  have HQN := hide' hqn
  rw [← hqn] at HI1 HI2 HI4
  clear h hE hO hN hc0 hc1 hl hm hqn HE_qi
  go_enter Try.func35, Try.ntmps35
  have s0 := HR0.out.dp
  go_wp2_with fail
  refine (HK_qi.out _ _ _ rfl HR0.out).mono ?_
  rintro e w1 ⟨rfl, hs⟩
  have HR1 := hide' (HR0.out.keep hs)
  have HS1 := hide' (HS0.out.trans (hs.mono (T := q.U) (fun _ _ h => h.elim)))
  clear hs HR0 HS0 s0
  cases qi
  · have hl : l = c := by have := HLW.out; simpa using this
    subst hl
    obtain ⟨r, e, hop⟩ := HR1.out
    have s0 := HR1.out.dp
    have hwt := hop.core.wt
    have hwt : r.wt = qn := by rw [hwt, HQN.out]; rfl
    have htm : r.tm = D.t := hop.core.t
    have HTM := hide' hop.core.box.tm
    rw [htm] at HTM
    obtain ⟨c0, c1, c2, c3, c4, c5, c6, c7, c8, c9, c10, c11, c12, c13, c14, c15, c16, c17, c18, c19, c20, c21, f0, f1, f2, f3, f4, f5, f6, f7, f8, f9, f10, f11, f12, f13, f14, f15, f16, f17, f18, f19, f20, f21⟩ := hop.core.box
    rw [hwt] at c21
    clear hwt htm
    have HTMX1 := hide' HTM.out
    cases qn
    · clear hop HTM
      have hl0 := HLR.out.1
      have hl1 := HLR.out.2
      have HMP2 := hide' (HMP.out l hl0 hl1)
      have HGB2 := hide' (HGB.out l)
      have HGI2 := hide' (HGI.out l)
      rw [HML.out] at HGB2 HGI2
      obtain ⟨gb, hgb⟩ : ∃ z, z = L17.gB D.t.fi l := ⟨_, rfl⟩
      obtain ⟨gi, hgi⟩ : ∃ z, z = L17.gI D.t.fi l := ⟨_, rfl⟩
      rw [← hgb, ← hgi] at HMP2
      rw [← hgb] at HGB2
      rw [← hgi] at HGI2
      clear hgb hgi HMP HGB HGI hl0 hl1 HI1 HPT
      go_upto_region 5 with fail
      clear c0 c1 c2 c3 c4 c5 c6 c7 c8 c9 c10 c11 c12 c13 c14 c15 c16 c17 c18 c19 c20 c21 f0 f1 f2 f3 f4 f5 f6 f7 f8 f9 f10 f11 f12 f13 f14 f15 f16 f17 f18 f19 f20 f21
      have HTM := hide' HTMX1.out
      go_wp2_with (refine wpList_exec rfl (L17.run_load_TBox rfl rfl HTM.out) ?_)
      refine (HMP2.out _).mono ?_
      rintro e2 w2 ⟨rfl, hs⟩
      have HR2 := hide' (HR1.out.keep hs)
      have HS2 := hide' (HS1.out.trans (hs.mono (T := q.U) (fun _ _ h => h.elim)))
      clear hs s0 HR1 HS1 HTM HMP2 HTMX1
      rcases HV.out with hm1 | ⟨hm0, hm2⟩
      · have HGF : Hid (gi = false) := by show gi = false; rw [HGI2.out, hm1]; rfl
        have hgf := HGF.out
        subst hgf
        have HIN : Hid (d.input l = (D, 0)) := HI2.out (by first | rfl | trivial) (by omega)
        go_wp2
        go_returns
        refine ⟨rfl, ?_, HS2.out⟩
        rw [HIN.out]
        exact HR2.out
      · have HGT : Hid (gi = true) := by show gi = true; rw [HGI2.out]; simp; omega
        have hgt := HGT.out
        subst hgt
        have hgm : gb = m := by have := HGB2.out; rw [if_neg (by omega)] at this; exact this
        subst hgm
        have HM2 := hide' (And.intro hm0 hm2)
        obtain ⟨ha, hb⟩ := HI4.out (by first | rfl | trivial) hm0
        have HIA := hide' ha
        have HIB := hide' hb
        clear ha hb HI4 HI2 HV HGB2 HGI2 hm0 hm2
        have HFL2 := hide' (fun w' hh => HFL.out w' gb HM2.out.1 HM2.out.2 hh)
        have HSG2 := hide' (fun w' hh => HSG.out w' gb HM2.out.1 HM2.out.2 hh)
        have HLK2 := hide' (fun w' hh => HLK.out w' gb HM2.out.1 HM2.out.2 hh)
        obtain ⟨E, hE⟩ : ∃ z, z = flowS D gb := ⟨_, rfl⟩
        obtain ⟨fb, hfb⟩ : ∃ z, z = (hasB D.t.fi 16 && (isB D.t 11 gb || isB D.t 10 gb)) := ⟨_, rfl⟩
        rw [← hE] at HFL2 HSG2 HLK2 HIA HIB
        rw [← hfb] at HFL2 HIA HIB
        clear hE hfb HFL HSG HLK
        go_wp2_with fail
        refine (HFL2.out _ HR2.out).mono ?_
        rintro e w3 ⟨rfl, hr, hs⟩
        have HR3 := hide' hr
        have HS3 := hide' (HS2.out.trans hs)
        clear hr hs HR2 HS2
        cases fb
        · go_wp2_with fail
          refine (HSG2.out _ HR3.out).mono ?_
          intro e3 w4 h3
          rcases h3 with ⟨h3, rfl, hr, hs⟩ | ⟨h3, rfl, hr, hs⟩
          · have HIN := hide' ((HIB.out (by first | rfl | trivial)).2 h3)
            have HR4 := hide' hr
            have HS4 := hide' (HS3.out.trans hs)
            clear hr hs h3 HR3 HS3
            go_wp2_with fail
            refine (HLK2.out _ HR4.out).mono ?_
            rintro e w5 ⟨rfl, hr, hs⟩
            have HR5 := hide' hr
            have HS5 := hide' (HS4.out.trans hs)
            clear hr hs HR4 HS4
            go_wp2
            go_returns
            refine ⟨rfl, ?_, HS5.out⟩
            rw [HIN.out]
            exact HR5.out
          · have HIN := hide' ((HIB.out (by first | rfl | trivial)).1 h3)
            have HR4 := hide' hr
            have HS4 := hide' (HS3.out.trans hs)
            clear hr hs h3 HR3 HS3
            go_wp2
            go_returns
            refine ⟨rfl, ?_, HS4.out⟩
            rw [HIN.out]
            exact HR4.out
        · have HIN := hide' (HIA.out (by first | rfl | trivial))
          go_wp2
          go_returns
          refine ⟨rfl, ?_, HS3.out⟩
          rw [HIN.out]
          exact HR3.out
    · have HFN := hide' (hop.put_wt false)
      clear hop HTM HTMX1
      have HIN : Hid (d.input l = ((D.setNxt false).put l, 0)) := HI1.out (by first | rfl | trivial)
      go_upto_region 4 with fail
      obtain ⟨w2, hW⟩ : ∃ z, z = w1.setCell ⟨q.p, 21, none⟩ (.bool false) := ⟨_, rfl⟩
      rw [← hW] at HFN ⊢
      clear hW s0 c0 c1 c2 c3 c4 c5 c6 c7 c8 c9 c10 c11 c12 c13 c14 c15 c16 c17 c18 c19 c20 c21 f0 f1 f2 f3 f4 f5 f6 f7 f8 f9 f10 f11 f12 f13 f14 f15 f16 f17 f18 f19 f20 f21
      have HR2 : Hid (SD w2 q (D.setNxt false) 0) := HFN.out.1
      have HS2 := hide' (HS1.out.trans HFN.out.2)
      clear HFN HR1 HS1
      go_wp2_with fail
      refine (HPT.out _ _ HLR.out.1 HLR.out.2 HR2.out).mono ?_
      rintro e w3 ⟨rfl, hr, hs⟩
      have HR3 := hide' hr
      have HS3 := hide' (HS2.out.trans hs)
      clear hr hs HR2 HS2
      go_wp2
      go_returns
      refine ⟨rfl, ?_, HS3.out⟩
      rw [HIN.out]
      exact HR3.out
  · have hl : l = c % 128 := by have := HLW.out; simpa using this
    have e128 : bits .and .u8 c 127 = l := by rw [HA.out, hl]
    clear hl
    obtain ⟨r, e, hop⟩ := HR1.out
    have s0 := HR1.out.dp
    have hwt := hop.core.wt
    have hwt : r.wt = qn := by rw [hwt, HQN.out]; rfl
    have htm : r.tm = D.t := hop.core.t
    have HTM := hide' hop.core.box.tm
    rw [htm] at HTM
    obtain ⟨c0, c1, c2, c3, c4, c5, c6, c7, c8, c9, c10, c11, c12, c13, c14, c15, c16, c17, c18, c19, c20, c21, f0, f1, f2, f3, f4, f5, f6, f7, f8, f9, f10, f11, f12, f13, f14, f15, f16, f17, f18, f19, f20, f21⟩ := hop.core.box
    rw [hwt] at c21
    clear hwt htm
    have HTMX1 := hide' HTM.out
    cases qn
    · clear hop HTM
      have hl0 := HLR.out.1
      have hl1 := HLR.out.2
      have HMP2 := hide' (HMP.out l hl0 hl1)
      have HGB2 := hide' (HGB.out l)
      have HGI2 := hide' (HGI.out l)
      rw [HML.out] at HGB2 HGI2
      obtain ⟨gb, hgb⟩ : ∃ z, z = L17.gB D.t.fi l := ⟨_, rfl⟩
      obtain ⟨gi, hgi⟩ : ∃ z, z = L17.gI D.t.fi l := ⟨_, rfl⟩
      rw [← hgb, ← hgi] at HMP2
      rw [← hgb] at HGB2
      rw [← hgi] at HGI2
      clear hgb hgi HMP HGB HGI hl0 hl1 HI1 HPT
      go_upto_region 5 with fail
      clear c0 c1 c2 c3 c4 c5 c6 c7 c8 c9 c10 c11 c12 c13 c14 c15 c16 c17 c18 c19 c20 c21 f0 f1 f2 f3 f4 f5 f6 f7 f8 f9 f10 f11 f12 f13 f14 f15 f16 f17 f18 f19 f20 f21
      have HTM := hide' HTMX1.out
      go_wp2_with (refine wpList_exec rfl (L17.run_load_TBox rfl rfl HTM.out) ?_)
      refine (HMP2.out _).mono ?_
      rintro e2 w2 ⟨rfl, hs⟩
      have HR2 := hide' (HR1.out.keep hs)
      have HS2 := hide' (HS1.out.trans (hs.mono (T := q.U) (fun _ _ h => h.elim)))
      clear hs s0 HR1 HS1 HTM HMP2 HTMX1
      rcases HV.out with hm1 | ⟨hm0, hm2⟩
      · have HGF : Hid (gi = false) := by show gi = false; rw [HGI2.out, hm1]; rfl
        have hgf := HGF.out
        subst hgf
        have HIN : Hid (d.input c = (D, 0)) := HI2.out (by first | rfl | trivial) (by omega)
        go_wp2
        go_returns
        refine ⟨rfl, ?_, HS2.out⟩
        rw [HIN.out]
        exact HR2.out
      · have HGT : Hid (gi = true) := by show gi = true; rw [HGI2.out]; simp; omega
        have hgt := HGT.out
        subst hgt
        have hgm : gb = m := by have := HGB2.out; rw [if_neg (by omega)] at this; exact this
        subst hgm
        have HM2 := hide' (And.intro hm0 hm2)
        obtain ⟨ha, hb⟩ := HI4.out (by first | rfl | trivial) hm0
        have HIA := hide' ha
        have HIB := hide' hb
        clear ha hb HI4 HI2 HV HGB2 HGI2 hm0 hm2
        have HFL2 := hide' (fun w' hh => HFL.out w' gb HM2.out.1 HM2.out.2 hh)
        have HSG2 := hide' (fun w' hh => HSG.out w' gb HM2.out.1 HM2.out.2 hh)
        have HLK2 := hide' (fun w' hh => HLK.out w' gb HM2.out.1 HM2.out.2 hh)
        obtain ⟨E, hE⟩ : ∃ z, z = flowS D gb := ⟨_, rfl⟩
        obtain ⟨fb, hfb⟩ : ∃ z, z = (hasB D.t.fi 16 && (isB D.t 11 gb || isB D.t 10 gb)) := ⟨_, rfl⟩
        rw [← hE] at HFL2 HSG2 HLK2 HIA HIB
        rw [← hfb] at HFL2 HIA HIB
        clear hE hfb HFL HSG HLK
        go_wp2_with fail
        refine (HFL2.out _ HR2.out).mono ?_
        rintro e w3 ⟨rfl, hr, hs⟩
        have HR3 := hide' hr
        have HS3 := hide' (HS2.out.trans hs)
        clear hr hs HR2 HS2
        cases fb
        · go_wp2_with fail
          refine (HSG2.out _ HR3.out).mono ?_
          intro e3 w4 h3
          rcases h3 with ⟨h3, rfl, hr, hs⟩ | ⟨h3, rfl, hr, hs⟩
          · have HIN := hide' ((HIB.out (by first | rfl | trivial)).2 h3)
            have HR4 := hide' hr
            have HS4 := hide' (HS3.out.trans hs)
            clear hr hs h3 HR3 HS3
            go_wp2_with fail
            refine (HLK2.out _ HR4.out).mono ?_
            rintro e w5 ⟨rfl, hr, hs⟩
            have HR5 := hide' hr
            have HS5 := hide' (HS4.out.trans hs)
            clear hr hs HR4 HS4
            go_wp2
            go_returns
            refine ⟨rfl, ?_, HS5.out⟩
            rw [HIN.out]
            exact HR5.out
          · have HIN := hide' ((HIB.out (by first | rfl | trivial)).1 h3)
            have HR4 := hide' hr
            have HS4 := hide' (HS3.out.trans hs)
            clear hr hs h3 HR3 HS3
            go_wp2
            go_returns
            refine ⟨rfl, ?_, HS4.out⟩
            rw [HIN.out]
            exact HR4.out
        · have HIN := hide' (HIA.out (by first | rfl | trivial))
          go_wp2
          go_returns
          refine ⟨rfl, ?_, HS3.out⟩
          rw [HIN.out]
          exact HR3.out
    · have HFN := hide' (hop.put_wt false)
      clear hop HTM HTMX1
      have HIN : Hid (d.input c = ((D.setNxt false).put l, 0)) := HI1.out (by first | rfl | trivial)
      go_upto_region 4 with fail
      obtain ⟨w2, hW⟩ : ∃ z, z = w1.setCell ⟨q.p, 21, none⟩ (.bool false) := ⟨_, rfl⟩
      rw [← hW] at HFN ⊢
      clear hW s0 c0 c1 c2 c3 c4 c5 c6 c7 c8 c9 c10 c11 c12 c13 c14 c15 c16 c17 c18 c19 c20 c21 f0 f1 f2 f3 f4 f5 f6 f7 f8 f9 f10 f11 f12 f13 f14 f15 f16 f17 f18 f19 f20 f21
      have HR2 : Hid (SD w2 q (D.setNxt false) 0) := HFN.out.1
      have HS2 := hide' (HS1.out.trans HFN.out.2)
      clear HFN HR1 HS1
      go_wp2_with fail
      refine (HPT.out _ _ HLR.out.1 HLR.out.2 HR2.out).mono ?_
      rintro e w3 ⟨rfl, hr, hs⟩
      have HR3 := hide' hr
      have HS3 := hide' (HS2.out.trans hs)
      clear hr hs HR2 HS2
      go_wp2
      go_returns
      refine ⟨rfl, ?_, HS3.out⟩
      rw [HIN.out]
      exact HR3.out

end Go.Proofs.Ytjfhmpjpdcckhaa.L18
