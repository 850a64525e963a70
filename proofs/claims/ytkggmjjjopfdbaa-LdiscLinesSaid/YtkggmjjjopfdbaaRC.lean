/-
  A byte of input, by the document: walked. No conditions.
-/
import Derived.Test.YtkggmjjjopfdbaaRB
import Derived.Deep.CutBlock
namespace Go.Proofs.Ytkggmjjjopfdbaa
open Go.RowKit
open L17

set_option maxRecDepth 100000 in
set_option maxHeartbeats 1000000 in
theorem r_input (b : Bx) (d : DS) (c : Int) (w : World) (h : RAt w b d) (h0 : 0 ≤ c) (h1 : c < 256) (hf : Small d) (hl : d.line.length ≤ 255) (hb : d.raw.length + d.lines.flatten.length + d.line.length ≤ 9000) : Calls Try.prog 12 #[.pointer (some ⟨b, 0, none⟩), .int .u8 c] w (TurnR b (d.input c).1 (.int .i64 (d.input c).2) w) := by
  have HR0 := hide' h
  have HS0 := hide' (Stay.refl (fun k => k = b) w)
  obtain ⟨e1, he1⟩ : ∃ x, x = d.setEc [] := ⟨_, rfl⟩
  have HFE : Hid (Small e1) := by rw [he1]; exact hf.setEc []
  have HBE : Hid (e1.raw.length + e1.lines.flatten.length + e1.line.length ≤ 9000) := by rw [he1]; exact hb
  have HLE : Hid (e1.line.length ≤ 255) := by rw [he1]; exact hl
  have HEE : Hid (e1.ec = []) := by rw [he1]; rfl
  have HI1 : Hid (e1.nxt = true → d.input c = ((e1.setNxt false).put (low e1.t.fi c), 0)) := fun hh => by rw [he1] at hh ⊢; exact input_next d c hh
  have HI2 : Hid (e1.nxt = false → mapI e1.t.fi c < 0 → d.input c = (e1, 0)) := fun hh hm => by rw [he1] at hh hm ⊢; exact input_none d c hh hm
  have HI3 : Hid (e1.nxt = false → ¬ mapI e1.t.fi c < 0 → d.input c = e1.mapped (mapI e1.t.fi c)) := fun hh hm => by rw [he1] at hh hm ⊢; exact input_some d c hh hm
  have HV := hide' (mapI_range e1.t.fi c h0 h1)
  have HLW : Hid (low e1.t.fi c = if hasB e1.t.fi 1 = true then c % 128 else c) := rfl
  have HLR := hide' (low_range e1.t.fi c h0 h1)
  have HMC : Hid (c.tmod 128 = c % 128) := Int.tmod_eq_emod_of_nonneg h0
  have HCC := hide' (And.intro h0 h1)
  have HP1 : Hid (∀ w', RAt w' b (d.setEc []) → RAt w' b e1) := fun w' hh => by rw [he1]; exact hh
  clear h hf hl hb he1 h0 h1
  go_enter Try.func12, Try.ntmps12
  obtain ⟨r1, B1, P1⟩ := HR0.out
  have HX1 := hide' (And.intro B1 P1)
  obtain ⟨c0, c1, c2, c3, c4, c5, c6, c7, c8, c9, c10, c11, c12, c13, c14, c15, c16, c17, c18, c19, c20, c21, c22, f0, f1, f2, f3, f4, f5, f6, f7, f8, f9, f10, f11, f12, f13, f14, f15, f16, f17, f18, f19, f20, f21, f22⟩ := B1
  
  clear P1
  go_upto_region 2 with fail
  have HR1 := hide' (HP1.out _ (RAt.put_ec HX1.out.1 HX1.out.2 (BRow.nil _ b)))
  have HS1 := hide' (HS0.out.trans (stay_b (b := b) (Stay.refl _ w) 22 (.slice none 0 0)))
  obtain ⟨w1, hw1⟩ : ∃ W, W = w.setCell ⟨b, 22, none⟩ (.slice none 0 0) := ⟨_, rfl⟩
  rw [← hw1] at HR1 HS1 ⊢
  clear hw1 HX1 HR0 HS0 c0 c1 c2 c3 c4 c5 c6 c7 c8 c9 c10 c11 c12 c13 c14 c15 c16 c17 c18 c19 c20 c21 c22 f0 f1 f2 f3 f4 f5 f6 f7 f8 f9 f10 f11 f12 f13 f14 f15 f16 f17 f18 f19 f20 f21 f22
  obtain ⟨qn, hqn⟩ : ∃ q, q = e1.nxt := ⟨_, rfl⟩
  have HQN := hide' hqn
  rw [← hqn] at HI1 HI2 HI3
  clear hqn
  cases qn
  rotate_left
  · obtain ⟨r2, B2, P2⟩ := HR1.out
    have HX2 := hide' (And.intro B2 P2)
    obtain ⟨c0, c1, c2, c3, c4, c5, c6, c7, c8, c9, c10, c11, c12, c13, c14, c15, c16, c17, c18, c19, c20, c21, c22, f0, f1, f2, f3, f4, f5, f6, f7, f8, f9, f10, f11, f12, f13, f14, f15, f16, f17, f18, f19, f20, f21, f22⟩ := B2
    have h21 := P2.nx
    rw [← HQN.out] at h21
    rw [h21] at c21
    clear h21
    clear P2
    go_upto_region 4 with fail
    have HR2 := hide' (RAt.put_nx HX2.out.1 HX2.out.2 false)
    have HS2 := hide' (HS1.out.trans (stay_b (b := b) (Stay.refl _ w1) 21 (.bool false)))
    obtain ⟨w2, hw2⟩ : ∃ W, W = w1.setCell ⟨b, 21, none⟩ (.bool false) := ⟨_, rfl⟩
    rw [← hw2] at HR2 HS2 ⊢
    clear hw2 HX2 HR1 HS1 c0 c1 c2 c3 c4 c5 c6 c7 c8 c9 c10 c11 c12 c13 c14 c15 c16 c17 c18 c19 c20 c21 c22 f0 f1 f2 f3 f4 f5 f6 f7 f8 f9 f10 f11 f12 f13 f14 f15 f16 f17 f18 f19 f20 f21 f22
    obtain ⟨qi, hqi⟩ : ∃ q, q = hasB e1.t.fi 1 := ⟨_, rfl⟩
    have HKi : Hid (∀ w', RAt w' b (e1.setNxt false) → Calls Try.prog 30 #[.pointer (some ⟨b, 0, none⟩), .int .i64 1] w' (Gives (.bool qi) w')) := fun w' hh => by rw [hqi]; exact r_in b (e1.setNxt false) 1 w' hh
    rw [← hqi] at HLW
    clear hqi
    obtain ⟨l, hlw⟩ : ∃ l, l = low e1.t.fi c := ⟨_, rfl⟩
    rw [← hlw] at HLW HLR HI1
    clear hlw HI2 HI3 HV
    have HPT := hide' (fun w' hh => r_put b (e1.setNxt false) l w' hh HLR.out.1 HLR.out.2 (by have := HLE.out; show e1.line.length ≤ 10000; omega) (by have := HFE.out.bytes; show e1.raw.length ≤ 10000; omega) (by show e1.ec.length ≤ 700000; rw [HEE.out]; simp))
    go_wp2_with fail
    refine (HKi.out _ HR2.out).mono ?_
    rintro e w3 ⟨rfl, hs⟩
    have HR3 := hide' (HR2.out.keep hs)
    have HS3 := hide' (HS2.out.trans (hs.mono (fun _ _ h => h.elim)))
    clear hs HR2 HS2
    cases qi
    · have hl : l = c := HLW.out
      subst hl
      go_wp2_with fail
      refine (HPT.out _ HR3.out).mono ?_
      rintro e w4 ⟨rfl, hr, hs⟩
      have HR4 := hide' hr
      have HS4 := hide' (HS3.out.trans hs)
      clear hr hs HR3 HS3
      have HEND : Hid (d.input l = ((e1.setNxt false).put l, 0)) := by show d.input l = _; rw [HI1.out (by first | rfl | trivial)]
      go_wp2
      go_ret
      refine ⟨ret_int (by rw [HEND.out]), ?_, HS4.out⟩
      rw [HEND.out]
      exact HR4.out
    · have hm : c.tmod 128 = l := HMC.out.trans HLW.out.symm
      go_wp2_with fail
      refine (HPT.out _ HR3.out).mono ?_
      rintro e w4 ⟨rfl, hr, hs⟩
      have HR4 := hide' hr
      have HS4 := hide' (HS3.out.trans hs)
      clear hr hs HR3 HS3
      have HEND : Hid (d.input c = ((e1.setNxt false).put l, 0)) := by show d.input c = _; rw [HI1.out (by first | rfl | trivial)]
      go_wp2
      go_ret
      refine ⟨ret_int (by rw [HEND.out]), ?_, HS4.out⟩
      rw [HEND.out]
      exact HR4.out
  · obtain ⟨r2, B2, P2⟩ := HR1.out
    have ht := P2.t
    have hx := P2.nx
    rw [← HQN.out] at hx
    have HTM := hide' B2.tm
    obtain ⟨c0, c1, c2, c3, c4, c5, c6, c7, c8, c9, c10, c11, c12, c13, c14, c15, c16, c17, c18, c19, c20, c21, c22, -⟩ := B2
    rw [hx] at c21
    rw [ht] at HTM
    clear P2 ht hx
    go_wp2_with (refine wpList_exec rfl (L17.run_load_TBox rfl rfl HTM.out) ?_)
    refine (L17.map32 e1.t c _ HCC.out.1 HCC.out.2).mono ?_
    rintro e w2 ⟨rfl, hs⟩
    have HR2 := hide' (HR1.out.keep hs)
    have HS2 := hide' (HS1.out.trans (hs.mono (fun _ _ h => h.elim)))
    clear hs HR1 HS1 HTM c0 c1 c2 c3 c4 c5 c6 c7 c8 c9 c10 c11 c12 c13 c14 c15 c16 c17 c18 c19 c20 c21 c22
    obtain ⟨m, hm⟩ : ∃ m, m = mapI e1.t.fi c := ⟨_, rfl⟩
    rw [← hm] at HV HI2 HI3 ⊢
    clear hm HI1 HLW HLR HMC HCC HQN
    rcases HV.out with hm1 | ⟨hm0, hm1⟩
    · subst hm1
      have HEND : Hid (d.input c = (e1, 0)) := by show d.input c = _; exact HI2.out (by first | rfl | trivial) (by omega)
      go_wp2
      go_ret
      refine ⟨ret_int (by rw [HEND.out]), ?_, HS2.out⟩
      rw [HEND.out]
      exact HR2.out
    · have hlt : decide (m < 0) = false := by simp; omega
      have h256 : m % 256 = m := by omega
      have HM1 : Hid (d.input c = e1.mapped m) := HI3.out (by first | rfl | trivial) (by omega)
      clear HI2 HI3 HV
      rw [mapped_eq] at HM1
      go_upto_region 12 with fail
      clear h256 hlt
      obtain ⟨q16, h_q16⟩ : ∃ q, q = e1.inp 16 := ⟨_, rfl⟩
      have HK_q16 : Hid (∀ w', RAt w' b e1 → Calls Try.prog 30 #[.pointer (some ⟨b, 0, none⟩), .int .i64 16] w' (Gives (.bool q16) w')) := fun w' hh => by rw [h_q16]; exact r_in b e1 16 w' hh
      have HE_q16 := hide' h_q16
      clear h_q16
      obtain ⟨q32, h_q32⟩ : ∃ q, q = e1.inp 32 := ⟨_, rfl⟩
      have HK_q32 : Hid (∀ w', RAt w' b e1 → Calls Try.prog 30 #[.pointer (some ⟨b, 0, none⟩), .int .i64 32] w' (Gives (.bool q32) w')) := fun w' hh => by rw [h_q32]; exact r_in b e1 32 w' hh
      have HE_q32 := hide' h_q32
      clear h_q32
      obtain ⟨i11, h_i11⟩ : ∃ q, q = isB e1.t 11 m := ⟨_, rfl⟩
      have HK_i11 : Hid (∀ w', RAt w' b e1 → Calls Try.prog 33 #[.pointer (some ⟨b, 0, none⟩), .int .i64 11, .int .u8 m] w' (Gives (.bool i11) w')) := fun w' hh => by rw [h_i11]; exact r_is b e1 11 m w' hh hm0 hm1
      have HE_i11 := hide' h_i11
      clear h_i11
      obtain ⟨i10, h_i10⟩ : ∃ q, q = isB e1.t 10 m := ⟨_, rfl⟩
      have HK_i10 : Hid (∀ w', RAt w' b e1 → Calls Try.prog 33 #[.pointer (some ⟨b, 0, none⟩), .int .i64 10, .int .u8 m] w' (Gives (.bool i10) w')) := fun w' hh => by rw [h_i10]; exact r_is b e1 10 m w' hh hm0 hm1
      have HE_i10 := hide' h_i10
      clear h_i10
      rw [← HE_q16.out, ← HE_i11.out, ← HE_i10.out, ← HE_q32.out] at HM1
      obtain ⟨x12, hx12⟩ : ∃ x, x = (q16 && (i11 || i10)) := ⟨_, rfl⟩
      obtain ⟨x15, hx15⟩ : ∃ x, x = (q16 && q32) := ⟨_, rfl⟩
      rw [← hx12, ← hx15] at HM1
      have HX12 := hide' hx12
      have HX15 := hide' hx15
      clear hx12 hx15
      go_cut [47] from 36 to 48 (fun s47 wx => s47 = .bool x12 ∧ Hid (RAt wx b e1 ∧ Stay (fun k => k = b) w wx))
      case first =>
        go_wp2_with fail
        refine (HK_q16.out _ HR2.out).mono ?_
        rintro e w3 ⟨rfl, hs⟩
        have HR3 := hide' (HR2.out.keep hs)
        have HS3 := hide' (HS2.out.trans (hs.mono (fun _ _ h => h.elim)))
        clear hs HR2 HS2
        cases q16
        · go_wp2
          go_meet
          exact ⟨by rw [HX12.out]; first | rfl | simp, HR3.out, HS3.out⟩
        · go_wp2_with fail
          refine (HK_i11.out _ HR3.out).mono ?_
          rintro e w4 ⟨rfl, hs⟩
          have HR4 := hide' (HR3.out.keep hs)
          have HS4 := hide' (HS3.out.trans (hs.mono (fun _ _ h => h.elim)))
          clear hs HR3 HS3
          cases i11
          · go_wp2_with fail
            refine (HK_i10.out _ HR4.out).mono ?_
            rintro e w5 ⟨rfl, hs⟩
            have HR5 := hide' (HR4.out.keep hs)
            have HS5 := hide' (HS4.out.trans (hs.mono (fun _ _ h => h.elim)))
            clear hs HR4 HS4
            go_wp2
            go_meet
            exact ⟨by rw [HX12.out]; first | rfl | simp, HR5.out, HS5.out⟩
          · go_wp2
            go_meet
            exact ⟨by rw [HX12.out]; first | rfl | simp, HR4.out, HS4.out⟩
      case rest =>
        obtain ⟨rfl, HC⟩ := hcut
        obtain ⟨w3, hw3⟩ : ∃ W, W = wc := ⟨_, rfl⟩
        rw [← hw3] at HC ⊢
        clear hw3 HR2 HS2
        have HR3 := hide' HC.out.1
        have HS3 := hide' HC.out.2
        clear HC
        have HM12 := HM1.out
        cases x12
        rotate_left
        · go_wp2_with fail
          refine (HK_i11.out _ HR3.out).mono ?_
          rintro e w4 ⟨rfl, hs⟩
          have HR4 := hide' (HR3.out.keep hs)
          have HS4 := hide' (HS3.out.trans (hs.mono (fun _ _ h => h.elim)))
          clear hs HR3 HS3
          obtain ⟨r5, B5, P5⟩ := HR4.out
          have HX5 := hide' (And.intro B5 P5)
          obtain ⟨c0, c1, c2, c3, c4, c5, c6, c7, c8, c9, c10, c11, c12, c13, c14, c15, c16, c17, c18, c19, c20, c21, c22, f0, f1, f2, f3, f4, f5, f6, f7, f8, f9, f10, f11, f12, f13, f14, f15, f16, f17, f18, f19, f20, f21, f22⟩ := B5
          
          clear P5
          go_upto_region 14 with fail
          have HR5 := hide' (RAt.put_st HX5.out.1 HX5.out.2 i11)
          have HS5 := hide' (HS4.out.trans (stay_b (b := b) (Stay.refl _ w4) 20 (.bool i11)))
          obtain ⟨w5, hw5⟩ : ∃ W, W = w4.setCell ⟨b, 20, none⟩ (.bool i11) := ⟨_, rfl⟩
          rw [← hw5] at HR5 HS5 ⊢
          clear hw5 HX5 HR4 HS4 c0 c1 c2 c3 c4 c5 c6 c7 c8 c9 c10 c11 c12 c13 c14 c15 c16 c17 c18 c19 c20 c21 c22 f0 f1 f2 f3 f4 f5 f6 f7 f8 f9 f10 f11 f12 f13 f14 f15 f16 f17 f18 f19 f20 f21 f22
          have HEND : Hid (d.input c = (e1.setStp i11, 0)) := by show d.input c = _; rw [HM1.out, if_pos (by first | rfl | trivial)]
          go_wp2
          go_ret
          refine ⟨ret_int (by rw [HEND.out]), ?_, HS5.out⟩
          rw [HEND.out]
          exact HR5.out
        · have HM2 : Hid (d.input c = if x15 = true then (e1.setStp false).plainIn m else e1.plainIn m) := by show d.input c = _; rw [HM1.out, if_neg (by simp)]
          clear HM1 HM12
          go_upto_region 15 with fail
          go_cut [59] from 54 to 60 (fun s59 wx => s59 = .bool x15 ∧ Hid (RAt wx b e1 ∧ Stay (fun k => k = b) w wx))
          case first =>
            go_wp2_with fail
            refine (HK_q16.out _ HR3.out).mono ?_
            rintro e w4 ⟨rfl, hs⟩
            have HR4 := hide' (HR3.out.keep hs)
            have HS4 := hide' (HS3.out.trans (hs.mono (fun _ _ h => h.elim)))
            clear hs HR3 HS3
            cases q16
            · go_wp2
              go_meet
              exact ⟨by rw [HX15.out]; first | rfl | simp, HR4.out, HS4.out⟩
            · go_wp2_with fail
              refine (HK_q32.out _ HR4.out).mono ?_
              rintro e w5 ⟨rfl, hs⟩
              have HR5 := hide' (HR4.out.keep hs)
              have HS5 := hide' (HS4.out.trans (hs.mono (fun _ _ h => h.elim)))
              clear hs HR4 HS4
              go_wp2
              go_meet
              exact ⟨by rw [HX15.out]; first | rfl | simp, HR5.out, HS5.out⟩
          case rest =>
            obtain ⟨rfl, HC⟩ := hcut
            obtain ⟨w4, hw4⟩ : ∃ W, W = wc := ⟨_, rfl⟩
            rw [← hw4] at HC ⊢
            clear hw4 HR3 HS3
            have HR4 := hide' HC.out.1
            have HS4 := hide' HC.out.2
            clear HC
            obtain ⟨e2, he2⟩ : ∃ e, e = if x15 = true then e1.setStp false else e1 := ⟨_, rfl⟩
            have HM3 : Hid (d.input c = e2.plainIn m) := by show d.input c = _; rw [HM2.out, he2]; split <;> rfl
            have HT2 : Hid (e2.t = e1.t ∧ e2.line = e1.line ∧ e2.ec = e1.ec ∧ Small e2) := by rw [he2]; show _ ∧ _ ∧ _ ∧ _; split; exact ⟨rfl, rfl, rfl, HFE.out.setStp false⟩; exact ⟨rfl, rfl, rfl, HFE.out⟩
            have HE2B : Hid (e2.raw.length + e2.lines.flatten.length + e2.line.length ≤ 9000) := by rw [he2]; split <;> exact HBE.out
            have HE2 := hide' he2
            clear HM2 he2
            go_upto_if 59 with fail
            go_cut [] from 5 to 63 (fun wx => Hid (RAt wx b e2 ∧ Stay (fun k => k = b) w wx))
            case first =>
              have HE2' := HE2.out
              cases x15
              · go_wp2
                go_meet
                exact ⟨by rw [HE2.out]; simpa using HR4.out, HS4.out⟩
              · obtain ⟨r9, B9, P9⟩ := HR4.out
                have HX9 := hide' (And.intro B9 P9)
                clear P9
                obtain ⟨c0, c1, c2, c3, c4, c5, c6, c7, c8, c9, c10, c11, c12, c13, c14, c15, c16, c17, c18, c19, c20, c21, c22, f0, f1, f2, f3, f4, f5, f6, f7, f8, f9, f10, f11, f12, f13, f14, f15, f16, f17, f18, f19, f20, f21, f22⟩ := B9
                go_wp2
                go_meet
                exact ⟨by rw [HE2.out]; simpa using RAt.put_st HX9.out.1 HX9.out.2 false, HS4.out.trans (stay_b (Stay.refl _ _) _ _)⟩
            case rest =>
              obtain ⟨w5, hw5⟩ : ∃ W, W = wc := ⟨_, rfl⟩
              rw [← hw5] at hcut ⊢
              clear hw5 HR4 HS4
              have HR5 := hide' hcut.out.1
              have HS5 := hide' hcut.out.2
              clear hcut
              obtain ⟨q64, h_q64⟩ : ∃ q, q = e2.loc 64 := ⟨_, rfl⟩
              have HK_q64 : Hid (∀ w', RAt w' b e2 → Calls Try.prog 34 #[.pointer (some ⟨b, 0, none⟩), .int .i64 64] w' (Gives (.bool q64) w')) := fun w' hh => by rw [h_q64]; exact r_local b e2 64 w' hh
              have HE_q64 := hide' h_q64
              clear h_q64
              obtain ⟨q1, h_q1⟩ : ∃ q, q = e2.loc 1 := ⟨_, rfl⟩
              have HK_q1 : Hid (∀ w', RAt w' b e2 → Calls Try.prog 34 #[.pointer (some ⟨b, 0, none⟩), .int .i64 1] w' (Gives (.bool q1) w')) := fun w' hh => by rw [h_q1]; exact r_local b e2 1 w' hh
              have HE_q1 := hide' h_q1
              clear h_q1
              obtain ⟨q512, h_q512⟩ : ∃ q, q = e2.loc 512 := ⟨_, rfl⟩
              have HK_q512 : Hid (∀ w', RAt w' b e2 → Calls Try.prog 34 #[.pointer (some ⟨b, 0, none⟩), .int .i64 512] w' (Gives (.bool q512) w')) := fun w' hh => by rw [h_q512]; exact r_local b e2 512 w' hh
              have HE_q512 := hide' h_q512
              clear h_q512
              obtain ⟨q2, h_q2⟩ : ∃ q, q = e2.loc 2 := ⟨_, rfl⟩
              have HK_q2 : Hid (∀ w', RAt w' b e2 → Calls Try.prog 34 #[.pointer (some ⟨b, 0, none⟩), .int .i64 2] w' (Gives (.bool q2) w')) := fun w' hh => by rw [h_q2]; exact r_local b e2 2 w' hh
              have HE_q2 := hide' h_q2
              clear h_q2
              obtain ⟨q4, h_q4⟩ : ∃ q, q = e2.loc 4 := ⟨_, rfl⟩
              have HK_q4 : Hid (∀ w', RAt w' b e2 → Calls Try.prog 34 #[.pointer (some ⟨b, 0, none⟩), .int .i64 4] w' (Gives (.bool q4) w')) := fun w' hh => by rw [h_q4]; exact r_local b e2 4 w' hh
              have HE_q4 := hide' h_q4
              clear h_q4
              obtain ⟨q8, h_q8⟩ : ∃ q, q = e2.loc 8 := ⟨_, rfl⟩
              have HK_q8 : Hid (∀ w', RAt w' b e2 → Calls Try.prog 34 #[.pointer (some ⟨b, 0, none⟩), .int .i64 8] w' (Gives (.bool q8) w')) := fun w' hh => by rw [h_q8]; exact r_local b e2 8 w' hh
              have HE_q8 := hide' h_q8
              clear h_q8
              obtain ⟨i9, h_i9⟩ : ∃ q, q = isB e2.t 9 m := ⟨_, rfl⟩
              have HK_i9 : Hid (∀ w', RAt w' b e2 → Calls Try.prog 33 #[.pointer (some ⟨b, 0, none⟩), .int .i64 9, .int .u8 m] w' (Gives (.bool i9) w')) := fun w' hh => by rw [h_i9]; exact r_is b e2 9 m w' hh hm0 hm1
              have HE_i9 := hide' h_i9
              clear h_i9
              obtain ⟨i7, h_i7⟩ : ∃ q, q = isB e2.t 7 m := ⟨_, rfl⟩
              have HK_i7 : Hid (∀ w', RAt w' b e2 → Calls Try.prog 33 #[.pointer (some ⟨b, 0, none⟩), .int .i64 7, .int .u8 m] w' (Gives (.bool i7) w')) := fun w' hh => by rw [h_i7]; exact r_is b e2 7 m w' hh hm0 hm1
              have HE_i7 := hide' h_i7
              clear h_i7
              obtain ⟨i8, h_i8⟩ : ∃ q, q = isB e2.t 8 m := ⟨_, rfl⟩
              have HK_i8 : Hid (∀ w', RAt w' b e2 → Calls Try.prog 33 #[.pointer (some ⟨b, 0, none⟩), .int .i64 8, .int .u8 m] w' (Gives (.bool i8) w')) := fun w' hh => by rw [h_i8]; exact r_is b e2 8 m w' hh hm0 hm1
              have HE_i8 := hide' h_i8
              clear h_i8
              obtain ⟨i5, h_i5⟩ : ∃ q, q = isB e2.t 5 m := ⟨_, rfl⟩
              have HK_i5 : Hid (∀ w', RAt w' b e2 → Calls Try.prog 33 #[.pointer (some ⟨b, 0, none⟩), .int .i64 5, .int .u8 m] w' (Gives (.bool i5) w')) := fun w' hh => by rw [h_i5]; exact r_is b e2 5 m w' hh hm0 hm1
              have HE_i5 := hide' h_i5
              clear h_i5
              obtain ⟨i6, h_i6⟩ : ∃ q, q = isB e2.t 6 m := ⟨_, rfl⟩
              have HK_i6 : Hid (∀ w', RAt w' b e2 → Calls Try.prog 33 #[.pointer (some ⟨b, 0, none⟩), .int .i64 6, .int .u8 m] w' (Gives (.bool i6) w')) := fun w' hh => by rw [h_i6]; exact r_is b e2 6 m w' hh hm0 hm1
              have HE_i6 := hide' h_i6
              clear h_i6
              obtain ⟨i3, h_i3⟩ : ∃ q, q = isB e2.t 3 m := ⟨_, rfl⟩
              have HK_i3 : Hid (∀ w', RAt w' b e2 → Calls Try.prog 33 #[.pointer (some ⟨b, 0, none⟩), .int .i64 3, .int .u8 m] w' (Gives (.bool i3) w')) := fun w' hh => by rw [h_i3]; exact r_is b e2 3 m w' hh hm0 hm1
              have HE_i3 := hide' h_i3
              clear h_i3
              obtain ⟨i4, h_i4⟩ : ∃ q, q = isB e2.t 4 m := ⟨_, rfl⟩
              have HK_i4 : Hid (∀ w', RAt w' b e2 → Calls Try.prog 33 #[.pointer (some ⟨b, 0, none⟩), .int .i64 4, .int .u8 m] w' (Gives (.bool i4) w')) := fun w' hh => by rw [h_i4]; exact r_is b e2 4 m w' hh hm0 hm1
              have HE_i4 := hide' h_i4
              clear h_i4
              have HSHW := hide' (fun w' (hh : RAt w' b e2) => r_shw b e2 m w' hh hm0 hm1 (by rw [HT2.out.2.2.1, HEE.out]; simp))
              have HPT := hide' (fun w' (hh : RAt w' b e2) => r_put b e2 m w' hh hm0 hm1 (by rw [HT2.out.2.1]; have := HLE.out; omega) (by have := HT2.out.2.2.2.bytes; omega) (by rw [HT2.out.2.2.1, HEE.out]; simp))
              have HIK := hide' (fun (k : Int) w' (hh : RAt w' b e2) => r_is b e2 k m w' hh hm0 hm1)
              have HE2E : Hid (e2.ec = []) := by show e2.ec = []; rw [HT2.out.2.2.1]; exact HEE.out
              have HE2L : Hid (e2.line.length ≤ 255) := by show e2.line.length ≤ 255; rw [HT2.out.2.1]; exact HLE.out
              have HE2S : Hid (Small e2) := HT2.out.2.2.2
              clear HT2 HEE HLE HFE HE2 HK_q16 HK_q32 HK_i11 HK_i10 HE_q16 HE_q32 HE_i11 HE_i10 HX12 HX15
              go_upto_block 0 with fail
              go_cut [] from 5 to 88 (fun wx => Hid (RAt wx b e2 ∧ Stay (fun k => k = b) w wx ∧ e2.sigOf m = 3))
              case first =>
                go_wp2
                go_loopg [6] 3 (fun gg v6 wr => ∃ k : Nat, k ≤ 3 ∧ gg = 3 - k ∧ v6 = .int .i64 (k : Int) ∧ Hid (RAt wr b e2 ∧ Stay (fun k => k = b) w wr ∧ ∀ j : Nat, j < k → isB e2.t (j : Int) m = false))
                case atStart => exact ⟨0, Nat.zero_le _, rfl, rfl, HR5.out, HS5.out, fun j hj => by omega⟩
                case round =>
                  clear HR5 HS5
                  obtain ⟨k, hk, rfl, rfl, HRL⟩ := hrel
                  obtain ⟨w6, hw6⟩ : ∃ W, W = wr := ⟨_, rfl⟩
                  rw [← hw6] at HRL ⊢
                  clear hw6
                  have HR6 := hide' HRL.out.1
                  have HS6 := hide' HRL.out.2.1
                  have HJ := hide' HRL.out.2.2
                  clear HRL
                  by_cases hlt : k < 3
                  · have kn : decide ((k : Int) < 3) = true := by simp; omega
                    go_wp2_with fail
                    refine (HK_q64.out _ HR6.out).mono ?_
                    rintro e w7 ⟨rfl, hs⟩
                    have HR7 := hide' (HR6.out.keep hs)
                    have HS7 := hide' (HS6.out.trans (hs.mono (fun _ _ h => h.elim)))
                    clear hs HR6 HS6
                    cases q64
                    · go_wp2
                      go_meet
                      exact ⟨HR7.out, HS7.out, sig_off e2 m HE_q64.out.symm⟩
                    · obtain ⟨ik, hik⟩ : ∃ q, q = isB e2.t (k : Int) m := ⟨_, rfl⟩
                      have HKI : Hid (∀ w', RAt w' b e2 → Calls Try.prog 33 #[.pointer (some ⟨b, 0, none⟩), .int .i64 (k : Int), .int .u8 m] w' (Gives (.bool ik) w')) := fun w' hh => by rw [hik]; exact r_is b e2 k m w' hh hm0 hm1
                      have HEI := hide' hik
                      clear hik
                      go_wp2_with fail
                      refine (HKI.out _ HR7.out).mono ?_
                      rintro e w8 ⟨rfl, hs⟩
                      have HR8 := hide' (HR7.out.keep hs)
                      have HS8 := hide' (HS7.out.trans (hs.mono (fun _ _ h => h.elim)))
                      clear hs HR7 HS7
                      cases ik
                      · have HJ2 : Hid (∀ j : Nat, j < k + 1 → isB e2.t (j : Int) m = false) := fun j hj => by
                          by_cases e : j = k
                          · rw [e]; exact HEI.out.symm
                          · exact HJ.out j (by omega)
                        clear HJ HEI HKI
                        go_wp2
                        go_roundg (3 - (k + 1))
                        case measure => omega
                        case rel => exact ⟨k + 1, by omega, rfl, by go_num, HR8.out, HS8.out, HJ2.out⟩
                      · have HSG : Hid (d.input c = (e2.signal m, (k : Int) + 1)) := by show d.input c = _; rw [HM3.out]; exact sig_at e2 m k hlt HE_q64.out.symm HJ.out HEI.out.symm
                        go_wp2_with fail
                        refine (HSHW.out _ HR8.out).mono ?_
                        rintro e w9 ⟨rfl, hr, hs⟩
                        have HR9 := hide' hr
                        have HS9 := hide' (HS8.out.trans hs)
                        clear hr hs HR8 HS8
                        obtain ⟨q128, hq128⟩ : ∃ q, q = (e2.shw m).loc 128 := ⟨_, rfl⟩
                        have HK8 : Hid (∀ w', RAt w' b (e2.shw m) → Calls Try.prog 34 #[.pointer (some ⟨b, 0, none⟩), .int .i64 128] w' (Gives (.bool q128) w')) := fun w' hh => by rw [hq128]; exact r_local b (e2.shw m) 128 w' hh
                        have HQ8 := hide' hq128
                        clear hq128
                        go_wp2_with fail
                        refine (HK8.out _ HR9.out).mono ?_
                        rintro e w10 ⟨rfl, hs⟩
                        have HR10 := hide' (HR9.out.keep hs)
                        have HS10 := hide' (HS9.out.trans (hs.mono (fun _ _ h => h.elim)))
                        clear hs HR9 HS9
                        cases q128
                        · have HSG2 : Hid (e2.signal m = (e2.shw m).flush.setStp false) := by show e2.signal m = _; unfold DS.signal; rw [if_pos HQ8.out.symm]
                          go_wp2_with fail
                          refine (r_flush b _ _ HR10.out).mono ?_
                          rintro e w11 ⟨rfl, hr, hs⟩
                          have HR11 := hide' hr
                          have HS11 := hide' (HS10.out.trans hs)
                          clear hr hs HR10 HS10
                          obtain ⟨r12, B12, P12⟩ := HR11.out
                          have HX12 := hide' (And.intro B12 P12)
                          obtain ⟨c0, c1, c2, c3, c4, c5, c6, c7, c8, c9, c10, c11, c12, c13, c14, c15, c16, c17, c18, c19, c20, c21, c22, f0, f1, f2, f3, f4, f5, f6, f7, f8, f9, f10, f11, f12, f13, f14, f15, f16, f17, f18, f19, f20, f21, f22⟩ := B12
                          
                          clear P12
                          go_upto_region 25 with fail
                          have HR12 := hide' (RAt.put_st HX12.out.1 HX12.out.2 false)
                          have HS12 := hide' (HS11.out.trans (stay_b (b := b) (Stay.refl _ w11) 20 (.bool false)))
                          obtain ⟨w12, hw12⟩ : ∃ W, W = w11.setCell ⟨b, 20, none⟩ (.bool false) := ⟨_, rfl⟩
                          rw [← hw12] at HR12 HS12 ⊢
                          clear hw12 HX12 HR11 HS11 c0 c1 c2 c3 c4 c5 c6 c7 c8 c9 c10 c11 c12 c13 c14 c15 c16 c17 c18 c19 c20 c21 c22 f0 f1 f2 f3 f4 f5 f6 f7 f8 f9 f10 f11 f12 f13 f14 f15 f16 f17 f18 f19 f20 f21 f22
                          have HEND : Hid (d.input c = ((e2.shw m).flush.setStp false, (k : Int) + 1)) := by show d.input c = _; rw [HSG.out, HSG2.out]
                          go_wp2
                          go_ret
                          refine ⟨ret_int (by rw [HEND.out]), ?_, HS12.out⟩
                          rw [HEND.out]
                          exact HR12.out
                        · have HSG2 : Hid (e2.signal m = e2.shw m) := by show e2.signal m = _; unfold DS.signal; rw [if_neg (by rw [← HQ8.out]; simp)]
                          have HEND : Hid (d.input c = (e2.shw m, (k : Int) + 1)) := by show d.input c = _; rw [HSG.out, HSG2.out]
                          go_wp2
                          go_ret
                          refine ⟨ret_int (by rw [HEND.out]), ?_, HS10.out⟩
                          rw [HEND.out]
                          exact HR10.out
                  · have kn : decide ((k : Int) < 3) = false := by simp; omega
                    have HK3 : Hid (k = 3) := by show k = 3; omega
                    go_wp2
                    go_meet
                    exact ⟨HR6.out, HS6.out, sig_none e2 m (by have := HJ.out; rw [HK3.out] at this; exact this)⟩
              case rest =>
                obtain ⟨w6, hw6⟩ : ∃ W, W = wc := ⟨_, rfl⟩
                rw [← hw6] at hcut ⊢
                clear hw6 HR5 HS5
                have HR6 := hide' hcut.out.1
                have HS6 := hide' hcut.out.2.1
                have HM4 : Hid (d.input c = if e2.loc 1 = false then (e2.put m, 0) else (e2.canon m, 0)) := by show d.input c = _; rw [HM3.out]; unfold DS.plainIn; rw [hcut.out.2.2, if_neg (by decide)]
                clear hcut HM3 HIK HK_q64 HE_q64 HSHW
                rw [← HE_q1.out] at HM4
                go_wp2_with fail
                refine (HK_q1.out _ HR6.out).mono ?_
                rintro e w7 ⟨rfl, hs⟩
                have HR7 := hide' (HR6.out.keep hs)
                have HS7 := hide' (HS6.out.trans (hs.mono (fun _ _ h => h.elim)))
                clear hs HR6 HS6
                cases q1
                · go_wp2_with fail
                  refine (HPT.out _ HR7.out).mono ?_
                  rintro e w8 ⟨rfl, hr, hs⟩
                  have HR8 := hide' hr
                  have HS8 := hide' (HS7.out.trans hs)
                  clear hr hs HR7 HS7
                  have HEND : Hid (d.input c = (e2.put m, 0)) := by show d.input c = _; rw [HM4.out, if_pos (by first | rfl | trivial)]
                  go_wp2
                  go_ret
                  refine ⟨ret_int (by rw [HEND.out]), ?_, HS8.out⟩
                  rw [HEND.out]
                  exact HR8.out
                · have HM5 : Hid (d.input c = (e2.canon m, 0)) := by show d.input c = _; rw [HM4.out, if_neg (by simp)]
                  clear HM4
                  rw [canon_eq, ← HE_q512.out, ← HE_i9.out, ← HE_i7.out, ← HE_i8.out, ← HE_i5.out, ← HE_i6.out, ← HE_i3.out, ← HE_q2.out] at HM5
                  obtain ⟨x29, hx29⟩ : ∃ x, x = (q512 && i9) := ⟨_, rfl⟩
                  obtain ⟨x34, hx34⟩ : ∃ x, x = (q512 && i7) := ⟨_, rfl⟩
                  obtain ⟨x40, hx40⟩ : ∃ x, x = (q512 && i8) := ⟨_, rfl⟩
                  obtain ⟨x49, hx49⟩ : ∃ x, x = (i5 || i6) := ⟨_, rfl⟩
                  rw [← hx29, ← hx34, ← hx40, ← hx49] at HM5
                  have HX29 := hide' hx29
                  have HX34 := hide' hx34
                  have HX40 := hide' hx40
                  have HX49 := hide' hx49
                  clear hx29 hx34 hx40 hx49
                  go_upto_region 29 with fail
                  go_cut [100] from 94 to 101 (fun s100 wx => s100 = .bool x29 ∧ Hid (RAt wx b e2 ∧ Stay (fun k => k = b) w wx))
                  case first =>
                    go_wp2_with fail
                    refine (HK_q512.out _ HR7.out).mono ?_
                    rintro e w8 ⟨rfl, hs⟩
                    have HR8 := hide' (HR7.out.keep hs)
                    have HS8 := hide' (HS7.out.trans (hs.mono (fun _ _ h => h.elim)))
                    clear hs HR7 HS7
                    cases q512
                    · go_wp2
                      go_meet
                      exact ⟨by rw [HX29.out]; first | rfl | simp, HR8.out, HS8.out⟩
                    · go_wp2_with fail
                      refine (HK_i9.out _ HR8.out).mono ?_
                      rintro e w9 ⟨rfl, hs⟩
                      have HR9 := hide' (HR8.out.keep hs)
                      have HS9 := hide' (HS8.out.trans (hs.mono (fun _ _ h => h.elim)))
                      clear hs HR8 HS8
                      go_wp2
                      go_meet
                      exact ⟨by rw [HX29.out]; first | rfl | simp, HR9.out, HS9.out⟩
                  case rest =>
                    obtain ⟨rfl, HC⟩ := hcut
                    obtain ⟨w8, hw8⟩ : ∃ W, W = wc := ⟨_, rfl⟩
                    rw [← hw8] at HC ⊢
                    clear hw8 HR7 HS7
                    have HR8 := hide' HC.out.1
                    have HS8 := hide' HC.out.2
                    clear HC
                    cases x29
                    rotate_left
                    · obtain ⟨r9, B9, P9⟩ := HR8.out
                      have HX9 := hide' (And.intro B9 P9)
                      obtain ⟨c0, c1, c2, c3, c4, c5, c6, c7, c8, c9, c10, c11, c12, c13, c14, c15, c16, c17, c18, c19, c20, c21, c22, f0, f1, f2, f3, f4, f5, f6, f7, f8, f9, f10, f11, f12, f13, f14, f15, f16, f17, f18, f19, f20, f21, f22⟩ := B9
                      
                      clear P9
                      go_upto_region 31 with fail
                      have HR9 := hide' (RAt.put_nx HX9.out.1 HX9.out.2 true)
                      have HS9 := hide' (HS8.out.trans (stay_b (b := b) (Stay.refl _ w8) 21 (.bool true)))
                      obtain ⟨w9, hw9⟩ : ∃ W, W = w8.setCell ⟨b, 21, none⟩ (.bool true) := ⟨_, rfl⟩
                      rw [← hw9] at HR9 HS9 ⊢
                      clear hw9 HX9 HR8 HS8 c0 c1 c2 c3 c4 c5 c6 c7 c8 c9 c10 c11 c12 c13 c14 c15 c16 c17 c18 c19 c20 c21 c22 f0 f1 f2 f3 f4 f5 f6 f7 f8 f9 f10 f11 f12 f13 f14 f15 f16 f17 f18 f19 f20 f21 f22
                      have HKn : Hid (∀ w', RAt w' b (e2.setNxt true) → Calls Try.prog 34 #[.pointer (some ⟨b, 0, none⟩), .int .i64 2] w' (Gives (.bool q2) w')) := fun w' hh => by rw [HE_q2.out]; exact r_local b (e2.setNxt true) 2 w' hh
                      go_wp2_with fail
                      refine (HKn.out _ HR9.out).mono ?_
                      rintro e w10 ⟨rfl, hs⟩
                      have HR10 := hide' (HR9.out.keep hs)
                      have HS10 := hide' (HS9.out.trans (hs.mono (fun _ _ h => h.elim)))
                      clear hs HR9 HS9
                      cases q2
                      · have HEND : Hid (d.input c = (e2.setNxt true, 0)) := by show d.input c = _; rw [HM5.out]; simp
                        go_wp2
                        go_ret
                        refine ⟨ret_int (by rw [HEND.out]), ?_, HS10.out⟩
                        rw [HEND.out]
                        exact HR10.out
                      · go_wp2_with fail
                        have HRa := hide' (HR10.out.keep ((Stay.refl _ w10).alloc (.cells #[.int .u8 94, .int .u8 8] 5)))
                        have HSa := hide' (HS10.out.alloc (.cells #[.int .u8 94, .int .u8 8] 5))
                        refine (r_out b _ _ [94, 8] _ HRa.out (brow_new w10 #[.int .u8 94, .int .u8 8] [94, 8] 2 b HR10.out.lt rfl rfl (fun y hy => by simp at hy; first | (subst hy; decide) | (rcases hy with rfl | rfl <;> decide)) (by omega)) (by show e2.ec.length + 2 ≤ 900000; rw [HE2E.out]; simp)).mono ?_
                        rintro e w11 ⟨rfl, hr, hs⟩
                        have HR11 := hide' hr
                        have HS11 := hide' (HSa.out.trans hs)
                        clear hr hs HRa HSa HR10 HS10
                        have HEND : Hid (d.input c = ((e2.setNxt true).out [94, 8], 0)) := by show d.input c = _; rw [HM5.out]; simp
                        go_wp2
                        go_ret
                        refine ⟨ret_int (by rw [HEND.out]), ?_, HS11.out⟩
                        rw [HEND.out]
                        exact HR11.out
                    · go_upto_region 34 with fail
                      go_cut [115] from 109 to 116 (fun s115 wx => s115 = .bool x34 ∧ Hid (RAt wx b e2 ∧ Stay (fun k => k = b) w wx))
                      case first =>
                        go_wp2_with fail
                        refine (HK_q512.out _ HR8.out).mono ?_
                        rintro e w9 ⟨rfl, hs⟩
                        have HR9 := hide' (HR8.out.keep hs)
                        have HS9 := hide' (HS8.out.trans (hs.mono (fun _ _ h => h.elim)))
                        clear hs HR8 HS8
                        cases q512
                        · go_wp2
                          go_meet
                          exact ⟨by rw [HX34.out]; first | rfl | simp, HR9.out, HS9.out⟩
                        · go_wp2_with fail
                          refine (HK_i7.out _ HR9.out).mono ?_
                          rintro e w10 ⟨rfl, hs⟩
                          have HR10 := hide' (HR9.out.keep hs)
                          have HS10 := hide' (HS9.out.trans (hs.mono (fun _ _ h => h.elim)))
                          clear hs HR9 HS9
                          go_wp2
                          go_meet
                          exact ⟨by rw [HX34.out]; first | rfl | simp, HR10.out, HS10.out⟩
                      case rest =>
                        obtain ⟨rfl, HC⟩ := hcut
                        obtain ⟨w9, hw9⟩ : ∃ W, W = wc := ⟨_, rfl⟩
                        rw [← hw9] at HC ⊢
                        clear hw9 HR8 HS8
                        have HR9 := hide' HC.out.1
                        have HS9 := hide' HC.out.2
                        clear HC
                        cases x34
                        rotate_left
                        · obtain ⟨F1, hF1⟩ : ∃ F, F = DS.backs DS.blk e2.line.length e2 := ⟨_, rfl⟩
                          obtain ⟨F2, hF2⟩ : ∃ F, F = DS.backs (fun x => !DS.blk x) F1.line.length F1 := ⟨_, rfl⟩
                          have HM6 : Hid (d.input c = (F2, 0)) := by show d.input c = _; rw [HM5.out, if_neg (by simp), if_pos (by first | rfl | trivial), hF2, hF1]
                          have HF9 := hide' hF1.symm
                          have HG := hide' hF2.symm
                          have HBD9 : Hid (Bd e2) := ⟨HE2L.out, by rw [HE2E.out]; have := HE2L.out; simp; omega⟩
                          clear hF1 hF2 HM5
                          go_upto_block 2 with fail
                          go_cut [] from 116 to 128 (fun wx => Hid (RAt wx b F1 ∧ Stay (fun k => k = b) w wx ∧ Bd F1))
                          case first =>
                            go_wp2
                            go_loopg [] e2.line.length (fun gg wr => ∃ X : DS, gg = X.line.length ∧ Hid (RAt wr b X ∧ Stay (fun k => k = b) w wr ∧ Bd X ∧ DS.backs DS.blk X.line.length X = F1))
                            case atStart => exact ⟨e2, rfl, HR9.out, HS9.out, HBD9.out, HF9.out⟩
                            case round =>
                              clear HR9 HS9 HBD9 HF9
                              obtain ⟨X, rfl, HRL⟩ := hrel
                              obtain ⟨w10, hw10⟩ : ∃ W, W = wr := ⟨_, rfl⟩
                              rw [← hw10] at HRL ⊢
                              clear hw10
                              have HR10 := hide' HRL.out.1
                              have HS10 := hide' HRL.out.2.1
                              have HBX := hide' HRL.out.2.2.1
                              have HFX := hide' HRL.out.2.2.2
                              clear HRL
                              obtain ⟨r9, B9, P9⟩ := HR10.out
                              obtain ⟨a9, z9, e17⟩ := P9.ln.shape
                              obtain ⟨c0, c1, c2, c3, c4, c5, c6, c7, c8, c9, c10, c11, c12, c13, c14, c15, c16, c17, c18, c19, c20, c21, c22, -⟩ := B9
                              rw [e17] at c17
                              clear P9 e17
                              by_cases hne : X.line = []
                              · have hz : X.line.length = 0 := by rw [hne]; rfl
                                rw [hz] at c17
                                have HXF : Hid (X = F1) := (backs_nil _ _ _ hne).symm.trans HFX.out
                                go_wp2
                                go_meet
                                refine ⟨?_, HS10.out, ?_⟩
                                · rw [← HXF.out]; exact HR10.out
                                · rw [← HXF.out]; exact HBX.out
                              · obtain ⟨n9, hn9⟩ : ∃ k, k = X.line.length := ⟨_, rfl⟩
                                have hp9 : 0 < X.line.length := List.length_pos_iff.2 hne
                                rw [← hn9] at c17 hp9
                                have kn : decide ((0 : Int) < n9) = true := by simp; omega
                                have HNE := hide' hne
                                have HBL := hide' (r_blank b X w10 HR10.out hne (by have := HBX.out.1; omega))
                                obtain ⟨qb, hqb⟩ : ∃ q, q = DS.blk (X.line.getLastD 0) := ⟨_, rfl⟩
                                rw [← hqb] at HBL
                                have HQB := hide' hqb
                                clear hne hqb hn9
                                go_wp2_with fail
                                refine HBL.out.mono ?_
                                rintro e w11 ⟨rfl, hs⟩
                                have HR11 := hide' (HR10.out.keep hs)
                                have HS11 := hide' (HS10.out.trans (hs.mono (fun _ _ h => h.elim)))
                                clear hs HBL HR10 HS10 c0 c1 c2 c3 c4 c5 c6 c7 c8 c9 c10 c11 c12 c13 c14 c15 c16 c17 c18 c19 c20 c21 c22
                                cases qb
                                · have HXF : Hid (X = F1) := (backs_stop _ _ _ (by show DS.blk (X.line.getLastD 0) = false; rw [← HQB.out])).symm.trans HFX.out
                                  go_wp2
                                  go_meet
                                  refine ⟨?_, HS11.out, ?_⟩
                                  · rw [← HXF.out]; exact HR11.out
                                  · rw [← HXF.out]; exact HBX.out
                                · have HFB : Hid (DS.backs DS.blk X.back.line.length X.back = F1) := (backs_len DS.blk X HNE.out (by show DS.blk (X.line.getLastD 0) = true; rw [← HQB.out])).symm.trans HFX.out
                                  go_wp2_with fail
                                  refine (r_back b X _ HR11.out HNE.out (by have := HBX.out.1; omega) (by have := HBX.out.2; omega)).mono ?_
                                  rintro e w12 ⟨rfl, hr, hs⟩
                                  have HR12 := hide' hr
                                  have HS12 := hide' (HS11.out.trans hs)
                                  clear hr hs HR11 HS11
                                  have HBB := hide' (back_bd X HNE.out HBX.out)
                                  have HLL := hide' (back_len X HNE.out)
                                  clear HFX HQB HBX HNE
                                  go_wp2
                                  go_roundg X.back.line.length
                                  case measure => have := HLL.out; omega
                                  case rel => exact ⟨X.back, rfl, HR12.out, HS12.out, HBB.out, HFB.out⟩
                          case rest =>
                            obtain ⟨w10, hw10⟩ : ∃ W, W = wc := ⟨_, rfl⟩
                            rw [← hw10] at hcut ⊢
                            clear hw10 HR9 HS9 HBD9 HF9
                            have HR10 := hide' hcut.out.1
                            have HS10 := hide' hcut.out.2.1
                            have HBD10 := hide' hcut.out.2.2
                            clear hcut
                            have HF10 := hide' HG.out
                            clear HG
                            go_upto_block 4 with fail
                            go_cut [] from 128 to 141 (fun wx => Hid (RAt wx b F2 ∧ Stay (fun k => k = b) w wx ∧ Bd F2))
                            case first =>
                              go_wp2
                              go_loopg [] F1.line.length (fun gg wr => ∃ X : DS, gg = X.line.length ∧ Hid (RAt wr b X ∧ Stay (fun k => k = b) w wr ∧ Bd X ∧ DS.backs (fun x => !DS.blk x) X.line.length X = F2))
                              case atStart => exact ⟨F1, rfl, HR10.out, HS10.out, HBD10.out, HF10.out⟩
                              case round =>
                                clear HR10 HS10 HBD10 HF10
                                obtain ⟨X, rfl, HRL⟩ := hrel
                                obtain ⟨w11, hw11⟩ : ∃ W, W = wr := ⟨_, rfl⟩
                                rw [← hw11] at HRL ⊢
                                clear hw11
                                have HR11 := hide' HRL.out.1
                                have HS11 := hide' HRL.out.2.1
                                have HBX := hide' HRL.out.2.2.1
                                have HFX := hide' HRL.out.2.2.2
                                clear HRL
                                obtain ⟨r9, B9, P9⟩ := HR11.out
                                obtain ⟨a9, z9, e17⟩ := P9.ln.shape
                                obtain ⟨c0, c1, c2, c3, c4, c5, c6, c7, c8, c9, c10, c11, c12, c13, c14, c15, c16, c17, c18, c19, c20, c21, c22, -⟩ := B9
                                rw [e17] at c17
                                clear P9 e17
                                by_cases hne : X.line = []
                                · have hz : X.line.length = 0 := by rw [hne]; rfl
                                  rw [hz] at c17
                                  have HXF : Hid (X = F2) := (backs_nil _ _ _ hne).symm.trans HFX.out
                                  go_wp2
                                  go_meet
                                  refine ⟨?_, HS11.out, ?_⟩
                                  · rw [← HXF.out]; exact HR11.out
                                  · rw [← HXF.out]; exact HBX.out
                                · obtain ⟨n9, hn9⟩ : ∃ k, k = X.line.length := ⟨_, rfl⟩
                                  have hp9 : 0 < X.line.length := List.length_pos_iff.2 hne
                                  rw [← hn9] at c17 hp9
                                  have kn : decide ((0 : Int) < n9) = true := by simp; omega
                                  have HNE := hide' hne
                                  have HBL := hide' (r_blank b X w11 HR11.out hne (by have := HBX.out.1; omega))
                                  obtain ⟨qb, hqb⟩ : ∃ q, q = DS.blk (X.line.getLastD 0) := ⟨_, rfl⟩
                                  rw [← hqb] at HBL
                                  have HQB := hide' hqb
                                  clear hne hqb hn9
                                  go_wp2_with fail
                                  refine HBL.out.mono ?_
                                  rintro e w12 ⟨rfl, hs⟩
                                  have HR12 := hide' (HR11.out.keep hs)
                                  have HS12 := hide' (HS11.out.trans (hs.mono (fun _ _ h => h.elim)))
                                  clear hs HBL HR11 HS11 c0 c1 c2 c3 c4 c5 c6 c7 c8 c9 c10 c11 c12 c13 c14 c15 c16 c17 c18 c19 c20 c21 c22
                                  cases qb
                                  · have HFB : Hid (DS.backs (fun x => !DS.blk x) X.back.line.length X.back = F2) := (backs_len (fun x => !DS.blk x) X HNE.out (by show (!DS.blk (X.line.getLastD 0)) = true; rw [← HQB.out]; rfl)).symm.trans HFX.out
                                    go_wp2_with fail
                                    refine (r_back b X _ HR12.out HNE.out (by have := HBX.out.1; omega) (by have := HBX.out.2; omega)).mono ?_
                                    rintro e w13 ⟨rfl, hr, hs⟩
                                    have HR13 := hide' hr
                                    have HS13 := hide' (HS12.out.trans hs)
                                    clear hr hs HR12 HS12
                                    have HBB := hide' (back_bd X HNE.out HBX.out)
                                    have HLL := hide' (back_len X HNE.out)
                                    clear HFX HQB HBX HNE
                                    go_wp2
                                    go_roundg X.back.line.length
                                    case measure => have := HLL.out; omega
                                    case rel => exact ⟨X.back, rfl, HR13.out, HS13.out, HBB.out, HFB.out⟩
                                  · have HXF : Hid (X = F2) := (backs_stop _ _ _ (by show (!DS.blk (X.line.getLastD 0)) = false; rw [← HQB.out]; rfl)).symm.trans HFX.out
                                    go_wp2
                                    go_meet
                                    refine ⟨?_, HS12.out, ?_⟩
                                    · rw [← HXF.out]; exact HR12.out
                                    · rw [← HXF.out]; exact HBX.out
                            case rest =>
                              obtain ⟨w11, hw11⟩ : ∃ W, W = wc := ⟨_, rfl⟩
                              rw [← hw11] at hcut ⊢
                              clear hw11 HR10 HS10 HBD10 HF10
                              have HR11 := hide' hcut.out.1
                              have HS11 := hide' hcut.out.2.1
                              have HBD11 := hide' hcut.out.2.2
                              clear hcut
                              have HEND : Hid (d.input c = (F2, 0)) := by show d.input c = _; exact HM6.out
                              go_wp2
                              go_ret
                              refine ⟨ret_int (by rw [HEND.out]), ?_, HS11.out⟩
                              rw [HEND.out]
                              exact HR11.out
                        · go_upto_region 40 with fail
                          go_cut [147] from 141 to 148 (fun s147 wx => s147 = .bool x40 ∧ Hid (RAt wx b e2 ∧ Stay (fun k => k = b) w wx))
                          case first =>
                            go_wp2_with fail
                            refine (HK_q512.out _ HR9.out).mono ?_
                            rintro e w10 ⟨rfl, hs⟩
                            have HR10 := hide' (HR9.out.keep hs)
                            have HS10 := hide' (HS9.out.trans (hs.mono (fun _ _ h => h.elim)))
                            clear hs HR9 HS9
                            cases q512
                            · go_wp2
                              go_meet
                              exact ⟨by rw [HX40.out]; first | rfl | simp, HR10.out, HS10.out⟩
                            · go_wp2_with fail
                              refine (HK_i8.out _ HR10.out).mono ?_
                              rintro e w11 ⟨rfl, hs⟩
                              have HR11 := hide' (HR10.out.keep hs)
                              have HS11 := hide' (HS10.out.trans (hs.mono (fun _ _ h => h.elim)))
                              clear hs HR10 HS10
                              go_wp2
                              go_meet
                              exact ⟨by rw [HX40.out]; first | rfl | simp, HR11.out, HS11.out⟩
                          case rest =>
                            obtain ⟨rfl, HC⟩ := hcut
                            obtain ⟨w10, hw10⟩ : ∃ W, W = wc := ⟨_, rfl⟩
                            rw [← hw10] at HC ⊢
                            clear hw10 HR9 HS9
                            have HR10 := hide' HC.out.1
                            have HS10 := hide' HC.out.2
                            clear HC
                            cases x40
                            rotate_left
                            · have HM6 : Hid (d.input c = (e2.again m, 0)) := by show d.input c = _; rw [HM5.out, if_neg (by simp), if_neg (by simp), if_pos (by first | rfl | trivial)]
                              clear HM5
                              have HSHW := hide' (fun w' (hh : RAt w' b e2) => r_shw b e2 m w' hh hm0 hm1 (by rw [HE2E.out]; simp))
                              go_wp2_with fail
                              refine (HSHW.out _ HR10.out).mono ?_
                              rintro e w11 ⟨rfl, hr, hs⟩
                              have HR11 := hide' hr
                              have HS11 := hide' (HS10.out.trans hs)
                              clear hr hs HR10 HS10
                              obtain ⟨X1, hX1⟩ : ∃ X, X = e2.shw m := ⟨_, rfl⟩
                              have H1T : Hid (X1.t = e2.t ∧ X1.line = e2.line ∧ X1.ec.length ≤ 2) := by
                                rw [hX1]
                                have h1 := shw_ec e2 m
                                rw [HE2E.out] at h1
                                exact ⟨shw_t e2 m, shw_line e2 m, h1⟩
                              rw [← hX1] at HR11
                              have HK2 : Hid (∀ w', RAt w' b X1 → Calls Try.prog 34 #[.pointer (some ⟨b, 0, none⟩), .int .i64 2] w' (Gives (.bool q2) w')) := fun w' hh => by rw [HE_q2.out, show e2.loc 2 = X1.loc 2 by unfold DS.loc; rw [H1T.out.1]]; exact r_local b X1 2 w' hh
                              obtain ⟨X2, hX2⟩ : ∃ X, X = if q2 = true then X1.out [10] else X1 := ⟨_, rfl⟩
                              obtain ⟨FR, hFR⟩ : ∃ X, X = DS.shows e2.line X2 := ⟨_, rfl⟩
                              have HFR : Hid (d.input c = (FR, 0)) := by
                                show d.input c = _
                                rw [HM6.out, hFR, hX2, hX1, HE_q2.out]
                                rfl
                              have H2T : Hid (X2.line = e2.line ∧ X2.ec.length ≤ 3) := by
                                rw [hX2]
                                split
                                · exact ⟨H1T.out.2.1, by show (X1.ec ++ [10]).length ≤ 3; rw [List.length_append]; have := H1T.out.2.2; simp; omega⟩
                                · exact ⟨H1T.out.2.1, by have := H1T.out.2.2; omega⟩
                              have HX2 := hide' hX2
                              have HFR2 := hide' hFR
                              clear hX1 hX2 hFR HM6 HSHW
                              go_wp2_with fail
                              refine (HK2.out _ HR11.out).mono ?_
                              rintro e w12 ⟨rfl, hs⟩
                              have HR12 := hide' (HR11.out.keep hs)
                              have HS12 := hide' (HS11.out.trans (hs.mono (fun _ _ h => h.elim)))
                              clear hs HR11 HS11
                              go_upto_if 152 with fail
                              go_cut [] from 148 to 156 (fun wx => Hid (RAt wx b X2 ∧ Stay (fun k => k = b) w wx))
                              case first =>
                                cases q2
                                · go_wp2
                                  go_meet
                                  exact ⟨by rw [HX2.out]; simpa using HR12.out, HS12.out⟩
                                · go_wp2_with fail
                                  have HRa := hide' (HR12.out.keep ((Stay.refl _ w12).alloc (.cells #[.int .u8 10] 5)))
                                  have HSa := hide' (HS12.out.alloc (.cells #[.int .u8 10] 5))
                                  refine (r_out b _ _ [10] _ HRa.out (brow_new w12 #[.int .u8 10] [10] 1 b HR12.out.lt rfl rfl (fun y hy => by simp at hy; first | (subst hy; decide) | (rcases hy with rfl | rfl <;> decide)) (by omega)) (by have := H1T.out.2.2; simp; omega)).mono ?_
                                  rintro e w13 ⟨rfl, hr, hs⟩
                                  have HR13 := hide' hr
                                  have HS13 := hide' (HSa.out.trans hs)
                                  clear hr hs HRa HSa HR12 HS12
                                  go_wp2
                                  go_meet
                                  exact ⟨by rw [HX2.out]; simpa using HR13.out, HS13.out⟩
                              case rest =>
                                obtain ⟨w13, hw13⟩ : ∃ W, W = wc := ⟨_, rfl⟩
                                rw [← hw13] at hcut ⊢
                                clear hw13 HR12 HS12
                                have HR13 := hide' hcut.out.1
                                have HS13 := hide' hcut.out.2
                                clear hcut HX2 HK2
                                obtain ⟨nl, hnl⟩ : ∃ k, k = e2.line.length := ⟨_, rfl⟩
                                have HNL := hide' hnl
                                have hnl2 : nl ≤ 255 := by rw [hnl]; exact HE2L.out
                                clear hnl
                                go_wp2
                                go_loopg [7] nl (fun gg v7 wr => ∃ k : Nat, k ≤ nl ∧ gg = nl - k ∧ v7 = .int .i64 (k : Int) ∧ ∃ X : DS, Hid (RAt wr b X ∧ Stay (fun k => k = b) w wr ∧ X.line = e2.line ∧ X.ec.length ≤ 3 + 2 * k ∧ DS.shows (e2.line.drop k) X = FR))
                                case atStart => exact ⟨0, Nat.zero_le _, rfl, rfl, X2, HR13.out, HS13.out, H2T.out.1, by have := H2T.out.2; omega, HFR2.out.symm⟩
                                case round =>
                                  clear HR13 HS13
                                  obtain ⟨k, hk, rfl, rfl, X, HRL⟩ := hrel
                                  obtain ⟨w14, hw14⟩ : ∃ W, W = wr := ⟨_, rfl⟩
                                  rw [← hw14] at HRL ⊢
                                  clear hw14
                                  have HR14 := hide' HRL.out.1
                                  have HS14 := hide' HRL.out.2.1
                                  have HXL := hide' HRL.out.2.2
                                  clear HRL
                                  obtain ⟨r9, B9, P9⟩ := HR14.out
                                  have hln := P9.ln
                                  rw [HXL.out.1] at hln
                                  obtain ⟨a9, z9, e17⟩ := hln.shape
                                  rw [← HNL.out] at e17
                                  obtain ⟨c0, c1, c2, c3, c4, c5, c6, c7, c8, c9, c10, c11, c12, c13, c14, c15, c16, c17, c18, c19, c20, c21, c22, -⟩ := B9
                                  rw [e17] at c17
                                  by_cases hlt : k < nl
                                  · have kn : decide ((k : Int) < nl) = true := by simp; omega
                                    have kn2 : (k : Int) < nl := by omega
                                    have HBY := hide' (getD_byte hln k (by rw [← HNL.out]; exact hlt))
                                    obtain ⟨a0, c0', hI, _⟩ := hln
                                    have hsh := hI.shape
                                    rw [e17] at hsh
                                    have ea : a9 = a0 := by injection hsh
                                    obtain ⟨g9, o9, rfl, _, hin⟩ := hI.cells (fun e => by have := HNL.out; rw [e] at this; simp at this; omega)
                                    subst ea
                                    have hcell := hin k (by rw [← HNL.out]; exact hlt)
                                    obtain ⟨x9, hx9⟩ : ∃ x, x = e2.line.getD k 0 := ⟨_, rfl⟩
                                    rw [← hx9] at hcell HBY
                                    have HX9 := hide' hx9
                                    clear hx9 hin hI hsh e17 P9
                                    go_wp2_with fail
                                    refine (r_shw b X x9 _ HR14.out HBY.out.1 HBY.out.2 (by have := HXL.out.2.1; omega)).mono ?_
                                    rintro e w15 ⟨rfl, hr, hs⟩
                                    have HR15 := hide' hr
                                    have HS15 := hide' (HS14.out.trans hs)
                                    clear hr hs HR14 HS14 hcell c0 c1 c2 c3 c4 c5 c6 c7 c8 c9 c10 c11 c12 c13 c14 c15 c16 c17 c18 c19 c20 c21 c22
                                    have HXN : Hid ((X.shw x9).line = e2.line ∧ (X.shw x9).ec.length ≤ 3 + 2 * (k + 1) ∧ DS.shows (e2.line.drop (k + 1)) (X.shw x9) = FR) := by
                                      refine ⟨(shw_line X x9).trans HXL.out.1, by have := shw_ec X x9; have := HXL.out.2.1; omega, ?_⟩
                                      have h1 := HXL.out.2.2
                                      rw [shows_drop _ k (by rw [← HNL.out]; exact hlt), ← HX9.out] at h1
                                      exact h1
                                    clear HXL HX9 HBY
                                    go_wp2
                                    go_roundg (nl - (k + 1))
                                    case measure => omega
                                    case rel => exact ⟨k + 1, by omega, rfl, by go_num, X.shw x9, HR15.out, HS15.out, HXN.out⟩
                                  · have kn : decide ((k : Int) < nl) = false := by simp; omega
                                    have HKN : Hid (k = nl) := by show k = nl; omega
                                    have HXF : Hid (X = FR) := by
                                      have h1 := HXL.out.2.2
                                      rw [HKN.out, HNL.out, shows_end] at h1
                                      exact h1
                                    have hxf := HXF.out
                                    clear P9 hln e17
                                    subst hxf
                                    have HEND : Hid (d.input c = (X, 0)) := by show d.input c = _; exact HFR.out
                                    go_wp2
                                    go_ret
                                    refine ⟨ret_int (by rw [HEND.out]), ?_, HS14.out⟩
                                    rw [HEND.out]
                                    exact HR14.out
                            · go_upto_region 49 with fail
                              go_cut [181] from 174 to 182 (fun s181 wx => s181 = .bool x49 ∧ Hid (RAt wx b e2 ∧ Stay (fun k => k = b) w wx))
                              case first =>
                                go_wp2_with fail
                                refine (HK_i5.out _ HR10.out).mono ?_
                                rintro e w11 ⟨rfl, hs⟩
                                have HR11 := hide' (HR10.out.keep hs)
                                have HS11 := hide' (HS10.out.trans (hs.mono (fun _ _ h => h.elim)))
                                clear hs HR10 HS10
                                cases i5
                                · go_wp2_with fail
                                  refine (HK_i6.out _ HR11.out).mono ?_
                                  rintro e w12 ⟨rfl, hs⟩
                                  have HR12 := hide' (HR11.out.keep hs)
                                  have HS12 := hide' (HS11.out.trans (hs.mono (fun _ _ h => h.elim)))
                                  clear hs HR11 HS11
                                  go_wp2
                                  go_meet
                                  exact ⟨by rw [HX49.out]; first | rfl | simp, HR12.out, HS12.out⟩
                                · go_wp2
                                  go_meet
                                  exact ⟨by rw [HX49.out]; first | rfl | simp, HR11.out, HS11.out⟩
                              case rest =>
                                obtain ⟨rfl, HC⟩ := hcut
                                obtain ⟨w11, hw11⟩ : ∃ W, W = wc := ⟨_, rfl⟩
                                rw [← hw11] at HC ⊢
                                clear hw11 HR10 HS10
                                have HR11 := hide' HC.out.1
                                have HS11 := hide' HC.out.2
                                clear HC
                                cases x49
                                rotate_left
                                · obtain ⟨F, hF⟩ : ∃ F, F = DS.backs (fun _ => true) (if i5 = true then 1 else e2.line.length) e2 := ⟨_, rfl⟩
                                  obtain ⟨G, hG⟩ : ∃ G, G = if q4 = false then F.shw m else F := ⟨_, rfl⟩
                                  obtain ⟨x56, hx56⟩ : ∃ x, x = ((!i5 && q8) && q2) := ⟨_, rfl⟩
                                  have HX56 := hide' hx56
                                  have HFT : Hid (F.t = e2.t) := by show F.t = e2.t; rw [hF]; exact backs_t _ _ _
                                  have HKE : Hid (d.input c = (if x56 = true then G.out [10] else G, 0)) := by
                                    show d.input c = _
                                    rw [HM5.out, if_neg (by simp), if_neg (by simp), if_neg (by simp), if_pos (by first | rfl | trivial), kills_eq, ← HE_i5.out, ← HE_q8.out, ← HE_q2.out, ← HE_q4.out, ← hF, ← hG, ← hx56]
                                  have HG := hide' hG
                                  have HGT : Hid (G.t = e2.t) := by
                                    show G.t = e2.t
                                    rw [hG]
                                    split
                                    · exact (shw_t F m).trans HFT.out
                                    · exact HFT.out
                                  have HF0 := hide' hF.symm
                                  have HBD0 : Hid (Bd e2) := ⟨HE2L.out, by rw [HE2E.out]; have := HE2L.out; simp; omega⟩
                                  have hF5 := hF.symm
                                  clear hF hG hx56 HM5
                                  go_upto_block 8 with fail
                                  go_cut [] from 8 to 202 (fun wx => Hid (RAt wx b F ∧ Stay (fun k => k = b) w wx ∧ Bd F))
                                  case first =>
                                    clear hF5
                                    go_wp2
                                    go_loopg [8] e2.line.length (fun gg v8 wr => ∃ X : DS, gg = X.line.length ∧ ∃ k : Nat, v8 = .int .i64 (k : Int) ∧ k ≤ 255 ∧ Hid (RAt wr b X ∧ Stay (fun k => k = b) w wr ∧ Bd X ∧ X.t = e2.t ∧ k + X.line.length ≤ 255 ∧ DS.backs (fun _ => true) (if i5 = true then (if k = 0 then 1 else 0) else X.line.length) X = F))
                                    case atStart => exact ⟨e2, rfl, 0, rfl, by omega, HR11.out, HS11.out, HBD0.out, rfl, by have := HE2L.out; omega, HF0.out⟩
                                    case round =>
                                      clear HR11 HS11 HBD0 HF0
                                      obtain ⟨X, rfl, k, rfl, hk, HRL⟩ := hrel
                                      obtain ⟨w12, hw12⟩ : ∃ W, W = wr := ⟨_, rfl⟩
                                      rw [← hw12] at HRL ⊢
                                      clear hw12
                                      have HR12 := hide' HRL.out.1
                                      have HS12 := hide' HRL.out.2.1
                                      have HBX := hide' HRL.out.2.2.1
                                      have HXT := hide' HRL.out.2.2.2.1
                                      have HKX := hide' HRL.out.2.2.2.2.1
                                      have HFX := hide' HRL.out.2.2.2.2.2
                                      clear HRL
                                      obtain ⟨r9, B9, P9⟩ := HR12.out
                                      obtain ⟨a9, z9, e17⟩ := P9.ln.shape
                                      obtain ⟨c0, c1, c2, c3, c4, c5, c6, c7, c8, c9, c10, c11, c12, c13, c14, c15, c16, c17, c18, c19, c20, c21, c22, -⟩ := B9
                                      rw [e17] at c17
                                      clear P9 e17
                                      by_cases hne : X.line = []
                                      · have hz : X.line.length = 0 := by rw [hne]; rfl
                                        rw [hz] at c17
                                        have HXF : Hid (X = F) := (backs_nil _ _ _ hne).symm.trans HFX.out
                                        go_wp2
                                        go_meet
                                        refine ⟨?_, HS12.out, ?_⟩
                                        · rw [← HXF.out]; exact HR12.out
                                        · rw [← HXF.out]; exact HBX.out
                                      · obtain ⟨n9, hn9⟩ : ∃ k, k = X.line.length := ⟨_, rfl⟩
                                        have hp9 : 0 < X.line.length := List.length_pos_iff.2 hne
                                        rw [← hn9] at c17 hp9
                                        have kn : decide ((0 : Int) < n9) = true := by simp; omega
                                        have HNE := hide' hne
                                        clear hne hn9
                                        by_cases hk0 : k = 0
                                        · subst hk0
                                          have HFB : Hid (DS.backs (fun _ => true) (if i5 = true then (if 0 + 1 = 0 then 1 else 0) else X.back.line.length) X.back = F) := by
                                            show DS.backs _ _ _ = F
                                            have h1 := HFX.out
                                            cases i5
                                            · rw [if_neg (by simp)] at h1 ⊢
                                              rw [backs_len _ X HNE.out rfl] at h1
                                              exact h1
                                            · rw [if_pos rfl, if_pos rfl] at h1
                                              rw [if_pos rfl, if_neg (by omega)]
                                              rw [backs_go _ 0 X HNE.out rfl] at h1
                                              exact h1
                                          go_wp2_with fail
                                          refine (r_back b X _ HR12.out HNE.out (by have := HBX.out.1; omega) (by have := HBX.out.2; omega)).mono ?_
                                          rintro e w13 ⟨rfl, hr, hs⟩
                                          have HR13 := hide' hr
                                          have HS13 := hide' (HS12.out.trans hs)
                                          clear hr hs HR12 HS12
                                          have HBB := hide' (back_bd X HNE.out HBX.out)
                                          have HLL := hide' (back_len X HNE.out)
                                          have HKK : Hid (0 + 1 + X.back.line.length ≤ 255) := by have := HKX.out; have := HLL.out; show _ ≤ _; omega
                                          have hk9 : 0 + 1 ≤ 255 := by have := HKK.out; omega
                                          clear HFX HBX HNE HKX
                                          go_wp2
                                          go_roundg X.back.line.length
                                          case measure => have := HLL.out; omega
                                          case rel => exact ⟨X.back, rfl, 0 + 1, by go_num, hk9, HR13.out, HS13.out, HBB.out, HXT.out, HKK.out, HFB.out⟩
                                        · have ek : ((k : Int) == 0) = false := by simp; omega
                                          have HKI : Hid (∀ w', RAt w' b X → Calls Try.prog 33 #[.pointer (some ⟨b, 0, none⟩), .int .i64 5, .int .u8 m] w' (Gives (.bool i5) w')) := fun w' hh => by rw [HE_i5.out, ← HXT.out]; exact r_is b X 5 m w' hh hm0 hm1
                                          go_wp2_with fail
                                          refine (HKI.out _ HR12.out).mono ?_
                                          rintro e w13 ⟨rfl, hs⟩
                                          have HR13 := hide' (HR12.out.keep hs)
                                          have HS13 := hide' (HS12.out.trans (hs.mono (fun _ _ h => h.elim)))
                                          clear hs HR12 HS12
                                          cases i5
                                          · have HFB : Hid (DS.backs (fun _ => true) (if false = true then (if k + 1 = 0 then 1 else 0) else X.back.line.length) X.back = F) := by
                                              show DS.backs _ _ _ = F
                                              have h1 := HFX.out
                                              rw [if_neg (by simp)] at h1 ⊢
                                              rw [backs_len _ X HNE.out rfl] at h1
                                              exact h1
                                            go_wp2_with fail
                                            refine (r_back b X _ HR13.out HNE.out (by have := HBX.out.1; omega) (by have := HBX.out.2; omega)).mono ?_
                                            rintro e w14 ⟨rfl, hr, hs⟩
                                            have HR14 := hide' hr
                                            have HS14 := hide' (HS13.out.trans hs)
                                            clear hr hs HR13 HS13
                                            have HBB := hide' (back_bd X HNE.out HBX.out)
                                            have HLL := hide' (back_len X HNE.out)
                                            have HKK : Hid (k + 1 + X.back.line.length ≤ 255) := by have := HKX.out; have := HLL.out; show _ ≤ _; omega
                                            have hk9 : k + 1 ≤ 255 := by have := HKK.out; omega
                                            clear HFX HBX HNE HKX
                                            go_wp2
                                            go_roundg X.back.line.length
                                            case measure => have := HLL.out; omega
                                            case rel => exact ⟨X.back, rfl, k + 1, by go_num, hk9, HR14.out, HS14.out, HBB.out, HXT.out, HKK.out, HFB.out⟩
                                          · have HXF : Hid (X = F) := by
                                              have h1 := HFX.out
                                              rw [if_pos (by first | rfl | trivial), if_neg hk0] at h1
                                              exact h1
                                            go_wp2
                                            go_meet
                                            refine ⟨?_, HS13.out, ?_⟩
                                            · rw [← HXF.out]; exact HR13.out
                                            · rw [← HXF.out]; exact HBX.out
                                  case rest =>
                                    obtain ⟨w12, hw12⟩ : ∃ W, W = wc := ⟨_, rfl⟩
                                    rw [← hw12] at hcut ⊢
                                    clear hw12 HR11 HS11 HBD0 HF0 hF5
                                    have HR12 := hide' hcut.out.1
                                    have HS12 := hide' hcut.out.2.1
                                    have HBD := hide' hcut.out.2.2
                                    clear hcut
                                    have HK4 : Hid (∀ w', RAt w' b F → Calls Try.prog 34 #[.pointer (some ⟨b, 0, none⟩), .int .i64 4] w' (Gives (.bool q4) w')) := fun w' hh => by rw [HE_q4.out, show e2.loc 4 = F.loc 4 by unfold DS.loc; rw [HFT.out]]; exact r_local b F 4 w' hh
                                    have HG8 : Hid (∀ w', RAt w' b G → Calls Try.prog 34 #[.pointer (some ⟨b, 0, none⟩), .int .i64 8] w' (Gives (.bool q8) w')) := fun w' hh => by rw [HE_q8.out, show e2.loc 8 = G.loc 8 by unfold DS.loc; rw [HGT.out]]; exact r_local b G 8 w' hh
                                    have HG2 : Hid (∀ w', RAt w' b G → Calls Try.prog 34 #[.pointer (some ⟨b, 0, none⟩), .int .i64 2] w' (Gives (.bool q2) w')) := fun w' hh => by rw [HE_q2.out, show e2.loc 2 = G.loc 2 by unfold DS.loc; rw [HGT.out]]; exact r_local b G 2 w' hh
                                    have HG5 : Hid (∀ w', RAt w' b G → Calls Try.prog 33 #[.pointer (some ⟨b, 0, none⟩), .int .i64 5, .int .u8 m] w' (Gives (.bool i5) w')) := fun w' hh => by rw [HE_i5.out, ← HGT.out]; exact r_is b G 5 m w' hh hm0 hm1
                                    go_wp2_with fail
                                    refine (HK4.out _ HR12.out).mono ?_
                                    rintro e w13 ⟨rfl, hs⟩
                                    have HR13 := hide' (HR12.out.keep hs)
                                    have HS13 := hide' (HS12.out.trans (hs.mono (fun _ _ h => h.elim)))
                                    clear hs HR12 HS12
                                    go_upto_if 204 with fail
                                    go_cut [] from 202 to 208 (fun wx => Hid (RAt wx b G ∧ Stay (fun k => k = b) w wx))
                                    case first =>
                                      cases q4
                                      · go_wp2_with fail
                                        refine (r_shw b F m _ HR13.out hm0 hm1 (by have := HBD.out.2; omega)).mono ?_
                                        rintro e w14 ⟨rfl, hr, hs⟩
                                        have HR14 := hide' hr
                                        have HS14 := hide' (HS13.out.trans hs)
                                        clear hr hs HR13 HS13
                                        go_wp2
                                        go_meet
                                        exact ⟨by rw [HG.out]; simpa using HR14.out, HS14.out⟩
                                      · go_wp2
                                        go_meet
                                        exact ⟨by rw [HG.out]; simpa using HR13.out, HS13.out⟩
                                    case rest =>
                                      obtain ⟨w14, hw14⟩ : ∃ W, W = wc := ⟨_, rfl⟩
                                      rw [← hw14] at hcut ⊢
                                      clear hw14 HR13 HS13
                                      have HR14 := hide' hcut.out.1
                                      have HS14 := hide' hcut.out.2
                                      have HGE : Hid (G.ec.length ≤ 2002) := by
                                        show G.ec.length ≤ 2002
                                        rw [HG.out]
                                        have h1 := HBD.out.2
                                        have h2 := shw_ec F m
                                        split <;> omega
                                      clear hcut HK4 HG
                                      go_upto_region 56 with fail
                                      go_cut [219] from 208 to 220 (fun s219 wx => s219 = .bool x56 ∧ Hid (RAt wx b G ∧ Stay (fun k => k = b) w wx))
                                      case first =>
                                        go_wp2_with fail
                                        refine (HG5.out _ HR14.out).mono ?_
                                        rintro e w15 ⟨rfl, hs⟩
                                        have HR15 := hide' (HR14.out.keep hs)
                                        have HS15 := hide' (HS14.out.trans (hs.mono (fun _ _ h => h.elim)))
                                        clear hs HR14 HS14
                                        cases i5
                                        · go_wp2_with fail
                                          refine (HG8.out _ HR15.out).mono ?_
                                          rintro e w16 ⟨rfl, hs⟩
                                          have HR16 := hide' (HR15.out.keep hs)
                                          have HS16 := hide' (HS15.out.trans (hs.mono (fun _ _ h => h.elim)))
                                          clear hs HR15 HS15
                                          cases q8
                                          · go_wp2
                                            go_meet
                                            exact ⟨by rw [HX56.out]; first | rfl | simp, HR16.out, HS16.out⟩
                                          · go_wp2_with fail
                                            refine (HG2.out _ HR16.out).mono ?_
                                            rintro e w17 ⟨rfl, hs⟩
                                            have HR17 := hide' (HR16.out.keep hs)
                                            have HS17 := hide' (HS16.out.trans (hs.mono (fun _ _ h => h.elim)))
                                            clear hs HR16 HS16
                                            go_wp2
                                            go_meet
                                            exact ⟨by rw [HX56.out]; first | rfl | simp, HR17.out, HS17.out⟩
                                        · go_wp2
                                          go_meet
                                          exact ⟨by rw [HX56.out]; first | rfl | simp, HR15.out, HS15.out⟩
                                      case rest =>
                                        obtain ⟨rfl, HC⟩ := hcut
                                        obtain ⟨w15, hw15⟩ : ∃ W, W = wc := ⟨_, rfl⟩
                                        rw [← hw15] at HC ⊢
                                        clear hw15 HR14 HS14
                                        have HR15 := hide' HC.out.1
                                        have HS15 := hide' HC.out.2
                                        clear HC
                                        cases x56
                                        · have HEND : Hid (d.input c = (G, 0)) := by show d.input c = _; rw [HKE.out]; simp
                                          go_wp2
                                          go_ret
                                          refine ⟨ret_int (by rw [HEND.out]), ?_, HS15.out⟩
                                          rw [HEND.out]
                                          exact HR15.out
                                        · go_wp2_with fail
                                          have HRa := hide' (HR15.out.keep ((Stay.refl _ w15).alloc (.cells #[.int .u8 10] 5)))
                                          have HSa := hide' (HS15.out.alloc (.cells #[.int .u8 10] 5))
                                          refine (r_out b _ _ [10] _ HRa.out (brow_new w15 #[.int .u8 10] [10] 1 b HR15.out.lt rfl rfl (fun y hy => by simp at hy; first | (subst hy; decide) | (rcases hy with rfl | rfl <;> decide)) (by omega)) (by have := HGE.out; simp; omega)).mono ?_
                                          rintro e w16 ⟨rfl, hr, hs⟩
                                          have HR16 := hide' hr
                                          have HS16 := hide' (HSa.out.trans hs)
                                          clear hr hs HRa HSa HR15 HS15
                                          have HEND : Hid (d.input c = (G.out [10], 0)) := by show d.input c = _; rw [HKE.out]; simp
                                          go_wp2
                                          go_ret
                                          refine ⟨ret_int (by rw [HEND.out]), ?_, HS16.out⟩
                                          rw [HEND.out]
                                          exact HR16.out
                                · have HM6 : Hid (d.input c = (if i3 = true then e2.ready else e2.enter m, 0)) := by
                                    show d.input c = _
                                    rw [HM5.out, if_neg (by simp), if_neg (by simp), if_neg (by simp), if_neg (by simp)]
                                  clear HM5
                                  go_wp2_with fail
                                  refine (HK_i3.out _ HR11.out).mono ?_
                                  rintro e w12 ⟨rfl, hs⟩
                                  have HR12 := hide' (HR11.out.keep hs)
                                  have HS12 := hide' (HS11.out.trans (hs.mono (fun _ _ h => h.elim)))
                                  clear hs HR11 HS11
                                  cases i3
                                  rotate_left
                                  · go_wp2_with fail
                                    refine (r_ready1 b e2 _ HR12.out HE2S.out (by rw [HE2E.out]; simp)).mono ?_
                                    rintro e w13 ⟨rfl, hr, hs⟩
                                    have HR13 := hide' hr
                                    have HS13 := hide' (HS12.out.trans hs)
                                    clear hr hs HR12 HS12
                                    have HEND : Hid (d.input c = (e2.ready, 0)) := by show d.input c = _; rw [HM6.out]; simp
                                    go_wp2
                                    go_ret
                                    refine ⟨ret_int (by rw [HEND.out]), ?_, HS13.out⟩
                                    rw [HEND.out]
                                    exact HR13.out
                                  · have HM7 : Hid (d.input c = (e2.enter m, 0)) := by show d.input c = _; rw [HM6.out, if_neg (by simp)]
                                    clear HM6
                                    rw [enter_eq, ← HE_i4.out] at HM7
                                    obtain ⟨rm, hrm⟩ : ∃ x, x = e2.room m := ⟨_, rfl⟩
                                    obtain ⟨x62, hx62⟩ : ∃ x, x = (rm && (m == 10 || i4)) := ⟨_, rfl⟩
                                    rw [← hrm, ← hx62] at HM7
                                    rw [← hrm] at HPT
                                    have HX62 := hide' hx62
                                    clear hrm hx62
                                    have HP4 : Hid (∀ w', RAt w' b (e2.put m) → Calls Try.prog 33 #[.pointer (some ⟨b, 0, none⟩), .int .i64 4, .int .u8 m] w' (Gives (.bool i4) w')) := fun w' hh => by rw [HE_i4.out, ← put_t e2 m]; exact r_is b (e2.put m) 4 m w' hh hm0 hm1
                                    go_upto_region 62 with fail
                                    go_cut [239] from 228 to 240 (fun s239 wx => s239 = .bool x62 ∧ Hid (RAt wx b (e2.put m) ∧ Stay (fun k => k = b) w wx))
                                    case first =>
                                      go_wp2_with fail
                                      refine (HPT.out _ HR12.out).mono ?_
                                      rintro e w13 ⟨rfl, hr, hs⟩
                                      have HR13 := hide' hr
                                      have HS13 := hide' (HS12.out.trans hs)
                                      clear hr hs HR12 HS12
                                      cases rm
                                      · go_wp2
                                        go_meet
                                        exact ⟨by rw [HX62.out]; first | rfl | simp, HR13.out, HS13.out⟩
                                      · by_cases h10 : m = 10
                                        · have e10 : (m == 10) = true := by simpa using h10
                                          have HX63 : Hid (x62 = true) := by show x62 = true; rw [HX62.out, e10]; rfl
                                          clear h10
                                          go_wp2
                                          go_meet
                                          exact ⟨by rw [HX63.out], HR13.out, HS13.out⟩
                                        · have e10 : (m == 10) = false := by simpa using h10
                                          have HX63 : Hid (x62 = i4) := by show x62 = i4; rw [HX62.out, e10]; simp
                                          go_wp2_with fail
                                          refine (HP4.out _ HR13.out).mono ?_
                                          rintro e w14 ⟨rfl, hs⟩
                                          have HR14 := hide' (HR13.out.keep hs)
                                          have HS14 := hide' (HS13.out.trans (hs.mono (fun _ _ h => h.elim)))
                                          clear hs HR13 HS13
                                          go_wp2
                                          go_meet
                                          exact ⟨by rw [HX63.out], HR14.out, HS14.out⟩
                                    case rest =>
                                      obtain ⟨rfl, HC⟩ := hcut
                                      obtain ⟨w13, hw13⟩ : ∃ W, W = wc := ⟨_, rfl⟩
                                      rw [← hw13] at HC ⊢
                                      clear hw13 HR12 HS12
                                      have HR13 := hide' HC.out.1
                                      have HS13 := hide' HC.out.2
                                      clear HC
                                      cases x62
                                      · have HEND : Hid (d.input c = (e2.put m, 0)) := by show d.input c = _; rw [HM7.out]; simp
                                        go_wp2
                                        go_ret
                                        refine ⟨ret_int (by rw [HEND.out]), ?_, HS13.out⟩
                                        rw [HEND.out]
                                        exact HR13.out
                                      · go_wp2_with fail
                                        refine (r_ready1 b (e2.put m) _ HR13.out (put_small e2 m HE2B.out HE2S.out.lines) (by have := put_ec e2 m; rw [HE2E.out] at this; simp at this; omega)).mono ?_
                                        rintro e w14 ⟨rfl, hr, hs⟩
                                        have HR14 := hide' hr
                                        have HS14 := hide' (HS13.out.trans hs)
                                        clear hr hs HR13 HS13
                                        have HEND : Hid (d.input c = ((e2.put m).ready, 0)) := by show d.input c = _; rw [HM7.out]; simp
                                        go_wp2
                                        go_ret
                                        refine ⟨ret_int (by rw [HEND.out]), ?_, HS14.out⟩
                                        rw [HEND.out]
                                        exact HR14.out

end Go.Proofs.Ytkggmjjjopfdbaa
