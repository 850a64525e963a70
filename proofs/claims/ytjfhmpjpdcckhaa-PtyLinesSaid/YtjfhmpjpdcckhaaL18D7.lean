/-
  The program: the output stops, and goes on; a signal: walked. No conditions.
-/
import Derived.Test.YtjfhmpjpdcckhaaL18D6
import Derived.Deep.CutBlock
namespace Go.Proofs.Ytjfhmpjpdcckhaa.L18
open Go.RowKit

open L17

variable {q : Pl} {d : DS} {sg : Int}

theorem s_flush (w : World) (h : SD w q d sg) : Calls Try.prog 57 #[.pointer (some ⟨q.p, 0, none⟩)] w (TurnD q d.flush sg (.tuple #[]) w) := by
  obtain ⟨r, e, h⟩ := h
  refine (p_flush h.core).mono ?_
  rintro e1 w1 ⟨r1, rfl, h1, h2, h3⟩
  exact ⟨rfl, ⟨r1, e, h.turn h1 h2 h3⟩, h.stays h2⟩

/-- What the start and the stop leave. -/
def flowS (d : DS) (c : Int) : DS := if (hasB d.t.fi 16 && (isB d.t 11 c || isB d.t 10 c)) = true then d.setStp (isB d.t 11 c) else if (hasB d.t.fi 16 && hasB d.t.fi 32) = true then d.setStp false else d

set_option maxRecDepth 100000 in
set_option maxHeartbeats 1000000 in
theorem s_flow (c : Int) (w : World) (h : SD w q d sg) (hc0 : 0 ≤ c) (hc1 : c < 256) : Calls Try.prog 44 #[.pointer (some ⟨q.b, 0, none⟩), .int .u8 c] w (TurnD q (flowS d c) sg (.bool (hasB d.t.fi 16 && (isB d.t 11 c || isB d.t 10 c))) w) := by
  have HR0 := hide' h
  have HS0 := hide' (Stay.refl q.U w)
  have HQ : Hid (flowS d c = if (hasB d.t.fi 16 && (isB d.t 11 c || isB d.t 10 c)) = true then d.setStp (isB d.t 11 c) else if (hasB d.t.fi 16 && hasB d.t.fi 32) = true then d.setStp false else d) := rfl
  obtain ⟨q16, h_q16⟩ : ∃ z, z = hasB d.t.fi 16 := ⟨_, rfl⟩
  have HK_q16 : Hid (∀ w' d' sg', d'.t = d.t → SD w' q d' sg' → Calls Try.prog 41 #[.pointer (some ⟨q.p, 0, none⟩), .int .i64 16] w' (Gives (.bool q16) w')) := fun w' d' sg' et hh => by
    rw [h_q16, ← et]
    exact s_in (x := d'.ps) (ec := d'.ec) hh 16
  have HE_q16 := hide' h_q16
  clear h_q16
  obtain ⟨q32, h_q32⟩ : ∃ z, z = hasB d.t.fi 32 := ⟨_, rfl⟩
  have HK_q32 : Hid (∀ w' d' sg', d'.t = d.t → SD w' q d' sg' → Calls Try.prog 41 #[.pointer (some ⟨q.p, 0, none⟩), .int .i64 32] w' (Gives (.bool q32) w')) := fun w' d' sg' et hh => by
    rw [h_q32, ← et]
    exact s_in (x := d'.ps) (ec := d'.ec) hh 32
  have HE_q32 := hide' h_q32
  clear h_q32
  obtain ⟨i11, h_i11⟩ : ∃ z, z = isB d.t 11 c := ⟨_, rfl⟩
  have HK_i11 : Hid (∀ w' d' sg', d'.t = d.t → SD w' q d' sg' → Calls Try.prog 56 #[.pointer (some ⟨q.p, 0, none⟩), .int .i64 11, .int .u8 c] w' (Gives (.bool i11) w')) := fun w' d' sg' et hh => by
    rw [h_i11, ← et]
    exact s_is (x := d'.ps) (ec := d'.ec) hh 11 c hc0 hc1
  have HE_i11 := hide' h_i11
  clear h_i11
  obtain ⟨i10, h_i10⟩ : ∃ z, z = isB d.t 10 c := ⟨_, rfl⟩
  have HK_i10 : Hid (∀ w' d' sg', d'.t = d.t → SD w' q d' sg' → Calls Try.prog 56 #[.pointer (some ⟨q.p, 0, none⟩), .int .i64 10, .int .u8 c] w' (Gives (.bool i10) w')) := fun w' d' sg' et hh => by
    rw [h_i10, ← et]
    exact s_is (x := d'.ps) (ec := d'.ec) hh 10 c hc0 hc1
  have HE_i10 := hide' h_i10
  clear h_i10
  rw [← HE_q16.out, ← HE_i11.out, ← HE_i10.out] at HQ ⊢
  rw [← HE_q32.out] at HQ
  clear h hc0 hc1 HE_q16 HE_i11 HE_i10 HE_q32
  go_enter Try.func44, Try.ntmps44
  have s0 := HR0.out.dp
  go_wp2_with fail
  refine (HK_q16.out _ _ _ rfl HR0.out).mono ?_
  rintro e w1 ⟨rfl, hs⟩
  have HR1 := hide' (HR0.out.keep hs)
  have HS1 := hide' (HS0.out.trans (hs.mono (T := q.U) (fun _ _ h => h.elim)))
  clear hs HR0 HS0 s0
  cases q16
  · go_wp2
    go_ret
    refine ⟨rfl, ?_, HS1.out⟩
    rw [HQ.out]
    exact HR1.out
  · have s0 := HR1.out.dp
    go_wp2_with fail
    refine (HK_i11.out _ _ _ rfl HR1.out).mono ?_
    rintro e w2 ⟨rfl, hs⟩
    have HR2 := hide' (HR1.out.keep hs)
    have HS2 := hide' (HS1.out.trans (hs.mono (T := q.U) (fun _ _ h => h.elim)))
    clear hs HR1 HS1 s0
    cases i11
    · have s0 := HR2.out.dp
      go_wp2_with fail
      refine (HK_i10.out _ _ _ rfl HR2.out).mono ?_
      rintro e w3 ⟨rfl, hs⟩
      have HR3 := hide' (HR2.out.keep hs)
      have HS3 := hide' (HS2.out.trans (hs.mono (T := q.U) (fun _ _ h => h.elim)))
      clear hs HR2 HS2 s0
      cases i10
      · have s0 := HR3.out.dp
        go_wp2_with fail
        refine (HK_q32.out _ _ _ rfl HR3.out).mono ?_
        rintro e w4 ⟨rfl, hs⟩
        have HR4 := hide' (HR3.out.keep hs)
        have HS4 := hide' (HS3.out.trans (hs.mono (T := q.U) (fun _ _ h => h.elim)))
        clear hs HR3 HS3 s0
        cases q32
        · go_wp2
          go_ret
          refine ⟨rfl, ?_, HS4.out⟩
          rw [HQ.out]
          exact HR4.out
        · obtain ⟨r5, e5, hop⟩ := HR4.out
          have s0 := HR4.out.dp
          obtain ⟨c0, c1, c2, c3, c4, c5, c6, c7, c8, c9, c10, c11, c12, c13, c14, c15, c16, c17, c18, c19, c20, c21, f0, f1, f2, f3, f4, f5, f6, f7, f8, f9, f10, f11, f12, f13, f14, f15, f16, f17, f18, f19, f20, f21⟩ := hop.core.box
          have HFN := hide' (hop.put_st false)
          clear hop
          go_upto_region 11 with fail
          obtain ⟨w5, hW⟩ : ∃ z, z = w4.setCell ⟨q.p, 20, none⟩ (.bool false) := ⟨_, rfl⟩
          rw [← hW] at HFN ⊢
          clear hW s0 c0 c1 c2 c3 c4 c5 c6 c7 c8 c9 c10 c11 c12 c13 c14 c15 c16 c17 c18 c19 c20 c21 f0 f1 f2 f3 f4 f5 f6 f7 f8 f9 f10 f11 f12 f13 f14 f15 f16 f17 f18 f19 f20 f21
          have HR5 : Hid (SD w5 q (d.setStp false) sg) := by exact HFN.out.1
          have HS5 := hide' (HS4.out.trans HFN.out.2)
          clear HFN HR4 HS4
          go_wp2
          go_ret
          refine ⟨rfl, ?_, HS5.out⟩
          rw [HQ.out]
          exact HR5.out
      · obtain ⟨r4, e4, hop⟩ := HR3.out
        have s0 := HR3.out.dp
        obtain ⟨c0, c1, c2, c3, c4, c5, c6, c7, c8, c9, c10, c11, c12, c13, c14, c15, c16, c17, c18, c19, c20, c21, f0, f1, f2, f3, f4, f5, f6, f7, f8, f9, f10, f11, f12, f13, f14, f15, f16, f17, f18, f19, f20, f21⟩ := hop.core.box
        have HFN := hide' (hop.put_st false)
        clear hop
        go_upto_region 8 with fail
        obtain ⟨w4, hW⟩ : ∃ z, z = w3.setCell ⟨q.p, 20, none⟩ (.bool false) := ⟨_, rfl⟩
        rw [← hW] at HFN ⊢
        clear hW s0 c0 c1 c2 c3 c4 c5 c6 c7 c8 c9 c10 c11 c12 c13 c14 c15 c16 c17 c18 c19 c20 c21 f0 f1 f2 f3 f4 f5 f6 f7 f8 f9 f10 f11 f12 f13 f14 f15 f16 f17 f18 f19 f20 f21
        have HR4 : Hid (SD w4 q (d.setStp false) sg) := by exact HFN.out.1
        have HS4 := hide' (HS3.out.trans HFN.out.2)
        clear HFN HR3 HS3
        go_wp2
        go_ret
        refine ⟨rfl, ?_, HS4.out⟩
        rw [HQ.out]
        exact HR4.out
    · obtain ⟨r3, e3, hop⟩ := HR2.out
      have s0 := HR2.out.dp
      obtain ⟨c0, c1, c2, c3, c4, c5, c6, c7, c8, c9, c10, c11, c12, c13, c14, c15, c16, c17, c18, c19, c20, c21, f0, f1, f2, f3, f4, f5, f6, f7, f8, f9, f10, f11, f12, f13, f14, f15, f16, f17, f18, f19, f20, f21⟩ := hop.core.box
      have HFN := hide' (hop.put_st true)
      clear hop
      go_upto_region 5 with fail
      obtain ⟨w3, hW⟩ : ∃ z, z = w2.setCell ⟨q.p, 20, none⟩ (.bool true) := ⟨_, rfl⟩
      rw [← hW] at HFN ⊢
      clear hW s0 c0 c1 c2 c3 c4 c5 c6 c7 c8 c9 c10 c11 c12 c13 c14 c15 c16 c17 c18 c19 c20 c21 f0 f1 f2 f3 f4 f5 f6 f7 f8 f9 f10 f11 f12 f13 f14 f15 f16 f17 f18 f19 f20 f21
      have HR3 : Hid (SD w3 q (d.setStp true) sg) := by exact HFN.out.1
      have HS3 := hide' (HS2.out.trans HFN.out.2)
      clear HFN HR2 HS2
      go_wp2
      go_ret
      refine ⟨rfl, ?_, HS3.out⟩
      rw [HQ.out]
      exact HR3.out

set_option maxRecDepth 100000 in
set_option maxHeartbeats 2000000 in
theorem s_signal (c : Int) (w : World) (h : SD w q d 0) (ht : rightB d.t = true) (hc0 : 0 ≤ c) (hc1 : c < 256) (hn : d.ec.length ≤ 900000) : Calls Try.prog 45 #[.pointer (some ⟨q.b, 0, none⟩), .int .u8 c] w (fun e w' => (d.sigOf c = 3 ∧ TurnD q d 0 (.bool false) w e w') ∨ (d.sigOf c < 3 ∧ TurnD q (d.signal c) ((d.sigOf c : Int) + 1) (.bool true) w e w')) := by
  have HR0 := hide' h
  have HS0 := hide' (Stay.refl q.U w)
  have hT := ht
  have HSH : Hid (∀ w' sg', SD w' q d sg' → Calls Try.prog 54 #[.pointer (some ⟨q.b, 0, none⟩), .int .u8 c] w' (TurnD q (d.shw c) sg' (.tuple #[]) w')) := fun w' sg' hh => s_show c w' hh ht hc0 hc1 hn
  have HFL : Hid (∀ w' sg', SD w' q (d.shw c) sg' → Calls Try.prog 57 #[.pointer (some ⟨q.p, 0, none⟩)] w' (TurnD q (d.shw c).flush sg' (.tuple #[]) w')) := fun w' sg' hh => s_flush w' hh
  have HQ : Hid (d.sigOf c = if d.loc 64 = false then 3 else if isB d.t 0 c = true then 0 else if isB d.t 1 c = true then 1 else if isB d.t 2 c = true then 2 else 3) := rfl
  have HG : Hid (d.signal c = if (d.shw c).loc 128 = false then (d.shw c).flush.setStp false else d.shw c) := rfl
  have HT2 : Hid ((d.shw c).t = d.t) := (like_shw d c).1
  have hl : (d.shw c).loc 128 = hasB d.t.fl 128 := (like_shw d c).loc 128
  obtain ⟨q64, h_q64⟩ : ∃ z, z = hasB d.t.fl 64 := ⟨_, rfl⟩
  have HK_q64 : Hid (∀ w' d' sg', d'.t = d.t → SD w' q d' sg' → Calls Try.prog 31 #[.pointer (some ⟨q.p, 0, none⟩), .int .i64 64] w' (Gives (.bool q64) w')) := fun w' d' sg' et hh => by
    rw [h_q64, ← et]
    have ht : rightB d'.ps.t = true := by show rightB d'.t = true; rw [et]; exact hT
    exact s_local (x := d'.ps) (ec := d'.ec) hh ht 64 (by simp)
  have HE_q64 := hide' h_q64
  clear h_q64
  obtain ⟨q128, h_q128⟩ : ∃ z, z = hasB d.t.fl 128 := ⟨_, rfl⟩
  have HK_q128 : Hid (∀ w' d' sg', d'.t = d.t → SD w' q d' sg' → Calls Try.prog 31 #[.pointer (some ⟨q.p, 0, none⟩), .int .i64 128] w' (Gives (.bool q128) w')) := fun w' d' sg' et hh => by
    rw [h_q128, ← et]
    have ht : rightB d'.ps.t = true := by show rightB d'.t = true; rw [et]; exact hT
    exact s_local (x := d'.ps) (ec := d'.ec) hh ht 128 (by simp)
  have HE_q128 := hide' h_q128
  clear h_q128
  obtain ⟨i0, h_i0⟩ : ∃ z, z = isB d.t 0 c := ⟨_, rfl⟩
  have HK_i0 : Hid (∀ w' d' sg', d'.t = d.t → SD w' q d' sg' → Calls Try.prog 56 #[.pointer (some ⟨q.p, 0, none⟩), .int .i64 0, .int .u8 c] w' (Gives (.bool i0) w')) := fun w' d' sg' et hh => by
    rw [h_i0, ← et]
    exact s_is (x := d'.ps) (ec := d'.ec) hh 0 c hc0 hc1
  have HE_i0 := hide' h_i0
  clear h_i0
  obtain ⟨i1, h_i1⟩ : ∃ z, z = isB d.t 1 c := ⟨_, rfl⟩
  have HK_i1 : Hid (∀ w' d' sg', d'.t = d.t → SD w' q d' sg' → Calls Try.prog 56 #[.pointer (some ⟨q.p, 0, none⟩), .int .i64 1, .int .u8 c] w' (Gives (.bool i1) w')) := fun w' d' sg' et hh => by
    rw [h_i1, ← et]
    exact s_is (x := d'.ps) (ec := d'.ec) hh 1 c hc0 hc1
  have HE_i1 := hide' h_i1
  clear h_i1
  obtain ⟨i2, h_i2⟩ : ∃ z, z = isB d.t 2 c := ⟨_, rfl⟩
  have HK_i2 : Hid (∀ w' d' sg', d'.t = d.t → SD w' q d' sg' → Calls Try.prog 56 #[.pointer (some ⟨q.p, 0, none⟩), .int .i64 2, .int .u8 c] w' (Gives (.bool i2) w')) := fun w' d' sg' et hh => by
    rw [h_i2, ← et]
    exact s_is (x := d'.ps) (ec := d'.ec) hh 2 c hc0 hc1
  have HE_i2 := hide' h_i2
  clear h_i2
  rw [hl, ← HE_q128.out] at HG
  have h64 : d.loc 64 = q64 := HE_q64.out.symm
  rw [h64, ← HE_i0.out, ← HE_i1.out, ← HE_i2.out] at HQ
  clear h ht hT hc0 hc1 hn hl h64 HE_q64 HE_q128 HE_i0 HE_i1 HE_i2
  obtain ⟨ds, hds⟩ : ∃ z, z = d.shw c := ⟨_, rfl⟩
  rw [← hds] at HSH HFL HG HT2
  clear hds
  go_enter Try.func45, Try.ntmps45
  have s0 := HR0.out.dp
  go_wp2_with fail
  refine (HK_q64.out _ _ _ rfl HR0.out).mono ?_
  rintro e w1 ⟨rfl, hs⟩
  have HR1 := hide' (HR0.out.keep hs)
  have HS1 := hide' (HS0.out.trans (hs.mono (T := q.U) (fun _ _ h => h.elim)))
  clear hs HR0 HS0 s0
  cases q64
  · go_wp2
    go_ret
    exact .inl ⟨by rw [HQ.out]; first | rfl | simp, rfl, HR1.out, HS1.out⟩
  · have s0 := HR1.out.dp
    go_wp2_with fail
    refine (HK_i0.out _ _ _ rfl HR1.out).mono ?_
    rintro e w2 ⟨rfl, hs⟩
    have HR2 := hide' (HR1.out.keep hs)
    have HS2 := hide' (HS1.out.trans (hs.mono (T := q.U) (fun _ _ h => h.elim)))
    clear hs HR1 HS1 s0
    cases i0
    · have s0 := HR2.out.dp
      go_wp2_with fail
      refine (HK_i1.out _ _ _ rfl HR2.out).mono ?_
      rintro e w3 ⟨rfl, hs⟩
      have HR3 := hide' (HR2.out.keep hs)
      have HS3 := hide' (HS2.out.trans (hs.mono (T := q.U) (fun _ _ h => h.elim)))
      clear hs HR2 HS2 s0
      cases i1
      · have s0 := HR3.out.dp
        go_wp2_with fail
        refine (HK_i2.out _ _ _ rfl HR3.out).mono ?_
        rintro e w4 ⟨rfl, hs⟩
        have HR4 := hide' (HR3.out.keep hs)
        have HS4 := hide' (HS3.out.trans (hs.mono (T := q.U) (fun _ _ h => h.elim)))
        clear hs HR3 HS3 s0
        cases i2
        · go_wp2
          go_ret
          exact .inl ⟨by rw [HQ.out]; first | rfl | simp, rfl, HR4.out, HS4.out⟩
        · have HSG : Hid (d.sigOf c = 2) := by show d.sigOf c = 2; rw [HQ.out]; first | rfl | simp
          obtain ⟨r5, e5, hop⟩ := HR4.out
          obtain ⟨s0, s1, s2, g0, g1, g2⟩ := hop.box
          rw [hop.dp] at s0
          have HFN := hide' (hop.put_sg 3)
          clear hop
          go_upto_region 10 with fail
          obtain ⟨w5, hW⟩ : ∃ z, z = w4.setCell ⟨q.b, 2, none⟩ (.int .i64 3) := ⟨_, rfl⟩
          rw [← hW] at HFN ⊢
          clear hW s0 s1 s2 g0 g1 g2
          have HR5 : Hid (SD w5 q d 3) := HFN.out.1
          have HS5 := hide' (HS4.out.trans HFN.out.2)
          clear HFN HR4 HS4
          go_wp2_with fail
          refine (HSH.out _ _ HR5.out).mono ?_
          rintro e w6 ⟨rfl, hr, hs⟩
          have HR6 := hide' hr
          have HS6 := hide' (HS5.out.trans hs)
          clear hr hs HR5 HS5
          have s0 := HR6.out.dp
          go_wp2_with fail
          refine (HK_q128.out _ _ _ HT2.out HR6.out).mono ?_
          rintro e w7 ⟨rfl, hs⟩
          have HR7 := hide' (HR6.out.keep hs)
          have HS7 := hide' (HS6.out.trans (hs.mono (T := q.U) (fun _ _ h => h.elim)))
          clear hs HR6 HS6 s0
          cases q128
          · have s0 := HR7.out.dp
            go_wp2_with fail
            refine (HFL.out _ _ HR7.out).mono ?_
            rintro e w8 ⟨rfl, hr, hs⟩
            have HR8 := hide' hr
            have HS8 := hide' (HS7.out.trans hs)
            clear hr hs HR7 HS7 s0
            obtain ⟨r9, e9, hop⟩ := HR8.out
            have s0 := HR8.out.dp
            obtain ⟨c0, c1, c2, c3, c4, c5, c6, c7, c8, c9, c10, c11, c12, c13, c14, c15, c16, c17, c18, c19, c20, c21, f0, f1, f2, f3, f4, f5, f6, f7, f8, f9, f10, f11, f12, f13, f14, f15, f16, f17, f18, f19, f20, f21⟩ := hop.core.box
            have HFN := hide' (hop.put_st false)
            clear hop
            go_upto_region 14 with fail
            obtain ⟨w9, hW⟩ : ∃ z, z = w8.setCell ⟨q.p, 20, none⟩ (.bool false) := ⟨_, rfl⟩
            rw [← hW] at HFN ⊢
            clear hW s0 c0 c1 c2 c3 c4 c5 c6 c7 c8 c9 c10 c11 c12 c13 c14 c15 c16 c17 c18 c19 c20 c21 f0 f1 f2 f3 f4 f5 f6 f7 f8 f9 f10 f11 f12 f13 f14 f15 f16 f17 f18 f19 f20 f21
            have HR9 : Hid (SD w9 q (ds.flush.setStp false) 3) := by exact HFN.out.1
            have HS9 := hide' (HS8.out.trans HFN.out.2)
            clear HFN HR8 HS8
            go_wp2
            go_ret
            refine .inr ⟨by rw [HSG.out]; decide, rfl, ?_, HS9.out⟩
            rw [HSG.out, HG.out]
            exact HR9.out
          · go_wp2
            go_ret
            refine .inr ⟨by rw [HSG.out]; decide, rfl, ?_, HS7.out⟩
            rw [HSG.out, HG.out]
            exact HR7.out
      · have HSG : Hid (d.sigOf c = 1) := by show d.sigOf c = 1; rw [HQ.out]; first | rfl | simp
        obtain ⟨r4, e4, hop⟩ := HR3.out
        obtain ⟨s0, s1, s2, g0, g1, g2⟩ := hop.box
        rw [hop.dp] at s0
        have HFN := hide' (hop.put_sg 2)
        clear hop
        go_upto_region 10 with fail
        obtain ⟨w4, hW⟩ : ∃ z, z = w3.setCell ⟨q.b, 2, none⟩ (.int .i64 2) := ⟨_, rfl⟩
        rw [← hW] at HFN ⊢
        clear hW s0 s1 s2 g0 g1 g2
        have HR4 : Hid (SD w4 q d 2) := HFN.out.1
        have HS4 := hide' (HS3.out.trans HFN.out.2)
        clear HFN HR3 HS3
        go_wp2_with fail
        refine (HSH.out _ _ HR4.out).mono ?_
        rintro e w5 ⟨rfl, hr, hs⟩
        have HR5 := hide' hr
        have HS5 := hide' (HS4.out.trans hs)
        clear hr hs HR4 HS4
        have s0 := HR5.out.dp
        go_wp2_with fail
        refine (HK_q128.out _ _ _ HT2.out HR5.out).mono ?_
        rintro e w6 ⟨rfl, hs⟩
        have HR6 := hide' (HR5.out.keep hs)
        have HS6 := hide' (HS5.out.trans (hs.mono (T := q.U) (fun _ _ h => h.elim)))
        clear hs HR5 HS5 s0
        cases q128
        · have s0 := HR6.out.dp
          go_wp2_with fail
          refine (HFL.out _ _ HR6.out).mono ?_
          rintro e w7 ⟨rfl, hr, hs⟩
          have HR7 := hide' hr
          have HS7 := hide' (HS6.out.trans hs)
          clear hr hs HR6 HS6 s0
          obtain ⟨r8, e8, hop⟩ := HR7.out
          have s0 := HR7.out.dp
          obtain ⟨c0, c1, c2, c3, c4, c5, c6, c7, c8, c9, c10, c11, c12, c13, c14, c15, c16, c17, c18, c19, c20, c21, f0, f1, f2, f3, f4, f5, f6, f7, f8, f9, f10, f11, f12, f13, f14, f15, f16, f17, f18, f19, f20, f21⟩ := hop.core.box
          have HFN := hide' (hop.put_st false)
          clear hop
          go_upto_region 14 with fail
          obtain ⟨w8, hW⟩ : ∃ z, z = w7.setCell ⟨q.p, 20, none⟩ (.bool false) := ⟨_, rfl⟩
          rw [← hW] at HFN ⊢
          clear hW s0 c0 c1 c2 c3 c4 c5 c6 c7 c8 c9 c10 c11 c12 c13 c14 c15 c16 c17 c18 c19 c20 c21 f0 f1 f2 f3 f4 f5 f6 f7 f8 f9 f10 f11 f12 f13 f14 f15 f16 f17 f18 f19 f20 f21
          have HR8 : Hid (SD w8 q (ds.flush.setStp false) 2) := by exact HFN.out.1
          have HS8 := hide' (HS7.out.trans HFN.out.2)
          clear HFN HR7 HS7
          go_wp2
          go_ret
          refine .inr ⟨by rw [HSG.out]; decide, rfl, ?_, HS8.out⟩
          rw [HSG.out, HG.out]
          exact HR8.out
        · go_wp2
          go_ret
          refine .inr ⟨by rw [HSG.out]; decide, rfl, ?_, HS6.out⟩
          rw [HSG.out, HG.out]
          exact HR6.out
    · have HSG : Hid (d.sigOf c = 0) := by show d.sigOf c = 0; rw [HQ.out]; first | rfl | simp
      obtain ⟨r3, e3, hop⟩ := HR2.out
      obtain ⟨s0, s1, s2, g0, g1, g2⟩ := hop.box
      rw [hop.dp] at s0
      have HFN := hide' (hop.put_sg 1)
      clear hop
      go_upto_region 10 with fail
      obtain ⟨w3, hW⟩ : ∃ z, z = w2.setCell ⟨q.b, 2, none⟩ (.int .i64 1) := ⟨_, rfl⟩
      rw [← hW] at HFN ⊢
      clear hW s0 s1 s2 g0 g1 g2
      have HR3 : Hid (SD w3 q d 1) := HFN.out.1
      have HS3 := hide' (HS2.out.trans HFN.out.2)
      clear HFN HR2 HS2
      go_wp2_with fail
      refine (HSH.out _ _ HR3.out).mono ?_
      rintro e w4 ⟨rfl, hr, hs⟩
      have HR4 := hide' hr
      have HS4 := hide' (HS3.out.trans hs)
      clear hr hs HR3 HS3
      have s0 := HR4.out.dp
      go_wp2_with fail
      refine (HK_q128.out _ _ _ HT2.out HR4.out).mono ?_
      rintro e w5 ⟨rfl, hs⟩
      have HR5 := hide' (HR4.out.keep hs)
      have HS5 := hide' (HS4.out.trans (hs.mono (T := q.U) (fun _ _ h => h.elim)))
      clear hs HR4 HS4 s0
      cases q128
      · have s0 := HR5.out.dp
        go_wp2_with fail
        refine (HFL.out _ _ HR5.out).mono ?_
        rintro e w6 ⟨rfl, hr, hs⟩
        have HR6 := hide' hr
        have HS6 := hide' (HS5.out.trans hs)
        clear hr hs HR5 HS5 s0
        obtain ⟨r7, e7, hop⟩ := HR6.out
        have s0 := HR6.out.dp
        obtain ⟨c0, c1, c2, c3, c4, c5, c6, c7, c8, c9, c10, c11, c12, c13, c14, c15, c16, c17, c18, c19, c20, c21, f0, f1, f2, f3, f4, f5, f6, f7, f8, f9, f10, f11, f12, f13, f14, f15, f16, f17, f18, f19, f20, f21⟩ := hop.core.box
        have HFN := hide' (hop.put_st false)
        clear hop
        go_upto_region 14 with fail
        obtain ⟨w7, hW⟩ : ∃ z, z = w6.setCell ⟨q.p, 20, none⟩ (.bool false) := ⟨_, rfl⟩
        rw [← hW] at HFN ⊢
        clear hW s0 c0 c1 c2 c3 c4 c5 c6 c7 c8 c9 c10 c11 c12 c13 c14 c15 c16 c17 c18 c19 c20 c21 f0 f1 f2 f3 f4 f5 f6 f7 f8 f9 f10 f11 f12 f13 f14 f15 f16 f17 f18 f19 f20 f21
        have HR7 : Hid (SD w7 q (ds.flush.setStp false) 1) := by exact HFN.out.1
        have HS7 := hide' (HS6.out.trans HFN.out.2)
        clear HFN HR6 HS6
        go_wp2
        go_ret
        refine .inr ⟨by rw [HSG.out]; decide, rfl, ?_, HS7.out⟩
        rw [HSG.out, HG.out]
        exact HR7.out
      · go_wp2
        go_ret
        refine .inr ⟨by rw [HSG.out]; decide, rfl, ?_, HS5.out⟩
        rw [HSG.out, HG.out]
        exact HR5.out

end Go.Proofs.Ytjfhmpjpdcckhaa.L18
