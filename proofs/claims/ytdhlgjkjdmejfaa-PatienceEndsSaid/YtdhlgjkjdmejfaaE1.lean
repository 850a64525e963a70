/-
  PatienceEnds walked: true of any arguments. No conditions.
-/
import Derived.Test.YtdhlgjkjdmejfaaC3
namespace Go.Proofs.Ytdhlgjkjdmejfaa
open Go.RowKit

/-- Ticks alone: what a read is behind as many. -/
structure Tk (r : Wt) (k : Nat) (q : Wt) : Prop where
  ok : OkW k q
  mi : q.mi = r.mi
  ti : q.ti = r.ti
  ha : q.ha = r.ha
  qu : doneW q = true ∨ q.qu = k

theorem Tk.tick {r q : Wt} {k : Nat} (h : Tk r k q) : Tk r (k + 1) (tickW q) := by
  have ho := h.ok.tick
  unfold tickW at ho ⊢
  by_cases hd : doneW q = true
  · rw [if_pos hd] at ho ⊢
    exact ⟨ho, h.mi, h.ti, h.ha, .inl hd⟩
  · rw [if_neg hd] at ho ⊢
    refine ⟨ho, h.mi, h.ti, h.ha, .inr ?_⟩
    rcases h.qu with hq | hq
    · exact absurd hq hd
    · show q.qu + 1 = _
      omega

theorem Tk.over {r q : Wt} {k : Nat} (h : Tk r k q) (hk : r.ti = k) (h0 : 0 < r.ti) (hb : 0 < r.ha ∨ r.mi = 0) : doneW q = true := by
  rcases h.qu with hq | hq
  · exact hq
  · exact ticksW_over h.ok (by rw [hq, h.ti, hk]) (by rw [h.ti]; exact h0) (by rw [h.ha, h.mi]; exact hb)

theorem doneW_zero {k : Nat} {r : Wt} (h : OkW k r) (hw : r.wa = 0) : doneW r = true := by
  by_cases hd : doneW r = true
  · exact hd
  · have h1 := doneW_lt h (by simpa using hd)
    exfalso
    have h2 := h.h0
    have h3 := h.h1
    unfold doneW fullW lateW at hd
    split at hd <;> split at hd <;> simp at hd <;> omega

set_option maxHeartbeats 1000000 in
theorem ends_run (mi ti wa th : Int) (w : World) (m0 : 0 ≤ mi) (m1 : mi ≤ 255) (t0 : 0 ≤ ti) (t1 : ti ≤ 255) (a0 : 0 ≤ wa) (a1 : wa ≤ 65535) (b0 : 0 ≤ th) (b1 : th ≤ 255) : Calls Try.prog 4 #[.int .u8 mi, .int .u8 ti, .int .u16 wa, .int .u8 th] w (LawTrue w) := by
  have HAW := hide' awake6
  have hr : rightW mi ti wa th := ⟨m0, m1, t0, t1, a0, by omega, b0, by omega⟩
  have HN := hide' (new7 mi ti wa th w hr)
  have HO := hide' (okW_new hr)
  obtain ⟨r0, hr0⟩ : ∃ r, r = newW mi ti wa th := ⟨_, rfl⟩
  have HF : Hid (r0.mi = mi ∧ r0.ti = ti ∧ r0.wa = wa ∧ r0.ha = min th wa) := by rw [hr0]; exact ⟨rfl, rfl, rfl, by show min (0 + th) wa = _; rw [Int.zero_add]⟩
  have HR0 : Hid (r0 = newW mi ti wa th) := hr0
  rw [← hr0] at HO
  obtain ⟨h, hh⟩ : ∃ h, h = min th wa := ⟨_, rfl⟩
  have e0 : min th wa = h := hh.symm
  rw [e0] at HF
  have e1 : IntKind.i64.wrap mi = mi := by rw [IntKind.wrap_i64]; omega
  have e2 : IntKind.i64.wrap ti = ti := by rw [IntKind.wrap_i64]; omega
  have e3 : IntKind.i64.wrap wa = wa := by rw [IntKind.wrap_i64]; omega
  have e4 : IntKind.i64.wrap th = th := by rw [IntKind.wrap_i64]; omega
  have HMT : Hid (0 ≤ mi ∧ 0 ≤ th ∧ 0 ≤ wa ∧ ti ≤ 255 ∧ h = min th wa) := ⟨m0, b0, a0, t1, hh⟩
  unfold Made at HN
  clear hr hr0 m0 m1 t1 a0 a1 b0 b1 hh
  by_cases hw : wa = 0
  · have HD : Hid (doneW r0 = true) := doneW_zero HO.out (by rw [HF.out.2.2.1]; exact hw)
    have hz : h = 0 := by have := HMT.out; omega
    subst hw hz
    go_enter Try.func4, Try.ntmps4
    go_wp2_with fail
    refine HN.out.mono ?_
    rintro e w1 ⟨b, rfl, hs⟩
    rw [← HR0.out] at hs
    have HA1 := hide' hs
    clear hs HN
    have HX : Hid (Calls Try.prog 9 #[.pointer (some ⟨b, 0, none⟩)] w1 (Gives (.bool true) w1)) := by rw [← HD.out]; exact done9 b r0 w1 HA1.out.box
    go_wp2_with fail
    refine HX.out.mono ?_
    rintro e w2 ⟨rfl, hs⟩
    have HA2 := hide' (HA1.out.keep hs)
    clear hs HX
    have HX : Hid (Calls Try.prog 10 #[.pointer (some ⟨b, 0, none⟩)] w2 (Gives (.int .i64 0) w2)) := by rw [← HF.out.2.2.2]; exact count10 b r0 w2 HA2.out.box
    go_wp2_with fail
    refine HX.out.mono ?_
    rintro e w3 ⟨rfl, hs⟩
    have HA3 := hide' (HA2.out.keep hs)
    clear hs HX
    go_wp2_with fail
    refine (HAW.out _).mono ?_
    rintro e w9 ⟨rfl, hs⟩
    have HE := hide' ((HA3.out.stay).trans hs)
    clear hs
    go_wp2
    go_ret
    exact ⟨rfl, HE.out⟩
  · have hwb : (wa == 0) = false := by simp; omega
    by_cases ht : ti = 0
    · subst ht
      go_enter Try.func4, Try.ntmps4
      go_wp2_with fail
      refine HN.out.mono ?_
      rintro e w1 ⟨b, rfl, hs⟩
      rw [← HR0.out] at hs
      have HA1 := hide' hs
      clear hs HN
      go_wp2_with fail
      refine (HAW.out _).mono ?_
      rintro e w9 ⟨rfl, hs⟩
      have HE := hide' ((HA1.out.stay).trans hs)
      clear hs
      go_wp2
      go_ret
      exact ⟨rfl, HE.out⟩
    · have htb : (ti == 0) = false := by simp; omega
      by_cases hq : 0 < mi ∧ th = 0
      · obtain ⟨hm, ht0⟩ := hq
        subst ht0
        go_enter Try.func4, Try.ntmps4
        go_wp2_with fail
        refine HN.out.mono ?_
        rintro e w1 ⟨b, rfl, hs⟩
        rw [← HR0.out] at hs
        have HA1 := hide' hs
        clear hs HN
        go_wp2_with fail
        refine (HAW.out _).mono ?_
        rintro e w9 ⟨rfl, hs⟩
        have HE := hide' ((HA1.out.stay).trans hs)
        clear hs
        go_wp2
        go_ret
        exact ⟨rfl, HE.out⟩
      · have HBY : Hid (0 < r0.ha ∨ r0.mi = 0) := by
          have h1 := HMT.out
          have h2 := HF.out
          show _ ∨ _
          omega
        have HQ0 : Hid (r0.qu = ((0 : Nat) : Int)) := by rw [HR0.out]; rfl
        by_cases hm : 0 < mi
        · have htn : ¬ th = 0 := fun e => hq ⟨hm, e⟩
          have htb2 : (th == 0) = false := by simp; omega
          clear hq
          go_enter Try.func4, Try.ntmps4
          go_wp2_with fail
          refine HN.out.mono ?_
          rintro e w1 ⟨b, rfl, hs⟩
          rw [← HR0.out] at hs
          have HA1 := hide' hs
          clear hs HN
          go_wp2_with fail
          have HT0 : Hid (∃ r, At w w1 b r ∧ Tk r0 0 r) := ⟨r0, HA1.out, HO.out, rfl, rfl, rfl, .inr HQ0.out⟩
          clear HA1
          go_loopg [10] ti.toNat (fun gg v10 wr => ∃ k : Nat, (k : Int) ≤ ti ∧ gg = ti.toNat - k ∧ v10 = .int .i64 (k : Int) ∧ Hid (∃ r, At w wr b r ∧ Tk r0 k r))
          case atStart => exact ⟨0, t0, rfl, rfl, HT0⟩
          case round =>
            clear HT0
            obtain ⟨k, hk, rfl, rfl, HTK⟩ := hrel
            have kb : (k : Int) ≤ 255 := by have := HMT.out.2.2.2.1; omega
            by_cases hlt : (k : Int) < ti
            · obtain ⟨r, hA, hT⟩ := HTK.out
              have HAR := hide' hA
              have HTR := hide' hT
              have hkb : k ≤ 1000 := by have := HMT.out.2.2.2.1; omega
              have HX := hide' (tick12 w b r k wr hA hT.ok hkb)
              clear hA hT hkb HTK
              go_wp2_with fail
              refine HX.out.mono ?_
              rintro e w2 ⟨rfl, hs⟩
              have HNX : Hid (∃ r, At w w2 b r ∧ Tk r0 (k + 1) r) := ⟨_, hs, HTR.out.tick⟩
              clear hs HX
              go_wp2
              go_roundg (ti.toNat - (k + 1))
              case measure => omega
              case rel => exact ⟨k + 1, by omega, rfl, by go_num, HNX⟩
            · have hkt : (k : Int) = ti := by omega
              subst hkt
              obtain ⟨r, hA, hT⟩ := HTK.out
              have HA1 := hide' hA
              have HD : Hid (doneW r = true) := hT.over HF.out.2.1 (by rw [HF.out.2.1]; omega) HBY.out
              have HHA : Hid (r.ha = h) := by rw [hT.ha]; exact HF.out.2.2.2
              clear hA hT HTK
              have HX : Hid (Calls Try.prog 9 #[.pointer (some ⟨b, 0, none⟩)] wr (Gives (.bool true) wr)) := by rw [← HD.out]; exact done9 b r wr HA1.out.box
              go_wp2_with fail
              refine HX.out.mono ?_
              rintro e w2 ⟨rfl, hs⟩
              have HA2 := hide' (HA1.out.keep hs)
              clear hs HX
              have HX : Hid (Calls Try.prog 10 #[.pointer (some ⟨b, 0, none⟩)] w2 (Gives (.int .i64 h) w2)) := by rw [← HHA.out]; exact count10 b r w2 HA2.out.box
              go_wp2_with fail
              refine HX.out.mono ?_
              rintro e w3 ⟨rfl, hs⟩
              have HA3 := hide' (HA2.out.keep hs)
              clear hs HX
              go_wp2_with fail
              refine (HAW.out _).mono ?_
              rintro e w9 ⟨rfl, hs⟩
              have HE := hide' ((HA3.out.stay).trans hs)
              clear hs
              go_wp2
              go_ret
              exact ⟨rfl, HE.out⟩
        · clear hq
          go_enter Try.func4, Try.ntmps4
          go_wp2_with fail
          refine HN.out.mono ?_
          rintro e w1 ⟨b, rfl, hs⟩
          rw [← HR0.out] at hs
          have HA1 := hide' hs
          clear hs HN
          go_wp2_with fail
          have HT0 : Hid (∃ r, At w w1 b r ∧ Tk r0 0 r) := ⟨r0, HA1.out, HO.out, rfl, rfl, rfl, .inr HQ0.out⟩
          clear HA1
          go_loopg [10] ti.toNat (fun gg v10 wr => ∃ k : Nat, (k : Int) ≤ ti ∧ gg = ti.toNat - k ∧ v10 = .int .i64 (k : Int) ∧ Hid (∃ r, At w wr b r ∧ Tk r0 k r))
          case atStart => exact ⟨0, t0, rfl, rfl, HT0⟩
          case round =>
            clear HT0
            obtain ⟨k, hk, rfl, rfl, HTK⟩ := hrel
            have kb : (k : Int) ≤ 255 := by have := HMT.out.2.2.2.1; omega
            by_cases hlt : (k : Int) < ti
            · obtain ⟨r, hA, hT⟩ := HTK.out
              have HAR := hide' hA
              have HTR := hide' hT
              have hkb : k ≤ 1000 := by have := HMT.out.2.2.2.1; omega
              have HX := hide' (tick12 w b r k wr hA hT.ok hkb)
              clear hA hT hkb HTK
              go_wp2_with fail
              refine HX.out.mono ?_
              rintro e w2 ⟨rfl, hs⟩
              have HNX : Hid (∃ r, At w w2 b r ∧ Tk r0 (k + 1) r) := ⟨_, hs, HTR.out.tick⟩
              clear hs HX
              go_wp2
              go_roundg (ti.toNat - (k + 1))
              case measure => omega
              case rel => exact ⟨k + 1, by omega, rfl, by go_num, HNX⟩
            · have hkt : (k : Int) = ti := by omega
              subst hkt
              obtain ⟨r, hA, hT⟩ := HTK.out
              have HA1 := hide' hA
              have HD : Hid (doneW r = true) := hT.over HF.out.2.1 (by rw [HF.out.2.1]; omega) HBY.out
              have HHA : Hid (r.ha = h) := by rw [hT.ha]; exact HF.out.2.2.2
              clear hA hT HTK
              have HX : Hid (Calls Try.prog 9 #[.pointer (some ⟨b, 0, none⟩)] wr (Gives (.bool true) wr)) := by rw [← HD.out]; exact done9 b r wr HA1.out.box
              go_wp2_with fail
              refine HX.out.mono ?_
              rintro e w2 ⟨rfl, hs⟩
              have HA2 := hide' (HA1.out.keep hs)
              clear hs HX
              have HX : Hid (Calls Try.prog 10 #[.pointer (some ⟨b, 0, none⟩)] w2 (Gives (.int .i64 h) w2)) := by rw [← HHA.out]; exact count10 b r w2 HA2.out.box
              go_wp2_with fail
              refine HX.out.mono ?_
              rintro e w3 ⟨rfl, hs⟩
              have HA3 := hide' (HA2.out.keep hs)
              clear hs HX
              go_wp2_with fail
              refine (HAW.out _).mono ?_
              rintro e w9 ⟨rfl, hs⟩
              have HE := hide' ((HA3.out.stay).trans hs)
              clear hs
              go_wp2
              go_ret
              exact ⟨rfl, HE.out⟩

end Go.Proofs.Ytdhlgjkjdmejfaa
