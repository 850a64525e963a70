/-
  Bytes come, ticks go by; a new read: walked. No conditions.
-/
import Derived.Test.YtdhlgjkjdmejfaaC1
namespace Go.Proofs.Ytdhlgjkjdmejfaa
open Go.RowKit

theorem tick12 (W0 : World) (b : Nat) (r : Wt) (k : Nat) (w : World) (h : At W0 w b r) (ho : OkW k r) (hk : k ≤ 1000) : Calls Try.prog 12 #[.pointer (some ⟨b, 0, none⟩)] w (Does W0 b (tickW r) (.tuple #[])) := by
  obtain ⟨d, hd⟩ : ∃ d, d = doneW r := ⟨_, rfl⟩
  have HA0 := hide' h
  have HD := hide' (done9 b r w h.box)
  rw [← hd] at HD
  have HT : Hid (tickW r = if d = true then r else ⟨r.mi, r.ti, r.wa, r.ha, r.qu + 1⟩) := by rw [hd]; rfl
  obtain ⟨t, ht⟩ : ∃ t, t = tickW r := ⟨_, rfl⟩
  rw [← ht] at HT ⊢
  obtain ⟨mi, ti, wa, ha, qu⟩ := r
  have q0 := ho.q0
  have q1 := ho.q1
  simp only at q0 q1 HT
  obtain ⟨x, hx⟩ : ∃ x, x = qu + 1 := ⟨_, rfl⟩
  have e1 : IntKind.i64.wrap (qu + 1) = x := by rw [IntKind.wrap_i64]; omega
  rw [← hx] at HT
  clear h ho hk hd ht q0 q1 hx
  cases d
  · go_enter Try.func12, Try.ntmps12
    go_wp2_with fail
    refine HD.out.mono ?_
    rintro e w1 ⟨rfl, hs⟩
    have HA1 := hide' (HA0.out.keep hs)
    clear hs HD
    obtain ⟨c0, c1, c2, c3, c4, f0, f1, f2, f3, f4⟩ := HA1.out.box
    simp only at c0 c1 c2 c3 c4
    clear c0 c1 c2 c3 f0 f1 f2 f3
    go_wp2
    go_returns
    rw [HT.out, if_neg (by decide)]
    exact ⟨rfl, HA1.out.put ((Stay.refl (fun j => j = b) w1).setCell (p := ⟨b, 4, none⟩) rfl _) (HA1.out.box.put4 rfl)⟩
  · go_enter Try.func12, Try.ntmps12
    go_wp2_with fail
    refine HD.out.mono ?_
    rintro e w1 ⟨rfl, hs⟩
    have HA1 := hide' (HA0.out.keep hs)
    clear hs HD
    go_wp2
    go_returns
    rw [HT.out, if_pos (by decide)]
    exact ⟨rfl, HA1.out⟩

theorem come11 (W0 : World) (b : Nat) (r : Wt) (k : Nat) (n : Int) (w : World) (h : At W0 w b r) (ho : OkW k r) : Calls Try.prog 11 #[.pointer (some ⟨b, 0, none⟩), .int .i64 n] w (Does W0 b (comeW r n) (.tuple #[])) := by
  obtain ⟨d, hd⟩ : ∃ d, d = doneW r := ⟨_, rfl⟩
  have HA0 := hide' h
  have HD := hide' (done9 b r w h.box)
  rw [← hd] at HD
  have HT : Hid (comeW r n = if d = true ∨ n < 1 ∨ 1048576 < n then r else ⟨r.mi, r.ti, r.wa, min (r.ha + n) r.wa, 0⟩) := by rw [hd]; rfl
  obtain ⟨t, ht⟩ : ∃ t, t = comeW r n := ⟨_, rfl⟩
  rw [← ht] at HT ⊢
  obtain ⟨p, hp⟩ : ∃ p, p = addW r n := ⟨_, rfl⟩
  have HP : Hid (p = ⟨r.mi, r.ti, r.wa, min (r.ha + n) r.wa, r.qu⟩) := hp
  have HADD : Hid (∀ w', At W0 w' b r → 0 < n → n ≤ 1048576 → Calls Try.prog 15 #[.pointer (some ⟨b, 0, none⟩), .int .i64 n] w' (Does W0 b p (.tuple #[]))) := fun w' hw a1 a2 => by
    have h0 := ho.h0
    have h1 := ho.h1
    have h2 := ho.w1
    rw [hp]
    exact add15 W0 b r n w' hw h0 (by omega) (by omega) a2
  clear h ho hd ht hp
  cases d
  · by_cases h1 : n < 1
    · go_enter Try.func11, Try.ntmps11
      go_wp2_with fail
      refine HD.out.mono ?_
      rintro e w1 ⟨rfl, hs⟩
      have HA1 := hide' (HA0.out.keep hs)
      clear hs HD
      go_wp2
      go_returns
      rw [HT.out, if_pos (.inr (.inl (by omega)))]
      exact ⟨rfl, HA1.out⟩
    · by_cases h2 : 1048576 < n
      · go_enter Try.func11, Try.ntmps11
        go_wp2_with fail
        refine HD.out.mono ?_
        rintro e w1 ⟨rfl, hs⟩
        have HA1 := hide' (HA0.out.keep hs)
        clear hs HD
        go_wp2
        go_returns
        rw [HT.out, if_pos (.inr (.inr h2))]
        exact ⟨rfl, HA1.out⟩
      · go_enter Try.func11, Try.ntmps11
        go_wp2_with fail
        refine HD.out.mono ?_
        rintro e w1 ⟨rfl, hs⟩
        have HA1 := hide' (HA0.out.keep hs)
        clear hs HD
        go_wp2_with fail
        refine (HADD.out _ HA1.out (by omega) (by omega)).mono ?_
        rintro e w2 ⟨rfl, hs⟩
        have HA2 := hide' hs
        clear hs HADD
        obtain ⟨c0, c1, c2, c3, c4, f0, f1, f2, f3, f4⟩ := HA2.out.box
        clear c0 c1 c2 c3 f0 f1 f2 f3
        go_wp2
        go_returns
        rw [HT.out, if_neg (by simp; omega)]
        have hb := HA2.out.box.put4 (x := 0) rfl
        rw [HP.out] at hb
        exact ⟨rfl, HA2.out.put ((Stay.refl (fun j => j = b) w2).setCell (p := ⟨b, 4, none⟩) rfl _) hb⟩
  · go_enter Try.func11, Try.ntmps11
    go_wp2_with fail
    refine HD.out.mono ?_
    rintro e w1 ⟨rfl, hs⟩
    have HA1 := hide' (HA0.out.keep hs)
    clear hs HD
    go_wp2
    go_returns
    rw [HT.out, if_pos (.inl (by decide))]
    exact ⟨rfl, HA1.out⟩

/-- One step, by bytes or a tick. -/
theorem step_come {W0 w : World} {b k : Nat} {r : Wt} {x : Int} (h : At W0 w b r) (ho : OkW k r) (hx : 0 < x) : Calls Try.prog 11 #[.pointer (some ⟨b, 0, none⟩), .int .i64 x] w (Does W0 b (stepW r x) (.tuple #[])) := by
  rw [show stepW r x = comeW r x from if_pos hx]
  exact come11 W0 b r k x w h ho

theorem step_tick {W0 w : World} {b k : Nat} {r : Wt} {x : Int} (h : At W0 w b r) (ho : OkW k r) (hk : k ≤ 1000) (hx : ¬ 0 < x) : Calls Try.prog 12 #[.pointer (some ⟨b, 0, none⟩)] w (Does W0 b (stepW r x) (.tuple #[])) := by
  rw [show stepW r x = tickW r from if_neg hx]
  exact tick12 W0 b r k w h ho hk

/-- A new read. -/
def Made (mi ti wa th : Int) (w : World) (e : Ending) (w' : World) : Prop := ∃ b, e = .returned (.pointer (some ⟨b, 0, none⟩)) ∧ At w w' b (newW mi ti wa th)

theorem within_is (n t : Int) (p : Bool) (hp : p = (decide (0 ≤ n) && decide (n ≤ t))) : ∀ w, Calls Try.prog 14 #[.int .i64 n, .int .i64 t] w (Gives (.bool p) w) := fun w => by rw [hp]; exact within14 n t w

theorem new7 (mi ti wa th : Int) (w : World) (h : rightW mi ti wa th) : Calls Try.prog 7 #[.int .i64 mi, .int .i64 ti, .int .i64 wa, .int .i64 th] w (Made mi ti wa th w) := by
  obtain ⟨a1, a2, a3, a4, a5, a6, a7, a8⟩ := h
  have H1 := hide' (within_is mi 255 true (by simp; omega))
  have H2 := hide' (within_is ti 255 true (by simp; omega))
  have H3 := hide' (within_is wa 1048576 true (by simp; omega))
  have H4 := hide' (within_is th 1048576 true (by simp; omega))
  obtain ⟨r, hr⟩ : ∃ r, r = newW mi ti wa th := ⟨_, rfl⟩
  have HR : Hid (addW ⟨mi, ti, wa, 0, 0⟩ th = r) := hr.symm
  have HADD : Hid (∀ W b, At w W b ⟨mi, ti, wa, 0, 0⟩ → Calls Try.prog 15 #[.pointer (some ⟨b, 0, none⟩), .int .i64 th] W (Does w b r (.tuple #[]))) := fun W b hA => by
    rw [← HR.out]
    exact add15 w b _ th W hA (Int.le_refl 0) (by show (0 : Int) ≤ 1048576; decide) a7 a8
  have HS0 := hide' (Stay.refl (fun _ => False) w)
  unfold Made
  rw [← hr]
  clear a1 a2 a3 a4 a5 a6 a7 a8 hr HR
  go_enter Try.func7, Try.ntmps7
  go_wp2_with fail
  refine (H1.out _).mono ?_
  rintro e w1 ⟨rfl, hs⟩
  have HS1 := hide' (HS0.out.trans hs)
  clear hs H1 HS0
  go_wp2_with fail
  refine (H2.out _).mono ?_
  rintro e w2 ⟨rfl, hs⟩
  have HS2 := hide' (HS1.out.trans hs)
  clear hs H2 HS1
  go_wp2_with fail
  refine (H3.out _).mono ?_
  rintro e w3 ⟨rfl, hs⟩
  have HS3 := hide' (HS2.out.trans hs)
  clear hs H3 HS2
  go_wp2_with fail
  refine (H4.out _).mono ?_
  rintro e w4 ⟨rfl, hs⟩
  have HS4 := hide' (HS3.out.trans hs)
  clear hs H4 HS3
  have HB : Hid (At w (w4.alloc (.cells #[.int .i64 mi, .int .i64 ti, .int .i64 wa, .int .i64 0, .int .i64 0] 36)) w4.heap.size ⟨mi, ti, wa, 0, 0⟩) := ⟨WBox.new ⟨mi, ti, wa, 0, 0⟩ rfl, HS4.out.size, HS4.out.trans ((Stay.refl _ _).alloc _)⟩
  go_wp2_with fail
  refine (HADD.out _ _ HB.out).mono ?_
  rintro e w5 ⟨rfl, hs⟩
  have HF := hide' hs
  clear hs HADD HB
  go_wp2
  go_ret
  exact ⟨_, rfl, HF.out⟩

theorem new7_no (mi ti wa th : Int) (w : World) (h : ¬ rightW mi ti wa th) : Calls Try.prog 7 #[.int .i64 mi, .int .i64 ti, .int .i64 wa, .int .i64 th] w (Gives (.pointer none) w) := by
  obtain ⟨p1, h1⟩ : ∃ p, p = (decide (0 ≤ mi) && decide (mi ≤ 255)) := ⟨_, rfl⟩
  obtain ⟨p2, h2⟩ : ∃ p, p = (decide (0 ≤ ti) && decide (ti ≤ 255)) := ⟨_, rfl⟩
  obtain ⟨p3, h3⟩ : ∃ p, p = (decide (0 ≤ wa) && decide (wa ≤ 1048576)) := ⟨_, rfl⟩
  obtain ⟨p4, h4⟩ : ∃ p, p = (decide (0 ≤ th) && decide (th ≤ 1048576)) := ⟨_, rfl⟩
  have H1 := hide' (within_is mi 255 p1 h1)
  have H2 := hide' (within_is ti 255 p2 h2)
  have H3 := hide' (within_is wa 1048576 p3 h3)
  have H4 := hide' (within_is th 1048576 p4 h4)
  have HN : Hid (¬ (p1 = true ∧ p2 = true ∧ p3 = true ∧ p4 = true)) := fun e => h (by
    obtain ⟨e1, e2, e3, e4⟩ := e
    rw [h1] at e1
    rw [h2] at e2
    rw [h3] at e3
    rw [h4] at e4
    simp at e1 e2 e3 e4
    exact ⟨e1.1, e1.2, e2.1, e2.2, e3.1, e3.2, e4.1, e4.2⟩)
  have HS0 := hide' (Stay.refl (fun _ => False) w)
  clear h h1 h2 h3 h4
  cases p1
  · go_enter Try.func7, Try.ntmps7
    go_wp2_with fail
    refine (H1.out _).mono ?_
    rintro e w1 ⟨rfl, hs⟩
    have HS1 := hide' (HS0.out.trans hs)
    clear hs H1 HS0
    go_wp2
    go_ret
    exact ⟨rfl, HS1.out⟩
  · cases p2
    · go_enter Try.func7, Try.ntmps7
      go_wp2_with fail
      refine (H1.out _).mono ?_
      rintro e w1 ⟨rfl, hs⟩
      have HS1 := hide' (HS0.out.trans hs)
      clear hs H1 HS0
      go_wp2_with fail
      refine (H2.out _).mono ?_
      rintro e w2 ⟨rfl, hs⟩
      have HS2 := hide' (HS1.out.trans hs)
      clear hs H2 HS1
      go_wp2
      go_ret
      exact ⟨rfl, HS2.out⟩
    · cases p3
      · go_enter Try.func7, Try.ntmps7
        go_wp2_with fail
        refine (H1.out _).mono ?_
        rintro e w1 ⟨rfl, hs⟩
        have HS1 := hide' (HS0.out.trans hs)
        clear hs H1 HS0
        go_wp2_with fail
        refine (H2.out _).mono ?_
        rintro e w2 ⟨rfl, hs⟩
        have HS2 := hide' (HS1.out.trans hs)
        clear hs H2 HS1
        go_wp2_with fail
        refine (H3.out _).mono ?_
        rintro e w3 ⟨rfl, hs⟩
        have HS3 := hide' (HS2.out.trans hs)
        clear hs H3 HS2
        go_wp2
        go_ret
        exact ⟨rfl, HS3.out⟩
      · cases p4
        · go_enter Try.func7, Try.ntmps7
          go_wp2_with fail
          refine (H1.out _).mono ?_
          rintro e w1 ⟨rfl, hs⟩
          have HS1 := hide' (HS0.out.trans hs)
          clear hs H1 HS0
          go_wp2_with fail
          refine (H2.out _).mono ?_
          rintro e w2 ⟨rfl, hs⟩
          have HS2 := hide' (HS1.out.trans hs)
          clear hs H2 HS1
          go_wp2_with fail
          refine (H3.out _).mono ?_
          rintro e w3 ⟨rfl, hs⟩
          have HS3 := hide' (HS2.out.trans hs)
          clear hs H3 HS2
          go_wp2_with fail
          refine (H4.out _).mono ?_
          rintro e w4 ⟨rfl, hs⟩
          have HS4 := hide' (HS3.out.trans hs)
          clear hs H4 HS3
          go_wp2
          go_ret
          exact ⟨rfl, HS4.out⟩
        · exact absurd ⟨rfl, rfl, rfl, rfl⟩ HN.out


end Go.Proofs.Ytdhlgjkjdmejfaa
