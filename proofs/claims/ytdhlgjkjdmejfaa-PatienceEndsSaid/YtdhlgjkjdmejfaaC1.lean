/-
  Whether a read is over; bytes come, ticks go by; a new one: walked. No conditions.
-/
import Derived.Test.YtdhlgjkjdmejfaaC0
namespace Go.Proofs.Ytdhlgjkjdmejfaa
open Go.RowKit

theorem done9 (b : Nat) (r : Wt) (w : World) (h : WBox w b r) : Calls Try.prog 9 #[.pointer (some ⟨b, 0, none⟩)] w (Gives (.bool (doneW r)) w) := by
  obtain ⟨f, hf⟩ : ∃ f, f = fullW r := ⟨_, rfl⟩
  obtain ⟨l, hl⟩ : ∃ l, l = lateW r := ⟨_, rfl⟩
  have HF : Hid (∀ w', WBox w' b r → Calls Try.prog 16 #[.pointer (some ⟨b, 0, none⟩)] w' (Gives (.bool f) w')) := fun w' hw => by rw [hf]; exact full16 b r w' hw
  have HL : Hid (∀ w', WBox w' b r → Calls Try.prog 17 #[.pointer (some ⟨b, 0, none⟩)] w' (Gives (.bool l) w')) := fun w' hw => by rw [hl]; exact late17 b r w' hw
  have HD : Hid (doneW r = if 0 < r.mi then (if 0 < r.ti then f || (decide (0 < r.ha) && l) else f) else if 0 < r.ti then decide (0 < r.ha) || decide (r.wa = 0) || l else true) := by rw [hf, hl]; rfl
  obtain ⟨d, hd⟩ : ∃ d, d = doneW r := ⟨_, rfl⟩
  rw [← hd] at HD
  rw [← hd]
  clear hf hl hd
  obtain ⟨mi, ti, wa, ha, qu⟩ := r
  have HS0 := hide' (Stay.refl (fun _ => False) w)
  have HB0 := hide' h
  obtain ⟨c0, c1, c2, c3, c4, f0, f1, f2, f3, f4⟩ := h
  simp only at c0 c1 c2 c3 c4
  simp only at HD
  clear f0 f1 f2 f3 f4 c4
  have HM : Hid (∀ n, Stay (fun _ => False) w (w.drewN n) ∧ WBox (w.drewN n) b ⟨mi, ti, wa, ha, qu⟩) := fun n => ⟨(Stay.refl _ _).drewN n, HB0.out.keep ((Stay.refl _ _).drewN n)⟩
  have HSN : Hid (Stay (fun _ => False) w w) := HS0.out
  clear HS0 HB0
  by_cases hm : 0 < mi
  · by_cases ht : 0 < ti
    · cases f
      · by_cases hh : 0 < ha
        · go_enter Try.func9, Try.ntmps9
          go_wp2_with fail
          go_quiet (fail)
          go_wp2_with fail
          refine (HF.out _ (HM.out _).2).mono ?_
          rintro e w1 ⟨rfl, hs⟩
          have HS1 := hide' ((HM.out _).1.trans hs)
          have HB1 := hide' (((HM.out _).2).keep hs)
          clear hs
          clear c0 c1 c2 c3
          obtain ⟨c0, c1, c2, c3, c4, f0, f1, f2, f3, f4⟩ := HB1.out
          simp only at c0 c1 c2 c3 c4
          clear f0 f1 f2 f3 f4
          clear c0 c1 c2 c4
          go_wp2_with fail
          refine (HL.out _ HB1.out).mono ?_
          rintro e w2 ⟨rfl, hs⟩
          have HS2 := hide' (HS1.out.trans hs)
          have HB2 := hide' ((HB1.out).keep hs)
          clear hs
          go_wp2
          go_ret
          exact ⟨by rw [HD.out]; simp [*] <;> intros <;> omega, HS2.out⟩
        · go_enter Try.func9, Try.ntmps9
          go_wp2_with fail
          go_quiet (fail)
          go_wp2_with fail
          refine (HF.out _ (HM.out _).2).mono ?_
          rintro e w1 ⟨rfl, hs⟩
          have HS1 := hide' ((HM.out _).1.trans hs)
          have HB1 := hide' (((HM.out _).2).keep hs)
          clear hs
          clear c0 c1 c2 c3
          obtain ⟨c0, c1, c2, c3, c4, f0, f1, f2, f3, f4⟩ := HB1.out
          simp only at c0 c1 c2 c3 c4
          clear f0 f1 f2 f3 f4
          clear c0 c1 c2 c4
          go_wp2
          go_ret
          exact ⟨by rw [HD.out]; simp [*] <;> intros <;> omega, HS1.out⟩
      · go_enter Try.func9, Try.ntmps9
        go_wp2_with fail
        go_quiet (fail)
        go_wp2_with fail
        refine (HF.out _ (HM.out _).2).mono ?_
        rintro e w1 ⟨rfl, hs⟩
        have HS1 := hide' ((HM.out _).1.trans hs)
        have HB1 := hide' (((HM.out _).2).keep hs)
        clear hs
        go_wp2
        go_ret
        exact ⟨by rw [HD.out]; simp [*] <;> intros <;> omega, HS1.out⟩
    · go_enter Try.func9, Try.ntmps9
      go_wp2_with fail
      go_quiet (fail)
      go_wp2_with fail
      refine (HF.out _ (HM.out _).2).mono ?_
      rintro e w1 ⟨rfl, hs⟩
      have HS1 := hide' ((HM.out _).1.trans hs)
      have HB1 := hide' (((HM.out _).2).keep hs)
      clear hs
      go_wp2
      go_ret
      exact ⟨by rw [HD.out]; simp [*] <;> intros <;> omega, HS1.out⟩
  · by_cases ht : 0 < ti
    · by_cases hh : 0 < ha
      · go_enter Try.func9, Try.ntmps9
        go_wp2_with fail
        go_quiet (fail)
        go_wp2_with fail
        go_wp2
        go_ret
        exact ⟨by rw [HD.out]; simp [*] <;> intros <;> omega, (HM.out _).1⟩
      · by_cases hw : wa = 0
        · go_enter Try.func9, Try.ntmps9
          go_wp2_with fail
          go_quiet (fail)
          go_wp2_with fail
          go_wp2
          go_ret
          exact ⟨by rw [HD.out]; simp [*] <;> intros <;> omega, (HM.out _).1⟩
        · go_enter Try.func9, Try.ntmps9
          go_wp2_with fail
          go_quiet (fail)
          go_wp2_with fail
          refine (HL.out _ (HM.out _).2).mono ?_
          rintro e w1 ⟨rfl, hs⟩
          have HS1 := hide' ((HM.out _).1.trans hs)
          have HB1 := hide' (((HM.out _).2).keep hs)
          clear hs
          go_wp2
          go_ret
          exact ⟨by rw [HD.out]; rw [if_neg (by omega), if_pos (by omega), decide_eq_false (by omega : ¬ 0 < ha), decide_eq_false (by omega : ¬ wa = 0)]; show Ending.returned (.bool (false || wa == 0 || l)) = _; rw [show (wa == 0) = false from by simp; omega], HS1.out⟩
    · go_enter Try.func9, Try.ntmps9
      go_wp2_with fail
      go_quiet (fail)
      go_wp2_with fail
      go_wp2
      go_ret
      exact ⟨by rw [HD.out]; simp [*] <;> intros <;> omega, (HM.out _).1⟩


end Go.Proofs.Ytdhlgjkjdmejfaa
