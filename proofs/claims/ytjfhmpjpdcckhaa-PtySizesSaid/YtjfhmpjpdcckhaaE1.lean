/-
  PtySizes walked: true of any arguments. No conditions.
-/
import Derived.Test.YtjfhmpjpdcckhaaE0
import Derived.BigQuiet
namespace Go.Proofs.Ytjfhmpjpdcckhaa
open Go.RowKit
open L17 L18

attribute [local go_sem] eqlG_nil

theorem fitB_iff (n : Int) : fitB n = true ↔ 1 ≤ n ∧ n ≤ 512 := by
  unfold fitB
  rw [Bool.and_eq_true, decide_eq_true_eq, decide_eq_true_eq]

theorem resize_same {w : World} {g p : Nat} {U : Nat → Prop} {s : Pq} (h : PAt w g p U s) (ha : fitB s.w = true) (hb : fitB s.h = true) : Calls Try.prog 14 #[.pointer (some ⟨g, 0, none⟩), .int .i64 s.w, .int .i64 s.h] w (TurnQ g p U s (.tuple #[.bool false, .int .i64 0]) w) := by
  have h1 := resize14 s.w s.h h ha hb
  have e1 : othB s s.w s.h = false := by unfold othB; rw [decide_eq_true rfl, decide_eq_true rfl]; rfl
  rw [e1] at h1
  exact h1

set_option maxRecDepth 100000 in
set_option maxHeartbeats 2000000 in
theorem sizes_bad (a b : Int) (ag : Bool) (w : World) (h : (fitB a && fitB b) = false) : Calls Try.prog 4 #[.int .i64 a, .int .i64 b, .bool ag] w (LawTrue w) := by
  have HRN := hide' (resize14_not a b h)
  have hcase : (¬ 1 ≤ a) ∨ (1 ≤ a ∧ ¬ a ≤ 512) ∨ (1 ≤ a ∧ a ≤ 512 ∧ ¬ 1 ≤ b) ∨ (1 ≤ a ∧ a ≤ 512 ∧ 1 ≤ b ∧ ¬ b ≤ 512) := by
    by_cases c1 : 1 ≤ a
    · by_cases c2 : a ≤ 512
      · by_cases c3 : 1 ≤ b
        · by_cases c4 : b ≤ 512
          · rw [(fitB_iff a).2 ⟨c1, c2⟩, (fitB_iff b).2 ⟨c3, c4⟩] at h
            exact absurd h (by decide)
          · exact .inr (.inr (.inr ⟨c1, c2, c3, c4⟩))
        · exact .inr (.inr (.inl ⟨c1, c2, c3⟩))
      · exact .inr (.inl ⟨c1, c2⟩)
    · exact .inl c1
  have HCS := hide' hcase
  clear h hcase
  have HPL := hide' (L17.plain13 w)
  have HNW := hide' (fun w' => new7 plainT plain_right w')
  have HAW := hide' awake6
  obtain ⟨t, ht⟩ : ∃ t, t = plainT := ⟨_, rfl⟩
  have HT := hide' ht
  rw [← ht] at HPL HNW
  clear ht
  go_enter Try.func4, Try.ntmps4
  go_wp2_with fail
  refine (HPL.out).mono ?_
  rintro e w1 ⟨rfl, hs⟩
  have HS1 := hide' hs
  clear hs
  go_wp2_with fail
  refine (HNW.out _).mono ?_
  rintro e w2 ⟨g, p, U, rfl, hp, hU, hs⟩
  have HO2 : Hid (Own w w2 g p U (freshQ plainT)) := by rw [HT.out] at hp; exact ⟨hp, HS1.out.trans hs, fun k hk => Nat.le_trans HS1.out.size (hU k hk)⟩
  clear hp hU hs HPL HNW HS1
  rcases HCS.out with c1 | ⟨c1, c2⟩ | ⟨c1, c2, c3⟩ | ⟨c1, c2, c3, c4⟩
  · have d1 : decide (1 ≤ a) = false := decide_eq_false (by omega)
    clear c1
    have HRS := hide' (HRN.out g w2)
    go_wp2_with fail
    refine HRS.out.mono ?_
    rintro e w3 ⟨rfl, hs⟩
    have HO3 := hide' (HO2.out.keep hs)
    clear hs HRS HRN HO2
    have HSZ := hide' (size15 HO3.out.at_)
    go_wp2_with fail
    refine HSZ.out.mono ?_
    rintro e w5 ⟨rfl, hs⟩
    have HO5 := hide' (HO3.out.keep hs)
    clear hs HSZ HO3
    simp only [freshQ]
    cases ag
    · skip
      go_wp2_with fail
      refine (HAW.out _).mono ?_
      rintro e w9 ⟨rfl, hs⟩
      have HE := hide' ((HO5.out.stay).trans hs)
      clear hs
      go_wp2
      go_ret
      exact ⟨rfl, HE.out⟩
    · have HRS : Hid (Calls Try.prog 14 #[.pointer (some ⟨g, 0, none⟩), .int .i64 80, .int .i64 24] w5 (TurnQ g p U (freshQ plainT) (.tuple #[.bool false, .int .i64 0]) w5)) := resize_same (s := freshQ plainT) HO5.out.at_ (by show fitB 80 = true; decide) (by show fitB 24 = true; decide)
      go_wp2_with fail
      refine HRS.out.mono ?_
      rintro e w6 ⟨U6, rfl, hp, hs, hg⟩
      have HO6 := hide' (HO5.out.step hp hs hg)
      clear hp hs hg HRS HO5
      go_wp2_with fail
      refine (HAW.out _).mono ?_
      rintro e w9 ⟨rfl, hs⟩
      have HE := hide' ((HO6.out.stay).trans hs)
      clear hs
      go_wp2
      go_ret
      exact ⟨rfl, HE.out⟩
  · have d1 : decide (1 ≤ a) = true := decide_eq_true (by omega)
    have d2 : decide (a ≤ 512) = false := decide_eq_false (by omega)
    clear c1 c2
    have HRS := hide' (HRN.out g w2)
    go_wp2_with fail
    refine HRS.out.mono ?_
    rintro e w3 ⟨rfl, hs⟩
    have HO3 := hide' (HO2.out.keep hs)
    clear hs HRS HRN HO2
    have HSZ := hide' (size15 HO3.out.at_)
    go_wp2_with fail
    refine HSZ.out.mono ?_
    rintro e w5 ⟨rfl, hs⟩
    have HO5 := hide' (HO3.out.keep hs)
    clear hs HSZ HO3
    simp only [freshQ]
    cases ag
    · skip
      go_wp2_with fail
      refine (HAW.out _).mono ?_
      rintro e w9 ⟨rfl, hs⟩
      have HE := hide' ((HO5.out.stay).trans hs)
      clear hs
      go_wp2
      go_ret
      exact ⟨rfl, HE.out⟩
    · have HRS : Hid (Calls Try.prog 14 #[.pointer (some ⟨g, 0, none⟩), .int .i64 80, .int .i64 24] w5 (TurnQ g p U (freshQ plainT) (.tuple #[.bool false, .int .i64 0]) w5)) := resize_same (s := freshQ plainT) HO5.out.at_ (by show fitB 80 = true; decide) (by show fitB 24 = true; decide)
      go_wp2_with fail
      refine HRS.out.mono ?_
      rintro e w6 ⟨U6, rfl, hp, hs, hg⟩
      have HO6 := hide' (HO5.out.step hp hs hg)
      clear hp hs hg HRS HO5
      go_wp2_with fail
      refine (HAW.out _).mono ?_
      rintro e w9 ⟨rfl, hs⟩
      have HE := hide' ((HO6.out.stay).trans hs)
      clear hs
      go_wp2
      go_ret
      exact ⟨rfl, HE.out⟩
  · have d1 : decide (1 ≤ a) = true := decide_eq_true (by omega)
    have d2 : decide (a ≤ 512) = true := decide_eq_true (by omega)
    have d3 : decide (1 ≤ b) = false := decide_eq_false (by omega)
    clear c1 c2 c3
    have HRS := hide' (HRN.out g w2)
    go_wp2_with fail
    refine HRS.out.mono ?_
    rintro e w3 ⟨rfl, hs⟩
    have HO3 := hide' (HO2.out.keep hs)
    clear hs HRS HRN HO2
    have HSZ := hide' (size15 HO3.out.at_)
    go_wp2_with fail
    refine HSZ.out.mono ?_
    rintro e w5 ⟨rfl, hs⟩
    have HO5 := hide' (HO3.out.keep hs)
    clear hs HSZ HO3
    simp only [freshQ]
    cases ag
    · skip
      go_wp2_with fail
      refine (HAW.out _).mono ?_
      rintro e w9 ⟨rfl, hs⟩
      have HE := hide' ((HO5.out.stay).trans hs)
      clear hs
      go_wp2
      go_ret
      exact ⟨rfl, HE.out⟩
    · have HRS : Hid (Calls Try.prog 14 #[.pointer (some ⟨g, 0, none⟩), .int .i64 80, .int .i64 24] w5 (TurnQ g p U (freshQ plainT) (.tuple #[.bool false, .int .i64 0]) w5)) := resize_same (s := freshQ plainT) HO5.out.at_ (by show fitB 80 = true; decide) (by show fitB 24 = true; decide)
      go_wp2_with fail
      refine HRS.out.mono ?_
      rintro e w6 ⟨U6, rfl, hp, hs, hg⟩
      have HO6 := hide' (HO5.out.step hp hs hg)
      clear hp hs hg HRS HO5
      go_wp2_with fail
      refine (HAW.out _).mono ?_
      rintro e w9 ⟨rfl, hs⟩
      have HE := hide' ((HO6.out.stay).trans hs)
      clear hs
      go_wp2
      go_ret
      exact ⟨rfl, HE.out⟩
  · have d1 : decide (1 ≤ a) = true := decide_eq_true (by omega)
    have d2 : decide (a ≤ 512) = true := decide_eq_true (by omega)
    have d3 : decide (1 ≤ b) = true := decide_eq_true (by omega)
    have d4 : decide (b ≤ 512) = false := decide_eq_false (by omega)
    clear c1 c2 c3 c4
    have HRS := hide' (HRN.out g w2)
    go_wp2_with fail
    refine HRS.out.mono ?_
    rintro e w3 ⟨rfl, hs⟩
    have HO3 := hide' (HO2.out.keep hs)
    clear hs HRS HRN HO2
    have HSZ := hide' (size15 HO3.out.at_)
    go_wp2_with fail
    refine HSZ.out.mono ?_
    rintro e w5 ⟨rfl, hs⟩
    have HO5 := hide' (HO3.out.keep hs)
    clear hs HSZ HO3
    simp only [freshQ]
    cases ag
    · skip
      go_wp2_with fail
      refine (HAW.out _).mono ?_
      rintro e w9 ⟨rfl, hs⟩
      have HE := hide' ((HO5.out.stay).trans hs)
      clear hs
      go_wp2
      go_ret
      exact ⟨rfl, HE.out⟩
    · have HRS : Hid (Calls Try.prog 14 #[.pointer (some ⟨g, 0, none⟩), .int .i64 80, .int .i64 24] w5 (TurnQ g p U (freshQ plainT) (.tuple #[.bool false, .int .i64 0]) w5)) := resize_same (s := freshQ plainT) HO5.out.at_ (by show fitB 80 = true; decide) (by show fitB 24 = true; decide)
      go_wp2_with fail
      refine HRS.out.mono ?_
      rintro e w6 ⟨U6, rfl, hp, hs, hg⟩
      have HO6 := hide' (HO5.out.step hp hs hg)
      clear hp hs hg HRS HO5
      go_wp2_with fail
      refine (HAW.out _).mono ?_
      rintro e w9 ⟨rfl, hs⟩
      have HE := hide' ((HO6.out.stay).trans hs)
      clear hs
      go_wp2
      go_ret
      exact ⟨rfl, HE.out⟩

set_option maxRecDepth 100000 in
set_option maxHeartbeats 2000000 in
theorem sizes_good (a b : Int) (ag : Bool) (w : World) (c1 : 1 ≤ a) (c2 : a ≤ 512) (c3 : 1 ≤ b) (c4 : b ≤ 512) : Calls Try.prog 4 #[.int .i64 a, .int .i64 b, .bool ag] w (LawTrue w) := by
  have d1 : decide (1 ≤ a) = true := decide_eq_true c1
  have d2 : decide (a ≤ 512) = true := decide_eq_true c2
  have d3 : decide (1 ≤ b) = true := decide_eq_true c3
  have d4 : decide (b ≤ 512) = true := decide_eq_true c4
  have HFA : Hid (fitB a = true) := (fitB_iff a).2 ⟨c1, c2⟩
  have HFB : Hid (fitB b = true) := (fitB_iff b).2 ⟨c3, c4⟩
  have e4 : ∀ x : Int, (x != x) = false := fun x => by simp
  clear c1 c2 c3 c4
  have HPL := hide' (L17.plain13 w)
  have HNW := hide' (fun w' => new7 plainT plain_right w')
  have HAW := hide' awake6
  obtain ⟨t, ht⟩ : ∃ t, t = plainT := ⟨_, rfl⟩
  have HT := hide' ht
  rw [← ht] at HPL HNW
  clear ht
  go_enter Try.func4, Try.ntmps4
  go_wp2_with fail
  refine (HPL.out).mono ?_
  rintro e w1 ⟨rfl, hs⟩
  have HS1 := hide' hs
  clear hs
  go_wp2_with fail
  refine (HNW.out _).mono ?_
  rintro e w2 ⟨g, p, U, rfl, hp, hU, hs⟩
  have HO2 : Hid (Own w w2 g p U (freshQ plainT)) := by rw [HT.out] at hp; exact ⟨hp, HS1.out.trans hs, fun k hk => Nat.le_trans HS1.out.size (hU k hk)⟩
  clear hp hU hs HPL HNW HS1
  have HRS : Hid (Calls Try.prog 14 #[.pointer (some ⟨g, 0, none⟩), .int .i64 a, .int .i64 b] w2 (TurnQ g p U ((freshQ plainT).setSize a b) (.tuple #[.bool (othB (freshQ plainT) a b), .int .i64 0]) w2)) := resize14 a b HO2.out.at_ HFA.out HFB.out
  obtain ⟨ot, hot⟩ : ∃ x, x = othB (freshQ plainT) a b := ⟨_, rfl⟩
  rw [← hot] at HRS
  have HOT : Hid (ot = !(decide (a = 80) && decide (b = 24))) := hot
  clear hot
  by_cases k1 : a = 80
  · by_cases k2 : b = 24
    · have HO : ot = false := by rw [HOT.out, decide_eq_true k1, decide_eq_true k2]; rfl
      subst HO
      have e1 : (a != 80) = false := by simpa using k1
      have e2 : (b != 24) = false := by simpa using k2
      clear k1 k2
      go_wp2_with fail
      refine HRS.out.mono ?_
      rintro e w3 ⟨U3, rfl, hp, hs, hg⟩
      have HO3 := hide' (HO2.out.step hp hs hg)
      clear hp hs hg HRS HO2
      have HSZ := hide' (size15 HO3.out.at_)
      go_wp2_with fail
      refine HSZ.out.mono ?_
      rintro e w5 ⟨rfl, hs⟩
      have HO5 := hide' (HO3.out.keep hs)
      clear hs HSZ HO3
      simp only [freshQ, Pq.setSize]
      cases ag
      · skip
        go_wp2_with fail
        refine (HAW.out _).mono ?_
        rintro e w9 ⟨rfl, hs⟩
        have HE := hide' ((HO5.out.stay).trans hs)
        clear hs
        go_wp2
        go_ret
        exact ⟨rfl, HE.out⟩
      · have HRS : Hid (Calls Try.prog 14 #[.pointer (some ⟨g, 0, none⟩), .int .i64 a, .int .i64 b] w5 (TurnQ g p U3 ((freshQ plainT).setSize a b) (.tuple #[.bool false, .int .i64 0]) w5)) := resize_same (s := (freshQ plainT).setSize a b) HO5.out.at_ (by show fitB a = true; exact HFA.out) (by show fitB b = true; exact HFB.out)
        go_wp2_with fail
        refine HRS.out.mono ?_
        rintro e w6 ⟨U6, rfl, hp, hs, hg⟩
        have HO6 := hide' (HO5.out.step hp hs hg)
        clear hp hs hg HRS HO5
        go_wp2_with fail
        refine (HAW.out _).mono ?_
        rintro e w9 ⟨rfl, hs⟩
        have HE := hide' ((HO6.out.stay).trans hs)
        clear hs
        go_wp2
        go_ret
        exact ⟨rfl, HE.out⟩
    · have HO : ot = true := by rw [HOT.out, decide_eq_true k1, decide_eq_false k2]; rfl
      subst HO
      have e1 : (a != 80) = false := by simpa using k1
      have e2 : (b != 24) = true := by simpa using k2
      clear k1 k2
      go_wp2_with fail
      refine HRS.out.mono ?_
      rintro e w3 ⟨U3, rfl, hp, hs, hg⟩
      have HO3 := hide' (HO2.out.step hp hs hg)
      clear hp hs hg HRS HO2
      have HSZ := hide' (size15 HO3.out.at_)
      go_wp2_with fail
      refine HSZ.out.mono ?_
      rintro e w5 ⟨rfl, hs⟩
      have HO5 := hide' (HO3.out.keep hs)
      clear hs HSZ HO3
      simp only [freshQ, Pq.setSize]
      cases ag
      · skip
        go_wp2_with fail
        refine (HAW.out _).mono ?_
        rintro e w9 ⟨rfl, hs⟩
        have HE := hide' ((HO5.out.stay).trans hs)
        clear hs
        go_wp2
        go_ret
        exact ⟨rfl, HE.out⟩
      · have HRS : Hid (Calls Try.prog 14 #[.pointer (some ⟨g, 0, none⟩), .int .i64 a, .int .i64 b] w5 (TurnQ g p U3 ((freshQ plainT).setSize a b) (.tuple #[.bool false, .int .i64 0]) w5)) := resize_same (s := (freshQ plainT).setSize a b) HO5.out.at_ (by show fitB a = true; exact HFA.out) (by show fitB b = true; exact HFB.out)
        go_wp2_with fail
        refine HRS.out.mono ?_
        rintro e w6 ⟨U6, rfl, hp, hs, hg⟩
        have HO6 := hide' (HO5.out.step hp hs hg)
        clear hp hs hg HRS HO5
        go_wp2_with fail
        refine (HAW.out _).mono ?_
        rintro e w9 ⟨rfl, hs⟩
        have HE := hide' ((HO6.out.stay).trans hs)
        clear hs
        go_wp2
        go_ret
        exact ⟨rfl, HE.out⟩
  · have HO : ot = true := by rw [HOT.out, decide_eq_false k1]; rfl
    subst HO
    have e1 : (a != 80) = true := by simpa using k1
    clear k1
    go_wp2_with fail
    refine HRS.out.mono ?_
    rintro e w3 ⟨U3, rfl, hp, hs, hg⟩
    have HO3 := hide' (HO2.out.step hp hs hg)
    clear hp hs hg HRS HO2
    have HSZ := hide' (size15 HO3.out.at_)
    go_wp2_with fail
    refine HSZ.out.mono ?_
    rintro e w5 ⟨rfl, hs⟩
    have HO5 := hide' (HO3.out.keep hs)
    clear hs HSZ HO3
    simp only [freshQ, Pq.setSize]
    cases ag
    · skip
      go_wp2_with fail
      refine (HAW.out _).mono ?_
      rintro e w9 ⟨rfl, hs⟩
      have HE := hide' ((HO5.out.stay).trans hs)
      clear hs
      go_wp2
      go_ret
      exact ⟨rfl, HE.out⟩
    · have HRS : Hid (Calls Try.prog 14 #[.pointer (some ⟨g, 0, none⟩), .int .i64 a, .int .i64 b] w5 (TurnQ g p U3 ((freshQ plainT).setSize a b) (.tuple #[.bool false, .int .i64 0]) w5)) := resize_same (s := (freshQ plainT).setSize a b) HO5.out.at_ (by show fitB a = true; exact HFA.out) (by show fitB b = true; exact HFB.out)
      go_wp2_with fail
      refine HRS.out.mono ?_
      rintro e w6 ⟨U6, rfl, hp, hs, hg⟩
      have HO6 := hide' (HO5.out.step hp hs hg)
      clear hp hs hg HRS HO5
      go_wp2_with fail
      refine (HAW.out _).mono ?_
      rintro e w9 ⟨rfl, hs⟩
      have HE := hide' ((HO6.out.stay).trans hs)
      clear hs
      go_wp2
      go_ret
      exact ⟨rfl, HE.out⟩

theorem sizes4 (a b : Int) (ag : Bool) (w : World) : Calls Try.prog 4 #[.int .i64 a, .int .i64 b, .bool ag] w (LawTrue w) := by
  cases h : (fitB a && fitB b)
  · exact sizes_bad a b ag w h
  · rw [Bool.and_eq_true] at h
    exact sizes_good a b ag w ((fitB_iff a).1 h.1).1 ((fitB_iff a).1 h.1).2 ((fitB_iff b).1 h.2).1 ((fitB_iff b).1 h.2).2

end Go.Proofs.Ytjfhmpjpdcckhaa
