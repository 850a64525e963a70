/-
  The document's answer, the example, steps over a list: walked. No conditions.
-/
import Derived.Test.YtdhlgjkjdmejfaaC2
namespace Go.Proofs.Ytdhlgjkjdmejfaa
open Go.RowKit

theorem over8 (mi ti wa th s g : Int) (w : World) : Calls Try.prog 8 #[.int .i64 mi, .int .i64 ti, .int .i64 wa, .int .i64 th, .int .i64 s, .int .i64 g] w (Gives (.bool (overD mi ti wa th s g)) w) := by
  obtain ⟨p, hp⟩ : ∃ p, p = min th wa := ⟨_, rfl⟩
  obtain ⟨d, hd⟩ : ∃ d, d = overD mi ti wa th s g := ⟨_, rfl⟩
  have HS := hide' (Stay.refl (fun _ => False) w)
  have HD : Hid (d = if wa = 0 ∨ p = wa then true else if 0 < mi ∧ 0 < ti then decide (mi ≤ p) || (decide (0 < p) && decide (ti ≤ s)) else if 0 < mi then decide (mi ≤ p) else if 0 < ti then decide (0 < p) || decide (ti ≤ g) else true) := by rw [hd, hp]; rfl
  have e1 : min th wa = p := hp.symm
  rw [← hd]
  clear hd hp
  by_cases h1 : wa = 0
  · go_enter Try.func8, Try.ntmps8
    go_wp2
    go_ret
    exact ⟨by rw [HD.out, if_pos (.inl h1)]; simp [*] <;> intros <;> omega, HS.out⟩
  · by_cases h2 : p = wa
    · go_enter Try.func8, Try.ntmps8
      go_wp2
      go_ret
      exact ⟨by rw [HD.out, if_pos (.inr h2)]; simp [*] <;> intros <;> omega, HS.out⟩
    · have b1 : (wa == 0) = false := by simp; omega
      have b2 : (p == wa) = false := by simp; omega
      by_cases h3 : 0 < mi
      · by_cases h4 : 0 < ti
        · by_cases h5 : mi ≤ p
          · go_enter Try.func8, Try.ntmps8
            go_wp2
            go_ret
            exact ⟨by rw [HD.out, if_neg (by omega), if_pos ⟨h3, h4⟩]; simp [*] <;> intros <;> omega, HS.out⟩
          · by_cases h6 : 0 < p
            · go_enter Try.func8, Try.ntmps8
              go_wp2
              go_ret
              exact ⟨by rw [HD.out, if_neg (by omega), if_pos ⟨h3, h4⟩]; simp [*] <;> intros <;> omega, HS.out⟩
            · go_enter Try.func8, Try.ntmps8
              go_wp2
              go_ret
              exact ⟨by rw [HD.out, if_neg (by omega), if_pos ⟨h3, h4⟩]; simp [*] <;> intros <;> omega, HS.out⟩
        · go_enter Try.func8, Try.ntmps8
          go_wp2
          go_ret
          exact ⟨by rw [HD.out, if_neg (by omega), if_neg (by omega), if_pos h3]; simp [*] <;> intros <;> omega, HS.out⟩
      · by_cases h4 : 0 < ti
        · by_cases h6 : 0 < p
          · go_enter Try.func8, Try.ntmps8
            go_wp2
            go_ret
            exact ⟨by rw [HD.out, if_neg (by omega), if_neg (by omega), if_neg (by omega), if_pos h4]; simp [*] <;> intros <;> omega, HS.out⟩
          · go_enter Try.func8, Try.ntmps8
            go_wp2
            go_ret
            exact ⟨by rw [HD.out, if_neg (by omega), if_neg (by omega), if_neg (by omega), if_pos h4]; simp [*] <;> intros <;> omega, HS.out⟩
        · go_enter Try.func8, Try.ntmps8
          go_wp2
          go_ret
          exact ⟨by rw [HD.out, if_neg (by omega), if_neg (by omega), if_neg (by omega), if_neg (by omega)]; simp [*] <;> intros <;> omega, HS.out⟩

/-- The document's example. -/
theorem awake6 (w : World) : Calls Try.prog 6 #[] w (LawTrue w) := by
  have HN := hide' (new7 3 2 10 0 w ⟨by decide, by decide, by decide, by decide, by decide, by decide, by decide, by decide⟩)
  have HO := hide' (okW_new (mi := 3) (ti := 2) (wa := 10) (th := 0) ⟨by decide, by decide, by decide, by decide, by decide, by decide, by decide, by decide⟩)
  obtain ⟨r0, hr0⟩ : ∃ r, r = newW 3 2 10 0 := ⟨_, rfl⟩
  obtain ⟨r1, hr1⟩ : ∃ r, r = stepW r0 1 := ⟨_, rfl⟩
  obtain ⟨r2, hr2⟩ : ∃ r, r = stepW r1 0 := ⟨_, rfl⟩
  obtain ⟨r3, hr3⟩ : ∃ r, r = stepW r2 0 := ⟨_, rfl⟩
  have HD0 : Hid (doneW r0 = false) := by rw [hr0]; show _ = _; decide +kernel
  have HD2 : Hid (doneW r2 = false) := by rw [hr2, hr1, hr0]; show _ = _; decide +kernel
  have HD3 : Hid (doneW r3 = true) := by rw [hr3, hr2, hr1, hr0]; show _ = _; decide +kernel
  have HH3 : Hid (r3.ha = 1) := by rw [hr3, hr2, hr1, hr0]; show _ = _; decide +kernel
  unfold Made at HN
  rw [← hr0] at HN HO
  have HR1 := hide' hr1
  have HR2 := hide' hr2
  have HR3 := hide' hr3
  clear hr0 hr1 hr2 hr3
  go_enter Try.func6, Try.ntmps6
  go_wp2_with fail
  refine HN.out.mono ?_
  rintro e w1 ⟨b, rfl, hs⟩
  have HA1 := hide' hs
  clear hs HN
  have HX : Hid (Calls Try.prog 9 #[.pointer (some ⟨b, 0, none⟩)] w1 (Gives (.bool false) w1)) := by rw [← HD0.out]; exact done9 b r0 w1 HA1.out.box
  go_wp2_with fail
  refine HX.out.mono ?_
  rintro e w2 ⟨rfl, hs⟩
  have HA2 := hide' (HA1.out.keep hs)
  clear hs HX
  have HX : Hid (Calls Try.prog 11 #[.pointer (some ⟨b, 0, none⟩), .int .i64 1] w2 (Does w b r1 (.tuple #[]))) := by rw [HR1.out]; exact step_come (x := 1) HA2.out HO.out (by decide)
  have HO1 : Hid (OkW 1 r1) := by rw [HR1.out]; exact (HO.out).step _
  go_wp2_with fail
  refine HX.out.mono ?_
  rintro e w3 ⟨rfl, hs⟩
  have HA3 := hide' hs
  clear hs HX
  have HX : Hid (Calls Try.prog 12 #[.pointer (some ⟨b, 0, none⟩)] w3 (Does w b r2 (.tuple #[]))) := by rw [HR2.out]; exact step_tick (x := 0) HA3.out HO1.out (by decide) (by decide)
  have HO2 : Hid (OkW 2 r2) := by rw [HR2.out]; exact (HO1.out).step _
  go_wp2_with fail
  refine HX.out.mono ?_
  rintro e w4 ⟨rfl, hs⟩
  have HA4 := hide' hs
  clear hs HX
  have HX : Hid (Calls Try.prog 9 #[.pointer (some ⟨b, 0, none⟩)] w4 (Gives (.bool false) w4)) := by rw [← HD2.out]; exact done9 b r2 w4 HA4.out.box
  go_wp2_with fail
  refine HX.out.mono ?_
  rintro e w5 ⟨rfl, hs⟩
  have HA5 := hide' (HA4.out.keep hs)
  clear hs HX
  have HX : Hid (Calls Try.prog 12 #[.pointer (some ⟨b, 0, none⟩)] w5 (Does w b r3 (.tuple #[]))) := by rw [HR3.out]; exact step_tick (x := 0) HA5.out HO2.out (by decide) (by decide)
  have HO3 : Hid (OkW 3 r3) := by rw [HR3.out]; exact (HO2.out).step _
  go_wp2_with fail
  refine HX.out.mono ?_
  rintro e w6 ⟨rfl, hs⟩
  have HA6 := hide' hs
  clear hs HX
  have HX : Hid (Calls Try.prog 9 #[.pointer (some ⟨b, 0, none⟩)] w6 (Gives (.bool true) w6)) := by rw [← HD3.out]; exact done9 b r3 w6 HA6.out.box
  go_wp2_with fail
  refine HX.out.mono ?_
  rintro e w7 ⟨rfl, hs⟩
  have HA7 := hide' (HA6.out.keep hs)
  clear hs HX
  have HX : Hid (Calls Try.prog 10 #[.pointer (some ⟨b, 0, none⟩)] w7 (Gives (.int .i64 1) w7)) := by rw [← HH3.out]; exact count10 b r3 w7 HA7.out.box
  go_wp2_with fail
  refine HX.out.mono ?_
  rintro e w8 ⟨rfl, hs⟩
  have HA8 := hide' (HA7.out.keep hs)
  clear hs HX
  go_wp2
  go_ret
  exact ⟨rfl, HA8.out.stay⟩

theorem take_step (L : List Int) (k : Nat) (hk : k < L.length) (r : Wt) : (L.take (k + 1)).foldl stepW r = stepW ((L.take k).foldl stepW r) (L.getD k 0) := by
  rw [List.take_add_one, List.foldl_append]
  rw [List.getElem?_eq_getElem hk, List.getD_eq_getElem?_getD, List.getElem?_eq_getElem hk]
  rfl

/-- Steps over a list. -/
theorem steps13 (W0 : World) (b : Nat) (r : Wt) (k0 : Nat) (a : Option Addr) (n c : Nat) (L : List Int) (w : World) (hA : At W0 w b r) (ho : OkW k0 r) (hk0 : k0 ≤ 100) (hB : ∀ w', Stay (fun _ => False) W0 w' → IArg .i64 w' (.slice a n c) L a c) (hl : L.length = n) (hn : n ≤ 100) : Calls Try.prog 13 #[.pointer (some ⟨b, 0, none⟩), .slice a n c] w (Does W0 b (L.foldl stepW r) (.tuple #[])) := by
  have HA := hide' hA
  have HO := hide' ho
  have HL := hide' hl
  have HB := hide' hB
  have HK0 := hide' hk0
  have hlen : (n : Int) ≤ 100 := by omega
  clear hA ho hl hB hk0
  have HA0 : Hid (At W0 w b ((L.take 0).foldl stepW r)) := HA.out
  go_enter Try.func13, Try.ntmps13
  go_wp2_with fail
  go_loopg [4] n (fun gg v4 wr => ∃ k : Nat, k ≤ n ∧ gg = n - k ∧ v4 = .int .i64 (k : Int) ∧ Hid (At W0 wr b ((L.take k).foldl stepW r)))
  case atStart => exact ⟨0, Nat.zero_le _, rfl, rfl, HA0⟩
  case round =>
    clear HA0
    obtain ⟨k, hk, rfl, rfl, HAK⟩ := hrel
    by_cases hlt : k < n
    · have kn : (k : Int) < (n : Nat) := by omega
      have hkl : k < L.length := by rw [HL.out]; exact hlt
      have hJ := HB.out wr HAK.out.stay
      have hne : L ≠ [] := fun e => by rw [e] at hkl; simp at hkl
      obtain ⟨B, off, ha, _, hI⟩ := hJ.cells hne
      subst ha
      obtain ⟨x, hx⟩ : ∃ x, x = L.getD k 0 := ⟨_, rfl⟩
      have a1 := hI k hkl
      rw [← hx] at a1
      have HOK : Hid (OkW (k0 + k) ((L.take k).foldl stepW r)) := by
        have := foldW_ok (L.take k) k0 r HO.out
        rw [List.length_take, Nat.min_eq_left (by omega)] at this
        exact this
      have HST : Hid ((L.take (k + 1)).foldl stepW r = stepW ((L.take k).foldl stepW r) x) := by rw [hx]; exact take_step L k hkl r
      have HKK : Hid (k0 + k ≤ 1000) := by have := HK0.out; show _ ≤ _; omega
      clear hI hJ hne hx hkl
      by_cases hpos : 0 < x
      · go_wp2_with fail
        refine (step_come (x := x) HAK.out HOK.out hpos).mono ?_
        rintro e w1 ⟨rfl, hs⟩
        rw [← HST.out] at hs
        have HA1 := hide' hs
        clear hs a1
        go_wp2
        go_roundg (n - (k + 1))
        case measure => omega
        case rel => exact ⟨k + 1, by omega, rfl, by go_num, HA1⟩
      · go_wp2_with fail
        refine (step_tick (x := x) HAK.out HOK.out HKK.out (by omega)).mono ?_
        rintro e w1 ⟨rfl, hs⟩
        rw [← HST.out] at hs
        have HA1 := hide' hs
        clear hs a1
        go_wp2
        go_roundg (n - (k + 1))
        case measure => omega
        case rel => exact ⟨k + 1, by omega, rfl, by go_num, HA1⟩
    · have kn : k = n := by omega
      subst kn
      have HF : Hid (At W0 wr b (L.foldl stepW r)) := by
        have := HAK.out
        rw [List.take_of_length_le (by have := HL.out; omega)] at this
        exact this
      go_wp2
      go_returns
      exact ⟨rfl, HF.out⟩

end Go.Proofs.Ytdhlgjkjdmejfaa
