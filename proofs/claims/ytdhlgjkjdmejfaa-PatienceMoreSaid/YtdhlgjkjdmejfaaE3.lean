/-
  PatienceTells walked: true of any arguments. No conditions.
-/
import Derived.Test.YtdhlgjkjdmejfaaE2
namespace Go.Proofs.Ytdhlgjkjdmejfaa
open Go.RowKit

theorem tells_out (mi ti wa th : Int) (a : Option Addr) (n na : Nat) (w : World) (hn : (n : Int) ≤ 9223372036854775807) (h : 100 < n) : Calls Try.prog 3 #[.int .i64 mi, .int .i64 ti, .int .i64 wa, .int .i64 th, .slice a n na] w (LawTrue w) := by
  have HAW := hide' awake6
  have i1 : (100 : Int) < (n : Nat) := by omega
  clear h
  go_enter Try.func3, Try.ntmps3
  go_wp2_with fail
  refine (HAW.out _).mono ?_
  rintro e w9 ⟨rfl, hs⟩
  have HE := hide' hs
  clear hs
  go_wp2
  go_ret
  exact ⟨rfl, HE.out⟩

theorem tells_no (mi ti wa th : Int) (a : Option Addr) (n na : Nat) (w : World) (h : n ≤ 100) (hr : ¬ rightW mi ti wa th) : Calls Try.prog 3 #[.int .i64 mi, .int .i64 ti, .int .i64 wa, .int .i64 th, .slice a n na] w (LawTrue w) := by
  have HAW := hide' awake6
  have HN := hide' (new7_no mi ti wa th w hr)
  have i1 : ¬ (100 : Int) < (n : Nat) := by omega
  have HR := hide' hr
  clear h hr
  by_cases k0 : 0 ≤ mi
  · by_cases k1 : mi ≤ 255
    · by_cases k2 : 0 ≤ ti
      · by_cases k3 : ti ≤ 255
        · by_cases k4 : 0 ≤ wa
          · by_cases k5 : wa ≤ 1048576
            · by_cases k6 : 0 ≤ th
              · by_cases k7 : th ≤ 1048576
                · exact absurd ⟨k0, k1, k2, k3, k4, k5, k6, k7⟩ HR.out
                · go_enter Try.func3, Try.ntmps3
                  go_wp2_with fail
                  refine HN.out.mono ?_
                  rintro e w1 ⟨rfl, hs⟩
                  have HS1 := hide' hs
                  clear hs HN
                  go_wp2_with fail
                  refine (HAW.out _).mono ?_
                  rintro e w9 ⟨rfl, hs⟩
                  have HE := hide' (HS1.out.trans hs)
                  clear hs
                  go_wp2
                  go_ret
                  exact ⟨rfl, HE.out⟩
              · go_enter Try.func3, Try.ntmps3
                go_wp2_with fail
                refine HN.out.mono ?_
                rintro e w1 ⟨rfl, hs⟩
                have HS1 := hide' hs
                clear hs HN
                go_wp2_with fail
                refine (HAW.out _).mono ?_
                rintro e w9 ⟨rfl, hs⟩
                have HE := hide' (HS1.out.trans hs)
                clear hs
                go_wp2
                go_ret
                exact ⟨rfl, HE.out⟩
            · go_enter Try.func3, Try.ntmps3
              go_wp2_with fail
              refine HN.out.mono ?_
              rintro e w1 ⟨rfl, hs⟩
              have HS1 := hide' hs
              clear hs HN
              go_wp2_with fail
              refine (HAW.out _).mono ?_
              rintro e w9 ⟨rfl, hs⟩
              have HE := hide' (HS1.out.trans hs)
              clear hs
              go_wp2
              go_ret
              exact ⟨rfl, HE.out⟩
          · go_enter Try.func3, Try.ntmps3
            go_wp2_with fail
            refine HN.out.mono ?_
            rintro e w1 ⟨rfl, hs⟩
            have HS1 := hide' hs
            clear hs HN
            go_wp2_with fail
            refine (HAW.out _).mono ?_
            rintro e w9 ⟨rfl, hs⟩
            have HE := hide' (HS1.out.trans hs)
            clear hs
            go_wp2
            go_ret
            exact ⟨rfl, HE.out⟩
        · go_enter Try.func3, Try.ntmps3
          go_wp2_with fail
          refine HN.out.mono ?_
          rintro e w1 ⟨rfl, hs⟩
          have HS1 := hide' hs
          clear hs HN
          go_wp2_with fail
          refine (HAW.out _).mono ?_
          rintro e w9 ⟨rfl, hs⟩
          have HE := hide' (HS1.out.trans hs)
          clear hs
          go_wp2
          go_ret
          exact ⟨rfl, HE.out⟩
      · go_enter Try.func3, Try.ntmps3
        go_wp2_with fail
        refine HN.out.mono ?_
        rintro e w1 ⟨rfl, hs⟩
        have HS1 := hide' hs
        clear hs HN
        go_wp2_with fail
        refine (HAW.out _).mono ?_
        rintro e w9 ⟨rfl, hs⟩
        have HE := hide' (HS1.out.trans hs)
        clear hs
        go_wp2
        go_ret
        exact ⟨rfl, HE.out⟩
    · go_enter Try.func3, Try.ntmps3
      go_wp2_with fail
      refine HN.out.mono ?_
      rintro e w1 ⟨rfl, hs⟩
      have HS1 := hide' hs
      clear hs HN
      go_wp2_with fail
      refine (HAW.out _).mono ?_
      rintro e w9 ⟨rfl, hs⟩
      have HE := hide' (HS1.out.trans hs)
      clear hs
      go_wp2
      go_ret
      exact ⟨rfl, HE.out⟩
  · go_enter Try.func3, Try.ntmps3
    go_wp2_with fail
    refine HN.out.mono ?_
    rintro e w1 ⟨rfl, hs⟩
    have HS1 := hide' hs
    clear hs HN
    go_wp2_with fail
    refine (HAW.out _).mono ?_
    rintro e w9 ⟨rfl, hs⟩
    have HE := hide' (HS1.out.trans hs)
    clear hs
    go_wp2
    go_ret
    exact ⟨rfl, HE.out⟩

/-- The read behind k steps, the document's counts beside it. -/
def Now (W0 w : World) (b : Nat) (mi ti wa : Int) (k : Nat) (p s g : Int) (o : Bool) : Prop := ∃ r, At W0 w b r ∧ BesideW k r p s g ∧ r.mi = mi ∧ r.ti = ti ∧ r.wa = wa ∧ doneW r = o

theorem Now.done {W0 w : World} {b k : Nat} {mi ti wa p s g : Int} {o : Bool} (h : Now W0 w b mi ti wa k p s g o) : Calls Try.prog 9 #[.pointer (some ⟨b, 0, none⟩)] w (Gives (.bool o) w) := by
  obtain ⟨r, hA, _, _, _, _, rfl⟩ := h
  exact done9 b r w hA.box

theorem Now.count {W0 w : World} {b k : Nat} {mi ti wa p s g : Int} {o : Bool} (h : Now W0 w b mi ti wa k p s g o) : Calls Try.prog 10 #[.pointer (some ⟨b, 0, none⟩)] w (Gives (.int .i64 (min p wa)) w) := by
  obtain ⟨r, hA, hB, _, _, rfl, _⟩ := h
  rw [← hB.ha]
  exact count10 b r w hA.box

theorem Now.stays {W0 w : World} {b k : Nat} {mi ti wa p s g : Int} {o : Bool} (h : Now W0 w b mi ti wa k p s g o) : Stay (fun _ => False) W0 w := by
  obtain ⟨r, hA, _⟩ := h
  exact hA.stay

theorem Now.keep {W0 w w1 : World} {b k : Nat} {mi ti wa p s g : Int} {o : Bool} (h : Now W0 w b mi ti wa k p s g o) (hs : Stay (fun _ => False) w w1) : Now W0 w1 b mi ti wa k p s g o := by
  obtain ⟨r, hA, h2⟩ := h
  exact ⟨r, hA.keep hs, h2⟩

/-- A read that lies where it did, a step further, by what it was. -/
def Next (W0 : World) (b : Nat) (mi ti wa : Int) (k : Nat) (p s g : Int) (o : Bool) (x : Int) (w : World) : Prop := ∃ r, At W0 w b (stepW r x) ∧ BesideW k r p s g ∧ r.mi = mi ∧ r.ti = ti ∧ r.wa = wa ∧ doneW r = o

theorem Now.come {W0 w : World} {b k : Nat} {mi ti wa p s g x : Int} {o : Bool} (h : Now W0 w b mi ti wa k p s g o) (hx : 0 < x) : Calls Try.prog 11 #[.pointer (some ⟨b, 0, none⟩), .int .i64 x] w (fun e w' => e = .returned (.tuple #[]) ∧ Next W0 b mi ti wa k p s g o x w') := by
  obtain ⟨r, hA, h2⟩ := h
  exact (step_come hA h2.1.ok hx).mono (fun _ _ h => ⟨h.1, r, h.2, h2⟩)

theorem Now.tick {W0 w : World} {b k : Nat} {mi ti wa p s g x : Int} {o : Bool} (h : Now W0 w b mi ti wa k p s g o) (hk : k ≤ 1000) (hx : ¬ 0 < x) : Calls Try.prog 12 #[.pointer (some ⟨b, 0, none⟩)] w (fun e w' => e = .returned (.tuple #[]) ∧ Next W0 b mi ti wa k p s g o x w') := by
  obtain ⟨r, hA, h2⟩ := h
  exact (step_tick hA h2.1.ok hk hx).mono (fun _ _ h => ⟨h.1, r, h.2, h2⟩)

theorem Next.stays {W0 w : World} {b k : Nat} {mi ti wa p s g x : Int} {o : Bool} (h : Next W0 b mi ti wa k p s g o x w) : Stay (fun _ => False) W0 w := by
  obtain ⟨r, hA, _⟩ := h
  exact hA.stay

theorem Next.still {W0 w : World} {b k : Nat} {mi ti wa p s g x : Int} {o : Bool} (h : Next W0 b mi ti wa k p s g o x w) (hd : o = true ∨ 1048576 < x) : Now W0 w b mi ti wa (k + 1) p s g o := by
  obtain ⟨r, hA, hB, hm, ht, hw, rfl⟩ := h
  have hk := stepW_same r x
  have e : stepW r x = r := by
    rcases hd with hd | hd
    · exact stepW_over hd x
    · unfold stepW comeW
      rw [if_pos (by omega), if_pos (.inr (.inr hd))]
  exact ⟨_, hA, hB.still hd, hk.1.trans hm, hk.2.1.trans ht, hk.2.2.trans hw, by rw [e]⟩

/-- What the document says then, and that it is so. -/
def Then (W0 : World) (b : Nat) (mi ti wa : Int) (k : Nat) (p s g : Int) (w : World) : Prop := Now W0 w b mi ti wa k p s g (overD mi ti wa p s g)

theorem Next.bytes {W0 w : World} {b k : Nat} {mi ti wa p s g x : Int} (h : Next W0 b mi ti wa k p s g false x w) (hx : 0 < x) (hx1 : ¬ 1048576 < x) : Then W0 b mi ti wa (k + 1) (min (p + x) 1048576) 0 g w := by
  obtain ⟨r, hA, hB, hm, ht, hw, hd⟩ := h
  have hk := stepW_same r x
  have hn := hB.bytes hd hx hx1
  refine ⟨_, hA, hn, hk.1.trans hm, hk.2.1.trans ht, hk.2.2.trans hw, ?_⟩
  rw [← hn.over, hk.1, hk.2.1, hk.2.2, hm, ht, hw]

theorem Next.ticks {W0 w : World} {b k : Nat} {mi ti wa p s g x : Int} (h : Next W0 b mi ti wa k p s g false x w) (hx : ¬ 0 < x) : Then W0 b mi ti wa (k + 1) p (s + 1) (g + 1) w := by
  obtain ⟨r, hA, hB, hm, ht, hw, hd⟩ := h
  have hk := stepW_same r x
  have hn := hB.ticks hd hx
  refine ⟨_, hA, hn, hk.1.trans hm, hk.2.1.trans ht, hk.2.2.trans hw, ?_⟩
  rw [← hn.over, hk.1, hk.2.1, hk.2.2, hm, ht, hw]

theorem Now.bounds {W0 w : World} {b k : Nat} {mi ti wa p s g : Int} {o : Bool} (h : Now W0 w b mi ti wa k p s g o) : 0 ≤ p ∧ p ≤ 1048576 ∧ 0 ≤ s ∧ s ≤ k ∧ 0 ≤ g ∧ g ≤ k := by
  obtain ⟨r, _, hB, _⟩ := h
  have h1 := hB.ok.q0
  have h2 := hB.ok.q1
  have h3 := hB.sq
  exact ⟨hB.p0, hB.p1, by omega, by omega, hB.g0, hB.g1⟩

set_option maxRecDepth 100000 in
set_option maxHeartbeats 2000000 in
theorem tells_go (mi ti wa th : Int) (a : Option Addr) (n na : Nat) (L : List Int) (w : World) (hL : IArg .i64 w (.slice a n na) L a na) (hln : L.length = n) (h : n ≤ 100) (hr : rightW mi ti wa th) : Calls Try.prog 3 #[.int .i64 mi, .int .i64 ti, .int .i64 wa, .int .i64 th, .slice a n na] w (LawTrue w) := by
  have HAW := hide' awake6
  have HN := hide' (new7 mi ti wa th w hr)
  have i1 : ¬ (100 : Int) < (n : Nat) := by omega
  have i2 : (n : Int) ≤ 100 := by omega
  have HNOW : Hid (∀ w' b, At w w' b (newW mi ti wa th) → Now w w' b mi ti wa 0 th 0 0 (overD mi ti wa th 0 0)) := fun w' b hA => by
    have hB : BesideW 0 (newW mi ti wa th) th 0 0 := ⟨okW_new hr, hr.2.2.2.2.2.2.1, hr.2.2.2.2.2.2.2, (by show min (0 + th) wa = min th wa; rw [Int.zero_add]), rfl, Int.le_refl 0, Int.le_refl 0, .inr (.inr rfl)⟩
    exact ⟨_, hA, hB, rfl, rfl, rfl, hB.over.symm⟩
  have HO8 := hide' (over8 mi ti wa)
  obtain ⟨k0, k1, k2, k3, k4, k5, k6, k7⟩ := hr
  have HL := hide' hL
  have HLN := hide' hln
  unfold Made at HN
  clear h hL hln
  go_enter Try.func3, Try.ntmps3
  go_wp2_with fail
  refine HN.out.mono ?_
  rintro e w1 ⟨b, rfl, hs⟩
  have HA1 := hide' hs
  clear hs HN
  go_wp2_with fail
  refine (HO8.out _ _ _ _).mono ?_
  rintro e w2 ⟨rfl, hs⟩
  have HA2 := hide' (HNOW.out _ _ (HA1.out.keep hs))
  clear hs HNOW HA1 k0 k1 k2 k3 k4 k5 k6 k7
  obtain ⟨o0, ho0⟩ : ∃ o, o = overD mi ti wa th 0 0 := ⟨_, rfl⟩
  rw [← ho0] at HA2 ⊢
  clear ho0
  go_wp2_with fail
  go_loopg [13, 14, 15, 16, 17] (n + 1) (fun gg v13 v14 v15 v16 v17 wr => ∃ (k : Nat) (p s g : Int) (o : Bool), k ≤ n ∧ gg = n + 1 - k ∧ v13 = .int .i64 p ∧ v14 = .int .i64 s ∧ v15 = .int .i64 g ∧ v16 = .bool o ∧ v17 = .int .i64 (k : Int) ∧ Hid (Now w wr b mi ti wa k p s g o))
  case atStart => exact ⟨0, _, _, _, _, Nat.zero_le _, rfl, rfl, rfl, rfl, rfl, rfl, HA2⟩
  case round =>
    clear HA2
    obtain ⟨k, p, s, g, o, hk, rfl, rfl, rfl, rfl, rfl, rfl, HNW⟩ := hrel
    obtain ⟨p0, p1, s0, s1, g0, g1⟩ := HNW.out.bounds
    have kle : (k : Int) ≤ (n : Nat) := by omega
    obtain ⟨m, hm⟩ : ∃ m, m = min p wa := ⟨_, rfl⟩
    have em : min p wa = m := hm.symm
    have HD := hide' HNW.out.done
    have HC : Hid (∀ w', Stay (fun _ => False) wr w' → Calls Try.prog 10 #[.pointer (some ⟨b, 0, none⟩)] w' (Gives (.int .i64 m) w')) := fun w' hs => by rw [hm]; exact (HNW.out.keep hs).count
    clear hm
    by_cases hkn : k = n
    · subst hkn
      cases o
      all_goals
        go_wp2_with fail
        refine HD.out.mono ?_
        rintro e w3 ⟨rfl, hs⟩
        have HN3 := hide' (HNW.out.keep hs)
        have HC3 := hide' (HC.out w3 hs)
        clear hs HD HC
        go_wp2_with fail
        refine HC3.out.mono ?_
        rintro e w4 ⟨rfl, hs⟩
        have HN4 := hide' (HN3.out.keep hs)
        clear hs HC3 HN3
        go_wp2_with fail
        refine (HAW.out _).mono ?_
        rintro e w9 ⟨rfl, hs⟩
        have HE := hide' (HN4.out.stays.trans hs)
        clear hs
        go_wp2
        go_ret
        exact ⟨rfl, HE.out⟩
    · have kn : (k : Int) < (n : Nat) := by omega
      have kne : ((k : Int) == (n : Nat)) = false := by simp; omega
      have hkl : k < L.length := by rw [HLN.out]; omega
      have hne : L ≠ [] := fun e => by rw [e] at hkl; simp at hkl
      obtain ⟨B, off, ha, _, hI⟩ := HL.out.cells hne
      subst ha
      obtain ⟨x, hx⟩ : ∃ x, x = L.getD k 0 := ⟨_, rfl⟩
      have a0 := hI k hkl
      rw [← hx] at a0
      have HEL := hide' (fun (w' : World) (hs : Stay (fun _ => False) w w') => keep_cell hs a0)
      have hk1 : k ≤ 1000 := by omega
      clear hx a0 hI hne hkl
      by_cases hx0 : 0 < x
      · have HCO : Hid (∀ w', Now w w' b mi ti wa k p s g o → Calls Try.prog 11 #[.pointer (some ⟨b, 0, none⟩), .int .i64 x] w' (fun e w' => e = .returned (.tuple #[]) ∧ Next w b mi ti wa k p s g o x w')) := fun w' h => h.come hx0
        by_cases hx1 : 1048576 < x
        · have HS : Hid (∀ w', Next w b mi ti wa k p s g o x w' → Now w w' b mi ti wa (k + 1) p s g o) := fun w' h => h.still (.inr hx1)
          cases o
          all_goals
            go_wp2_with fail
            refine HD.out.mono ?_
            rintro e w3 ⟨rfl, hs⟩
            have HN3 := hide' (HNW.out.keep hs)
            have HC3 := hide' (HC.out w3 hs)
            clear hs HD HC
            go_wp2_with fail
            refine HC3.out.mono ?_
            rintro e w4 ⟨rfl, hs⟩
            have HN4 := hide' (HN3.out.keep hs)
            clear hs HC3 HN3
            have a1 := HEL.out _ HN4.out.stays
            go_wp2_with fail
            refine (HCO.out _ HN4.out).mono ?_
            rintro e w5 ⟨rfl, hs⟩
            have HX5 := hide' hs
            clear hs HCO a1
            have a1 := HEL.out _ HX5.out.stays
            have HNX := hide' (HS.out _ HX5.out)
            go_wp2
            go_roundg (n + 1 - (k + 1))
            case measure => omega
            case rel => exact ⟨k + 1, p, s, g, _, by omega, rfl, rfl, rfl, rfl, rfl, by go_num, HNX⟩
        · cases o
          · obtain ⟨z, hz⟩ : ∃ z, z = p + x := ⟨_, rfl⟩
            have ez : IntKind.i64.wrap (p + x) = z := by rw [IntKind.wrap_i64]; omega
            obtain ⟨y, hy⟩ : ∃ y, y = min z 1048576 := ⟨_, rfl⟩
            have ey : min z 1048576 = y := hy.symm
            have HT : Hid (∀ w', Next w b mi ti wa k p s g false x w' → Then w b mi ti wa (k + 1) y 0 g w') := fun w' h => by rw [hy, hz]; exact h.bytes hx0 hx1
            clear hz hy
            go_wp2_with fail
            refine HD.out.mono ?_
            rintro e w3 ⟨rfl, hs⟩
            have HN3 := hide' (HNW.out.keep hs)
            have HC3 := hide' (HC.out w3 hs)
            clear hs HD HC
            go_wp2_with fail
            refine HC3.out.mono ?_
            rintro e w4 ⟨rfl, hs⟩
            have HN4 := hide' (HN3.out.keep hs)
            clear hs HC3 HN3
            have a1 := HEL.out _ HN4.out.stays
            go_wp2_with fail
            refine (HCO.out _ HN4.out).mono ?_
            rintro e w5 ⟨rfl, hs⟩
            have HX5 := hide' hs
            clear hs HCO a1
            have a1 := HEL.out _ HX5.out.stays
            have HT5 := hide' (HT.out _ HX5.out)
            clear HT HX5
            go_wp2_with fail
            refine (HO8.out _ _ _ _).mono ?_
            rintro e w6 ⟨rfl, hs⟩
            have HNX := hide' (Now.keep HT5.out hs)
            clear hs HT5 a1
            obtain ⟨o2, ho2⟩ : ∃ o, o = overD mi ti wa y 0 g := ⟨_, rfl⟩
            rw [← ho2] at HNX ⊢
            clear ho2
            go_wp2
            go_roundg (n + 1 - (k + 1))
            case measure => omega
            case rel => exact ⟨k + 1, y, 0, g, o2, by omega, rfl, rfl, rfl, rfl, rfl, by go_num, HNX⟩
          · have HS : Hid (∀ w', Next w b mi ti wa k p s g true x w' → Now w w' b mi ti wa (k + 1) p s g true) := fun w' h => h.still (.inl rfl)
            go_wp2_with fail
            refine HD.out.mono ?_
            rintro e w3 ⟨rfl, hs⟩
            have HN3 := hide' (HNW.out.keep hs)
            have HC3 := hide' (HC.out w3 hs)
            clear hs HD HC
            go_wp2_with fail
            refine HC3.out.mono ?_
            rintro e w4 ⟨rfl, hs⟩
            have HN4 := hide' (HN3.out.keep hs)
            clear hs HC3 HN3
            have a1 := HEL.out _ HN4.out.stays
            go_wp2_with fail
            refine (HCO.out _ HN4.out).mono ?_
            rintro e w5 ⟨rfl, hs⟩
            have HX5 := hide' hs
            clear hs HCO a1
            have a1 := HEL.out _ HX5.out.stays
            have HNX := hide' (HS.out _ HX5.out)
            go_wp2
            go_roundg (n + 1 - (k + 1))
            case measure => omega
            case rel => exact ⟨k + 1, p, s, g, _, by omega, rfl, rfl, rfl, rfl, rfl, by go_num, HNX⟩
      · have HTI : Hid (∀ w', Now w w' b mi ti wa k p s g o → Calls Try.prog 12 #[.pointer (some ⟨b, 0, none⟩)] w' (fun e w' => e = .returned (.tuple #[]) ∧ Next w b mi ti wa k p s g o x w')) := fun w' h => h.tick hk1 hx0
        cases o
        · obtain ⟨s2, hs2⟩ : ∃ z, z = s + 1 := ⟨_, rfl⟩
          have es : IntKind.i64.wrap (s + 1) = s2 := by rw [IntKind.wrap_i64]; omega
          obtain ⟨g2, hg2⟩ : ∃ z, z = g + 1 := ⟨_, rfl⟩
          have eg : IntKind.i64.wrap (g + 1) = g2 := by rw [IntKind.wrap_i64]; omega
          have HT : Hid (∀ w', Next w b mi ti wa k p s g false x w' → Then w b mi ti wa (k + 1) p s2 g2 w') := fun w' h => by rw [hs2, hg2]; exact h.ticks hx0
          clear hs2 hg2
          go_wp2_with fail
          refine HD.out.mono ?_
          rintro e w3 ⟨rfl, hs⟩
          have HN3 := hide' (HNW.out.keep hs)
          have HC3 := hide' (HC.out w3 hs)
          clear hs HD HC
          go_wp2_with fail
          refine HC3.out.mono ?_
          rintro e w4 ⟨rfl, hs⟩
          have HN4 := hide' (HN3.out.keep hs)
          clear hs HC3 HN3
          have a1 := HEL.out _ HN4.out.stays
          go_wp2_with fail
          refine (HTI.out _ HN4.out).mono ?_
          rintro e w5 ⟨rfl, hs⟩
          have HX5 := hide' hs
          clear hs HTI a1
          have a1 := HEL.out _ HX5.out.stays
          have HT5 := hide' (HT.out _ HX5.out)
          clear HT HX5
          go_wp2_with fail
          refine (HO8.out _ _ _ _).mono ?_
          rintro e w6 ⟨rfl, hs⟩
          have HNX := hide' (Now.keep HT5.out hs)
          clear hs HT5 a1
          obtain ⟨o2, ho2⟩ : ∃ o, o = overD mi ti wa p s2 g2 := ⟨_, rfl⟩
          rw [← ho2] at HNX ⊢
          clear ho2
          go_wp2
          go_roundg (n + 1 - (k + 1))
          case measure => omega
          case rel => exact ⟨k + 1, p, s2, g2, o2, by omega, rfl, rfl, rfl, rfl, rfl, by go_num, HNX⟩
        · have HS : Hid (∀ w', Next w b mi ti wa k p s g true x w' → Now w w' b mi ti wa (k + 1) p s g true) := fun w' h => h.still (.inl rfl)
          go_wp2_with fail
          refine HD.out.mono ?_
          rintro e w3 ⟨rfl, hs⟩
          have HN3 := hide' (HNW.out.keep hs)
          have HC3 := hide' (HC.out w3 hs)
          clear hs HD HC
          go_wp2_with fail
          refine HC3.out.mono ?_
          rintro e w4 ⟨rfl, hs⟩
          have HN4 := hide' (HN3.out.keep hs)
          clear hs HC3 HN3
          have a1 := HEL.out _ HN4.out.stays
          go_wp2_with fail
          refine (HTI.out _ HN4.out).mono ?_
          rintro e w5 ⟨rfl, hs⟩
          have HX5 := hide' hs
          clear hs HTI a1
          have a1 := HEL.out _ HX5.out.stays
          have HNX := hide' (HS.out _ HX5.out)
          go_wp2
          go_roundg (n + 1 - (k + 1))
          case measure => omega
          case rel => exact ⟨k + 1, p, s, g, _, by omega, rfl, rfl, rfl, rfl, rfl, by go_num, HNX⟩

end Go.Proofs.Ytdhlgjkjdmejfaa
