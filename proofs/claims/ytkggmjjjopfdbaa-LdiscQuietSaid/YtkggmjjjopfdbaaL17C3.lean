/-
  What comes of a byte: the program and the document; which special character it is: walked. No conditions.
-/
import Derived.Test.YtkggmjjjopfdbaaL17C0
import Derived.Laws.BitsLemmas
namespace Go.Proofs.Ytkggmjjjopfdbaa.L17
open Go.RowKit

theorem and_127 (c : Int) (h0 : 0 ≤ c) (h1 : c < 256) : bits .and .u8 c 127 = c % 128 := by
  obtain ⟨n, rfl⟩ := Int.eq_ofNat_of_zero_le h0
  have hn : n < 256 := by omega
  have : ∀ m : Fin 256, bits .and .u8 ((m : Nat) : Int) 127 = ((m : Nat) : Int) % 128 := by decide +kernel
  exact this ⟨n, hn⟩

/-- What comes of a byte, as the program tells it. -/
def gB (f c : Int) : Int := if mapI f c = -1 then 0 else mapI f c
def gI (f c : Int) : Bool := !(mapI f c == -1)

theorem ret_map {a c : Int} {b d : Bool} (h : a = c) (h2 : b = d) : Ending.returned (.tuple #[.int .u8 a, .bool b]) = .returned (.tuple #[.int .u8 c, .bool d]) := by rw [h, h2]

theorem low_range (f c : Int) (h0 : 0 ≤ c) (h1 : c < 256) : 0 ≤ low f c ∧ low f c < 256 := by
  unfold low; split <;> omega

set_option maxHeartbeats 4000000 in
theorem map54 (r : Tm) (c : Int) (w : World) (h0 : 0 ≤ c) (h1 : c < 256) : Calls Try.prog 54 #[.agg #[.int .i64 r.fi, .int .i64 r.fo, .int .i64 r.fl, .int .i64 r.k0, .int .i64 r.k1, .int .i64 r.k2, .int .i64 r.k3, .int .i64 r.k4, .int .i64 r.k5, .int .i64 r.k6, .int .i64 r.k7, .int .i64 r.k8, .int .i64 r.k9, .int .i64 r.k10, .int .i64 r.k11, .int .i64 r.mn, .int .i64 r.ti], .int .u8 c] w (Gives (.tuple #[.int .u8 (gB r.fi c), .bool (gI r.fi c)]) w) := by
  have HX := hide' (TBox.new (w := w) r rfl)
  have HS := hide' ((Stay.refl (fun _ => False) w).alloc (.cells #[.int .i64 r.fi, .int .i64 r.fo, .int .i64 r.fl, .int .i64 r.k0, .int .i64 r.k1, .int .i64 r.k2, .int .i64 r.k3, .int .i64 r.k4, .int .i64 r.k5, .int .i64 r.k6, .int .i64 r.k7, .int .i64 r.k8, .int .i64 r.k9, .int .i64 r.k10, .int .i64 r.k11, .int .i64 r.mn, .int .i64 r.ti] 24))
  have HR := hide' (low_range r.fi c h0 h1)
  have H1 := hide' (has61 r.fi 1)
  have H2 := hide' (has61 r.fi 2)
  have H4 := hide' (has61 r.fi 4)
  have H8 := hide' (has61 r.fi 8)
  have HA := hide' (and_127 c h0 h1)
  have HB : Hid (gB r.fi c = if mapI r.fi c = -1 then 0 else mapI r.fi c) := rfl
  have HI : Hid (gI r.fi c = !(mapI r.fi c == -1)) := rfl
  have HM : Hid (mapI r.fi c = if low r.fi c = 13 ∧ hasB r.fi 2 = true then -1 else if low r.fi c = 13 ∧ hasB r.fi 4 = true then 10 else if low r.fi c = 10 ∧ hasB r.fi 8 = true then 13 else low r.fi c) := rfl
  have HL : Hid (low r.fi c = if hasB r.fi 1 = true then c % 128 else c) := rfl
  obtain ⟨m, hm⟩ : ∃ m, m = mapI r.fi c := ⟨_, rfl⟩
  obtain ⟨l, hl⟩ : ∃ l, l = low r.fi c := ⟨_, rfl⟩
  obtain ⟨u, hu⟩ : ∃ u, u = gB r.fi c := ⟨_, rfl⟩
  obtain ⟨v, hv⟩ : ∃ v, v = gI r.fi c := ⟨_, rfl⟩
  rw [← hm] at HB HI HM
  rw [← hl] at HM HL HR
  rw [← hu] at HB ⊢
  rw [← hv] at HI ⊢
  clear hm hl hu hv h0 h1
  obtain ⟨f1, hf1⟩ : ∃ b, b = hasB r.fi 1 := ⟨_, rfl⟩
  obtain ⟨f2, hf2⟩ : ∃ b, b = hasB r.fi 2 := ⟨_, rfl⟩
  obtain ⟨f4, hf4⟩ : ∃ b, b = hasB r.fi 4 := ⟨_, rfl⟩
  obtain ⟨f8, hf8⟩ : ∃ b, b = hasB r.fi 8 := ⟨_, rfl⟩
  rw [← hf1] at H1 HL
  rw [← hf2] at H2 HM
  rw [← hf4] at H4 HM
  rw [← hf8] at H8 HM
  clear hf1 hf2 hf4 hf8
  go_enter Try.func54, Try.ntmps54
  go_upto_region 1 with fail
  obtain ⟨W, hW⟩ : ∃ W, W = w.alloc (.cells #[.int .i64 r.fi, .int .i64 r.fo, .int .i64 r.fl, .int .i64 r.k0, .int .i64 r.k1, .int .i64 r.k2, .int .i64 r.k3, .int .i64 r.k4, .int .i64 r.k5, .int .i64 r.k6, .int .i64 r.k7, .int .i64 r.k8, .int .i64 r.k9, .int .i64 r.k10, .int .i64 r.k11, .int .i64 r.mn, .int .i64 r.ti] 24) := ⟨_, rfl⟩
  obtain ⟨b, hb⟩ : ∃ b, b = w.heap.size := ⟨_, rfl⟩
  rw [← hW] at HX HS ⊢
  rw [← hb] at HX ⊢
  clear hW hb
  obtain ⟨c0, c1, c2, c3, c4, c5, c6, c7, c8, c9, c10, c11, c12, c13, c14, c15, c16, _⟩ := HX.out
  cases f1
  · go_wp2_with fail
    refine (H1.out _).mono ?_
    rintro e w3 ⟨rfl, hs⟩
    have HS5 := hide' (HS.out.trans hs)
    have HX5 := hide' (HX.out.keep hs)
    clear hs HS HX c0 c1 c2 c3 c4 c5 c6 c7 c8 c9 c10 c11 c12 c13 c14 c15 c16
    have HS := HS5
    have HX := HX5
    clear HS5 HX5
    obtain ⟨c0, c1, c2, c3, c4, c5, c6, c7, c8, c9, c10, c11, c12, c13, c14, c15, c16, _⟩ := HX.out
    have hl : l = c := HL.out
    subst hl
    have hn : ¬ l = -1 := by have := HR.out; omega
    clear HR HL
    by_cases e13 : l = 13
    · subst e13
      cases f2
      · cases f4
        · go_wp2_with fail
          refine (H2.out _).mono ?_
          rintro e w3 ⟨rfl, hs⟩
          have HS5 := hide' (HS.out.trans hs)
          have HX5 := hide' (HX.out.keep hs)
          clear hs HS HX c0 c1 c2 c3 c4 c5 c6 c7 c8 c9 c10 c11 c12 c13 c14 c15 c16
          have HS := HS5
          have HX := HX5
          clear HS5 HX5
          obtain ⟨c0, c1, c2, c3, c4, c5, c6, c7, c8, c9, c10, c11, c12, c13, c14, c15, c16, _⟩ := HX.out
          go_wp2_with fail
          refine (H4.out _).mono ?_
          rintro e w3 ⟨rfl, hs⟩
          have HS5 := hide' (HS.out.trans hs)
          have HX5 := hide' (HX.out.keep hs)
          clear hs HS HX c0 c1 c2 c3 c4 c5 c6 c7 c8 c9 c10 c11 c12 c13 c14 c15 c16
          have HS := HS5
          have HX := HX5
          clear HS5 HX5
          obtain ⟨c0, c1, c2, c3, c4, c5, c6, c7, c8, c9, c10, c11, c12, c13, c14, c15, c16, _⟩ := HX.out
          go_wp2
          go_ret2
          exact ⟨ret_map (by rw [HB.out, HM.out]; simp [*]) (by rw [HI.out, HM.out]; simp [*]), HS.out⟩
        · go_wp2_with fail
          refine (H2.out _).mono ?_
          rintro e w3 ⟨rfl, hs⟩
          have HS5 := hide' (HS.out.trans hs)
          have HX5 := hide' (HX.out.keep hs)
          clear hs HS HX c0 c1 c2 c3 c4 c5 c6 c7 c8 c9 c10 c11 c12 c13 c14 c15 c16
          have HS := HS5
          have HX := HX5
          clear HS5 HX5
          obtain ⟨c0, c1, c2, c3, c4, c5, c6, c7, c8, c9, c10, c11, c12, c13, c14, c15, c16, _⟩ := HX.out
          go_wp2_with fail
          refine (H4.out _).mono ?_
          rintro e w3 ⟨rfl, hs⟩
          have HS5 := hide' (HS.out.trans hs)
          have HX5 := hide' (HX.out.keep hs)
          clear hs HS HX c0 c1 c2 c3 c4 c5 c6 c7 c8 c9 c10 c11 c12 c13 c14 c15 c16
          have HS := HS5
          have HX := HX5
          clear HS5 HX5
          obtain ⟨c0, c1, c2, c3, c4, c5, c6, c7, c8, c9, c10, c11, c12, c13, c14, c15, c16, _⟩ := HX.out
          go_wp2
          go_ret2
          exact ⟨ret_map (by rw [HB.out, HM.out]; simp [*]) (by rw [HI.out, HM.out]; simp [*]), HS.out⟩
      · go_wp2_with fail
        refine (H2.out _).mono ?_
        rintro e w3 ⟨rfl, hs⟩
        have HS5 := hide' (HS.out.trans hs)
        have HX5 := hide' (HX.out.keep hs)
        clear hs HS HX c0 c1 c2 c3 c4 c5 c6 c7 c8 c9 c10 c11 c12 c13 c14 c15 c16
        have HS := HS5
        have HX := HX5
        clear HS5 HX5
        obtain ⟨c0, c1, c2, c3, c4, c5, c6, c7, c8, c9, c10, c11, c12, c13, c14, c15, c16, _⟩ := HX.out
        go_wp2
        go_ret2
        exact ⟨ret_map (by rw [HB.out, HM.out]; simp [*]) (by rw [HI.out, HM.out]; simp [*]), HS.out⟩
    · by_cases e10 : l = 10
      · subst e10
        cases f8
        · go_wp2_with fail
          refine (H8.out _).mono ?_
          rintro e w3 ⟨rfl, hs⟩
          have HS5 := hide' (HS.out.trans hs)
          have HX5 := hide' (HX.out.keep hs)
          clear hs HS HX c0 c1 c2 c3 c4 c5 c6 c7 c8 c9 c10 c11 c12 c13 c14 c15 c16
          have HS := HS5
          have HX := HX5
          clear HS5 HX5
          obtain ⟨c0, c1, c2, c3, c4, c5, c6, c7, c8, c9, c10, c11, c12, c13, c14, c15, c16, _⟩ := HX.out
          go_wp2
          go_ret2
          exact ⟨ret_map (by rw [HB.out, HM.out]; simp [*]) (by rw [HI.out, HM.out]; simp [*]), HS.out⟩
        · go_wp2_with fail
          refine (H8.out _).mono ?_
          rintro e w3 ⟨rfl, hs⟩
          have HS5 := hide' (HS.out.trans hs)
          have HX5 := hide' (HX.out.keep hs)
          clear hs HS HX c0 c1 c2 c3 c4 c5 c6 c7 c8 c9 c10 c11 c12 c13 c14 c15 c16
          have HS := HS5
          have HX := HX5
          clear HS5 HX5
          obtain ⟨c0, c1, c2, c3, c4, c5, c6, c7, c8, c9, c10, c11, c12, c13, c14, c15, c16, _⟩ := HX.out
          go_wp2
          go_ret2
          exact ⟨ret_map (by rw [HB.out, HM.out]; simp [*]) (by rw [HI.out, HM.out]; simp [*]), HS.out⟩
      · go_wp2
        go_ret2
        exact ⟨ret_map (by rw [HB.out, HM.out]; simp [*]) (by rw [HI.out, HM.out]; simp [*]), HS.out⟩
  · go_wp2_with fail
    refine (H1.out _).mono ?_
    rintro e w3 ⟨rfl, hs⟩
    have HS5 := hide' (HS.out.trans hs)
    have HX5 := hide' (HX.out.keep hs)
    clear hs HS HX c0 c1 c2 c3 c4 c5 c6 c7 c8 c9 c10 c11 c12 c13 c14 c15 c16
    have HS := HS5
    have HX := HX5
    clear HS5 HX5
    obtain ⟨c0, c1, c2, c3, c4, c5, c6, c7, c8, c9, c10, c11, c12, c13, c14, c15, c16, _⟩ := HX.out
    go_upto_region 3 with fail
    rw [HA.out]
    have hl : c % 128 = l := HL.out.symm
    rw [hl]
    clear HA
    clear hl
    have hn : ¬ l = -1 := by have := HR.out; omega
    clear HR HL
    by_cases e13 : l = 13
    · subst e13
      cases f2
      · cases f4
        · go_wp2_with fail
          refine (H2.out _).mono ?_
          rintro e w3 ⟨rfl, hs⟩
          have HS5 := hide' (HS.out.trans hs)
          have HX5 := hide' (HX.out.keep hs)
          clear hs HS HX c0 c1 c2 c3 c4 c5 c6 c7 c8 c9 c10 c11 c12 c13 c14 c15 c16
          have HS := HS5
          have HX := HX5
          clear HS5 HX5
          obtain ⟨c0, c1, c2, c3, c4, c5, c6, c7, c8, c9, c10, c11, c12, c13, c14, c15, c16, _⟩ := HX.out
          go_wp2_with fail
          refine (H4.out _).mono ?_
          rintro e w3 ⟨rfl, hs⟩
          have HS5 := hide' (HS.out.trans hs)
          have HX5 := hide' (HX.out.keep hs)
          clear hs HS HX c0 c1 c2 c3 c4 c5 c6 c7 c8 c9 c10 c11 c12 c13 c14 c15 c16
          have HS := HS5
          have HX := HX5
          clear HS5 HX5
          obtain ⟨c0, c1, c2, c3, c4, c5, c6, c7, c8, c9, c10, c11, c12, c13, c14, c15, c16, _⟩ := HX.out
          go_wp2
          go_ret2
          exact ⟨ret_map (by rw [HB.out, HM.out]; simp [*]) (by rw [HI.out, HM.out]; simp [*]), HS.out⟩
        · go_wp2_with fail
          refine (H2.out _).mono ?_
          rintro e w3 ⟨rfl, hs⟩
          have HS5 := hide' (HS.out.trans hs)
          have HX5 := hide' (HX.out.keep hs)
          clear hs HS HX c0 c1 c2 c3 c4 c5 c6 c7 c8 c9 c10 c11 c12 c13 c14 c15 c16
          have HS := HS5
          have HX := HX5
          clear HS5 HX5
          obtain ⟨c0, c1, c2, c3, c4, c5, c6, c7, c8, c9, c10, c11, c12, c13, c14, c15, c16, _⟩ := HX.out
          go_wp2_with fail
          refine (H4.out _).mono ?_
          rintro e w3 ⟨rfl, hs⟩
          have HS5 := hide' (HS.out.trans hs)
          have HX5 := hide' (HX.out.keep hs)
          clear hs HS HX c0 c1 c2 c3 c4 c5 c6 c7 c8 c9 c10 c11 c12 c13 c14 c15 c16
          have HS := HS5
          have HX := HX5
          clear HS5 HX5
          obtain ⟨c0, c1, c2, c3, c4, c5, c6, c7, c8, c9, c10, c11, c12, c13, c14, c15, c16, _⟩ := HX.out
          go_wp2
          go_ret2
          exact ⟨ret_map (by rw [HB.out, HM.out]; simp [*]) (by rw [HI.out, HM.out]; simp [*]), HS.out⟩
      · go_wp2_with fail
        refine (H2.out _).mono ?_
        rintro e w3 ⟨rfl, hs⟩
        have HS5 := hide' (HS.out.trans hs)
        have HX5 := hide' (HX.out.keep hs)
        clear hs HS HX c0 c1 c2 c3 c4 c5 c6 c7 c8 c9 c10 c11 c12 c13 c14 c15 c16
        have HS := HS5
        have HX := HX5
        clear HS5 HX5
        obtain ⟨c0, c1, c2, c3, c4, c5, c6, c7, c8, c9, c10, c11, c12, c13, c14, c15, c16, _⟩ := HX.out
        go_wp2
        go_ret2
        exact ⟨ret_map (by rw [HB.out, HM.out]; simp [*]) (by rw [HI.out, HM.out]; simp [*]), HS.out⟩
    · by_cases e10 : l = 10
      · subst e10
        cases f8
        · go_wp2_with fail
          refine (H8.out _).mono ?_
          rintro e w3 ⟨rfl, hs⟩
          have HS5 := hide' (HS.out.trans hs)
          have HX5 := hide' (HX.out.keep hs)
          clear hs HS HX c0 c1 c2 c3 c4 c5 c6 c7 c8 c9 c10 c11 c12 c13 c14 c15 c16
          have HS := HS5
          have HX := HX5
          clear HS5 HX5
          obtain ⟨c0, c1, c2, c3, c4, c5, c6, c7, c8, c9, c10, c11, c12, c13, c14, c15, c16, _⟩ := HX.out
          go_wp2
          go_ret2
          exact ⟨ret_map (by rw [HB.out, HM.out]; simp [*]) (by rw [HI.out, HM.out]; simp [*]), HS.out⟩
        · go_wp2_with fail
          refine (H8.out _).mono ?_
          rintro e w3 ⟨rfl, hs⟩
          have HS5 := hide' (HS.out.trans hs)
          have HX5 := hide' (HX.out.keep hs)
          clear hs HS HX c0 c1 c2 c3 c4 c5 c6 c7 c8 c9 c10 c11 c12 c13 c14 c15 c16
          have HS := HS5
          have HX := HX5
          clear HS5 HX5
          obtain ⟨c0, c1, c2, c3, c4, c5, c6, c7, c8, c9, c10, c11, c12, c13, c14, c15, c16, _⟩ := HX.out
          go_wp2
          go_ret2
          exact ⟨ret_map (by rw [HB.out, HM.out]; simp [*]) (by rw [HI.out, HM.out]; simp [*]), HS.out⟩
      · go_wp2
        go_ret2
        exact ⟨ret_map (by rw [HB.out, HM.out]; simp [*]) (by rw [HI.out, HM.out]; simp [*]), HS.out⟩

end Go.Proofs.Ytkggmjjjopfdbaa.L17
