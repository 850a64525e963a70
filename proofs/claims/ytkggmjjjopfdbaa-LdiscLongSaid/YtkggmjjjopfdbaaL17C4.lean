/-
  What comes of a byte by the document; which special character it is: walked. No conditions.
-/
import Derived.Test.YtkggmjjjopfdbaaL17C3
namespace Go.Proofs.Ytkggmjjjopfdbaa.L17
open Go.RowKit

set_option maxHeartbeats 4000000 in
theorem map32 (r : Tm) (c : Int) (w : World) (h0 : 0 ≤ c) (h1 : c < 256) : Calls Try.prog 32 #[.agg #[.int .i64 r.fi, .int .i64 r.fo, .int .i64 r.fl, .int .i64 r.k0, .int .i64 r.k1, .int .i64 r.k2, .int .i64 r.k3, .int .i64 r.k4, .int .i64 r.k5, .int .i64 r.k6, .int .i64 r.k7, .int .i64 r.k8, .int .i64 r.k9, .int .i64 r.k10, .int .i64 r.k11, .int .i64 r.mn, .int .i64 r.ti], .int .u8 c] w (Gives (.int .i64 (mapI r.fi c)) w) := by
  have HX := hide' (TBox.new (w := w) r rfl)
  have HS := hide' ((Stay.refl (fun _ => False) w).alloc (.cells #[.int .i64 r.fi, .int .i64 r.fo, .int .i64 r.fl, .int .i64 r.k0, .int .i64 r.k1, .int .i64 r.k2, .int .i64 r.k3, .int .i64 r.k4, .int .i64 r.k5, .int .i64 r.k6, .int .i64 r.k7, .int .i64 r.k8, .int .i64 r.k9, .int .i64 r.k10, .int .i64 r.k11, .int .i64 r.mn, .int .i64 r.ti] 24))
  have HR := hide' (low_range r.fi c h0 h1)
  have H1 := hide' (has48 r.fi 1)
  have H2 := hide' (has48 r.fi 2)
  have H4 := hide' (has48 r.fi 4)
  have H8 := hide' (has48 r.fi 8)
  have HA : Hid (c.tmod 128 = c % 128) := Int.tmod_eq_emod_of_nonneg h0
  have HW : Hid (wrap64 c = c) := by show wrap64 c = c; unfold wrap64; omega
  have HM : Hid (mapI r.fi c = if low r.fi c = 13 ∧ hasB r.fi 2 = true then -1 else if low r.fi c = 13 ∧ hasB r.fi 4 = true then 10 else if low r.fi c = 10 ∧ hasB r.fi 8 = true then 13 else low r.fi c) := rfl
  have HL : Hid (low r.fi c = if hasB r.fi 1 = true then c % 128 else c) := rfl
  obtain ⟨m, hm⟩ : ∃ m, m = mapI r.fi c := ⟨_, rfl⟩
  obtain ⟨l, hl⟩ : ∃ l, l = low r.fi c := ⟨_, rfl⟩
  rw [← hm] at HM ⊢
  rw [← hl] at HM HL HR
  clear hm hl h0 h1
  obtain ⟨f1, hf1⟩ : ∃ b, b = hasB r.fi 1 := ⟨_, rfl⟩
  obtain ⟨f2, hf2⟩ : ∃ b, b = hasB r.fi 2 := ⟨_, rfl⟩
  obtain ⟨f4, hf4⟩ : ∃ b, b = hasB r.fi 4 := ⟨_, rfl⟩
  obtain ⟨f8, hf8⟩ : ∃ b, b = hasB r.fi 8 := ⟨_, rfl⟩
  rw [← hf1] at H1 HL
  rw [← hf2] at H2 HM
  rw [← hf4] at H4 HM
  rw [← hf8] at H8 HM
  clear hf1 hf2 hf4 hf8
  go_enter Try.func32, Try.ntmps32
  go_upto_region 1 with fail
  obtain ⟨W, hW⟩ : ∃ W, W = w.alloc (.cells #[.int .i64 r.fi, .int .i64 r.fo, .int .i64 r.fl, .int .i64 r.k0, .int .i64 r.k1, .int .i64 r.k2, .int .i64 r.k3, .int .i64 r.k4, .int .i64 r.k5, .int .i64 r.k6, .int .i64 r.k7, .int .i64 r.k8, .int .i64 r.k9, .int .i64 r.k10, .int .i64 r.k11, .int .i64 r.mn, .int .i64 r.ti] 24) := ⟨_, rfl⟩
  obtain ⟨b, hb⟩ : ∃ b, b = w.heap.size := ⟨_, rfl⟩
  rw [← hW] at HX HS ⊢
  rw [← hb] at HX ⊢
  clear hW hb
  obtain ⟨c0, c1, c2, c3, c4, c5, c6, c7, c8, c9, c10, c11, c12, c13, c14, c15, c16, _⟩ := HX.out
  go_upto_region 2 with fail
  rw [HW.out]
  clear HW
  cases f1
  · go_wp2_with fail
    refine (H1.out _).mono ?_
    rintro e w3 ⟨rfl, hs⟩
    have HS5 := hide' (HS.out.trans hs)
    have HX5 := hide' (HX.out.keep hs)
    clear hs HS HX c0 c1 c2 c3 c4 c5 c6 c7 c8 c9 c10 c11 c12 c13 c14 c15 c16
    have HS := HS5
    have HX := HX5
    clear HS5 HX5
    obtain ⟨c0, c1, c2, c3, c4, c5, c6, c7, c8, c9, c10, c11, c12, c13, c14, c15, c16, _⟩ := HX.out
    have hl : l = c := HL.out
    subst hl
    have hn : ¬ l = -1 := by have := HR.out; omega
    clear HR HL
    by_cases e13 : l = 13
    · subst e13
      cases f2
      · cases f4
        · go_wp2_with fail
          refine (H2.out _).mono ?_
          rintro e w3 ⟨rfl, hs⟩
          have HS5 := hide' (HS.out.trans hs)
          have HX5 := hide' (HX.out.keep hs)
          clear hs HS HX c0 c1 c2 c3 c4 c5 c6 c7 c8 c9 c10 c11 c12 c13 c14 c15 c16
          have HS := HS5
          have HX := HX5
          clear HS5 HX5
          obtain ⟨c0, c1, c2, c3, c4, c5, c6, c7, c8, c9, c10, c11, c12, c13, c14, c15, c16, _⟩ := HX.out
          go_wp2_with fail
          refine (H4.out _).mono ?_
          rintro e w3 ⟨rfl, hs⟩
          have HS5 := hide' (HS.out.trans hs)
          have HX5 := hide' (HX.out.keep hs)
          clear hs HS HX c0 c1 c2 c3 c4 c5 c6 c7 c8 c9 c10 c11 c12 c13 c14 c15 c16
          have HS := HS5
          have HX := HX5
          clear HS5 HX5
          obtain ⟨c0, c1, c2, c3, c4, c5, c6, c7, c8, c9, c10, c11, c12, c13, c14, c15, c16, _⟩ := HX.out
          go_wp2
          go_ret
          exact ⟨ret_int (by rw [HM.out]; simp [*]), HS.out⟩
        · go_wp2_with fail
          refine (H2.out _).mono ?_
          rintro e w3 ⟨rfl, hs⟩
          have HS5 := hide' (HS.out.trans hs)
          have HX5 := hide' (HX.out.keep hs)
          clear hs HS HX c0 c1 c2 c3 c4 c5 c6 c7 c8 c9 c10 c11 c12 c13 c14 c15 c16
          have HS := HS5
          have HX := HX5
          clear HS5 HX5
          obtain ⟨c0, c1, c2, c3, c4, c5, c6, c7, c8, c9, c10, c11, c12, c13, c14, c15, c16, _⟩ := HX.out
          go_wp2_with fail
          refine (H4.out _).mono ?_
          rintro e w3 ⟨rfl, hs⟩
          have HS5 := hide' (HS.out.trans hs)
          have HX5 := hide' (HX.out.keep hs)
          clear hs HS HX c0 c1 c2 c3 c4 c5 c6 c7 c8 c9 c10 c11 c12 c13 c14 c15 c16
          have HS := HS5
          have HX := HX5
          clear HS5 HX5
          obtain ⟨c0, c1, c2, c3, c4, c5, c6, c7, c8, c9, c10, c11, c12, c13, c14, c15, c16, _⟩ := HX.out
          go_wp2
          go_ret
          exact ⟨ret_int (by rw [HM.out]; simp [*]), HS.out⟩
      · go_wp2_with fail
        refine (H2.out _).mono ?_
        rintro e w3 ⟨rfl, hs⟩
        have HS5 := hide' (HS.out.trans hs)
        have HX5 := hide' (HX.out.keep hs)
        clear hs HS HX c0 c1 c2 c3 c4 c5 c6 c7 c8 c9 c10 c11 c12 c13 c14 c15 c16
        have HS := HS5
        have HX := HX5
        clear HS5 HX5
        obtain ⟨c0, c1, c2, c3, c4, c5, c6, c7, c8, c9, c10, c11, c12, c13, c14, c15, c16, _⟩ := HX.out
        go_wp2
        go_ret
        exact ⟨ret_int (by rw [HM.out]; simp [*]), HS.out⟩
    · by_cases e10 : l = 10
      · subst e10
        cases f8
        · go_wp2_with fail
          refine (H8.out _).mono ?_
          rintro e w3 ⟨rfl, hs⟩
          have HS5 := hide' (HS.out.trans hs)
          have HX5 := hide' (HX.out.keep hs)
          clear hs HS HX c0 c1 c2 c3 c4 c5 c6 c7 c8 c9 c10 c11 c12 c13 c14 c15 c16
          have HS := HS5
          have HX := HX5
          clear HS5 HX5
          obtain ⟨c0, c1, c2, c3, c4, c5, c6, c7, c8, c9, c10, c11, c12, c13, c14, c15, c16, _⟩ := HX.out
          go_wp2
          go_ret
          exact ⟨ret_int (by rw [HM.out]; simp [*]), HS.out⟩
        · go_wp2_with fail
          refine (H8.out _).mono ?_
          rintro e w3 ⟨rfl, hs⟩
          have HS5 := hide' (HS.out.trans hs)
          have HX5 := hide' (HX.out.keep hs)
          clear hs HS HX c0 c1 c2 c3 c4 c5 c6 c7 c8 c9 c10 c11 c12 c13 c14 c15 c16
          have HS := HS5
          have HX := HX5
          clear HS5 HX5
          obtain ⟨c0, c1, c2, c3, c4, c5, c6, c7, c8, c9, c10, c11, c12, c13, c14, c15, c16, _⟩ := HX.out
          go_wp2
          go_ret
          exact ⟨ret_int (by rw [HM.out]; simp [*]), HS.out⟩
      · go_wp2
        go_ret
        exact ⟨ret_int (by rw [HM.out]; simp [*]), HS.out⟩
  · go_wp2_with fail
    refine (H1.out _).mono ?_
    rintro e w3 ⟨rfl, hs⟩
    have HS5 := hide' (HS.out.trans hs)
    have HX5 := hide' (HX.out.keep hs)
    clear hs HS HX c0 c1 c2 c3 c4 c5 c6 c7 c8 c9 c10 c11 c12 c13 c14 c15 c16
    have HS := HS5
    have HX := HX5
    clear HS5 HX5
    obtain ⟨c0, c1, c2, c3, c4, c5, c6, c7, c8, c9, c10, c11, c12, c13, c14, c15, c16, _⟩ := HX.out
    go_upto_region 4 with fail
    rw [HA.out]
    have hl : c % 128 = l := HL.out.symm
    rw [hl]
    clear HA
    clear hl
    have hn : ¬ l = -1 := by have := HR.out; omega
    clear HR HL
    by_cases e13 : l = 13
    · subst e13
      cases f2
      · cases f4
        · go_wp2_with fail
          refine (H2.out _).mono ?_
          rintro e w3 ⟨rfl, hs⟩
          have HS5 := hide' (HS.out.trans hs)
          have HX5 := hide' (HX.out.keep hs)
          clear hs HS HX c0 c1 c2 c3 c4 c5 c6 c7 c8 c9 c10 c11 c12 c13 c14 c15 c16
          have HS := HS5
          have HX := HX5
          clear HS5 HX5
          obtain ⟨c0, c1, c2, c3, c4, c5, c6, c7, c8, c9, c10, c11, c12, c13, c14, c15, c16, _⟩ := HX.out
          go_wp2_with fail
          refine (H4.out _).mono ?_
          rintro e w3 ⟨rfl, hs⟩
          have HS5 := hide' (HS.out.trans hs)
          have HX5 := hide' (HX.out.keep hs)
          clear hs HS HX c0 c1 c2 c3 c4 c5 c6 c7 c8 c9 c10 c11 c12 c13 c14 c15 c16
          have HS := HS5
          have HX := HX5
          clear HS5 HX5
          obtain ⟨c0, c1, c2, c3, c4, c5, c6, c7, c8, c9, c10, c11, c12, c13, c14, c15, c16, _⟩ := HX.out
          go_wp2
          go_ret
          exact ⟨ret_int (by rw [HM.out]; simp [*]), HS.out⟩
        · go_wp2_with fail
          refine (H2.out _).mono ?_
          rintro e w3 ⟨rfl, hs⟩
          have HS5 := hide' (HS.out.trans hs)
          have HX5 := hide' (HX.out.keep hs)
          clear hs HS HX c0 c1 c2 c3 c4 c5 c6 c7 c8 c9 c10 c11 c12 c13 c14 c15 c16
          have HS := HS5
          have HX := HX5
          clear HS5 HX5
          obtain ⟨c0, c1, c2, c3, c4, c5, c6, c7, c8, c9, c10, c11, c12, c13, c14, c15, c16, _⟩ := HX.out
          go_wp2_with fail
          refine (H4.out _).mono ?_
          rintro e w3 ⟨rfl, hs⟩
          have HS5 := hide' (HS.out.trans hs)
          have HX5 := hide' (HX.out.keep hs)
          clear hs HS HX c0 c1 c2 c3 c4 c5 c6 c7 c8 c9 c10 c11 c12 c13 c14 c15 c16
          have HS := HS5
          have HX := HX5
          clear HS5 HX5
          obtain ⟨c0, c1, c2, c3, c4, c5, c6, c7, c8, c9, c10, c11, c12, c13, c14, c15, c16, _⟩ := HX.out
          go_wp2
          go_ret
          exact ⟨ret_int (by rw [HM.out]; simp [*]), HS.out⟩
      · go_wp2_with fail
        refine (H2.out _).mono ?_
        rintro e w3 ⟨rfl, hs⟩
        have HS5 := hide' (HS.out.trans hs)
        have HX5 := hide' (HX.out.keep hs)
        clear hs HS HX c0 c1 c2 c3 c4 c5 c6 c7 c8 c9 c10 c11 c12 c13 c14 c15 c16
        have HS := HS5
        have HX := HX5
        clear HS5 HX5
        obtain ⟨c0, c1, c2, c3, c4, c5, c6, c7, c8, c9, c10, c11, c12, c13, c14, c15, c16, _⟩ := HX.out
        go_wp2
        go_ret
        exact ⟨ret_int (by rw [HM.out]; simp [*]), HS.out⟩
    · by_cases e10 : l = 10
      · subst e10
        cases f8
        · go_wp2_with fail
          refine (H8.out _).mono ?_
          rintro e w3 ⟨rfl, hs⟩
          have HS5 := hide' (HS.out.trans hs)
          have HX5 := hide' (HX.out.keep hs)
          clear hs HS HX c0 c1 c2 c3 c4 c5 c6 c7 c8 c9 c10 c11 c12 c13 c14 c15 c16
          have HS := HS5
          have HX := HX5
          clear HS5 HX5
          obtain ⟨c0, c1, c2, c3, c4, c5, c6, c7, c8, c9, c10, c11, c12, c13, c14, c15, c16, _⟩ := HX.out
          go_wp2
          go_ret
          exact ⟨ret_int (by rw [HM.out]; simp [*]), HS.out⟩
        · go_wp2_with fail
          refine (H8.out _).mono ?_
          rintro e w3 ⟨rfl, hs⟩
          have HS5 := hide' (HS.out.trans hs)
          have HX5 := hide' (HX.out.keep hs)
          clear hs HS HX c0 c1 c2 c3 c4 c5 c6 c7 c8 c9 c10 c11 c12 c13 c14 c15 c16
          have HS := HS5
          have HX := HX5
          clear HS5 HX5
          obtain ⟨c0, c1, c2, c3, c4, c5, c6, c7, c8, c9, c10, c11, c12, c13, c14, c15, c16, _⟩ := HX.out
          go_wp2
          go_ret
          exact ⟨ret_int (by rw [HM.out]; simp [*]), HS.out⟩
      · go_wp2
        go_ret
        exact ⟨ret_int (by rw [HM.out]; simp [*]), HS.out⟩

theorem up_11 (k : Int) : upB 11 k = (decide (0 ≤ k) && decide (k < 12)) := by
  unfold upB
  have : decide (k ≤ 11) = decide (k < 12) := by simp; omega
  rw [this]

set_option maxHeartbeats 2000000 in
theorem is67 (r : Tm) (k c : Int) (w : World) (h0 : 0 ≤ c) (h1 : c < 256) : Calls Try.prog 67 #[.agg #[.int .i64 r.fi, .int .i64 r.fo, .int .i64 r.fl, .int .i64 r.k0, .int .i64 r.k1, .int .i64 r.k2, .int .i64 r.k3, .int .i64 r.k4, .int .i64 r.k5, .int .i64 r.k6, .int .i64 r.k7, .int .i64 r.k8, .int .i64 r.k9, .int .i64 r.k10, .int .i64 r.k11, .int .i64 r.mn, .int .i64 r.ti], .int .i64 k, .int .u8 c] w (Gives (.bool (isB r k c)) w) := by
  have HX := hide' (TBox.new (w := w) r rfl)
  have HS := hide' ((Stay.refl (fun _ => False) w).alloc (.cells #[.int .i64 r.fi, .int .i64 r.fo, .int .i64 r.fl, .int .i64 r.k0, .int .i64 r.k1, .int .i64 r.k2, .int .i64 r.k3, .int .i64 r.k4, .int .i64 r.k5, .int .i64 r.k6, .int .i64 r.k7, .int .i64 r.k8, .int .i64 r.k9, .int .i64 r.k10, .int .i64 r.k11, .int .i64 r.mn, .int .i64 r.ti] 24))
  have HU := hide' (up47 11 k)
  rw [up_11] at HU
  have HW : Hid (wrap64 c = c) := by show wrap64 c = c; unfold wrap64; omega
  clear h0 h1
  have HQ : Hid (isB r k c = (decide (0 ≤ k) && decide (k < 12) && !(c == 0) && (r.cc k.toNat == c))) := rfl
  obtain ⟨q, hq⟩ : ∃ q, q = isB r k c := ⟨_, rfl⟩
  rw [← hq] at HQ ⊢
  clear hq
  go_enter Try.func67, Try.ntmps67
  go_upto_region 1 with fail
  obtain ⟨W, hW⟩ : ∃ W, W = w.alloc (.cells #[.int .i64 r.fi, .int .i64 r.fo, .int .i64 r.fl, .int .i64 r.k0, .int .i64 r.k1, .int .i64 r.k2, .int .i64 r.k3, .int .i64 r.k4, .int .i64 r.k5, .int .i64 r.k6, .int .i64 r.k7, .int .i64 r.k8, .int .i64 r.k9, .int .i64 r.k10, .int .i64 r.k11, .int .i64 r.mn, .int .i64 r.ti] 24) := ⟨_, rfl⟩
  obtain ⟨b, hb⟩ : ∃ b, b = w.heap.size := ⟨_, rfl⟩
  rw [← hW] at HX HS ⊢
  rw [← hb] at HX ⊢
  clear hW hb
  by_cases hk : 0 ≤ k
  rotate_left
  · have d0 : decide (0 ≤ k) = false := by simpa using hk
    rw [d0, Bool.false_and] at HU
    clear hk
    go_wp2_with fail
    refine (HU.out _).mono ?_
    rintro e w3 ⟨rfl, hs⟩
    have HS5 := hide' (HS.out.trans hs)
    have HX5 := hide' (HX.out.keep hs)
    clear hs HS HX
    have HS := HS5
    have HX := HX5
    clear HS5 HX5
    go_wp2
    go_ret
    exact ⟨ret_bool (by rw [HQ.out]; simp [*]), HS.out⟩
  by_cases hk2 : k < 12
  rotate_left
  · have d0 : decide (0 ≤ k) = true := by simpa using hk
    have d1 : decide (k < 12) = false := by simpa using hk2
    rw [d0, d1, Bool.true_and] at HU
    clear hk hk2
    go_wp2_with fail
    refine (HU.out _).mono ?_
    rintro e w3 ⟨rfl, hs⟩
    have HS5 := hide' (HS.out.trans hs)
    have HX5 := hide' (HX.out.keep hs)
    clear hs HS HX
    have HS := HS5
    have HX := HX5
    clear HS5 HX5
    go_wp2
    go_ret
    exact ⟨ret_bool (by rw [HQ.out]; simp [*]), HS.out⟩
  obtain ⟨j, rfl⟩ := Int.eq_ofNat_of_zero_le hk
  have hj : j < 12 := by omega
  have d0 : decide (0 ≤ (j : Int)) = true := by simp
  have d1 : decide ((j : Int) < 12) = true := by simp; omega
  rw [d0, d1, Bool.true_and] at HU
  have HJ : Hid (r.cc (j : Int).toNat = r.cc j) := rfl
  go_wp2_with fail
  refine (HU.out _).mono ?_
  rintro e w3 ⟨rfl, hs⟩
  have HS5 := hide' (HS.out.trans hs)
  have HX5 := hide' (HX.out.keep hs)
  clear hs HS HX
  have HS := HS5
  have HX := HX5
  clear HS5 HX5
  by_cases hc : c = 0
  · subst hc
    have HQ2 : Hid (q = false) := by show q = false; rw [HQ.out]; simp
    clear HQ
    go_wp2
    go_ret
    exact ⟨ret_bool (by rw [HQ2.out]), HS.out⟩
  · have e2 : (c == 0) = false := by simpa using hc
    have hcell := HX.out.cc hj
    have HQ2 : Hid (q = (r.cc j == c)) := by show q = (r.cc j == c); rw [HQ.out, HJ.out, d0, d1, e2]; simp
    clear HQ e2
    obtain ⟨x, hx⟩ : ∃ x, x = r.cc j := ⟨_, rfl⟩
    rw [← hx] at hcell HQ2
    clear hx HJ
    go_wp2
    rw [HW.out]
    go_ret
    exact ⟨ret_bool (by rw [HQ2.out]; simp [hc]), HS.out⟩

set_option maxHeartbeats 2000000 in
theorem is50 (r : Tm) (k c : Int) (w : World) : Calls Try.prog 50 #[.agg #[.int .i64 r.fi, .int .i64 r.fo, .int .i64 r.fl, .int .i64 r.k0, .int .i64 r.k1, .int .i64 r.k2, .int .i64 r.k3, .int .i64 r.k4, .int .i64 r.k5, .int .i64 r.k6, .int .i64 r.k7, .int .i64 r.k8, .int .i64 r.k9, .int .i64 r.k10, .int .i64 r.k11, .int .i64 r.mn, .int .i64 r.ti], .int .i64 k, .int .i64 c] w (Gives (.bool (isB r k c)) w) := by
  have HX := hide' (TBox.new (w := w) r rfl)
  have HS := hide' ((Stay.refl (fun _ => False) w).alloc (.cells #[.int .i64 r.fi, .int .i64 r.fo, .int .i64 r.fl, .int .i64 r.k0, .int .i64 r.k1, .int .i64 r.k2, .int .i64 r.k3, .int .i64 r.k4, .int .i64 r.k5, .int .i64 r.k6, .int .i64 r.k7, .int .i64 r.k8, .int .i64 r.k9, .int .i64 r.k10, .int .i64 r.k11, .int .i64 r.mn, .int .i64 r.ti] 24))
  have HQ : Hid (isB r k c = (decide (0 ≤ k) && decide (k < 12) && !(c == 0) && (r.cc k.toNat == c))) := rfl
  obtain ⟨q, hq⟩ : ∃ q, q = isB r k c := ⟨_, rfl⟩
  rw [← hq] at HQ ⊢
  clear hq
  go_enter Try.func50, Try.ntmps50
  go_upto_region 1 with fail
  obtain ⟨W, hW⟩ : ∃ W, W = w.alloc (.cells #[.int .i64 r.fi, .int .i64 r.fo, .int .i64 r.fl, .int .i64 r.k0, .int .i64 r.k1, .int .i64 r.k2, .int .i64 r.k3, .int .i64 r.k4, .int .i64 r.k5, .int .i64 r.k6, .int .i64 r.k7, .int .i64 r.k8, .int .i64 r.k9, .int .i64 r.k10, .int .i64 r.k11, .int .i64 r.mn, .int .i64 r.ti] 24) := ⟨_, rfl⟩
  obtain ⟨b, hb⟩ : ∃ b, b = w.heap.size := ⟨_, rfl⟩
  rw [← hW] at HX HS ⊢
  rw [← hb] at HX ⊢
  clear hW hb
  by_cases hk : 0 ≤ k
  rotate_left
  · have d0 : decide (0 ≤ k) = false := by simpa using hk
    skip
    clear hk
    go_wp2
    go_ret
    exact ⟨ret_bool (by rw [HQ.out]; simp [*]), HS.out⟩
  by_cases hk2 : k < 12
  rotate_left
  · have d0 : decide (0 ≤ k) = true := by simpa using hk
    have d1 : decide (k < 12) = false := by simpa using hk2
    skip
    clear hk hk2
    go_wp2
    go_ret
    exact ⟨ret_bool (by rw [HQ.out]; simp [*]), HS.out⟩
  obtain ⟨j, rfl⟩ := Int.eq_ofNat_of_zero_le hk
  have hj : j < 12 := by omega
  have d0 : decide (0 ≤ (j : Int)) = true := by simp
  have d1 : decide ((j : Int) < 12) = true := by simp; omega
  skip
  have HJ : Hid (r.cc (j : Int).toNat = r.cc j) := rfl
  by_cases hc : c = 0
  · subst hc
    have HQ2 : Hid (q = false) := by show q = false; rw [HQ.out]; simp
    clear HQ
    go_wp2
    go_ret
    exact ⟨ret_bool (by rw [HQ2.out]), HS.out⟩
  · have e2 : (c == 0) = false := by simpa using hc
    have hcell := HX.out.cc hj
    have HQ2 : Hid (q = (r.cc j == c)) := by show q = (r.cc j == c); rw [HQ.out, HJ.out, d0, d1, e2]; simp
    clear HQ e2
    obtain ⟨x, hx⟩ : ∃ x, x = r.cc j := ⟨_, rfl⟩
    rw [← hx] at hcell HQ2
    clear hx HJ
    go_wp2
    skip
    go_ret
    exact ⟨ret_bool (by rw [HQ2.out]; simp [hc]), HS.out⟩

end Go.Proofs.Ytkggmjjjopfdbaa.L17
