/-
  Whether a setting is right: the program and the document, walked. No conditions.
-/
import Derived.Test.YtkggmjjjopfdbaaL17C0
namespace Go.Proofs.Ytkggmjjjopfdbaa.L17
open Go.RowKit

theorem ccB_false (r : Tm) : ∀ n k : Nat, k < n → upB 255 (r.cc k) = false → ccB r n = false := by
  intro n
  induction n with
  | zero => intro k h _; omega
  | succ n ih =>
    intro k h hu
    unfold ccB
    by_cases e : k = n
    · subst e; rw [hu]; simp
    · rw [ih k (by omega) hu]; simp

theorem index22 (r : Tm) (k : Nat) (hk : k < 12) (w : World) : (Instr.index 22 (.agg #[.int .i64 r.k0, .int .i64 r.k1, .int .i64 r.k2, .int .i64 r.k3, .int .i64 r.k4, .int .i64 r.k5, .int .i64 r.k6, .int .i64 r.k7, .int .i64 r.k8, .int .i64 r.k9, .int .i64 r.k10, .int .i64 r.k11]) (.int .i64 (k : Int))).run Try.prog w = .ok (.int .i64 (r.cc k)) w := by
  have : k = 0 ∨ k = 1 ∨ k = 2 ∨ k = 3 ∨ k = 4 ∨ k = 5 ∨ k = 6 ∨ k = 7 ∨ k = 8 ∨ k = 9 ∨ k = 10 ∨ k = 11 := by omega
  rcases this with rfl | rfl | rfl | rfl | rfl | rfl | rfl | rfl | rfl | rfl | rfl | rfl <;> rfl

theorem rightB_parts (r : Tm) (h : ccB r 12 = true) : rightB r = (upB 127 r.fi && upB 63 r.fo && upB 1023 r.fl && upB 255 r.mn && upB 255 r.ti) := by
  unfold rightB; rw [h]; rfl

set_option maxHeartbeats 2000000 in
theorem right29 (r : Tm) (w : World) : Calls Try.prog 29 #[.agg #[.int .i64 r.fi, .int .i64 r.fo, .int .i64 r.fl, .int .i64 r.k0, .int .i64 r.k1, .int .i64 r.k2, .int .i64 r.k3, .int .i64 r.k4, .int .i64 r.k5, .int .i64 r.k6, .int .i64 r.k7, .int .i64 r.k8, .int .i64 r.k9, .int .i64 r.k10, .int .i64 r.k11, .int .i64 r.mn, .int .i64 r.ti]] w (Gives (.bool (rightB r)) w) := by
  have HX := hide' (TBox.new (w := w) r rfl)
  have HS := hide' ((Stay.refl (fun _ => False) w).alloc (.cells #[.int .i64 r.fi, .int .i64 r.fo, .int .i64 r.fl, .int .i64 r.k0, .int .i64 r.k1, .int .i64 r.k2, .int .i64 r.k3, .int .i64 r.k4, .int .i64 r.k5, .int .i64 r.k6, .int .i64 r.k7, .int .i64 r.k8, .int .i64 r.k9, .int .i64 r.k10, .int .i64 r.k11, .int .i64 r.mn, .int .i64 r.ti] 24))
  have HU := hide' up47
  have HI := hide' (index22 r)
  have HF := hide' (ccB_false r 12)
  have HR := hide' (rightB_parts r)
  obtain ⟨q, hq⟩ : ∃ q, q = rightB r := ⟨_, rfl⟩
  have HQ : Hid (ccB r 12 = false → q = false) := fun h => by rw [hq]; unfold rightB; rw [h]; rfl
  rw [← hq] at HR ⊢
  clear hq
  go_enter Try.func29, Try.ntmps29
  go_upto_region 1 with fail
  obtain ⟨W, hW⟩ : ∃ W, W = w.alloc (.cells #[.int .i64 r.fi, .int .i64 r.fo, .int .i64 r.fl, .int .i64 r.k0, .int .i64 r.k1, .int .i64 r.k2, .int .i64 r.k3, .int .i64 r.k4, .int .i64 r.k5, .int .i64 r.k6, .int .i64 r.k7, .int .i64 r.k8, .int .i64 r.k9, .int .i64 r.k10, .int .i64 r.k11, .int .i64 r.mn, .int .i64 r.ti] 24) := ⟨_, rfl⟩
  obtain ⟨b, hb⟩ : ∃ b, b = w.heap.size := ⟨_, rfl⟩
  rw [← hW] at HX HS ⊢
  rw [← hb] at HX ⊢
  clear hW hb
  obtain ⟨c0, c1, c2, c3, c4, c5, c6, c7, c8, c9, c10, c11, c12, c13, c14, c15, c16, _⟩ := HX.out
  go_wp2
  clear c0 c1 c2 c3 c4 c5 c6 c7 c8 c9 c10 c11 c12 c13 c14 c15 c16
  go_loopg [7] 12 (fun gg v7 wr => ∃ k : Nat, k ≤ 12 ∧ gg = 12 - k ∧ v7 = .int .i64 (k : Int) ∧ Hid (ccB r k = true ∧ Stay (fun _ => False) W wr))
  case atStart => exact ⟨0, Nat.zero_le _, rfl, rfl, rfl, Stay.refl _ _⟩
  case round =>
    obtain ⟨k, hk, rfl, rfl, HR2⟩ := hrel
    by_cases hlt : k < 12
    · have kn : (k : Int) < 12 := by omega
      have hix := HI.out k hlt wr
      obtain ⟨u, hu⟩ : ∃ u, u = upB 255 (r.cc k) := ⟨_, rfl⟩
      have HV := hide' (HU.out 255 (r.cc k))
      have HF2 := hide' (HF.out k hlt)
      rw [← hu] at HV HF2
      have HE := hide' hu
      clear hu
      cases u
      · clear HR
        go_wp2_with fail
        refine (HV.out _).mono ?_
        rintro e w3 ⟨rfl, hs⟩
        have HS3 := hide' (HS.out.trans (HR2.out.2.trans hs))
        clear hs
        go_wp2
        go_ret
        exact ⟨ret_bool (HQ.out (HF2.out (by first | rfl | trivial))).symm, HS3.out⟩
      · go_wp2_with fail
        refine (HV.out _).mono ?_
        rintro e w3 ⟨rfl, hs⟩
        have HN : Hid (ccB r (k + 1) = true ∧ Stay (fun _ => False) W w3) := by
          refine ⟨?_, HR2.out.2.trans hs⟩
          show (ccB r k && upB 255 (r.cc k)) = true
          rw [HR2.out.1, ← HE.out]; rfl
        clear hs HR2
        go_wp2
        go_roundg (12 - (k + 1))
        case measure => omega
        case rel => exact ⟨k + 1, by omega, rfl, by go_num, HN⟩
    · have e : k = 12 := by omega
      subst e
      have HS4 := hide' (HS.out.trans HR2.out.2)
      have HX4 := hide' (HX.out.keep HR2.out.2)
      have HQ4 := hide' (HR.out HR2.out.1)
      clear HS HX HR HQ HF HI hlt HR2
      obtain ⟨c0, c1, c2, c3, c4, c5, c6, c7, c8, c9, c10, c11, c12, c13, c14, c15, c16, _⟩ := HX4.out
      have H1 := hide' (HU.out 127 r.fi)
      have H2 := hide' (HU.out 63 r.fo)
      have H3 := hide' (HU.out 1023 r.fl)
      have H4 := hide' (HU.out 255 r.mn)
      have H5 := hide' (HU.out 255 r.ti)
      obtain ⟨b1, hb1⟩ : ∃ b, b = upB 127 r.fi := ⟨_, rfl⟩
      obtain ⟨b2, hb2⟩ : ∃ b, b = upB 63 r.fo := ⟨_, rfl⟩
      obtain ⟨b3, hb3⟩ : ∃ b, b = upB 1023 r.fl := ⟨_, rfl⟩
      obtain ⟨b4, hb4⟩ : ∃ b, b = upB 255 r.mn := ⟨_, rfl⟩
      obtain ⟨b5, hb5⟩ : ∃ b, b = upB 255 r.ti := ⟨_, rfl⟩
      rw [← hb1, ← hb2, ← hb3, ← hb4, ← hb5] at HQ4
      rw [← hb1] at H1
      rw [← hb2] at H2
      rw [← hb3] at H3
      rw [← hb4] at H4
      rw [← hb5] at H5
      clear hb1 hb2 hb3 hb4 hb5 HU
      cases b1
      · go_wp2_with fail
        refine (H1.out _).mono ?_
        rintro e w3 ⟨rfl, hs⟩
        have HS5 := hide' (HS4.out.trans hs)
        have HX5 := hide' (HX4.out.keep hs)
        clear hs HS4 HX4 c0 c1 c2 c3 c4 c5 c6 c7 c8 c9 c10 c11 c12 c13 c14 c15 c16
        have HS4 := HS5
        have HX4 := HX5
        clear HS5 HX5
        obtain ⟨c0, c1, c2, c3, c4, c5, c6, c7, c8, c9, c10, c11, c12, c13, c14, c15, c16, _⟩ := HX4.out
        go_wp2
        go_ret
        exact ⟨ret_bool HQ4.out.symm, HS4.out⟩
      cases b2
      · go_wp2_with fail
        refine (H1.out _).mono ?_
        rintro e w3 ⟨rfl, hs⟩
        have HS5 := hide' (HS4.out.trans hs)
        have HX5 := hide' (HX4.out.keep hs)
        clear hs HS4 HX4 c0 c1 c2 c3 c4 c5 c6 c7 c8 c9 c10 c11 c12 c13 c14 c15 c16
        have HS4 := HS5
        have HX4 := HX5
        clear HS5 HX5
        obtain ⟨c0, c1, c2, c3, c4, c5, c6, c7, c8, c9, c10, c11, c12, c13, c14, c15, c16, _⟩ := HX4.out
        go_wp2_with fail
        refine (H2.out _).mono ?_
        rintro e w3 ⟨rfl, hs⟩
        have HS5 := hide' (HS4.out.trans hs)
        have HX5 := hide' (HX4.out.keep hs)
        clear hs HS4 HX4 c0 c1 c2 c3 c4 c5 c6 c7 c8 c9 c10 c11 c12 c13 c14 c15 c16
        have HS4 := HS5
        have HX4 := HX5
        clear HS5 HX5
        obtain ⟨c0, c1, c2, c3, c4, c5, c6, c7, c8, c9, c10, c11, c12, c13, c14, c15, c16, _⟩ := HX4.out
        go_wp2
        go_ret
        exact ⟨ret_bool HQ4.out.symm, HS4.out⟩
      cases b3
      · go_wp2_with fail
        refine (H1.out _).mono ?_
        rintro e w3 ⟨rfl, hs⟩
        have HS5 := hide' (HS4.out.trans hs)
        have HX5 := hide' (HX4.out.keep hs)
        clear hs HS4 HX4 c0 c1 c2 c3 c4 c5 c6 c7 c8 c9 c10 c11 c12 c13 c14 c15 c16
        have HS4 := HS5
        have HX4 := HX5
        clear HS5 HX5
        obtain ⟨c0, c1, c2, c3, c4, c5, c6, c7, c8, c9, c10, c11, c12, c13, c14, c15, c16, _⟩ := HX4.out
        go_wp2_with fail
        refine (H2.out _).mono ?_
        rintro e w3 ⟨rfl, hs⟩
        have HS5 := hide' (HS4.out.trans hs)
        have HX5 := hide' (HX4.out.keep hs)
        clear hs HS4 HX4 c0 c1 c2 c3 c4 c5 c6 c7 c8 c9 c10 c11 c12 c13 c14 c15 c16
        have HS4 := HS5
        have HX4 := HX5
        clear HS5 HX5
        obtain ⟨c0, c1, c2, c3, c4, c5, c6, c7, c8, c9, c10, c11, c12, c13, c14, c15, c16, _⟩ := HX4.out
        go_wp2_with fail
        refine (H3.out _).mono ?_
        rintro e w3 ⟨rfl, hs⟩
        have HS5 := hide' (HS4.out.trans hs)
        have HX5 := hide' (HX4.out.keep hs)
        clear hs HS4 HX4 c0 c1 c2 c3 c4 c5 c6 c7 c8 c9 c10 c11 c12 c13 c14 c15 c16
        have HS4 := HS5
        have HX4 := HX5
        clear HS5 HX5
        obtain ⟨c0, c1, c2, c3, c4, c5, c6, c7, c8, c9, c10, c11, c12, c13, c14, c15, c16, _⟩ := HX4.out
        go_wp2
        go_ret
        exact ⟨ret_bool HQ4.out.symm, HS4.out⟩
      cases b4
      · go_wp2_with fail
        refine (H1.out _).mono ?_
        rintro e w3 ⟨rfl, hs⟩
        have HS5 := hide' (HS4.out.trans hs)
        have HX5 := hide' (HX4.out.keep hs)
        clear hs HS4 HX4 c0 c1 c2 c3 c4 c5 c6 c7 c8 c9 c10 c11 c12 c13 c14 c15 c16
        have HS4 := HS5
        have HX4 := HX5
        clear HS5 HX5
        obtain ⟨c0, c1, c2, c3, c4, c5, c6, c7, c8, c9, c10, c11, c12, c13, c14, c15, c16, _⟩ := HX4.out
        go_wp2_with fail
        refine (H2.out _).mono ?_
        rintro e w3 ⟨rfl, hs⟩
        have HS5 := hide' (HS4.out.trans hs)
        have HX5 := hide' (HX4.out.keep hs)
        clear hs HS4 HX4 c0 c1 c2 c3 c4 c5 c6 c7 c8 c9 c10 c11 c12 c13 c14 c15 c16
        have HS4 := HS5
        have HX4 := HX5
        clear HS5 HX5
        obtain ⟨c0, c1, c2, c3, c4, c5, c6, c7, c8, c9, c10, c11, c12, c13, c14, c15, c16, _⟩ := HX4.out
        go_wp2_with fail
        refine (H3.out _).mono ?_
        rintro e w3 ⟨rfl, hs⟩
        have HS5 := hide' (HS4.out.trans hs)
        have HX5 := hide' (HX4.out.keep hs)
        clear hs HS4 HX4 c0 c1 c2 c3 c4 c5 c6 c7 c8 c9 c10 c11 c12 c13 c14 c15 c16
        have HS4 := HS5
        have HX4 := HX5
        clear HS5 HX5
        obtain ⟨c0, c1, c2, c3, c4, c5, c6, c7, c8, c9, c10, c11, c12, c13, c14, c15, c16, _⟩ := HX4.out
        go_wp2_with fail
        refine (H4.out _).mono ?_
        rintro e w3 ⟨rfl, hs⟩
        have HS5 := hide' (HS4.out.trans hs)
        have HX5 := hide' (HX4.out.keep hs)
        clear hs HS4 HX4 c0 c1 c2 c3 c4 c5 c6 c7 c8 c9 c10 c11 c12 c13 c14 c15 c16
        have HS4 := HS5
        have HX4 := HX5
        clear HS5 HX5
        obtain ⟨c0, c1, c2, c3, c4, c5, c6, c7, c8, c9, c10, c11, c12, c13, c14, c15, c16, _⟩ := HX4.out
        go_wp2
        go_ret
        exact ⟨ret_bool HQ4.out.symm, HS4.out⟩
      cases b5
      · go_wp2_with fail
        refine (H1.out _).mono ?_
        rintro e w3 ⟨rfl, hs⟩
        have HS5 := hide' (HS4.out.trans hs)
        have HX5 := hide' (HX4.out.keep hs)
        clear hs HS4 HX4 c0 c1 c2 c3 c4 c5 c6 c7 c8 c9 c10 c11 c12 c13 c14 c15 c16
        have HS4 := HS5
        have HX4 := HX5
        clear HS5 HX5
        obtain ⟨c0, c1, c2, c3, c4, c5, c6, c7, c8, c9, c10, c11, c12, c13, c14, c15, c16, _⟩ := HX4.out
        go_wp2_with fail
        refine (H2.out _).mono ?_
        rintro e w3 ⟨rfl, hs⟩
        have HS5 := hide' (HS4.out.trans hs)
        have HX5 := hide' (HX4.out.keep hs)
        clear hs HS4 HX4 c0 c1 c2 c3 c4 c5 c6 c7 c8 c9 c10 c11 c12 c13 c14 c15 c16
        have HS4 := HS5
        have HX4 := HX5
        clear HS5 HX5
        obtain ⟨c0, c1, c2, c3, c4, c5, c6, c7, c8, c9, c10, c11, c12, c13, c14, c15, c16, _⟩ := HX4.out
        go_wp2_with fail
        refine (H3.out _).mono ?_
        rintro e w3 ⟨rfl, hs⟩
        have HS5 := hide' (HS4.out.trans hs)
        have HX5 := hide' (HX4.out.keep hs)
        clear hs HS4 HX4 c0 c1 c2 c3 c4 c5 c6 c7 c8 c9 c10 c11 c12 c13 c14 c15 c16
        have HS4 := HS5
        have HX4 := HX5
        clear HS5 HX5
        obtain ⟨c0, c1, c2, c3, c4, c5, c6, c7, c8, c9, c10, c11, c12, c13, c14, c15, c16, _⟩ := HX4.out
        go_wp2_with fail
        refine (H4.out _).mono ?_
        rintro e w3 ⟨rfl, hs⟩
        have HS5 := hide' (HS4.out.trans hs)
        have HX5 := hide' (HX4.out.keep hs)
        clear hs HS4 HX4 c0 c1 c2 c3 c4 c5 c6 c7 c8 c9 c10 c11 c12 c13 c14 c15 c16
        have HS4 := HS5
        have HX4 := HX5
        clear HS5 HX5
        obtain ⟨c0, c1, c2, c3, c4, c5, c6, c7, c8, c9, c10, c11, c12, c13, c14, c15, c16, _⟩ := HX4.out
        go_wp2_with fail
        refine (H5.out _).mono ?_
        rintro e w3 ⟨rfl, hs⟩
        have HS5 := hide' (HS4.out.trans hs)
        have HX5 := hide' (HX4.out.keep hs)
        clear hs HS4 HX4 c0 c1 c2 c3 c4 c5 c6 c7 c8 c9 c10 c11 c12 c13 c14 c15 c16
        have HS4 := HS5
        have HX4 := HX5
        clear HS5 HX5
        obtain ⟨c0, c1, c2, c3, c4, c5, c6, c7, c8, c9, c10, c11, c12, c13, c14, c15, c16, _⟩ := HX4.out
        go_wp2
        go_ret
        exact ⟨ret_bool HQ4.out.symm, HS4.out⟩
      go_wp2_with fail
      refine (H1.out _).mono ?_
      rintro e w3 ⟨rfl, hs⟩
      have HS5 := hide' (HS4.out.trans hs)
      have HX5 := hide' (HX4.out.keep hs)
      clear hs HS4 HX4 c0 c1 c2 c3 c4 c5 c6 c7 c8 c9 c10 c11 c12 c13 c14 c15 c16
      have HS4 := HS5
      have HX4 := HX5
      clear HS5 HX5
      obtain ⟨c0, c1, c2, c3, c4, c5, c6, c7, c8, c9, c10, c11, c12, c13, c14, c15, c16, _⟩ := HX4.out
      go_wp2_with fail
      refine (H2.out _).mono ?_
      rintro e w3 ⟨rfl, hs⟩
      have HS5 := hide' (HS4.out.trans hs)
      have HX5 := hide' (HX4.out.keep hs)
      clear hs HS4 HX4 c0 c1 c2 c3 c4 c5 c6 c7 c8 c9 c10 c11 c12 c13 c14 c15 c16
      have HS4 := HS5
      have HX4 := HX5
      clear HS5 HX5
      obtain ⟨c0, c1, c2, c3, c4, c5, c6, c7, c8, c9, c10, c11, c12, c13, c14, c15, c16, _⟩ := HX4.out
      go_wp2_with fail
      refine (H3.out _).mono ?_
      rintro e w3 ⟨rfl, hs⟩
      have HS5 := hide' (HS4.out.trans hs)
      have HX5 := hide' (HX4.out.keep hs)
      clear hs HS4 HX4 c0 c1 c2 c3 c4 c5 c6 c7 c8 c9 c10 c11 c12 c13 c14 c15 c16
      have HS4 := HS5
      have HX4 := HX5
      clear HS5 HX5
      obtain ⟨c0, c1, c2, c3, c4, c5, c6, c7, c8, c9, c10, c11, c12, c13, c14, c15, c16, _⟩ := HX4.out
      go_wp2_with fail
      refine (H4.out _).mono ?_
      rintro e w3 ⟨rfl, hs⟩
      have HS5 := hide' (HS4.out.trans hs)
      have HX5 := hide' (HX4.out.keep hs)
      clear hs HS4 HX4 c0 c1 c2 c3 c4 c5 c6 c7 c8 c9 c10 c11 c12 c13 c14 c15 c16
      have HS4 := HS5
      have HX4 := HX5
      clear HS5 HX5
      obtain ⟨c0, c1, c2, c3, c4, c5, c6, c7, c8, c9, c10, c11, c12, c13, c14, c15, c16, _⟩ := HX4.out
      go_wp2_with fail
      refine (H5.out _).mono ?_
      rintro e w3 ⟨rfl, hs⟩
      have HS5 := hide' (HS4.out.trans hs)
      have HX5 := hide' (HX4.out.keep hs)
      clear hs HS4 HX4 c0 c1 c2 c3 c4 c5 c6 c7 c8 c9 c10 c11 c12 c13 c14 c15 c16
      have HS4 := HS5
      have HX4 := HX5
      clear HS5 HX5
      obtain ⟨c0, c1, c2, c3, c4, c5, c6, c7, c8, c9, c10, c11, c12, c13, c14, c15, c16, _⟩ := HX4.out
      go_wp2
      go_ret
      exact ⟨ret_bool HQ4.out.symm, HS4.out⟩

end Go.Proofs.Ytkggmjjjopfdbaa.L17
