/-
  Whether a setting is right by the document: walked. No conditions.
-/
import Derived.Test.YtkggmjjjopfdbaaL17C1
namespace Go.Proofs.Ytkggmjjjopfdbaa.L17
open Go.RowKit

set_option maxHeartbeats 2000000 in
theorem right11 (r : Tm) (w : World) : Calls Try.prog 11 #[.agg #[.int .i64 r.fi, .int .i64 r.fo, .int .i64 r.fl, .int .i64 r.k0, .int .i64 r.k1, .int .i64 r.k2, .int .i64 r.k3, .int .i64 r.k4, .int .i64 r.k5, .int .i64 r.k6, .int .i64 r.k7, .int .i64 r.k8, .int .i64 r.k9, .int .i64 r.k10, .int .i64 r.k11, .int .i64 r.mn, .int .i64 r.ti]] w (Gives (.bool (rightB r)) w) := by
  have HX := hide' (TBox.new (w := w) r rfl)
  have HS := hide' ((Stay.refl (fun _ => False) w).alloc (.cells #[.int .i64 r.fi, .int .i64 r.fo, .int .i64 r.fl, .int .i64 r.k0, .int .i64 r.k1, .int .i64 r.k2, .int .i64 r.k3, .int .i64 r.k4, .int .i64 r.k5, .int .i64 r.k6, .int .i64 r.k7, .int .i64 r.k8, .int .i64 r.k9, .int .i64 r.k10, .int .i64 r.k11, .int .i64 r.mn, .int .i64 r.ti] 24))
  have HF := hide' (ccB_false r 12)
  have HR := hide' (rightB_parts r)
  obtain ⟨q, hq⟩ : ∃ q, q = rightB r := ⟨_, rfl⟩
  have HQ : Hid (ccB r 12 = false → q = false) := fun h => by rw [hq]; unfold rightB; rw [h]; rfl
  rw [← hq] at HR ⊢
  clear hq
  go_enter Try.func11, Try.ntmps11
  go_upto_region 1 with fail
  obtain ⟨W, hW⟩ : ∃ W, W = w.alloc (.cells #[.int .i64 r.fi, .int .i64 r.fo, .int .i64 r.fl, .int .i64 r.k0, .int .i64 r.k1, .int .i64 r.k2, .int .i64 r.k3, .int .i64 r.k4, .int .i64 r.k5, .int .i64 r.k6, .int .i64 r.k7, .int .i64 r.k8, .int .i64 r.k9, .int .i64 r.k10, .int .i64 r.k11, .int .i64 r.mn, .int .i64 r.ti] 24) := ⟨_, rfl⟩
  obtain ⟨b, hb⟩ : ∃ b, b = w.heap.size := ⟨_, rfl⟩
  rw [← hW] at HX HS ⊢
  rw [← hb] at HX ⊢
  clear hW hb
  go_wp2
  go_loopg [3] 12 (fun gg v3 wr => ∃ k : Nat, k ≤ 12 ∧ gg = 12 - k ∧ v3 = .int .i64 (k : Int) ∧ Hid (ccB r k = true ∧ Stay (fun _ => False) W wr))
  case atStart => exact ⟨0, Nat.zero_le _, rfl, rfl, rfl, Stay.refl _ _⟩
  case round =>
    obtain ⟨k, hk, rfl, rfl, HR2⟩ := hrel
    by_cases hlt : k < 12
    · have kn : (k : Int) < 12 := by omega
      have hcell := (HX.out.keep HR2.out.2).cc hlt
      have HF2 := hide' (HF.out k hlt)
      have HE : Hid (upB 255 (r.cc k) = (decide (0 ≤ r.cc k) && decide (r.cc k ≤ 255))) := rfl
      obtain ⟨x, hx⟩ : ∃ x, x = r.cc k := ⟨_, rfl⟩
      have HX5 := hide' hx
      rw [← hx] at HE HF2 hcell
      clear hx
      by_cases d0 : x < 0
      · have HU : Hid (upB 255 x = false) := by rw [HE.out]; simp; intro _; omega
        have HS3 := hide' (HS.out.trans HR2.out.2)
        go_wp2
        go_ret
        exact ⟨ret_bool (HQ.out (HF2.out HU.out)).symm, HS3.out⟩
      · by_cases d1 : 255 < x
        · have HU : Hid (upB 255 x = false) := by rw [HE.out]; simp; intro _; omega
          have HS3 := hide' (HS.out.trans HR2.out.2)
          go_wp2
          go_ret
          exact ⟨ret_bool (HQ.out (HF2.out HU.out)).symm, HS3.out⟩
        · have HN : Hid (ccB r (k + 1) = true ∧ Stay (fun _ => False) W wr) := by
            refine ⟨?_, HR2.out.2⟩
            show (ccB r k && upB 255 (r.cc k)) = true
            rw [HR2.out.1, ← HX5.out, HE.out]; simp; omega
          clear HR2
          go_wp2
          go_roundg (12 - (k + 1))
          case measure => omega
          case rel => exact ⟨k + 1, by omega, rfl, by go_num, HN⟩
    · have e : k = 12 := by omega
      subst e
      have HS4 := hide' (HS.out.trans HR2.out.2)
      have HX4 := hide' (HX.out.keep HR2.out.2)
      have HQ4 := hide' (HR.out HR2.out.1)
      clear HS HX HR HQ HF hlt HR2
      obtain ⟨c0, c1, c2, c3, c4, c5, c6, c7, c8, c9, c10, c11, c12, c13, c14, c15, c16, _⟩ := HX4.out
      by_cases pfi : 0 ≤ r.fi
      rotate_left
      · have dpfi : decide (0 ≤ r.fi) = false := by simpa using pfi
        clear pfi
        go_wp2
        go_ret
        exact ⟨ret_bool (by rw [HQ4.out]; simp [upB, *]), HS4.out⟩
      have dpfi : decide (0 ≤ r.fi) = true := by simpa using pfi
      clear pfi
      by_cases qfi : r.fi ≤ 127
      rotate_left
      · have dqfi : decide (r.fi ≤ 127) = false := by simpa using qfi
        clear qfi
        go_wp2
        go_ret
        exact ⟨ret_bool (by rw [HQ4.out]; simp [upB, *]), HS4.out⟩
      have dqfi : decide (r.fi ≤ 127) = true := by simpa using qfi
      clear qfi
      by_cases pfo : 0 ≤ r.fo
      rotate_left
      · have dpfo : decide (0 ≤ r.fo) = false := by simpa using pfo
        clear pfo
        go_wp2
        go_ret
        exact ⟨ret_bool (by rw [HQ4.out]; simp [upB, *]), HS4.out⟩
      have dpfo : decide (0 ≤ r.fo) = true := by simpa using pfo
      clear pfo
      by_cases qfo : r.fo ≤ 63
      rotate_left
      · have dqfo : decide (r.fo ≤ 63) = false := by simpa using qfo
        clear qfo
        go_wp2
        go_ret
        exact ⟨ret_bool (by rw [HQ4.out]; simp [upB, *]), HS4.out⟩
      have dqfo : decide (r.fo ≤ 63) = true := by simpa using qfo
      clear qfo
      by_cases pfl : 0 ≤ r.fl
      rotate_left
      · have dpfl : decide (0 ≤ r.fl) = false := by simpa using pfl
        clear pfl
        go_wp2
        go_ret
        exact ⟨ret_bool (by rw [HQ4.out]; simp [upB, *]), HS4.out⟩
      have dpfl : decide (0 ≤ r.fl) = true := by simpa using pfl
      clear pfl
      by_cases qfl : r.fl ≤ 1023
      rotate_left
      · have dqfl : decide (r.fl ≤ 1023) = false := by simpa using qfl
        clear qfl
        go_wp2
        go_ret
        exact ⟨ret_bool (by rw [HQ4.out]; simp [upB, *]), HS4.out⟩
      have dqfl : decide (r.fl ≤ 1023) = true := by simpa using qfl
      clear qfl
      by_cases pmn : 0 ≤ r.mn
      rotate_left
      · have dpmn : decide (0 ≤ r.mn) = false := by simpa using pmn
        clear pmn
        go_wp2
        go_ret
        exact ⟨ret_bool (by rw [HQ4.out]; simp [upB, *]), HS4.out⟩
      have dpmn : decide (0 ≤ r.mn) = true := by simpa using pmn
      clear pmn
      by_cases qmn : r.mn ≤ 255
      rotate_left
      · have dqmn : decide (r.mn ≤ 255) = false := by simpa using qmn
        clear qmn
        go_wp2
        go_ret
        exact ⟨ret_bool (by rw [HQ4.out]; simp [upB, *]), HS4.out⟩
      have dqmn : decide (r.mn ≤ 255) = true := by simpa using qmn
      clear qmn
      by_cases pti : 0 ≤ r.ti
      rotate_left
      · have dpti : decide (0 ≤ r.ti) = false := by simpa using pti
        clear pti
        go_wp2
        go_ret
        exact ⟨ret_bool (by rw [HQ4.out]; simp [upB, *]), HS4.out⟩
      have dpti : decide (0 ≤ r.ti) = true := by simpa using pti
      clear pti
      by_cases qti : r.ti ≤ 255
      rotate_left
      · have dqti : decide (r.ti ≤ 255) = false := by simpa using qti
        clear qti
        go_wp2
        go_ret
        exact ⟨ret_bool (by rw [HQ4.out]; simp [upB, *]), HS4.out⟩
      have dqti : decide (r.ti ≤ 255) = true := by simpa using qti
      clear qti
      go_wp2
      go_ret
      exact ⟨ret_bool (by rw [HQ4.out]; simp [upB, *]), HS4.out⟩

end Go.Proofs.Ytkggmjjjopfdbaa.L17
