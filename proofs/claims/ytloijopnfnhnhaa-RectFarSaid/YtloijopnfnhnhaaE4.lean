/-
  RectCells walked: true of any rectangles and numbers. No conditions.
-/
import Derived.Test.YtloijopnfnhnhaaE3
namespace Go.Proofs.Ytloijopnfnhnhaa
open Go.RowKit

set_option maxHeartbeats 4000000 in
set_option maxRecDepth 100000 in
theorem cells_any (a b : R) (x y : Int) (w : World) (ia : Ints64 a) (hx : I64 x) (hy : I64 y) : Calls Try.prog 4 #[.agg #[.int .i64 a.x, .int .i64 a.y, .int .i64 a.w, .int .i64 a.h], .agg #[.int .i64 b.x, .int .i64 b.y, .int .i64 b.w, .int .i64 b.h], .int .i64 x, .int .i64 y] w (LawTrue w) := by
  have HS := hide' (two_new a b w)
  have HA := hide' (refRight7 a)
  have HB := hide' (refRight7 b)
  by_cases ha : rightB a = true
  · rw [ha] at HA
    by_cases hb : rightB b = true
    · rw [hb] at HB
      by_cases b0 : x < -1099511627776
      · have e0 : decide (x < -1099511627776) = true := by simpa using b0
        clear b0 ha hb
        go_enter Try.func4, Try.ntmps4
        go_wp2_with fail
        refine (HA.out _).mono ?_
        rintro e wn ⟨rfl, hs⟩
        have HS2 := hide' (HS.out.keep hs)
        clear hs HS
        have HS := HS2
        clear HS2
        try clear ac0 ac1 ac2 ac3 bc0 bc1 bc2 bc3
        obtain ⟨_, ⟨ac0, ac1, ac2, ac3, _⟩, bc0, bc1, bc2, bc3, _⟩ := HS.out
        go_wp2_with fail
        refine (HB.out _).mono ?_
        rintro e wn ⟨rfl, hs⟩
        have HS2 := hide' (HS.out.keep hs)
        clear hs HS
        have HS := HS2
        clear HS2
        try clear ac0 ac1 ac2 ac3 bc0 bc1 bc2 bc3
        obtain ⟨_, ⟨ac0, ac1, ac2, ac3, _⟩, bc0, bc1, bc2, bc3, _⟩ := HS.out
        go_wp2_with fail
        refine (awake18 _).mono ?_
        rintro e wm ⟨rfl, hs⟩
        have HS2 := hide' (HS.out.keep hs)
        clear hs
        go_wp2
        go_ret
        exact ⟨rfl, HS2.out.1⟩
      have e0 : decide (x < -1099511627776) = false := by simpa using b0
      by_cases b1 : 1099511627776 < x
      · have e1 : decide (1099511627776 < x) = true := by simpa using b1
        clear b1 ha hb
        go_enter Try.func4, Try.ntmps4
        go_wp2_with fail
        refine (HA.out _).mono ?_
        rintro e wn ⟨rfl, hs⟩
        have HS2 := hide' (HS.out.keep hs)
        clear hs HS
        have HS := HS2
        clear HS2
        try clear ac0 ac1 ac2 ac3 bc0 bc1 bc2 bc3
        obtain ⟨_, ⟨ac0, ac1, ac2, ac3, _⟩, bc0, bc1, bc2, bc3, _⟩ := HS.out
        go_wp2_with fail
        refine (HB.out _).mono ?_
        rintro e wn ⟨rfl, hs⟩
        have HS2 := hide' (HS.out.keep hs)
        clear hs HS
        have HS := HS2
        clear HS2
        try clear ac0 ac1 ac2 ac3 bc0 bc1 bc2 bc3
        obtain ⟨_, ⟨ac0, ac1, ac2, ac3, _⟩, bc0, bc1, bc2, bc3, _⟩ := HS.out
        go_wp2_with fail
        refine (awake18 _).mono ?_
        rintro e wm ⟨rfl, hs⟩
        have HS2 := hide' (HS.out.keep hs)
        clear hs
        go_wp2
        go_ret
        exact ⟨rfl, HS2.out.1⟩
      have e1 : decide (1099511627776 < x) = false := by simpa using b1
      by_cases b2 : y < -1099511627776
      · have e2 : decide (y < -1099511627776) = true := by simpa using b2
        clear b2 ha hb
        go_enter Try.func4, Try.ntmps4
        go_wp2_with fail
        refine (HA.out _).mono ?_
        rintro e wn ⟨rfl, hs⟩
        have HS2 := hide' (HS.out.keep hs)
        clear hs HS
        have HS := HS2
        clear HS2
        try clear ac0 ac1 ac2 ac3 bc0 bc1 bc2 bc3
        obtain ⟨_, ⟨ac0, ac1, ac2, ac3, _⟩, bc0, bc1, bc2, bc3, _⟩ := HS.out
        go_wp2_with fail
        refine (HB.out _).mono ?_
        rintro e wn ⟨rfl, hs⟩
        have HS2 := hide' (HS.out.keep hs)
        clear hs HS
        have HS := HS2
        clear HS2
        try clear ac0 ac1 ac2 ac3 bc0 bc1 bc2 bc3
        obtain ⟨_, ⟨ac0, ac1, ac2, ac3, _⟩, bc0, bc1, bc2, bc3, _⟩ := HS.out
        go_wp2_with fail
        refine (awake18 _).mono ?_
        rintro e wm ⟨rfl, hs⟩
        have HS2 := hide' (HS.out.keep hs)
        clear hs
        go_wp2
        go_ret
        exact ⟨rfl, HS2.out.1⟩
      have e2 : decide (y < -1099511627776) = false := by simpa using b2
      by_cases b3 : 1099511627776 < y
      · have e3 : decide (1099511627776 < y) = true := by simpa using b3
        clear b3 ha hb
        go_enter Try.func4, Try.ntmps4
        go_wp2_with fail
        refine (HA.out _).mono ?_
        rintro e wn ⟨rfl, hs⟩
        have HS2 := hide' (HS.out.keep hs)
        clear hs HS
        have HS := HS2
        clear HS2
        try clear ac0 ac1 ac2 ac3 bc0 bc1 bc2 bc3
        obtain ⟨_, ⟨ac0, ac1, ac2, ac3, _⟩, bc0, bc1, bc2, bc3, _⟩ := HS.out
        go_wp2_with fail
        refine (HB.out _).mono ?_
        rintro e wn ⟨rfl, hs⟩
        have HS2 := hide' (HS.out.keep hs)
        clear hs HS
        have HS := HS2
        clear HS2
        try clear ac0 ac1 ac2 ac3 bc0 bc1 bc2 bc3
        obtain ⟨_, ⟨ac0, ac1, ac2, ac3, _⟩, bc0, bc1, bc2, bc3, _⟩ := HS.out
        go_wp2_with fail
        refine (awake18 _).mono ?_
        rintro e wm ⟨rfl, hs⟩
        have HS2 := hide' (HS.out.keep hs)
        clear hs
        go_wp2
        go_ret
        exact ⟨rfl, HS2.out.1⟩
      have e3 : decide (1099511627776 < y) = false := by simpa using b3
      have mx : Mid x := by unfold Mid; omega
      have my : Mid y := by unfold Mid; omega
      have HL := hide' (less16 a b)
      have H9 := hide' (both9 a b)
      have HTOT := hide' (count_all a b x y ha hb)
      have HI := hide' (less_i64 a b ha hb)
      have HLN := hide' (less_len a b)
      have ib := both_i64 a b ha hb
      have HIB := hide' (fun w => in19 (bothR a b) x y w ib.1 ib.2.1 ib.2.2.1 ib.2.2.2 hx hy)
      have HRA := hide' (fun w => refIn20 a x y w ha mx my)
      have HIA := hide' (fun w => in19 a x y w ia.1 ia.2.1 ia.2.2.1 ia.2.2.2 hx hy)
      have HX := hide' hx
      have HY := hide' hy
      obtain ⟨L, hL⟩ : ∃ L, L = lessL a b := ⟨_, rfl⟩
      rw [← hL] at HL HTOT HI HLN
      obtain ⟨q, hq⟩ : ∃ q, q = bothR a b := ⟨_, rfl⟩
      rw [← hq] at H9 HTOT HIB
      obtain ⟨ca, hca⟩ : ∃ c, c = inB a x y := ⟨_, rfl⟩
      rw [← hca] at HTOT HRA HIA
      obtain ⟨cb, hcb⟩ : ∃ c, c = inB q x y := ⟨_, rfl⟩
      rw [← hcb] at HTOT HIB
      clear hL hq hca hcb ib ia mx my b0 b1 b2 b3 ha hb hx hy
      go_enter Try.func4, Try.ntmps4
      go_wp2_with fail
      refine (HA.out _).mono ?_
      rintro e wn ⟨rfl, hs⟩
      have HS2 := hide' (HS.out.keep hs)
      clear hs HS
      have HS := HS2
      clear HS2
      try clear ac0 ac1 ac2 ac3 bc0 bc1 bc2 bc3
      obtain ⟨_, ⟨ac0, ac1, ac2, ac3, _⟩, bc0, bc1, bc2, bc3, _⟩ := HS.out
      go_wp2_with fail
      refine (HB.out _).mono ?_
      rintro e wn ⟨rfl, hs⟩
      have HS2 := hide' (HS.out.keep hs)
      clear hs HS
      have HS := HS2
      clear HS2
      try clear ac0 ac1 ac2 ac3 bc0 bc1 bc2 bc3
      obtain ⟨_, ⟨ac0, ac1, ac2, ac3, _⟩, bc0, bc1, bc2, bc3, _⟩ := HS.out
      go_wp2_with fail
      refine (HL.out _).mono ?_
      rintro e wl ⟨t, rfl, hr, hs⟩
      have HR := hide' hr
      have HS2 := hide' (HS.out.keep hs)
      clear hs HS
      have HS := HS2
      clear HS2
      try clear ac0 ac1 ac2 ac3 bc0 bc1 bc2 bc3
      obtain ⟨_, ⟨ac0, ac1, ac2, ac3, _⟩, bc0, bc1, bc2, bc3, _⟩ := HS.out
      clear HL HA HB hr e0 e1 e2 e3
      rcases HR.out with ⟨rfl, rfl⟩ | ⟨g, cap, rfl, _, _, hbx⟩
      · have HT0 : Hid (0 + one cb = one ca) := HTOT.out
        clear HTOT HR
        have HTOT := HT0
        clear HT0
        go_wp2
        go_loopg [9, 11] 0 (fun g n i wr => g = 0 ∧ n = .int .i64 0 ∧ i = .int .i64 0 ∧ wr = wl)
        case atStart => exact ⟨rfl, rfl, rfl, rfl⟩
        case round =>
          obtain ⟨rfl, rfl, rfl, rfl⟩ := hrel
          cases ca
          · cases cb
            · clear HTOT
              go_wp2_with fail
              refine (H9.out _).mono ?_
              rintro e wn ⟨rfl, hs⟩
              have HS2 := hide' (HS.out.keep hs)
              clear hs HS
              have HS := HS2
              clear HS2
              try clear ac0 ac1 ac2 ac3 bc0 bc1 bc2 bc3
              obtain ⟨_, ⟨ac0, ac1, ac2, ac3, _⟩, bc0, bc1, bc2, bc3, _⟩ := HS.out
              go_wp2_with fail
              refine (HIB.out _).mono ?_
              rintro e wn ⟨rfl, hs⟩
              have HS2 := hide' (HS.out.keep hs)
              clear hs HS
              have HS := HS2
              clear HS2
              try clear ac0 ac1 ac2 ac3 bc0 bc1 bc2 bc3
              obtain ⟨_, ⟨ac0, ac1, ac2, ac3, _⟩, bc0, bc1, bc2, bc3, _⟩ := HS.out
              go_wp2_with fail
              refine (HRA.out _).mono ?_
              rintro e wn ⟨rfl, hs⟩
              have HS2 := hide' (HS.out.keep hs)
              clear hs HS
              have HS := HS2
              clear HS2
              try clear ac0 ac1 ac2 ac3 bc0 bc1 bc2 bc3
              obtain ⟨_, ⟨ac0, ac1, ac2, ac3, _⟩, bc0, bc1, bc2, bc3, _⟩ := HS.out
              go_wp2_with fail
              refine (HIA.out _).mono ?_
              rintro e wn ⟨rfl, hs⟩
              have HS2 := hide' (HS.out.keep hs)
              clear hs HS
              have HS := HS2
              clear HS2
              try clear ac0 ac1 ac2 ac3 bc0 bc1 bc2 bc3
              obtain ⟨_, ⟨ac0, ac1, ac2, ac3, _⟩, bc0, bc1, bc2, bc3, _⟩ := HS.out
              go_wp2_with fail
              refine (awake18 _).mono ?_
              rintro e wm ⟨rfl, hs⟩
              have HS2 := hide' (HS.out.keep hs)
              clear hs
              go_wp2
              go_ret
              exact ⟨rfl, HS2.out.1⟩
            · exact absurd HTOT.out (by simp [one])
          · cases cb
            · exact absurd HTOT.out (by simp [one])
            · clear HTOT
              go_wp2_with fail
              refine (H9.out _).mono ?_
              rintro e wn ⟨rfl, hs⟩
              have HS2 := hide' (HS.out.keep hs)
              clear hs HS
              have HS := HS2
              clear HS2
              try clear ac0 ac1 ac2 ac3 bc0 bc1 bc2 bc3
              obtain ⟨_, ⟨ac0, ac1, ac2, ac3, _⟩, bc0, bc1, bc2, bc3, _⟩ := HS.out
              go_wp2_with fail
              refine (HIB.out _).mono ?_
              rintro e wn ⟨rfl, hs⟩
              have HS2 := hide' (HS.out.keep hs)
              clear hs HS
              have HS := HS2
              clear HS2
              try clear ac0 ac1 ac2 ac3 bc0 bc1 bc2 bc3
              obtain ⟨_, ⟨ac0, ac1, ac2, ac3, _⟩, bc0, bc1, bc2, bc3, _⟩ := HS.out
              go_wp2_with fail
              refine (HRA.out _).mono ?_
              rintro e wn ⟨rfl, hs⟩
              have HS2 := hide' (HS.out.keep hs)
              clear hs HS
              have HS := HS2
              clear HS2
              try clear ac0 ac1 ac2 ac3 bc0 bc1 bc2 bc3
              obtain ⟨_, ⟨ac0, ac1, ac2, ac3, _⟩, bc0, bc1, bc2, bc3, _⟩ := HS.out
              go_wp2_with fail
              refine (HIA.out _).mono ?_
              rintro e wn ⟨rfl, hs⟩
              have HS2 := hide' (HS.out.keep hs)
              clear hs HS
              have HS := HS2
              clear HS2
              try clear ac0 ac1 ac2 ac3 bc0 bc1 bc2 bc3
              obtain ⟨_, ⟨ac0, ac1, ac2, ac3, _⟩, bc0, bc1, bc2, bc3, _⟩ := HS.out
              go_wp2_with fail
              refine (awake18 _).mono ?_
              rintro e wm ⟨rfl, hs⟩
              have HS2 := hide' (HS.out.keep hs)
              clear hs
              go_wp2
              go_ret
              exact ⟨rfl, HS2.out.1⟩
      · obtain ⟨n, hn⟩ : ∃ n, n = L.length := ⟨_, rfl⟩
        have n4 : n ≤ 4 := by have := HLN.out; omega
        rw [← hn]
        have HN := hide' hn
        have HBX := hide' hbx
        have HC0 : Hid (cnt (L.take 0) x y = 0) := rfl
        have HST : Hid (Two w a b wl ∧ Stay (fun _ => False) wl wl) := ⟨HS.out, Stay.refl _ _⟩
        clear hn hbx HR HLN HS ac0 ac1 ac2 ac3 bc0 bc1 bc2 bc3
        go_wp2
        go_loopg [9, 11] n (fun g m i wr => ∃ k c : Nat, k ≤ n ∧ c ≤ k ∧ g = n - k ∧ m = .int .i64 (c : Int) ∧ i = .int .i64 (k : Int) ∧ Hid (cnt (L.take k) x y = c) ∧ Hid (Two w a b wr ∧ Stay (fun _ => False) wl wr))
        case atStart => exact ⟨0, 0, Nat.zero_le _, Nat.le_refl _, rfl, rfl, rfl, HC0, HST⟩
        case round =>
          obtain ⟨k, c, hk, hck, rfl, rfl, rfl, HC, HSr⟩ := hrel
          by_cases hlt : k < n
          · obtain ⟨r, er⟩ : ∃ r, L[k]? = some r := ⟨_, List.getElem?_eq_getElem (by have := HN.out; omega)⟩
            obtain ⟨rc0, rc1, rc2, rc3⟩ := (HBX.out k r er).keep HSr.out.2
            obtain ⟨ir0, ir1, ir2, ir3⟩ := HI.out r (List.mem_of_getElem? er)
            have HIR := hide' (fun w => in19 r x y w ir0 ir1 ir2 ir3 HX.out HY.out)
            have HCN := hide' (cnt_take L k r x y er)
            obtain ⟨cr, hcr⟩ : ∃ c, c = inB r x y := ⟨_, rfl⟩
            rw [← hcr] at HIR HCN
            have k0 : (0 : Int) ≤ k := by omega
            have kn : (k : Int) < n := by omega
            have c0 : (0 : Int) ≤ c := by omega
            have c4 : (c : Int) ≤ 4 := by omega
            clear er hcr ir0 ir1 ir2 ir3
            go_wp2_with fail
            refine (HIR.out _).mono ?_
            rintro e wn ⟨rfl, hs⟩
            have HS2 : Hid (Two w a b wn ∧ Stay (fun _ => False) wl wn) := ⟨HSr.out.1.keep hs, HSr.out.2.trans hs⟩
            clear hs HSr HIR rc0 rc1 rc2 rc3
            cases cr
            · have HC2 : Hid (cnt (L.take (k + 1)) x y = c) := by
                show _ = _
                rw [HCN.out, HC.out]; simp [one]
              clear HCN HC
              go_wp2
              go_roundg (n - (k + 1))
              case rel => exact ⟨k + 1, c, by omega, by omega, rfl, rfl, by go_num, HC2, HS2⟩
              case measure => omega
            · have HC2 : Hid (cnt (L.take (k + 1)) x y = c + 1) := by
                show _ = _
                rw [HCN.out, HC.out]; simp [one]
              clear HCN HC
              go_wp2
              go_roundg (n - (k + 1))
              case rel => exact ⟨k + 1, c + 1, by omega, by omega, rfl, by go_num, by go_num, HC2, HS2⟩
              case measure => omega
          · have HT0 : Hid (c + one cb = one ca) := by
              show _ = _
              rw [← HC.out, List.take_of_length_le (by have := HN.out; omega)]; exact HTOT.out
            have d1 : decide ((k : Int) < n) = false := by simp; omega
            have HS := hide' HSr.out.1
            obtain ⟨_, ⟨ac0, ac1, ac2, ac3, _⟩, bc0, bc1, bc2, bc3, _⟩ := HS.out
            clear HTOT HC HSr HBX HN HI
            have HTOT := HT0
            clear HT0
            cases ca
            · cases cb
              · obtain rfl : c = 0 := by have := HTOT.out; simpa [one] using this
                clear HTOT
                go_wp2_with fail
                refine (H9.out _).mono ?_
                rintro e wn ⟨rfl, hs⟩
                have HS2 := hide' (HS.out.keep hs)
                clear hs HS
                have HS := HS2
                clear HS2
                try clear ac0 ac1 ac2 ac3 bc0 bc1 bc2 bc3
                obtain ⟨_, ⟨ac0, ac1, ac2, ac3, _⟩, bc0, bc1, bc2, bc3, _⟩ := HS.out
                go_wp2_with fail
                refine (HIB.out _).mono ?_
                rintro e wn ⟨rfl, hs⟩
                have HS2 := hide' (HS.out.keep hs)
                clear hs HS
                have HS := HS2
                clear HS2
                try clear ac0 ac1 ac2 ac3 bc0 bc1 bc2 bc3
                obtain ⟨_, ⟨ac0, ac1, ac2, ac3, _⟩, bc0, bc1, bc2, bc3, _⟩ := HS.out
                go_wp2_with fail
                refine (HRA.out _).mono ?_
                rintro e wn ⟨rfl, hs⟩
                have HS2 := hide' (HS.out.keep hs)
                clear hs HS
                have HS := HS2
                clear HS2
                try clear ac0 ac1 ac2 ac3 bc0 bc1 bc2 bc3
                obtain ⟨_, ⟨ac0, ac1, ac2, ac3, _⟩, bc0, bc1, bc2, bc3, _⟩ := HS.out
                go_wp2_with fail
                refine (HIA.out _).mono ?_
                rintro e wn ⟨rfl, hs⟩
                have HS2 := hide' (HS.out.keep hs)
                clear hs HS
                have HS := HS2
                clear HS2
                try clear ac0 ac1 ac2 ac3 bc0 bc1 bc2 bc3
                obtain ⟨_, ⟨ac0, ac1, ac2, ac3, _⟩, bc0, bc1, bc2, bc3, _⟩ := HS.out
                go_wp2_with fail
                refine (awake18 _).mono ?_
                rintro e wm ⟨rfl, hs⟩
                have HS2 := hide' (HS.out.keep hs)
                clear hs
                go_wp2
                go_ret
                exact ⟨rfl, HS2.out.1⟩
              · exact absurd HTOT.out (by simp [one])
            · cases cb
              · obtain rfl : c = 1 := by have := HTOT.out; simpa [one] using this
                clear HTOT
                go_wp2_with fail
                refine (H9.out _).mono ?_
                rintro e wn ⟨rfl, hs⟩
                have HS2 := hide' (HS.out.keep hs)
                clear hs HS
                have HS := HS2
                clear HS2
                try clear ac0 ac1 ac2 ac3 bc0 bc1 bc2 bc3
                obtain ⟨_, ⟨ac0, ac1, ac2, ac3, _⟩, bc0, bc1, bc2, bc3, _⟩ := HS.out
                go_wp2_with fail
                refine (HIB.out _).mono ?_
                rintro e wn ⟨rfl, hs⟩
                have HS2 := hide' (HS.out.keep hs)
                clear hs HS
                have HS := HS2
                clear HS2
                try clear ac0 ac1 ac2 ac3 bc0 bc1 bc2 bc3
                obtain ⟨_, ⟨ac0, ac1, ac2, ac3, _⟩, bc0, bc1, bc2, bc3, _⟩ := HS.out
                go_wp2_with fail
                refine (HRA.out _).mono ?_
                rintro e wn ⟨rfl, hs⟩
                have HS2 := hide' (HS.out.keep hs)
                clear hs HS
                have HS := HS2
                clear HS2
                try clear ac0 ac1 ac2 ac3 bc0 bc1 bc2 bc3
                obtain ⟨_, ⟨ac0, ac1, ac2, ac3, _⟩, bc0, bc1, bc2, bc3, _⟩ := HS.out
                go_wp2_with fail
                refine (HIA.out _).mono ?_
                rintro e wn ⟨rfl, hs⟩
                have HS2 := hide' (HS.out.keep hs)
                clear hs HS
                have HS := HS2
                clear HS2
                try clear ac0 ac1 ac2 ac3 bc0 bc1 bc2 bc3
                obtain ⟨_, ⟨ac0, ac1, ac2, ac3, _⟩, bc0, bc1, bc2, bc3, _⟩ := HS.out
                go_wp2_with fail
                refine (awake18 _).mono ?_
                rintro e wm ⟨rfl, hs⟩
                have HS2 := hide' (HS.out.keep hs)
                clear hs
                go_wp2
                go_ret
                exact ⟨rfl, HS2.out.1⟩
              · obtain rfl : c = 0 := by have := HTOT.out; simpa [one] using this
                clear HTOT
                go_wp2_with fail
                refine (H9.out _).mono ?_
                rintro e wn ⟨rfl, hs⟩
                have HS2 := hide' (HS.out.keep hs)
                clear hs HS
                have HS := HS2
                clear HS2
                try clear ac0 ac1 ac2 ac3 bc0 bc1 bc2 bc3
                obtain ⟨_, ⟨ac0, ac1, ac2, ac3, _⟩, bc0, bc1, bc2, bc3, _⟩ := HS.out
                go_wp2_with fail
                refine (HIB.out _).mono ?_
                rintro e wn ⟨rfl, hs⟩
                have HS2 := hide' (HS.out.keep hs)
                clear hs HS
                have HS := HS2
                clear HS2
                try clear ac0 ac1 ac2 ac3 bc0 bc1 bc2 bc3
                obtain ⟨_, ⟨ac0, ac1, ac2, ac3, _⟩, bc0, bc1, bc2, bc3, _⟩ := HS.out
                go_wp2_with fail
                refine (HRA.out _).mono ?_
                rintro e wn ⟨rfl, hs⟩
                have HS2 := hide' (HS.out.keep hs)
                clear hs HS
                have HS := HS2
                clear HS2
                try clear ac0 ac1 ac2 ac3 bc0 bc1 bc2 bc3
                obtain ⟨_, ⟨ac0, ac1, ac2, ac3, _⟩, bc0, bc1, bc2, bc3, _⟩ := HS.out
                go_wp2_with fail
                refine (HIA.out _).mono ?_
                rintro e wn ⟨rfl, hs⟩
                have HS2 := hide' (HS.out.keep hs)
                clear hs HS
                have HS := HS2
                clear HS2
                try clear ac0 ac1 ac2 ac3 bc0 bc1 bc2 bc3
                obtain ⟨_, ⟨ac0, ac1, ac2, ac3, _⟩, bc0, bc1, bc2, bc3, _⟩ := HS.out
                go_wp2_with fail
                refine (awake18 _).mono ?_
                rintro e wm ⟨rfl, hs⟩
                have HS2 := hide' (HS.out.keep hs)
                clear hs
                go_wp2
                go_ret
                exact ⟨rfl, HS2.out.1⟩
    · have hb' : rightB b = false := by simpa using hb
      rw [hb'] at HB
      clear ha hb hb'
      go_enter Try.func4, Try.ntmps4
      go_wp2_with fail
      refine (HA.out _).mono ?_
      rintro e wn ⟨rfl, hs⟩
      have HS2 := hide' (HS.out.keep hs)
      clear hs HS
      have HS := HS2
      clear HS2
      try clear ac0 ac1 ac2 ac3 bc0 bc1 bc2 bc3
      obtain ⟨_, ⟨ac0, ac1, ac2, ac3, _⟩, bc0, bc1, bc2, bc3, _⟩ := HS.out
      go_wp2_with fail
      refine (HB.out _).mono ?_
      rintro e wn ⟨rfl, hs⟩
      have HS2 := hide' (HS.out.keep hs)
      clear hs HS
      have HS := HS2
      clear HS2
      try clear ac0 ac1 ac2 ac3 bc0 bc1 bc2 bc3
      obtain ⟨_, ⟨ac0, ac1, ac2, ac3, _⟩, bc0, bc1, bc2, bc3, _⟩ := HS.out
      go_wp2_with fail
      refine (awake18 _).mono ?_
      rintro e wm ⟨rfl, hs⟩
      have HS2 := hide' (HS.out.keep hs)
      clear hs
      go_wp2
      go_ret
      exact ⟨rfl, HS2.out.1⟩
  · have ha' : rightB a = false := by simpa using ha
    rw [ha'] at HA
    clear ha ha' HB
    go_enter Try.func4, Try.ntmps4
    go_wp2_with fail
    refine (HA.out _).mono ?_
    rintro e wn ⟨rfl, hs⟩
    have HS2 := hide' (HS.out.keep hs)
    clear hs HS
    have HS := HS2
    clear HS2
    try clear ac0 ac1 ac2 ac3 bc0 bc1 bc2 bc3
    obtain ⟨_, ⟨ac0, ac1, ac2, ac3, _⟩, bc0, bc1, bc2, bc3, _⟩ := HS.out
    go_wp2_with fail
    refine (awake18 _).mono ?_
    rintro e wm ⟨rfl, hs⟩
    have HS2 := hide' (HS.out.keep hs)
    clear hs
    go_wp2
    go_ret
    exact ⟨rfl, HS2.out.1⟩

end Go.Proofs.Ytloijopnfnhnhaa
