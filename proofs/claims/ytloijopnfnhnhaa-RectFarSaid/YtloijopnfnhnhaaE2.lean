/-
  RectFar walked: true of any rectangle and any numbers. No conditions.
-/
import Derived.Test.YtloijopnfnhnhaaE1
namespace Go.Proofs.Ytloijopnfnhnhaa
open Go.RowKit

/-- A box that stands. -/
def One (w : World) (r : R) (w' : World) : Prop := Stay (fun _ => False) w w' ∧ Box w' w.heap.size r

theorem One.keep {w W w1 : World} {r : R} (h : One w r W) (hs : Stay (fun _ => False) W w1) : One w r w1 := ⟨h.1.trans hs, h.2.keep hs⟩

theorem one_new (r : R) (w : World) : One w r (w.alloc (.cells #[.int .i64 r.x, .int .i64 r.y, .int .i64 r.w, .int .i64 r.h] 23)) := ⟨(Stay.refl _ w).alloc _, Box.new r rfl⟩

set_option maxHeartbeats 4000000 in
theorem far_any (r : R) (x y : Int) (w : World) (h0 : I64 r.x) (h1 : I64 r.y) (h2 : I64 r.w) (h3 : I64 r.h) (hx : I64 x) (hy : I64 y) : Calls Try.prog 5 #[.agg #[.int .i64 r.x, .int .i64 r.y, .int .i64 r.w, .int .i64 r.h], .int .i64 x, .int .i64 y] w (LawTrue w) := by
  have HS := hide' (one_new r w)
  have HI := hide' (fun w => in19 r x y w h0 h1 h2 h3 hx hy)
  have HC : Hid (1 ≤ r.w → 1 ≤ r.h → inB r r.x r.y = true) := fun h1 h2 => by unfold inB; simp; omega
  have H0 := hide' (fun w => in19 r r.x r.y w h0 h1 h2 h3 h0 h1)
  have H7 := hide' (refRight7 r)
  have HF : Hid (inB r x y = true → 1 ≤ r.w ∧ 1 ≤ r.h ∧ r.x ≤ x ∧ r.y ≤ y ∧ x - r.x < r.w ∧ y - r.y < r.h) := fun h => by
    unfold inB at h
    simp at h
    omega
  have HD := hide' (@right_bd r)
  obtain ⟨ci, hci⟩ : ∃ c, c = inB r x y := ⟨_, rfl⟩
  obtain ⟨c0, hc0⟩ : ∃ c, c = inB r r.x r.y := ⟨_, rfl⟩
  obtain ⟨cr, hcr⟩ : ∃ c, c = rightB r := ⟨_, rfl⟩
  rw [← hci] at HI HF
  rw [← hc0] at HC H0
  rw [← hcr] at H7 HD
  clear hci hc0 hcr h0 h1 h2 h3 hx hy
  cases ci
  · clear HF
    by_cases hw : r.w < 1
    · have d1 : decide (r.w < 1) = true := by simpa using hw
      clear hw HC H0
      cases cr
      · clear HD
        go_enter Try.func5, Try.ntmps5
        go_wp2_with fail
        refine (HI.out _).mono ?_
        rintro e wn ⟨rfl, hs⟩
        have HS2 := hide' (HS.out.keep hs)
        clear hs HS
        have HS := HS2
        clear HS2
        try clear c0 c1 c2 c3
        obtain ⟨_, c0, c1, c2, c3, _⟩ := HS.out
        go_wp2_with fail
        refine (H7.out _).mono ?_
        rintro e wn ⟨rfl, hs⟩
        have HS2 := hide' (HS.out.keep hs)
        clear hs HS
        have HS := HS2
        clear HS2
        try clear c0 c1 c2 c3
        obtain ⟨_, c0, c1, c2, c3, _⟩ := HS.out
        go_wp2_with fail
        refine (awake18 _).mono ?_
        rintro e wm ⟨rfl, hs⟩
        have HS2 := hide' (HS.out.keep hs)
        clear hs
        go_wp2
        go_ret
        exact ⟨rfl, HS2.out.1⟩
      · clear HD
        by_cases b0 : 4294967296 < x
        · have e0 : decide (4294967296 < x) = true := by simpa using b0
          clear b0
          go_enter Try.func5, Try.ntmps5
          go_wp2_with fail
          refine (HI.out _).mono ?_
          rintro e wn ⟨rfl, hs⟩
          have HS2 := hide' (HS.out.keep hs)
          clear hs HS
          have HS := HS2
          clear HS2
          try clear c0 c1 c2 c3
          obtain ⟨_, c0, c1, c2, c3, _⟩ := HS.out
          go_wp2_with fail
          refine (H7.out _).mono ?_
          rintro e wn ⟨rfl, hs⟩
          have HS2 := hide' (HS.out.keep hs)
          clear hs HS
          have HS := HS2
          clear HS2
          try clear c0 c1 c2 c3
          obtain ⟨_, c0, c1, c2, c3, _⟩ := HS.out
          go_wp2_with fail
          refine (HI.out _).mono ?_
          rintro e wn ⟨rfl, hs⟩
          have HS2 := hide' (HS.out.keep hs)
          clear hs HS
          have HS := HS2
          clear HS2
          try clear c0 c1 c2 c3
          obtain ⟨_, c0, c1, c2, c3, _⟩ := HS.out
          go_wp2_with fail
          refine (awake18 _).mono ?_
          rintro e wm ⟨rfl, hs⟩
          have HS2 := hide' (HS.out.keep hs)
          clear hs
          go_wp2
          go_ret
          exact ⟨rfl, HS2.out.1⟩
        · have e0 : decide (4294967296 < x) = false := by simpa using b0
          clear b0
          by_cases b1 : 4294967296 < y
          · have e1 : decide (4294967296 < y) = true := by simpa using b1
            clear b1
            go_enter Try.func5, Try.ntmps5
            go_wp2_with fail
            refine (HI.out _).mono ?_
            rintro e wn ⟨rfl, hs⟩
            have HS2 := hide' (HS.out.keep hs)
            clear hs HS
            have HS := HS2
            clear HS2
            try clear c0 c1 c2 c3
            obtain ⟨_, c0, c1, c2, c3, _⟩ := HS.out
            go_wp2_with fail
            refine (H7.out _).mono ?_
            rintro e wn ⟨rfl, hs⟩
            have HS2 := hide' (HS.out.keep hs)
            clear hs HS
            have HS := HS2
            clear HS2
            try clear c0 c1 c2 c3
            obtain ⟨_, c0, c1, c2, c3, _⟩ := HS.out
            go_wp2_with fail
            refine (HI.out _).mono ?_
            rintro e wn ⟨rfl, hs⟩
            have HS2 := hide' (HS.out.keep hs)
            clear hs HS
            have HS := HS2
            clear HS2
            try clear c0 c1 c2 c3
            obtain ⟨_, c0, c1, c2, c3, _⟩ := HS.out
            go_wp2_with fail
            refine (awake18 _).mono ?_
            rintro e wm ⟨rfl, hs⟩
            have HS2 := hide' (HS.out.keep hs)
            clear hs
            go_wp2
            go_ret
            exact ⟨rfl, HS2.out.1⟩
          · have e1 : decide (4294967296 < y) = false := by simpa using b1
            clear b1
            by_cases b2 : x < -4294967296
            · have e2 : decide (x < -4294967296) = true := by simpa using b2
              clear b2
              go_enter Try.func5, Try.ntmps5
              go_wp2_with fail
              refine (HI.out _).mono ?_
              rintro e wn ⟨rfl, hs⟩
              have HS2 := hide' (HS.out.keep hs)
              clear hs HS
              have HS := HS2
              clear HS2
              try clear c0 c1 c2 c3
              obtain ⟨_, c0, c1, c2, c3, _⟩ := HS.out
              go_wp2_with fail
              refine (H7.out _).mono ?_
              rintro e wn ⟨rfl, hs⟩
              have HS2 := hide' (HS.out.keep hs)
              clear hs HS
              have HS := HS2
              clear HS2
              try clear c0 c1 c2 c3
              obtain ⟨_, c0, c1, c2, c3, _⟩ := HS.out
              go_wp2_with fail
              refine (HI.out _).mono ?_
              rintro e wn ⟨rfl, hs⟩
              have HS2 := hide' (HS.out.keep hs)
              clear hs HS
              have HS := HS2
              clear HS2
              try clear c0 c1 c2 c3
              obtain ⟨_, c0, c1, c2, c3, _⟩ := HS.out
              go_wp2_with fail
              refine (awake18 _).mono ?_
              rintro e wm ⟨rfl, hs⟩
              have HS2 := hide' (HS.out.keep hs)
              clear hs
              go_wp2
              go_ret
              exact ⟨rfl, HS2.out.1⟩
            · have e2 : decide (x < -4294967296) = false := by simpa using b2
              clear b2
              by_cases b3 : y < -4294967296
              · have e3 : decide (y < -4294967296) = true := by simpa using b3
                clear b3
                go_enter Try.func5, Try.ntmps5
                go_wp2_with fail
                refine (HI.out _).mono ?_
                rintro e wn ⟨rfl, hs⟩
                have HS2 := hide' (HS.out.keep hs)
                clear hs HS
                have HS := HS2
                clear HS2
                try clear c0 c1 c2 c3
                obtain ⟨_, c0, c1, c2, c3, _⟩ := HS.out
                go_wp2_with fail
                refine (H7.out _).mono ?_
                rintro e wn ⟨rfl, hs⟩
                have HS2 := hide' (HS.out.keep hs)
                clear hs HS
                have HS := HS2
                clear HS2
                try clear c0 c1 c2 c3
                obtain ⟨_, c0, c1, c2, c3, _⟩ := HS.out
                go_wp2_with fail
                refine (HI.out _).mono ?_
                rintro e wn ⟨rfl, hs⟩
                have HS2 := hide' (HS.out.keep hs)
                clear hs HS
                have HS := HS2
                clear HS2
                try clear c0 c1 c2 c3
                obtain ⟨_, c0, c1, c2, c3, _⟩ := HS.out
                go_wp2_with fail
                refine (awake18 _).mono ?_
                rintro e wm ⟨rfl, hs⟩
                have HS2 := hide' (HS.out.keep hs)
                clear hs
                go_wp2
                go_ret
                exact ⟨rfl, HS2.out.1⟩
              · have e3 : decide (y < -4294967296) = false := by simpa using b3
                clear b3
                go_enter Try.func5, Try.ntmps5
                go_wp2_with fail
                refine (HI.out _).mono ?_
                rintro e wn ⟨rfl, hs⟩
                have HS2 := hide' (HS.out.keep hs)
                clear hs HS
                have HS := HS2
                clear HS2
                try clear c0 c1 c2 c3
                obtain ⟨_, c0, c1, c2, c3, _⟩ := HS.out
                go_wp2_with fail
                refine (H7.out _).mono ?_
                rintro e wn ⟨rfl, hs⟩
                have HS2 := hide' (HS.out.keep hs)
                clear hs HS
                have HS := HS2
                clear HS2
                try clear c0 c1 c2 c3
                obtain ⟨_, c0, c1, c2, c3, _⟩ := HS.out
                go_wp2_with fail
                refine (awake18 _).mono ?_
                rintro e wm ⟨rfl, hs⟩
                have HS2 := hide' (HS.out.keep hs)
                clear hs
                go_wp2
                go_ret
                exact ⟨rfl, HS2.out.1⟩
    · have d1 : decide (r.w < 1) = false := by simpa using hw
      by_cases hh : r.h < 1
      · have d2 : decide (r.h < 1) = true := by simpa using hh
        clear hw hh HC H0
        cases cr
        · clear HD
          go_enter Try.func5, Try.ntmps5
          go_wp2_with fail
          refine (HI.out _).mono ?_
          rintro e wn ⟨rfl, hs⟩
          have HS2 := hide' (HS.out.keep hs)
          clear hs HS
          have HS := HS2
          clear HS2
          try clear c0 c1 c2 c3
          obtain ⟨_, c0, c1, c2, c3, _⟩ := HS.out
          go_wp2_with fail
          refine (H7.out _).mono ?_
          rintro e wn ⟨rfl, hs⟩
          have HS2 := hide' (HS.out.keep hs)
          clear hs HS
          have HS := HS2
          clear HS2
          try clear c0 c1 c2 c3
          obtain ⟨_, c0, c1, c2, c3, _⟩ := HS.out
          go_wp2_with fail
          refine (awake18 _).mono ?_
          rintro e wm ⟨rfl, hs⟩
          have HS2 := hide' (HS.out.keep hs)
          clear hs
          go_wp2
          go_ret
          exact ⟨rfl, HS2.out.1⟩
        · clear HD
          by_cases b0 : 4294967296 < x
          · have e0 : decide (4294967296 < x) = true := by simpa using b0
            clear b0
            go_enter Try.func5, Try.ntmps5
            go_wp2_with fail
            refine (HI.out _).mono ?_
            rintro e wn ⟨rfl, hs⟩
            have HS2 := hide' (HS.out.keep hs)
            clear hs HS
            have HS := HS2
            clear HS2
            try clear c0 c1 c2 c3
            obtain ⟨_, c0, c1, c2, c3, _⟩ := HS.out
            go_wp2_with fail
            refine (H7.out _).mono ?_
            rintro e wn ⟨rfl, hs⟩
            have HS2 := hide' (HS.out.keep hs)
            clear hs HS
            have HS := HS2
            clear HS2
            try clear c0 c1 c2 c3
            obtain ⟨_, c0, c1, c2, c3, _⟩ := HS.out
            go_wp2_with fail
            refine (HI.out _).mono ?_
            rintro e wn ⟨rfl, hs⟩
            have HS2 := hide' (HS.out.keep hs)
            clear hs HS
            have HS := HS2
            clear HS2
            try clear c0 c1 c2 c3
            obtain ⟨_, c0, c1, c2, c3, _⟩ := HS.out
            go_wp2_with fail
            refine (awake18 _).mono ?_
            rintro e wm ⟨rfl, hs⟩
            have HS2 := hide' (HS.out.keep hs)
            clear hs
            go_wp2
            go_ret
            exact ⟨rfl, HS2.out.1⟩
          · have e0 : decide (4294967296 < x) = false := by simpa using b0
            clear b0
            by_cases b1 : 4294967296 < y
            · have e1 : decide (4294967296 < y) = true := by simpa using b1
              clear b1
              go_enter Try.func5, Try.ntmps5
              go_wp2_with fail
              refine (HI.out _).mono ?_
              rintro e wn ⟨rfl, hs⟩
              have HS2 := hide' (HS.out.keep hs)
              clear hs HS
              have HS := HS2
              clear HS2
              try clear c0 c1 c2 c3
              obtain ⟨_, c0, c1, c2, c3, _⟩ := HS.out
              go_wp2_with fail
              refine (H7.out _).mono ?_
              rintro e wn ⟨rfl, hs⟩
              have HS2 := hide' (HS.out.keep hs)
              clear hs HS
              have HS := HS2
              clear HS2
              try clear c0 c1 c2 c3
              obtain ⟨_, c0, c1, c2, c3, _⟩ := HS.out
              go_wp2_with fail
              refine (HI.out _).mono ?_
              rintro e wn ⟨rfl, hs⟩
              have HS2 := hide' (HS.out.keep hs)
              clear hs HS
              have HS := HS2
              clear HS2
              try clear c0 c1 c2 c3
              obtain ⟨_, c0, c1, c2, c3, _⟩ := HS.out
              go_wp2_with fail
              refine (awake18 _).mono ?_
              rintro e wm ⟨rfl, hs⟩
              have HS2 := hide' (HS.out.keep hs)
              clear hs
              go_wp2
              go_ret
              exact ⟨rfl, HS2.out.1⟩
            · have e1 : decide (4294967296 < y) = false := by simpa using b1
              clear b1
              by_cases b2 : x < -4294967296
              · have e2 : decide (x < -4294967296) = true := by simpa using b2
                clear b2
                go_enter Try.func5, Try.ntmps5
                go_wp2_with fail
                refine (HI.out _).mono ?_
                rintro e wn ⟨rfl, hs⟩
                have HS2 := hide' (HS.out.keep hs)
                clear hs HS
                have HS := HS2
                clear HS2
                try clear c0 c1 c2 c3
                obtain ⟨_, c0, c1, c2, c3, _⟩ := HS.out
                go_wp2_with fail
                refine (H7.out _).mono ?_
                rintro e wn ⟨rfl, hs⟩
                have HS2 := hide' (HS.out.keep hs)
                clear hs HS
                have HS := HS2
                clear HS2
                try clear c0 c1 c2 c3
                obtain ⟨_, c0, c1, c2, c3, _⟩ := HS.out
                go_wp2_with fail
                refine (HI.out _).mono ?_
                rintro e wn ⟨rfl, hs⟩
                have HS2 := hide' (HS.out.keep hs)
                clear hs HS
                have HS := HS2
                clear HS2
                try clear c0 c1 c2 c3
                obtain ⟨_, c0, c1, c2, c3, _⟩ := HS.out
                go_wp2_with fail
                refine (awake18 _).mono ?_
                rintro e wm ⟨rfl, hs⟩
                have HS2 := hide' (HS.out.keep hs)
                clear hs
                go_wp2
                go_ret
                exact ⟨rfl, HS2.out.1⟩
              · have e2 : decide (x < -4294967296) = false := by simpa using b2
                clear b2
                by_cases b3 : y < -4294967296
                · have e3 : decide (y < -4294967296) = true := by simpa using b3
                  clear b3
                  go_enter Try.func5, Try.ntmps5
                  go_wp2_with fail
                  refine (HI.out _).mono ?_
                  rintro e wn ⟨rfl, hs⟩
                  have HS2 := hide' (HS.out.keep hs)
                  clear hs HS
                  have HS := HS2
                  clear HS2
                  try clear c0 c1 c2 c3
                  obtain ⟨_, c0, c1, c2, c3, _⟩ := HS.out
                  go_wp2_with fail
                  refine (H7.out _).mono ?_
                  rintro e wn ⟨rfl, hs⟩
                  have HS2 := hide' (HS.out.keep hs)
                  clear hs HS
                  have HS := HS2
                  clear HS2
                  try clear c0 c1 c2 c3
                  obtain ⟨_, c0, c1, c2, c3, _⟩ := HS.out
                  go_wp2_with fail
                  refine (HI.out _).mono ?_
                  rintro e wn ⟨rfl, hs⟩
                  have HS2 := hide' (HS.out.keep hs)
                  clear hs HS
                  have HS := HS2
                  clear HS2
                  try clear c0 c1 c2 c3
                  obtain ⟨_, c0, c1, c2, c3, _⟩ := HS.out
                  go_wp2_with fail
                  refine (awake18 _).mono ?_
                  rintro e wm ⟨rfl, hs⟩
                  have HS2 := hide' (HS.out.keep hs)
                  clear hs
                  go_wp2
                  go_ret
                  exact ⟨rfl, HS2.out.1⟩
                · have e3 : decide (y < -4294967296) = false := by simpa using b3
                  clear b3
                  go_enter Try.func5, Try.ntmps5
                  go_wp2_with fail
                  refine (HI.out _).mono ?_
                  rintro e wn ⟨rfl, hs⟩
                  have HS2 := hide' (HS.out.keep hs)
                  clear hs HS
                  have HS := HS2
                  clear HS2
                  try clear c0 c1 c2 c3
                  obtain ⟨_, c0, c1, c2, c3, _⟩ := HS.out
                  go_wp2_with fail
                  refine (H7.out _).mono ?_
                  rintro e wn ⟨rfl, hs⟩
                  have HS2 := hide' (HS.out.keep hs)
                  clear hs HS
                  have HS := HS2
                  clear HS2
                  try clear c0 c1 c2 c3
                  obtain ⟨_, c0, c1, c2, c3, _⟩ := HS.out
                  go_wp2_with fail
                  refine (awake18 _).mono ?_
                  rintro e wm ⟨rfl, hs⟩
                  have HS2 := hide' (HS.out.keep hs)
                  clear hs
                  go_wp2
                  go_ret
                  exact ⟨rfl, HS2.out.1⟩
      · have d2 : decide (r.h < 1) = false := by simpa using hh
        obtain rfl : c0 = true := HC.out (by omega) (by omega)
        clear hw hh HC
        cases cr
        · clear HD
          go_enter Try.func5, Try.ntmps5
          go_wp2_with fail
          refine (HI.out _).mono ?_
          rintro e wn ⟨rfl, hs⟩
          have HS2 := hide' (HS.out.keep hs)
          clear hs HS
          have HS := HS2
          clear HS2
          try clear c0 c1 c2 c3
          obtain ⟨_, c0, c1, c2, c3, _⟩ := HS.out
          go_wp2_with fail
          refine (H7.out _).mono ?_
          rintro e wn ⟨rfl, hs⟩
          have HS2 := hide' (HS.out.keep hs)
          clear hs HS
          have HS := HS2
          clear HS2
          try clear c0 c1 c2 c3
          obtain ⟨_, c0, c1, c2, c3, _⟩ := HS.out
          go_wp2_with fail
          refine (H0.out _).mono ?_
          rintro e wn ⟨rfl, hs⟩
          have HS2 := hide' (HS.out.keep hs)
          clear hs HS
          have HS := HS2
          clear HS2
          try clear c0 c1 c2 c3
          obtain ⟨_, c0, c1, c2, c3, _⟩ := HS.out
          go_wp2_with fail
          refine (awake18 _).mono ?_
          rintro e wm ⟨rfl, hs⟩
          have HS2 := hide' (HS.out.keep hs)
          clear hs
          go_wp2
          go_ret
          exact ⟨rfl, HS2.out.1⟩
        · clear HD
          by_cases b0 : 4294967296 < x
          · have e0 : decide (4294967296 < x) = true := by simpa using b0
            clear b0
            go_enter Try.func5, Try.ntmps5
            go_wp2_with fail
            refine (HI.out _).mono ?_
            rintro e wn ⟨rfl, hs⟩
            have HS2 := hide' (HS.out.keep hs)
            clear hs HS
            have HS := HS2
            clear HS2
            try clear c0 c1 c2 c3
            obtain ⟨_, c0, c1, c2, c3, _⟩ := HS.out
            go_wp2_with fail
            refine (H7.out _).mono ?_
            rintro e wn ⟨rfl, hs⟩
            have HS2 := hide' (HS.out.keep hs)
            clear hs HS
            have HS := HS2
            clear HS2
            try clear c0 c1 c2 c3
            obtain ⟨_, c0, c1, c2, c3, _⟩ := HS.out
            go_wp2_with fail
            refine (HI.out _).mono ?_
            rintro e wn ⟨rfl, hs⟩
            have HS2 := hide' (HS.out.keep hs)
            clear hs HS
            have HS := HS2
            clear HS2
            try clear c0 c1 c2 c3
            obtain ⟨_, c0, c1, c2, c3, _⟩ := HS.out
            go_wp2_with fail
            refine (H0.out _).mono ?_
            rintro e wn ⟨rfl, hs⟩
            have HS2 := hide' (HS.out.keep hs)
            clear hs HS
            have HS := HS2
            clear HS2
            try clear c0 c1 c2 c3
            obtain ⟨_, c0, c1, c2, c3, _⟩ := HS.out
            go_wp2_with fail
            refine (awake18 _).mono ?_
            rintro e wm ⟨rfl, hs⟩
            have HS2 := hide' (HS.out.keep hs)
            clear hs
            go_wp2
            go_ret
            exact ⟨rfl, HS2.out.1⟩
          · have e0 : decide (4294967296 < x) = false := by simpa using b0
            clear b0
            by_cases b1 : 4294967296 < y
            · have e1 : decide (4294967296 < y) = true := by simpa using b1
              clear b1
              go_enter Try.func5, Try.ntmps5
              go_wp2_with fail
              refine (HI.out _).mono ?_
              rintro e wn ⟨rfl, hs⟩
              have HS2 := hide' (HS.out.keep hs)
              clear hs HS
              have HS := HS2
              clear HS2
              try clear c0 c1 c2 c3
              obtain ⟨_, c0, c1, c2, c3, _⟩ := HS.out
              go_wp2_with fail
              refine (H7.out _).mono ?_
              rintro e wn ⟨rfl, hs⟩
              have HS2 := hide' (HS.out.keep hs)
              clear hs HS
              have HS := HS2
              clear HS2
              try clear c0 c1 c2 c3
              obtain ⟨_, c0, c1, c2, c3, _⟩ := HS.out
              go_wp2_with fail
              refine (HI.out _).mono ?_
              rintro e wn ⟨rfl, hs⟩
              have HS2 := hide' (HS.out.keep hs)
              clear hs HS
              have HS := HS2
              clear HS2
              try clear c0 c1 c2 c3
              obtain ⟨_, c0, c1, c2, c3, _⟩ := HS.out
              go_wp2_with fail
              refine (H0.out _).mono ?_
              rintro e wn ⟨rfl, hs⟩
              have HS2 := hide' (HS.out.keep hs)
              clear hs HS
              have HS := HS2
              clear HS2
              try clear c0 c1 c2 c3
              obtain ⟨_, c0, c1, c2, c3, _⟩ := HS.out
              go_wp2_with fail
              refine (awake18 _).mono ?_
              rintro e wm ⟨rfl, hs⟩
              have HS2 := hide' (HS.out.keep hs)
              clear hs
              go_wp2
              go_ret
              exact ⟨rfl, HS2.out.1⟩
            · have e1 : decide (4294967296 < y) = false := by simpa using b1
              clear b1
              by_cases b2 : x < -4294967296
              · have e2 : decide (x < -4294967296) = true := by simpa using b2
                clear b2
                go_enter Try.func5, Try.ntmps5
                go_wp2_with fail
                refine (HI.out _).mono ?_
                rintro e wn ⟨rfl, hs⟩
                have HS2 := hide' (HS.out.keep hs)
                clear hs HS
                have HS := HS2
                clear HS2
                try clear c0 c1 c2 c3
                obtain ⟨_, c0, c1, c2, c3, _⟩ := HS.out
                go_wp2_with fail
                refine (H7.out _).mono ?_
                rintro e wn ⟨rfl, hs⟩
                have HS2 := hide' (HS.out.keep hs)
                clear hs HS
                have HS := HS2
                clear HS2
                try clear c0 c1 c2 c3
                obtain ⟨_, c0, c1, c2, c3, _⟩ := HS.out
                go_wp2_with fail
                refine (HI.out _).mono ?_
                rintro e wn ⟨rfl, hs⟩
                have HS2 := hide' (HS.out.keep hs)
                clear hs HS
                have HS := HS2
                clear HS2
                try clear c0 c1 c2 c3
                obtain ⟨_, c0, c1, c2, c3, _⟩ := HS.out
                go_wp2_with fail
                refine (H0.out _).mono ?_
                rintro e wn ⟨rfl, hs⟩
                have HS2 := hide' (HS.out.keep hs)
                clear hs HS
                have HS := HS2
                clear HS2
                try clear c0 c1 c2 c3
                obtain ⟨_, c0, c1, c2, c3, _⟩ := HS.out
                go_wp2_with fail
                refine (awake18 _).mono ?_
                rintro e wm ⟨rfl, hs⟩
                have HS2 := hide' (HS.out.keep hs)
                clear hs
                go_wp2
                go_ret
                exact ⟨rfl, HS2.out.1⟩
              · have e2 : decide (x < -4294967296) = false := by simpa using b2
                clear b2
                by_cases b3 : y < -4294967296
                · have e3 : decide (y < -4294967296) = true := by simpa using b3
                  clear b3
                  go_enter Try.func5, Try.ntmps5
                  go_wp2_with fail
                  refine (HI.out _).mono ?_
                  rintro e wn ⟨rfl, hs⟩
                  have HS2 := hide' (HS.out.keep hs)
                  clear hs HS
                  have HS := HS2
                  clear HS2
                  try clear c0 c1 c2 c3
                  obtain ⟨_, c0, c1, c2, c3, _⟩ := HS.out
                  go_wp2_with fail
                  refine (H7.out _).mono ?_
                  rintro e wn ⟨rfl, hs⟩
                  have HS2 := hide' (HS.out.keep hs)
                  clear hs HS
                  have HS := HS2
                  clear HS2
                  try clear c0 c1 c2 c3
                  obtain ⟨_, c0, c1, c2, c3, _⟩ := HS.out
                  go_wp2_with fail
                  refine (HI.out _).mono ?_
                  rintro e wn ⟨rfl, hs⟩
                  have HS2 := hide' (HS.out.keep hs)
                  clear hs HS
                  have HS := HS2
                  clear HS2
                  try clear c0 c1 c2 c3
                  obtain ⟨_, c0, c1, c2, c3, _⟩ := HS.out
                  go_wp2_with fail
                  refine (H0.out _).mono ?_
                  rintro e wn ⟨rfl, hs⟩
                  have HS2 := hide' (HS.out.keep hs)
                  clear hs HS
                  have HS := HS2
                  clear HS2
                  try clear c0 c1 c2 c3
                  obtain ⟨_, c0, c1, c2, c3, _⟩ := HS.out
                  go_wp2_with fail
                  refine (awake18 _).mono ?_
                  rintro e wm ⟨rfl, hs⟩
                  have HS2 := hide' (HS.out.keep hs)
                  clear hs
                  go_wp2
                  go_ret
                  exact ⟨rfl, HS2.out.1⟩
                · have e3 : decide (y < -4294967296) = false := by simpa using b3
                  clear b3
                  go_enter Try.func5, Try.ntmps5
                  go_wp2_with fail
                  refine (HI.out _).mono ?_
                  rintro e wn ⟨rfl, hs⟩
                  have HS2 := hide' (HS.out.keep hs)
                  clear hs HS
                  have HS := HS2
                  clear HS2
                  try clear c0 c1 c2 c3
                  obtain ⟨_, c0, c1, c2, c3, _⟩ := HS.out
                  go_wp2_with fail
                  refine (H7.out _).mono ?_
                  rintro e wn ⟨rfl, hs⟩
                  have HS2 := hide' (HS.out.keep hs)
                  clear hs HS
                  have HS := HS2
                  clear HS2
                  try clear c0 c1 c2 c3
                  obtain ⟨_, c0, c1, c2, c3, _⟩ := HS.out
                  go_wp2_with fail
                  refine (H0.out _).mono ?_
                  rintro e wn ⟨rfl, hs⟩
                  have HS2 := hide' (HS.out.keep hs)
                  clear hs HS
                  have HS := HS2
                  clear HS2
                  try clear c0 c1 c2 c3
                  obtain ⟨_, c0, c1, c2, c3, _⟩ := HS.out
                  go_wp2_with fail
                  refine (awake18 _).mono ?_
                  rintro e wm ⟨rfl, hs⟩
                  have HS2 := hide' (HS.out.keep hs)
                  clear hs
                  go_wp2
                  go_ret
                  exact ⟨rfl, HS2.out.1⟩
  · obtain ⟨f1, f2, f3, f4, f5, f6⟩ := HF.out rfl
    obtain rfl : c0 = true := HC.out f1 f2
    have d1 : decide (r.w < 1) = false := by simp; omega
    have d2 : decide (r.h < 1) = false := by simp; omega
    have d3 : decide (x < r.x) = false := by simp; omega
    have d4 : decide (y < r.y) = false := by simp; omega
    clear HC HF
    cases cr
    · clear HD f1 f2 f3 f4 f5 f6
      go_enter Try.func5, Try.ntmps5
      go_wp2_with fail
      refine (HI.out _).mono ?_
      rintro e wn ⟨rfl, hs⟩
      have HS2 := hide' (HS.out.keep hs)
      clear hs HS
      have HS := HS2
      clear HS2
      try clear c0 c1 c2 c3
      obtain ⟨_, c0, c1, c2, c3, _⟩ := HS.out
      go_wp2_with fail
      refine (H7.out _).mono ?_
      rintro e wn ⟨rfl, hs⟩
      have HS2 := hide' (HS.out.keep hs)
      clear hs HS
      have HS := HS2
      clear HS2
      try clear c0 c1 c2 c3
      obtain ⟨_, c0, c1, c2, c3, _⟩ := HS.out
      go_wp2_with fail
      refine (H0.out _).mono ?_
      rintro e wn ⟨rfl, hs⟩
      have HS2 := hide' (HS.out.keep hs)
      clear hs HS
      have HS := HS2
      clear HS2
      try clear c0 c1 c2 c3
      obtain ⟨_, c0, c1, c2, c3, _⟩ := HS.out
      go_wp2_with fail
      refine (awake18 _).mono ?_
      rintro e wm ⟨rfl, hs⟩
      have HS2 := hide' (HS.out.keep hs)
      clear hs
      go_wp2
      go_ret
      exact ⟨rfl, HS2.out.1⟩
    · obtain ⟨⟨p1, p2⟩, ⟨p3, p4⟩, ⟨p5, p6⟩, p7, p8⟩ := HD.out rfl
      have e0 : decide (4294967296 < x) = false := by simp; omega
      have e1 : decide (4294967296 < y) = false := by simp; omega
      have e2 : decide (x < -4294967296) = false := by simp; omega
      have e3 : decide (y < -4294967296) = false := by simp; omega
      clear HD f1 f2 f3 f4 f5 f6 p1 p2 p3 p4 p5 p6 p7 p8
      go_enter Try.func5, Try.ntmps5
      go_wp2_with fail
      refine (HI.out _).mono ?_
      rintro e wn ⟨rfl, hs⟩
      have HS2 := hide' (HS.out.keep hs)
      clear hs HS
      have HS := HS2
      clear HS2
      try clear c0 c1 c2 c3
      obtain ⟨_, c0, c1, c2, c3, _⟩ := HS.out
      go_wp2_with fail
      refine (H7.out _).mono ?_
      rintro e wn ⟨rfl, hs⟩
      have HS2 := hide' (HS.out.keep hs)
      clear hs HS
      have HS := HS2
      clear HS2
      try clear c0 c1 c2 c3
      obtain ⟨_, c0, c1, c2, c3, _⟩ := HS.out
      go_wp2_with fail
      refine (H0.out _).mono ?_
      rintro e wn ⟨rfl, hs⟩
      have HS2 := hide' (HS.out.keep hs)
      clear hs HS
      have HS := HS2
      clear HS2
      try clear c0 c1 c2 c3
      obtain ⟨_, c0, c1, c2, c3, _⟩ := HS.out
      go_wp2_with fail
      refine (awake18 _).mono ?_
      rintro e wm ⟨rfl, hs⟩
      have HS2 := hide' (HS.out.keep hs)
      clear hs
      go_wp2
      go_ret
      exact ⟨rfl, HS2.out.1⟩

end Go.Proofs.Ytloijopnfnhnhaa
