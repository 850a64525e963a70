/-
  A colour's parts, and what it looks like, walked. No conditions.
-/
import Derived.Test.YtinikpadbocfaaaC1
namespace Go.Proofs.Ytinikpadbocfaaa
open Go.RowKit

theorem and_255 (n : Int) : bits .and .i64 n 255 = n % 256 := by
  have h : (BitVec.ofInt 64 255).toNat = 2 ^ 8 - 1 := by decide
  have key : (BitVec.ofInt 64 n &&& BitVec.ofInt 64 255).toNat = (n % ((2 ^ 64 : Nat) : Int)).toNat % 2 ^ 8 := by
    rw [BitVec.toNat_and, BitVec.toNat_ofInt, h, Nat.and_two_pow_sub_one_eq_mod]
  show IntKind.i64.wrap ((BitVec.ofInt 64 n &&& BitVec.ofInt 64 255).toNat : Nat) = n % 256
  rw [key, IntKind.wrap_i64]
  omega

theorem ret_three {a b c x y z : Int} (h1 : a = x) (h2 : b = y) (h3 : c = z) : Ending.returned (.tuple #[.int .i64 a, .int .i64 b, .int .i64 c]) = .returned (.tuple #[.int .i64 x, .int .i64 y, .int .i64 z]) := by rw [h1, h2, h3]

theorem ret_four {a b c x y z : Int} {o : Bool} (h1 : a = x) (h2 : b = y) (h3 : c = z) : Ending.returned (.tuple #[.int .i64 a, .int .i64 b, .int .i64 c, .bool o]) = .returned (.tuple #[.int .i64 x, .int .i64 y, .int .i64 z, .bool o]) := by rw [h1, h2, h3]

theorem results_tmp4 {fn : Func} {t u v x : Tmp} (h : fn.results = #[.tmp t, .tmp u, .tmp v, .tmp x]) (tmps : Array Value) (P : Program) (w : World) :
    (results fn tmps).run P w = .ok (.tuple #[tmps.getD t undef, tmps.getD u undef, tmps.getD v undef, tmps.getD x undef]) w := by
  simp [results, h]

theorem parts18 (c r g b : Int) (w : World) (h0 : 16777216 ≤ c) (h1 : c ≤ 33554431) (hr : r = (c - 16777216) / 65536) (hg : g = c / 256 % 256) (hb : b = c % 256) :
    Calls Try.prog 18 #[.int .i64 c] w fun e w' => e = .returned (.tuple #[.int .i64 r, .int .i64 g, .int .i64 b]) ∧ w = w' := by
  have HR := hide' hr
  have HG := hide' hg
  have HB := hide' hb
  clear hr hg hb
  go_enter Try.func18, Try.ntmps18
  go_wp2
  go_ret3
  exact ⟨ret_three (by rw [HR.out]; simp only [and_255]; omega) (by rw [HG.out]; simp only [and_255]) (by rw [HB.out]; simp only [and_255]), rfl⟩

theorem simple_bits : ∀ n : Nat, n < 16 → (bits .and .i64 (n : Int) 1 = (n : Int) % 2 ∧ bits .and .i64 (n : Int) 2 = (n : Int) / 2 % 2 * 2 ∧ bits .and .i64 (n : Int) 4 = (n : Int) / 4 % 2 * 4) := by decide +kernel

theorem simple19_1 (n q : Int) (w : World) (h0 : 0 ≤ n) (h1 : n < 16) (hq : q = 170 * (n % 2) + if 8 ≤ n then 85 else 0) :
    Calls Try.prog 19 #[.int .i64 n, .int .i64 1] w fun e w' => e = .returned (.int .i64 q) ∧ w = w' := by
  have hb := (simple_bits n.toNat (by omega)).1
  rw [show ((n.toNat : Nat) : Int) = n by omega] at hb
  by_cases hz : bits .and .i64 n 1 = 0
  · have d : (bits .and .i64 n 1 != 0) = false := by simpa using hz
    by_cases h8 : 8 ≤ n
    · have HQ : Hid (q = 85) := by
        show q = 85
        rw [hq, if_pos h8]
        omega
      clear hq hb hz
      go_enter Try.func19, Try.ntmps19
      go_wp2
      go_ret
      exact ⟨ret_int HQ.out.symm, rfl⟩
    · have HQ : Hid (q = 0) := by
        show q = 0
        rw [hq, if_neg h8]
        omega
      clear hq hb hz
      go_enter Try.func19, Try.ntmps19
      go_wp2
      go_ret
      exact ⟨ret_int HQ.out.symm, rfl⟩
  · have d : (bits .and .i64 n 1 != 0) = true := by simpa using hz
    by_cases h8 : 8 ≤ n
    · have HQ : Hid (q = 255) := by
        show q = 255
        rw [hq, if_pos h8]
        omega
      clear hq hb hz
      go_enter Try.func19, Try.ntmps19
      go_wp2
      go_ret
      exact ⟨ret_int HQ.out.symm, rfl⟩
    · have HQ : Hid (q = 170) := by
        show q = 170
        rw [hq, if_neg h8]
        omega
      clear hq hb hz
      go_enter Try.func19, Try.ntmps19
      go_wp2
      go_ret
      exact ⟨ret_int HQ.out.symm, rfl⟩

theorem simple19_2 (n q : Int) (w : World) (h0 : 0 ≤ n) (h1 : n < 16) (hq : q = 170 * (n / 2 % 2) + if 8 ≤ n then 85 else 0) :
    Calls Try.prog 19 #[.int .i64 n, .int .i64 2] w fun e w' => e = .returned (.int .i64 q) ∧ w = w' := by
  have hb := (simple_bits n.toNat (by omega)).2.1
  rw [show ((n.toNat : Nat) : Int) = n by omega] at hb
  by_cases hz : bits .and .i64 n 2 = 0
  · have d : (bits .and .i64 n 2 != 0) = false := by simpa using hz
    by_cases h8 : 8 ≤ n
    · have HQ : Hid (q = 85) := by
        show q = 85
        rw [hq, if_pos h8]
        omega
      clear hq hb hz
      go_enter Try.func19, Try.ntmps19
      go_wp2
      go_ret
      exact ⟨ret_int HQ.out.symm, rfl⟩
    · have HQ : Hid (q = 0) := by
        show q = 0
        rw [hq, if_neg h8]
        omega
      clear hq hb hz
      go_enter Try.func19, Try.ntmps19
      go_wp2
      go_ret
      exact ⟨ret_int HQ.out.symm, rfl⟩
  · have d : (bits .and .i64 n 2 != 0) = true := by simpa using hz
    by_cases h8 : 8 ≤ n
    · have HQ : Hid (q = 255) := by
        show q = 255
        rw [hq, if_pos h8]
        omega
      clear hq hb hz
      go_enter Try.func19, Try.ntmps19
      go_wp2
      go_ret
      exact ⟨ret_int HQ.out.symm, rfl⟩
    · have HQ : Hid (q = 170) := by
        show q = 170
        rw [hq, if_neg h8]
        omega
      clear hq hb hz
      go_enter Try.func19, Try.ntmps19
      go_wp2
      go_ret
      exact ⟨ret_int HQ.out.symm, rfl⟩

theorem simple19_4 (n q : Int) (w : World) (h0 : 0 ≤ n) (h1 : n < 16) (hq : q = 170 * (n / 4 % 2) + if 8 ≤ n then 85 else 0) :
    Calls Try.prog 19 #[.int .i64 n, .int .i64 4] w fun e w' => e = .returned (.int .i64 q) ∧ w = w' := by
  have hb := (simple_bits n.toNat (by omega)).2.2
  rw [show ((n.toNat : Nat) : Int) = n by omega] at hb
  by_cases hz : bits .and .i64 n 4 = 0
  · have d : (bits .and .i64 n 4 != 0) = false := by simpa using hz
    by_cases h8 : 8 ≤ n
    · have HQ : Hid (q = 85) := by
        show q = 85
        rw [hq, if_pos h8]
        omega
      clear hq hb hz
      go_enter Try.func19, Try.ntmps19
      go_wp2
      go_ret
      exact ⟨ret_int HQ.out.symm, rfl⟩
    · have HQ : Hid (q = 0) := by
        show q = 0
        rw [hq, if_neg h8]
        omega
      clear hq hb hz
      go_enter Try.func19, Try.ntmps19
      go_wp2
      go_ret
      exact ⟨ret_int HQ.out.symm, rfl⟩
  · have d : (bits .and .i64 n 4 != 0) = true := by simpa using hz
    by_cases h8 : 8 ≤ n
    · have HQ : Hid (q = 255) := by
        show q = 255
        rw [hq, if_pos h8]
        omega
      clear hq hb hz
      go_enter Try.func19, Try.ntmps19
      go_wp2
      go_ret
      exact ⟨ret_int HQ.out.symm, rfl⟩
    · have HQ : Hid (q = 170) := by
        show q = 170
        rw [hq, if_neg h8]
        omega
      clear hq hb hz
      go_enter Try.func19, Try.ntmps19
      go_wp2
      go_ret
      exact ⟨ret_int HQ.out.symm, rfl⟩

/-- What a colour looks like. -/
def lookL (c : Int) : List Int :=
  if 16777216 ≤ c ∧ c ≤ 33554431 then [(c - 16777216) / 65536, c / 256 % 256, c % 256]
  else if c < 1 ∨ 256 < c then []
  else if 233 ≤ c then [8 + 10 * (c - 233), 8 + 10 * (c - 233), 8 + 10 * (c - 233)]
  else if 17 ≤ c then [51 * ((c - 17) / 36), 51 * ((c - 17) / 6 % 6), 51 * ((c - 17) % 6)]
  else [170 * ((c - 1) % 2) + (if 9 ≤ c then 85 else 0), 170 * ((c - 1) / 2 % 2) + (if 9 ≤ c then 85 else 0), 170 * ((c - 1) / 4 % 2) + (if 9 ≤ c then 85 else 0)]

theorem lookL_shape (c : Int) : lookL c = [] ∨ ∃ r g b, lookL c = [r, g, b] := by
  unfold lookL
  repeat' split
  all_goals first | exact .inl rfl | exact .inr ⟨_, _, _, rfl⟩

/-- What a colour looks like, told in four. -/
def LookE (c : Int) (e : Ending) : Prop :=
  (lookL c = [] ∧ e = .returned (.tuple #[.int .i64 0, .int .i64 0, .int .i64 0, .bool false])) ∨ ∃ r g b, lookL c = [r, g, b] ∧ e = .returned (.tuple #[.int .i64 r, .int .i64 g, .int .i64 b, .bool true])

theorem eight (n c : Int) (h : n = c - 1) : (if 8 ≤ n then (85 : Int) else 0) = if 9 ≤ c then 85 else 0 := by
  split <;> split <;> omega

set_option maxHeartbeats 1000000 in
theorem look8 (c : Int) (w : World) (hc : W64 c) : Calls Try.prog 8 #[.int .i64 c] w fun e w' => LookE c e ∧ w = w' := by
  have H17 := hide' (rightColour17 c)
  obtain ⟨hc1, hc2⟩ := hc
  by_cases h0 : c = 0
  · subst h0
    clear H17
    go_enter Try.func8, Try.ntmps8
    go_wp2
    exact bodyPost_ret (results_tmp4 rfl _ _ _) rfl ⟨.inl ⟨by decide, rfl⟩, rfl⟩
  · have d0 : decide (c = 0) = false := by simpa using h0
    by_cases hr : colB c = true
    · have hb := hr
      unfold colB at hb
      simp only [Bool.or_eq_true, Bool.and_eq_true, decide_eq_true_eq] at hb
      rw [hr] at H17
      clear hr
      by_cases h1 : 16777216 ≤ c
      · have hc3 : c ≤ 33554431 := by omega
        have HL : Hid (lookL c = [(c - 16777216) / 65536, c / 256 % 256, c % 256]) := by
          show _ = _
          unfold lookL; rw [if_pos ⟨h1, hc3⟩]
        have H18 := hide' (fun r g b hr hg hb w => parts18 c r g b w h1 hc3 hr hg hb)
        have h1c : ¬ c = 0 := by omega
        clear hb
        go_enter Try.func8, Try.ntmps8
        go_wp2_with fail
        refine (H17.out _).mono ?_
        rintro e w' ⟨rfl, rfl⟩
        go_wp2_with fail
        refine (H18.out _ _ _ rfl rfl rfl _).mono ?_
        rintro e w' ⟨rfl, rfl⟩
        go_wp2
        exact bodyPost_ret (results_tmp4 rfl _ _ _) rfl ⟨.inr ⟨_, _, _, HL.out, rfl⟩, rfl⟩
      · have hc3 : c ≤ 256 := by omega
        have hc4 : 1 ≤ c := by omega
        clear hb
        by_cases h2 : c < 17
        · have HL : Hid (lookL c = [170 * ((c - 1) % 2) + (if 9 ≤ c then 85 else 0), 170 * ((c - 1) / 2 % 2) + (if 9 ≤ c then 85 else 0), 170 * ((c - 1) / 4 % 2) + (if 9 ≤ c then 85 else 0)]) := by
            show _ = _
            unfold lookL; rw [if_neg (by omega), if_neg (by omega), if_neg (by omega), if_neg (by omega)]
          obtain ⟨q1, hq1⟩ : ∃ q, q = 170 * ((c - 1) % 2) + (if 9 ≤ c then 85 else 0) := ⟨_, rfl⟩
          obtain ⟨q2, hq2⟩ : ∃ q, q = 170 * ((c - 1) / 2 % 2) + (if 9 ≤ c then 85 else 0) := ⟨_, rfl⟩
          obtain ⟨q4, hq4⟩ : ∃ q, q = 170 * ((c - 1) / 4 % 2) + (if 9 ≤ c then 85 else 0) := ⟨_, rfl⟩
          rw [← hq1, ← hq2, ← hq4] at HL
          have H1 := hide' (fun w => simple19_1 (c - 1) q1 w (by omega) (by omega) (by rw [hq1, eight _ c rfl]))
          have H2 := hide' (fun w => simple19_2 (c - 1) q2 w (by omega) (by omega) (by rw [hq2, eight _ c rfl]))
          have H4 := hide' (fun w => simple19_4 (c - 1) q4 w (by omega) (by omega) (by rw [hq4, eight _ c rfl]))
          clear hq1 hq2 hq4
          go_enter Try.func8, Try.ntmps8
          go_wp2_with fail
          refine (H17.out _).mono ?_
          rintro e w' ⟨rfl, rfl⟩
          go_wp2_with fail
          refine (H1.out _).mono ?_
          rintro e w' ⟨rfl, rfl⟩
          go_wp2_with fail
          refine (H2.out _).mono ?_
          rintro e w' ⟨rfl, rfl⟩
          go_wp2_with fail
          refine (H4.out _).mono ?_
          rintro e w' ⟨rfl, rfl⟩
          go_wp2
          exact bodyPost_ret (results_tmp4 rfl _ _ _) rfl ⟨.inr ⟨_, _, _, HL.out, rfl⟩, rfl⟩
        · by_cases h3 : c < 233
          · have HL : Hid (lookL c = [51 * ((c - 17) / 36), 51 * ((c - 17) / 6 % 6), 51 * ((c - 17) % 6)]) := by
              show _ = _
              unfold lookL; rw [if_neg (by omega), if_neg (by omega), if_neg (by omega), if_pos (by omega)]
            go_enter Try.func8, Try.ntmps8
            go_wp2_with fail
            refine (H17.out _).mono ?_
            rintro e w' ⟨rfl, rfl⟩
            go_wp2
            refine bodyPost_ret (results_tmp4 rfl _ _ _) rfl ?_
            exact ⟨.inr ⟨_, _, _, HL.out, ret_four (by omega) (by omega) (by omega)⟩, rfl⟩
          · have HL : Hid (lookL c = [8 + 10 * (c - 233), 8 + 10 * (c - 233), 8 + 10 * (c - 233)]) := by
              show _ = _
              unfold lookL; rw [if_neg (by omega), if_neg (by omega), if_pos (by omega)]
            go_enter Try.func8, Try.ntmps8
            go_wp2_with fail
            refine (H17.out _).mono ?_
            rintro e w' ⟨rfl, rfl⟩
            go_wp2
            refine bodyPost_ret (results_tmp4 rfl _ _ _) rfl ?_
            exact ⟨.inr ⟨_, _, _, HL.out, ret_four (by omega) (by omega) (by omega)⟩, rfl⟩
    · have hr' : colB c = false := by simpa using hr
      have HL : Hid (lookL c = []) := by
        show _ = _
        unfold colB at hr'
        simp at hr'
        unfold lookL
        rw [if_neg (by omega), if_pos (by omega)]
      rw [hr'] at H17
      clear hr hr'
      go_enter Try.func8, Try.ntmps8
      go_wp2_with fail
      refine (H17.out _).mono ?_
      rintro e w' ⟨rfl, rfl⟩
      go_wp2
      exact bodyPost_ret (results_tmp4 rfl _ _ _) rfl ⟨.inl ⟨HL.out, rfl⟩, rfl⟩

end Go.Proofs.Ytinikpadbocfaaa
