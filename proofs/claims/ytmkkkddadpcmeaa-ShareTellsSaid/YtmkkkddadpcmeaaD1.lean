/-
  The law of three numbers, and the law of two, come out true: in whatever world, of words that fit 64 bits.
-/
import Derived.Test.YtmkkkddadpcmeaaA9
namespace Go.Proofs.Ytmkkkddadpcmeaa
open Go.RowKit

theorem three_of (a b c : Nat) (w : World) (x y z : Int) (hx : ordI a b = x) (hxr : ordI b a = -x) (hy : ordI b c = y) (hz : ordI a c = z) (haa : ordI a a = 0)
    (h : (x = -1 ∨ x = 0 ∨ x = 1) ∧ (y = -1 ∨ y = 0 ∨ y = 1) ∧ (z = -1 ∨ z = 0 ∨ z = 1) ∧ (x ≤ 0 → y ≤ 0 → z ≤ 0) ∧ (x < 0 → y ≤ 0 → z < 0)) :
    Calls Try.prog 6 #[.float .f64 a, .float .f64 b, .float .f64 c] w fun e w' => e = .returned (.bool true) ∧ Below w.heap.size w w' := by
  obtain ⟨h1, h2, h3, h4, h5⟩ := h
  rcases h1 with rfl | rfl | rfl <;> rcases h2 with rfl | rfl | rfl <;> rcases h3 with rfl | rfl | rfl <;> first | (exfalso; omega) | skip
  all_goals
    clear h4 h5
    try simp only [Int.neg_neg, Int.neg_zero] at hxr
    go_enter Try.func6, Try.ntmps6
    go_wp2_with (first | (go_at_call 8; refine (order_any _ _ _).mono ?_; rintro e w' ⟨rfl, rfl⟩; simp only [hx, hxr, hy, hz, haa]) | (go_at_call 10; refine (same_any _ _ _).mono ?_; rintro e w' ⟨rfl, rfl⟩; simp only [hx]) | (go_at_call 13; refine (awake_any _).mono ?_; rintro e w' ⟨rfl, hb⟩))
    go_ret
    exact ⟨rfl, by assumption⟩

theorem three_any (a b c : Nat) (w : World) (ha : a < 18446744073709551616) (hb : b < 18446744073709551616) (hc : c < 18446744073709551616) :
    Calls Try.prog 6 #[.float .f64 a, .float .f64 b, .float .f64 c] w fun e w' => e = .returned (.bool true) ∧ Below w.heap.size w w' := by
  have e1 := ordI_key a b ha hb
  have e2 := ordI_key b a hb ha
  have e3 := ordI_key b c hb hc
  have e4 := ordI_key a c ha hc
  have e5 := ordI_key a a ha ha
  have b1 := cmpI_bounds (ky a) (ky b)
  have b2 := cmpI_bounds (ky b) (ky a)
  have b3 := cmpI_bounds (ky b) (ky c)
  have b4 := cmpI_bounds (ky a) (ky c)
  have b5 := cmpI_bounds (ky a) (ky a)
  exact three_of a b c w (ordI a b) (ordI b c) (ordI a c) rfl (by omega) rfl rfl (by omega) (by omega)

theorem rnan_any (a : Nat) (w : World) : Calls Try.prog 23 #[.float .f64 a] w fun e w' => e = .returned (.bool (isN a)) ∧ w = w' := by
  go_enter Try.func23, Try.ntmps23
  go_wp2
  all_goals (go_ret; exact ⟨rfl, rfl⟩)

theorem rminus_any (a : Nat) (w : World) (ha : a < 18446744073709551616) : Calls Try.prog 24 #[.float .f64 a] w fun e w' => e = .returned (.bool (sgn a)) ∧ w = w' := by
  have c37 := call37
  have hs : sgn a = ((a : Int) / 9223372036854775808 == 1) := by
    unfold sgn wrap64
    rw [Bool.eq_iff_iff]
    simp
    omega
  have HS := hide' hs
  have haz : (a : Int) < 18446744073709551616 := by omega
  clear hs
  go_enter Try.func24, Try.ntmps24
  go_wp2
  go_ret
  exact ⟨by rw [HS.out]; rfl, rfl⟩

set_option maxHeartbeats 3000000 in
theorem rord_of (a b : Nat) (w : World) (ha : a < 18446744073709551616) (hb : b < 18446744073709551616) (na nb sa sb : Bool) (o : Option Ordering) (hna : isN a = na) (hnb : isN b = nb) (hsa : sgn a = sa) (hsb : sgn b = sb)
    (ho : FloatKind.f64.format.order a b = o) (h : na = false → nb = false → o = some .lt ∨ o = some .eq ∨ o = some .gt) :
    Calls Try.prog 9 #[.float .f64 a, .float .f64 b] w fun e w' => e = .returned (.int .i64 (ordI a b)) ∧ w = w' := by
  have hr : ordI a b = if na || nb then aft na nb else if o == some .lt then -1 else if o == some .gt then 1 else aft (!sa) (!sb) := by
    unfold ordI fo; rw [hna, hnb, hsa, hsb, ho]
  have HR := hide' hr
  have HA := hide' ha
  have HB := hide' hb
  clear hr ha hb
  cases na <;> cases nb
  · rcases h rfl rfl with rfl | rfl | rfl <;> cases sa <;> cases sb
    all_goals
      clear h
      go_enter Try.func9, Try.ntmps9
      go_wp2_with (first | (go_at_call 23; refine (rnan_any _ _).mono ?_; rintro e w' ⟨rfl, rfl⟩; simp only [hna, hnb]) | (go_at_call 24; first | (refine (rminus_any a _ HA.out).mono ?_; rintro e w' ⟨rfl, rfl⟩; simp only [hsa]) | (refine (rminus_any b _ HB.out).mono ?_; rintro e w' ⟨rfl, rfl⟩; simp only [hsb])))
      go_ret
      exact ⟨by rw [HR.out]; rfl, rfl⟩
  all_goals
    clear h
    go_enter Try.func9, Try.ntmps9
    go_wp2_with (first | (go_at_call 23; refine (rnan_any _ _).mono ?_; rintro e w' ⟨rfl, rfl⟩; simp only [hna, hnb]))
    go_ret
    exact ⟨by rw [HR.out]; rfl, rfl⟩

theorem rorder_any (a b : Nat) (w : World) (ha : a < 18446744073709551616) (hb : b < 18446744073709551616) :
    Calls Try.prog 9 #[.float .f64 a, .float .f64 b] w fun e w' => e = .returned (.int .i64 (ordI a b)) ∧ w = w' := by
  refine rord_of a b w ha hb _ _ _ _ _ rfl rfl rfl rfl rfl fun h1 h2 => ?_
  rw [isN_iff] at h1 h2
  rw [order_key a b (by simpa using h1) (by simpa using h2)]
  rcases Int.lt_trichotomy (kx a) (kx b) with h | h | h
  · rw [cmp_lt h]; exact Or.inl rfl
  · rw [cmp_eq h]; exact Or.inr (Or.inl rfl)
  · rw [cmp_gt h]; exact Or.inr (Or.inr rfl)

set_option maxHeartbeats 400000 in
theorem rcount_any (a : Nat) (w : World) : Calls Try.prog 12 #[.float .f64 a] w fun e w' => e = .returned (.float .f64 (cnt a)) ∧ w = w' := by
  go_enter Try.func12, Try.ntmps12
  go_wp2_with (first | (go_at_call 23; refine (rnan_any _ _).mono ?_; rintro e w' ⟨rfl, rfl⟩))
  all_goals (go_ret; refine ⟨?_, rfl⟩; simp_all [cnt])

theorem cnt_lt (a : Nat) (ha : a < 18446744073709551616) : cnt a < 18446744073709551616 := by
  unfold cnt
  split <;> omega

set_option maxHeartbeats 1000000 in
theorem two_any (a b : Nat) (w : World) (ha : a < 18446744073709551616) (hb : b < 18446744073709551616) :
    Calls Try.prog 3 #[.float .f64 a, .float .f64 b] w fun e w' => e = .returned (.bool true) ∧ Below w.heap.size w w' := by
  have hcc : ordI (cnt a) (cnt a) = 0 := by rw [ordI_key _ _ (cnt_lt a ha) (cnt_lt a ha)]; simp [cmpI]
  have HA := hide' ha
  have HB := hide' hb
  clear ha hb
  go_enter Try.func3, Try.ntmps3
  go_wp2_with (first | (go_at_call 8; refine (order_any _ _ _).mono ?_; rintro e w' ⟨rfl, rfl⟩; try simp only [hcc]) | (go_at_call 9; refine (rorder_any _ _ _ HA.out HB.out).mono ?_; rintro e w' ⟨rfl, rfl⟩) | (go_at_call 10; refine (same_any _ _ _).mono ?_; rintro e w' ⟨rfl, rfl⟩) | (go_at_call 11; refine (count_any _ _).mono ?_; rintro e w' ⟨rfl, rfl⟩) | (go_at_call 12; refine (rcount_any _ _).mono ?_; rintro e w' ⟨rfl, rfl⟩) | (go_at_call 13; refine (awake_any _).mono ?_; rintro e w' ⟨rfl, hb⟩))
  go_ret
  exact ⟨rfl, by assumption⟩

end Go.Proofs.Ytmkkkddadpcmeaa
