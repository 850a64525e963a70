/-
  The sum of what weights count, the quotas and the quotas' floors are fixed, and small: of 1 to 64 counts from 0 to 1, one of them 1, and at most 512 cells.
-/
import Derived.Test.YtmkkkddadpcmeaaG0
namespace Go.Proofs.Ytmkkkddadpcmeaa
open Go.RowKit Ieee

theorem sum_word (T : Nat → Nat) (n : Nat) (hn : n ≤ 64) (hT : ∀ j, j < n → T j ≤ one) : ∀ k, k ≤ n →
    sumTo T k < infR ∧ V (sumTo T k) ≤ k * U ∧ (∀ j, j < k → T j ≤ sumTo T k) ∧ (k < n → (floatBits .add .f64 (sumTo T k) (T k)).isSome = true ∧ RV (V (sumTo T k) + V (T k)) 1 (sumTo T (k + 1))) := by
  have step : ∀ k, k < n → sumTo T k < infR → V (sumTo T k) ≤ k * U → ∃ r, floatBits .add .f64 (sumTo T k) (T k) = some r ∧ r < infR ∧ V r ≤ (k + 1) * U ∧ sumTo T k ≤ r ∧ T k ≤ r ∧ RV (V (sumTo T k) + V (T k)) 1 r := by
    intro k hk h1 h2
    have ht := hT k hk
    obtain ⟨r, a1, a2⟩ := add_fin h1 (Nat.lt_of_le_of_lt ht one_fin)
    obtain ⟨s, s1, s2⟩ := int_word (k + 1) (by omega) (by omega)
    have hv := V_le ht
    rw [V_one] at hv
    have hr : r ≤ s := a2.le Nat.one_pos (by rw [s1, Nat.mul_one, Nat.add_mul, Nat.one_mul]; exact Nat.add_le_add h2 hv)
    have e : min r infR = r := Nat.min_eq_left (by omega)
    rw [e] at a1
    refine ⟨r, a1, by omega, by rw [← s1]; exact V_le hr, a2.ge Nat.one_pos (by rw [Nat.mul_one]; omega), a2.ge Nat.one_pos (by rw [Nat.mul_one]; omega), a2⟩
  have next : ∀ k r, floatBits .add .f64 (sumTo T k) (T k) = some r → sumTo T (k + 1) = r := fun k r h => by
    show (floatBits .add .f64 (sumTo T k) (T k)).getD 0 = r
    rw [h]; rfl
  intro k
  induction k with
  | zero =>
    intro _
    have h0 : sumTo T 0 < infR := by show 0 < infR; decide
    have h1 : V (sumTo T 0) ≤ 0 * U := by show V 0 ≤ _; rw [V_zero]; exact Nat.zero_le _
    refine ⟨h0, h1, fun j hj => by omega, fun hk => ?_⟩
    obtain ⟨r, a1, a2, a3, a4, a5, a6⟩ := step 0 hk h0 h1
    exact ⟨by rw [a1]; rfl, by rw [next 0 r a1]; exact a6⟩
  | succ k ih =>
    intro hk
    obtain ⟨b1, b2, b3, _⟩ := ih (by omega)
    obtain ⟨r, a1, a2, a3, a4, a5, a6⟩ := step k (by omega) b1 b2
    have e := next k r a1
    have c1 : sumTo T (k + 1) < infR := by rw [e]; exact a2
    have c2 : V (sumTo T (k + 1)) ≤ (k + 1) * U := by rw [e]; exact a3
    refine ⟨c1, c2, fun j hj => ?_, fun hk2 => ?_⟩
    · rw [e]
      by_cases ej : j = k
      · subst ej; exact a5
      · exact Nat.le_trans (b3 j (by omega)) a4
    · obtain ⟨r', a1', a2', a3', a4', a5', a6'⟩ := step (k + 1) hk2 c1 c2
      exact ⟨by rw [a1']; rfl, by rw [next (k + 1) r' a1']; exact a6'⟩

theorem cut_down (n drop : Nat) : Toward.down.cut false n drop = n / 2 ^ drop := by
  unfold Toward.cut
  simp only [Bool.false_and, Bool.toNat_false, Nat.add_zero, Nat.shiftLeft_eq, Nat.one_mul]
  by_cases hd : drop ≤ n.log2 + 2
  · rw [Nat.min_eq_left hd]
  · rw [Nat.min_eq_right (by omega)]
    have h1 : n < 2 ^ (n.log2 + 1) := Nat.lt_log2_self
    have h2 : 2 ^ (n.log2 + 1) ≤ 2 ^ (n.log2 + 2) := Nat.pow_le_pow_right (by omega) (by omega)
    have h3 : 2 ^ (n.log2 + 1) ≤ 2 ^ drop := Nat.pow_le_pow_right (by omega) (by omega)
    rw [Nat.div_eq_of_lt (by omega), Nat.div_eq_of_lt (by omega)]

theorem cut_zero (n drop : Nat) : Toward.zero.cut false n drop = n / 2 ^ drop := by
  rw [← cut_down]
  unfold Toward.cut
  simp

/-- A float's whole part, as the model cuts it. -/
theorem int_part (way : Toward) (hway : ∀ n drop, way.cut false n drop = n / 2 ^ drop) (x : Nat) (hx : x < infR) : (dbl.read x).integral way = .number false (V x / U) 0 := by
  obtain ⟨m, e, x1, x2⟩ := fin_read hx
  obtain ⟨u, hu, hU⟩ := U_pow
  have key : m * 2 ^ (-1074 + (e : Int)).toNat / 2 ^ (-(-1074 + (e : Int))).toNat = V x / U := by
    rw [← x2, hU]
    by_cases h : e ≤ u
    · have t1 : (-1074 + (e : Int)).toNat = 0 := by clear hU; omega
      have t2 : (-(-1074 + (e : Int))).toNat = u - e := by clear hU; omega
      have t3 : u - e + e = u := by clear hU; omega
      rw [t1, t2, Nat.pow_zero, Nat.mul_one]
      have e1 : 2 ^ u = 2 ^ (u - e) * 2 ^ e := by rw [← Nat.pow_add, t3]
      rw [e1, Nat.mul_div_mul_right _ _ (Nat.two_pow_pos e)]
    · have t1 : (-1074 + (e : Int)).toNat = e - u := by clear hU; omega
      have t2 : (-(-1074 + (e : Int))).toNat = 0 := by clear hU; omega
      have t3 : e - u + u = e := by clear hU; omega
      rw [t1, t2, Nat.pow_zero, Nat.div_one]
      have e1 : 2 ^ e = 2 ^ (e - u) * 2 ^ u := by rw [← Nat.pow_add, t3]
      rw [e1, ← Nat.mul_assoc, Nat.mul_div_cancel _ (Nat.two_pow_pos u)]
  rw [x1]
  simp only [Datum.integral, hway, Nat.shiftLeft_eq]
  rw [key]

theorem flo_fin (x : Nat) (hx : x < infR) (hs : V x / U ≤ 512) : ∃ s, flo x = s ∧ floatOfInt .f64 ((V x / U : Nat) : Int) = s ∧ V s = V x / U * U ∧ s < infR := by
  obtain ⟨s, h1, h2, h3⟩ := floatOfInt_fin (V x / U) hs
  refine ⟨s, ?_, h1, h2, h3⟩
  have e := int_part .down cut_down x hx
  unfold flo FloatKind.decode
  rw [show FloatKind.f64.format.read x = dbl.read x from rfl, e, ← h1]
  unfold floatOfInt FloatKind.nearest
  rw [show decide (((V x / U : Nat) : Int) < 0) = false from decide_eq_false (Int.not_lt.2 (Int.natCast_nonneg _))]
  rfl

theorem whole_fin (x : Nat) (hx : x < infR) (hs : V x / U ≤ 512) : floatToIntVal .f64 (flo x) .i64 = some ((V x / U : Nat) : Int) := by
  obtain ⟨s, h1, _, h2, h3⟩ := flo_fin x hx hs
  unfold floatToIntVal Datum.toInt FloatKind.decode
  rw [h1, show FloatKind.f64.format.read s = dbl.read s from rfl, int_part .zero cut_zero s h3, h2, Nat.mul_div_cancel _ U_pos]
  generalize V x / U = k at *
  have e : signed false k 0 = (k : Int) := by simp [signed]
  simp only [e]
  have z1 : IntKind.i64.min = -9223372036854775808 := by decide
  have z2 : IntKind.i64.max = 9223372036854775807 := by decide
  have m1 : IntKind.i64.min ≤ (k : Int) := by omega
  have m2 : (k : Int) ≤ IntKind.i64.max := by omega
  rw [if_pos ⟨m1, m2⟩]

theorem sub_fin {x y : Nat} (hx : x < infR) (hy : y < infR) : (floatBits .sub .f64 x y).isSome = true := by
  obtain ⟨m, e, x1, x2⟩ := fin_read hx
  obtain ⟨n, d, y1, y2⟩ := fin_read hy
  show (dbl.sub x y).isSome = true
  unfold Format.sub
  rw [x1, y1]
  rfl

theorem num_fin {x : Nat} (hx : x < infR) : (FloatKind.f64.decode x).isNaN = false := by
  obtain ⟨m, e, x1, x2⟩ := fin_read hx
  show (dbl.read x).isNaN = false
  rw [x1]
  rfl

/-- A quota: at most as many as there are cells, and how it comes. -/
theorem quo_word (T : Nat → Nat) (n N : Nat) (hn : n ≤ 64) (hN : N ≤ 512) (hT : ∀ j, j < n → T j ≤ one) (h1 : ∃ j, j < n ∧ T j = one) (j : Nat) (hj : j < n) :
    ∃ w p, floatOfInt .f64 (N : Int) = w ∧ V w = N * U ∧ floatBits .mul .f64 (floatOfInt .f64 (N : Int)) (T j) = some p ∧ floatBits .quo .f64 p (sumTo T n) = some (quoF N T n j) ∧ p < infR ∧ quoF N T n j < infR ∧ V (quoF N T n j) ≤ N * U ∧
      RV (V w * V (T j)) U p ∧ RV (V p * U) (V (sumTo T n)) (quoF N T n j) ∧ one ≤ sumTo T n := by
  obtain ⟨w, w1, w2, w3⟩ := floatOfInt_fin N hN
  obtain ⟨b1, _, b3, _⟩ := sum_word T n hn hT n (Nat.le_refl _)
  obtain ⟨j0, hj0, e0⟩ := h1
  have hS : one ≤ sumTo T n := by rw [← e0]; exact b3 j0 hj0
  have ht := hT j hj
  obtain ⟨p, p1, p2⟩ := mul_fin w3 (Nat.lt_of_le_of_lt ht one_fin)
  have hv := V_le ht
  rw [V_one] at hv
  have hp : p ≤ w := p2.le U_pos (Nat.mul_le_mul_left _ hv)
  have pe : min p infR = p := Nat.min_eq_left (by omega)
  rw [pe] at p1
  have hVS : U ≤ V (sumTo T n) := by rw [← V_one]; exact V_le hS
  have hVS0 : 0 < V (sumTo T n) := Nat.lt_of_lt_of_le U_pos hVS
  obtain ⟨q, q1, q2⟩ := quo_fin (x := p) (y := sumTo T n) (by omega) b1 (Nat.lt_of_lt_of_le (by decide) hS)
  have hq : q ≤ w := q2.le hVS0 (Nat.mul_le_mul (V_le hp) hVS)
  have qe : min q infR = q := Nat.min_eq_left (by omega)
  rw [qe] at q1
  have f1 : floatBits .mul .f64 (floatOfInt .f64 (N : Int)) (T j) = some p := by rw [w1]; exact p1
  have f2 : quoF N T n j = q := by
    unfold quoF
    rw [f1, Option.getD_some, show floatBits .quo .f64 p (sumTo T n) = some q from q1]
    rfl
  rw [f2]
  exact ⟨w, p, w1, w2, f1, q1, by omega, by omega, by rw [← w2]; exact V_le hq, p2, q2, hS⟩

theorem div_le_of (N v : Nat) (h : v ≤ N * U) : v / U ≤ N := by
  have := Nat.div_le_div_right (c := U) h
  rwa [Nat.mul_div_cancel _ U_pos] at this

theorem fine_all (T : Nat → Nat) (n N : Nat) (hn : n ≤ 64) (hN : N ≤ 512) (hT : ∀ j, j < n → T j ≤ one) (h1 : ∃ j, j < n ∧ T j = one) : Fine N T n := by
  have H := fun j hj => quo_word T n N hn hN hT h1 j hj
  refine ⟨fun j hj => ((sum_word T n hn hT j (by omega)).2.2.2 hj).1, fun j hj => ?_, fun j hj => ?_, fun j hj => ?_, fun j hj => ?_, fun j hj => ?_⟩
  all_goals obtain ⟨w, p, a1, a2, a3, a4, a5, a6, a7, a8, a9, a10⟩ := H j hj
  · rw [a3]; rfl
  · rw [a3, Option.getD_some, a4]; rfl
  · exact num_fin a6
  · have hd := Nat.le_trans (div_le_of N _ a7) hN
    have e := whole_fin _ a6 hd
    unfold whoF
    rw [e]
    simp only [Option.getD_some, Int.toNat_natCast]
    exact ⟨by first | rfl | trivial, Nat.lt_of_le_of_lt hd (by decide)⟩
  · have hd := Nat.le_trans (div_le_of N _ a7) hN
    obtain ⟨s, s1, _, _, s3⟩ := flo_fin _ a6 hd
    rw [s1]
    exact sub_fin a6 s3

theorem fine_any (f : Nat → Nat) (hf : ∀ j, f j < 18446744073709551616) (n N : Nat) (h0 : 0 < n) (hn : n ≤ 64) (hN : N ≤ 512) : Fine N (tog f n) n :=
  fine_all (tog f n) n N hn hN (tog_word f hf n h0).1 (tog_word f hf n h0).2

end Go.Proofs.Ytmkkkddadpcmeaa
