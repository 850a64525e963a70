/-
  A colour that numbers tell, walked. No conditions.
-/
import Derived.Test.YtinikpadbocfaaaC2
namespace Go.Proofs.Ytinikpadbocfaaa
open Go.RowKit

theorem or_add (k : Nat) (x y : Int) (hx : x % 2 ^ k = 0) (h0 : 0 ≤ x) (h1 : x < 4611686018427387904) (hy : 0 ≤ y) (hk : y < 2 ^ k) (h2 : y < 4611686018427387904) : bits .or .i64 x y = x + y := by
  obtain ⟨a, rfl⟩ := Int.eq_ofNat_of_zero_le h0
  obtain ⟨b, rfl⟩ := Int.eq_ofNat_of_zero_le hy
  have e1 : (BitVec.ofInt 64 ((a : Nat) : Int)).toNat = a := by rw [BitVec.toNat_ofInt]; omega
  have e2 : (BitVec.ofInt 64 ((b : Nat) : Int)).toNat = b := by rw [BitVec.toNat_ofInt]; omega
  have hb : b < 2 ^ k := by exact_mod_cast hk
  have ha : a % 2 ^ k = 0 := by exact_mod_cast hx
  have e3 : a ||| b = a + b := by
    have hm := Nat.div_add_mod a (2 ^ k)
    rw [ha, Nat.add_zero] at hm
    rw [← hm]
    exact (Nat.two_pow_add_eq_or_of_lt hb (a / 2 ^ k)).symm
  show IntKind.i64.wrap ((BitVec.ofInt 64 ((a : Nat) : Int) ||| BitVec.ofInt 64 ((b : Nat) : Int)).toNat : Nat) = _
  rw [BitVec.toNat_or, e1, e2, e3, IntKind.wrap_i64]
  omega

theorem col_bits (a b c : Int) (ha : 0 ≤ a ∧ a ≤ 255) (hb : 0 ≤ b ∧ b ≤ 255) (hc : 0 ≤ c ∧ c ≤ 255) : bits .or .i64 (bits .or .i64 (bits .or .i64 16777216 (a * 65536)) (b * 256)) c = 16777216 + 65536 * a + 256 * b + c := by
  rw [or_add 24 16777216 (a * 65536) (by decide) (by decide) (by decide) (by omega) (by omega) (by omega), or_add 16 _ (b * 256) (by omega) (by omega) (by omega) (by omega) (by omega) (by omega),
    or_add 8 _ c (by omega) (by omega) (by omega) (by omega) (by omega) (by omega)]
  omega

theorem byte_bd {x : Int} (h : byteB x = true) : 0 ≤ x ∧ x ≤ 255 := by unfold byteB at h; simpa using h

theorem ret_two {a b x y : Int} (h1 : a = x) (h2 : b = y) : Ending.returned (.tuple #[.int .i64 a, .int .i64 b]) = .returned (.tuple #[.int .i64 x, .int .i64 y]) := by rw [h1, h2]

set_option maxHeartbeats 1000000 in
theorem told23_short (a : Option Addr) (n cap : Nat) (_x0 _x1 _x2 _x3 : Int) (w : World) (hn : n ≤ 1000000) (h : (n : Int) ≤ 1) :
    Calls Try.prog 23 #[.slice a n cap] w (Gives (.tuple #[.int .i64 0, .int .i64 0]) w) := by
  have hn' : (n : Int) ≤ 1000000 := by omega
  clear hn
  go_enter Try.func23, Try.ntmps23
  go_wp2_with fail
  go_ret2
  exact ⟨rfl, Stay.refl _ _⟩

set_option maxHeartbeats 1000000 in
theorem told23_five (b off n cap : Nat) (x0 x1 _x2 _x3 : Int) (w : World) (hn : n ≤ 1000000) (h : (1 : Int) < n) (c0 : w.cell? ⟨b, off, none⟩ = some (.int .i64 x0)) (c1 : w.cell? ⟨b, off + 1, none⟩ = some (.int .i64 x1)) (e0 : (x0 == 5) = true) (h1 : byteB x1 = true) :
    Calls Try.prog 23 #[.slice (some ⟨b, off, none⟩) n cap] w (Gives (.tuple #[.int .i64 (1 + x1), .int .i64 2]) w) := by
  have hn' : (n : Int) ≤ 1000000 := by omega
  clear hn
  have hb := byte_bd h1
  obtain ⟨p1, p2⟩ := hb
  have HB1 := hide' (isByte31 x1)
  rw [h1] at HB1
  clear h1
  go_enter Try.func23, Try.ntmps23
  go_wp2_with fail
  refine (HB1.out _).mono ?_
  rintro e w' ⟨rfl, rfl⟩
  go_wp2_with fail
  go_ret2
  exact ⟨rfl, Stay.refl _ _⟩

set_option maxHeartbeats 1000000 in
theorem told23_fivebad (b off n cap : Nat) (x0 x1 _x2 _x3 : Int) (w : World) (hn : n ≤ 1000000) (h : (1 : Int) < n) (c0 : w.cell? ⟨b, off, none⟩ = some (.int .i64 x0)) (c1 : w.cell? ⟨b, off + 1, none⟩ = some (.int .i64 x1)) (e0 : x0 = 5) (h1 : byteB x1 = false) :
    Calls Try.prog 23 #[.slice (some ⟨b, off, none⟩) n cap] w (Gives (.tuple #[.int .i64 0, .int .i64 0]) w) := by
  have hn' : (n : Int) ≤ 1000000 := by omega
  clear hn
  subst e0
  have HB1 := hide' (isByte31 x1)
  rw [h1] at HB1
  clear h1
  by_cases h3 : (3 : Int) < n
  · go_enter Try.func23, Try.ntmps23
    go_wp2_with fail
    refine (HB1.out _).mono ?_
    rintro e w' ⟨rfl, rfl⟩
    go_wp2_with fail
    go_ret2
    exact ⟨rfl, Stay.refl _ _⟩

  · go_enter Try.func23, Try.ntmps23
    go_wp2_with fail
    refine (HB1.out _).mono ?_
    rintro e w' ⟨rfl, rfl⟩
    go_wp2_with fail
    go_ret2
    exact ⟨rfl, Stay.refl _ _⟩

set_option maxHeartbeats 1000000 in
theorem told23_other3 (b off n cap : Nat) (x0 _x1 _x2 _x3 : Int) (w : World) (hn : n ≤ 1000000) (h : (1 : Int) < n) (h3 : (n : Int) ≤ 3) (c0 : w.cell? ⟨b, off, none⟩ = some (.int .i64 x0)) (e0 : (x0 == 5) = false) :
    Calls Try.prog 23 #[.slice (some ⟨b, off, none⟩) n cap] w (Gives (.tuple #[.int .i64 0, .int .i64 0]) w) := by
  have hn' : (n : Int) ≤ 1000000 := by omega
  clear hn
  go_enter Try.func23, Try.ntmps23
  go_wp2_with fail
  go_ret2
  exact ⟨rfl, Stay.refl _ _⟩

set_option maxHeartbeats 1000000 in
theorem told23_other (b off n cap : Nat) (x0 _x1 _x2 _x3 : Int) (w : World) (hn : n ≤ 1000000) (h : (3 : Int) < n) (c0 : w.cell? ⟨b, off, none⟩ = some (.int .i64 x0)) (e0 : (x0 == 5) = false) (e2 : (x0 == 2) = false) :
    Calls Try.prog 23 #[.slice (some ⟨b, off, none⟩) n cap] w (Gives (.tuple #[.int .i64 0, .int .i64 0]) w) := by
  have hn' : (n : Int) ≤ 1000000 := by omega
  clear hn
  go_enter Try.func23, Try.ntmps23
  go_wp2_with fail
  go_ret2
  exact ⟨rfl, Stay.refl _ _⟩

set_option maxHeartbeats 1000000 in
theorem told23_two1 (b off n cap : Nat) (x0 x1 _x2 _x3 : Int) (w : World) (hn : n ≤ 1000000) (h : (3 : Int) < n) (c0 : w.cell? ⟨b, off, none⟩ = some (.int .i64 x0)) (c1 : w.cell? ⟨b, off + 1, none⟩ = some (.int .i64 x1)) (e0 : x0 = 2) (h1 : byteB x1 = false) :
    Calls Try.prog 23 #[.slice (some ⟨b, off, none⟩) n cap] w (Gives (.tuple #[.int .i64 0, .int .i64 0]) w) := by
  have hn' : (n : Int) ≤ 1000000 := by omega
  clear hn
  subst e0
  have HB1 := hide' (isByte31 x1)
  rw [h1] at HB1
  clear h1
  go_enter Try.func23, Try.ntmps23
  go_wp2_with fail
  refine (HB1.out _).mono ?_
  rintro e w' ⟨rfl, rfl⟩
  go_wp2_with fail
  go_ret2
  exact ⟨rfl, Stay.refl _ _⟩

set_option maxHeartbeats 1000000 in
theorem told23_two2 (b off n cap : Nat) (x0 x1 x2 _x3 : Int) (w : World) (hn : n ≤ 1000000) (h : (3 : Int) < n) (c0 : w.cell? ⟨b, off, none⟩ = some (.int .i64 x0)) (c1 : w.cell? ⟨b, off + 1, none⟩ = some (.int .i64 x1)) (c2 : w.cell? ⟨b, off + 2, none⟩ = some (.int .i64 x2)) (e0 : x0 = 2) (h1 : byteB x1 = true) (h2 : byteB x2 = false) :
    Calls Try.prog 23 #[.slice (some ⟨b, off, none⟩) n cap] w (Gives (.tuple #[.int .i64 0, .int .i64 0]) w) := by
  have hn' : (n : Int) ≤ 1000000 := by omega
  clear hn
  subst e0
  have HB1 := hide' (isByte31 x1)
  rw [h1] at HB1
  clear h1
  have HB2 := hide' (isByte31 x2)
  rw [h2] at HB2
  clear h2
  go_enter Try.func23, Try.ntmps23
  go_wp2_with fail
  refine (HB1.out _).mono ?_
  rintro e w' ⟨rfl, rfl⟩
  go_wp2_with fail
  refine (HB2.out _).mono ?_
  rintro e w' ⟨rfl, rfl⟩
  go_wp2_with fail
  go_ret2
  exact ⟨rfl, Stay.refl _ _⟩

set_option maxHeartbeats 1000000 in
theorem told23_two3 (b off n cap : Nat) (x0 x1 x2 x3 : Int) (w : World) (hn : n ≤ 1000000) (h : (3 : Int) < n) (c0 : w.cell? ⟨b, off, none⟩ = some (.int .i64 x0)) (c1 : w.cell? ⟨b, off + 1, none⟩ = some (.int .i64 x1)) (c2 : w.cell? ⟨b, off + 2, none⟩ = some (.int .i64 x2)) (c3 : w.cell? ⟨b, off + 3, none⟩ = some (.int .i64 x3)) (e0 : x0 = 2) (h1 : byteB x1 = true) (h2 : byteB x2 = true) (h3 : byteB x3 = false) :
    Calls Try.prog 23 #[.slice (some ⟨b, off, none⟩) n cap] w (Gives (.tuple #[.int .i64 0, .int .i64 0]) w) := by
  have hn' : (n : Int) ≤ 1000000 := by omega
  clear hn
  subst e0
  have HB1 := hide' (isByte31 x1)
  rw [h1] at HB1
  clear h1
  have HB2 := hide' (isByte31 x2)
  rw [h2] at HB2
  clear h2
  have HB3 := hide' (isByte31 x3)
  rw [h3] at HB3
  clear h3
  go_enter Try.func23, Try.ntmps23
  go_wp2_with fail
  refine (HB1.out _).mono ?_
  rintro e w' ⟨rfl, rfl⟩
  go_wp2_with fail
  refine (HB2.out _).mono ?_
  rintro e w' ⟨rfl, rfl⟩
  go_wp2_with fail
  refine (HB3.out _).mono ?_
  rintro e w' ⟨rfl, rfl⟩
  go_wp2_with fail
  go_ret2
  exact ⟨rfl, Stay.refl _ _⟩

set_option maxHeartbeats 1000000 in
theorem told23_two (b off n cap : Nat) (x0 x1 x2 x3 : Int) (w : World) (hn : n ≤ 1000000) (h : (3 : Int) < n) (c0 : w.cell? ⟨b, off, none⟩ = some (.int .i64 x0)) (c1 : w.cell? ⟨b, off + 1, none⟩ = some (.int .i64 x1)) (c2 : w.cell? ⟨b, off + 2, none⟩ = some (.int .i64 x2)) (c3 : w.cell? ⟨b, off + 3, none⟩ = some (.int .i64 x3)) (e0 : x0 = 2) (h1 : byteB x1 = true) (h2 : byteB x2 = true) (h3 : byteB x3 = true) :
    Calls Try.prog 23 #[.slice (some ⟨b, off, none⟩) n cap] w (Gives (.tuple #[.int .i64 (16777216 + 65536 * x1 + 256 * x2 + x3), .int .i64 4]) w) := by
  have hn' : (n : Int) ≤ 1000000 := by omega
  clear hn
  subst e0
  have HC := hide' (col_bits x1 x2 x3 (byte_bd h1) (byte_bd h2) (byte_bd h3))
  obtain ⟨p1, q1⟩ := byte_bd h1
  obtain ⟨p2, q2⟩ := byte_bd h2
  obtain ⟨p3, q3⟩ := byte_bd h3
  have HB1 := hide' (isByte31 x1)
  rw [h1] at HB1
  clear h1
  have HB2 := hide' (isByte31 x2)
  rw [h2] at HB2
  clear h2
  have HB3 := hide' (isByte31 x3)
  rw [h3] at HB3
  clear h3
  go_enter Try.func23, Try.ntmps23
  go_wp2_with fail
  refine (HB1.out _).mono ?_
  rintro e w' ⟨rfl, rfl⟩
  go_wp2_with fail
  refine (HB2.out _).mono ?_
  rintro e w' ⟨rfl, rfl⟩
  go_wp2_with fail
  refine (HB3.out _).mono ?_
  rintro e w' ⟨rfl, rfl⟩
  go_wp2_with fail
  go_quiet (fail)
  go_wp2
  go_ret2
  exact ⟨ret_two HC.out rfl, (Stay.refl _ _).drewN _⟩

theorem getD_mem {l : List Int} {j : Nat} (h : j < l.length) : l.getD j 0 ∈ l := by
  rw [List.getD_eq_getElem?_getD, List.getElem?_eq_getElem h]; exact List.getElem_mem h

theorem beq_f {x y : Int} (h : ¬ x = y) : (x == y) = false := by simpa using h
theorem beq_t {x y : Int} (h : x = y) : (x == y) = true := by simpa using h

/-- The colour that an argument tells. -/
theorem told23 (v : Value) (l : List Int) (a : Option Addr) (cap : Nat) (w : World) (hA : IArg .i64 w v l a cap) (hn : l.length ≤ 1000000) :
    Calls Try.prog 23 #[v] w (Gives (.tuple #[.int .i64 (told l).1, .int .i64 ((told l).2 : Nat)]) w) := by
  obtain ⟨rfl, hC, _, _, _, _⟩ := hA
  by_cases h1 : l.length ≤ 1
  · have e : told l = (0, 0) := by
      unfold told
      rw [if_neg (by simp; omega), if_neg (by simp; omega)]
    rw [e]
    exact told23_short a l.length cap 0 0 0 0 w hn (by omega)
  · obtain ⟨b, off, rfl, _, hB⟩ := hC (fun h => by rw [h] at h1; simp at h1)
    have c0 : w.cell? ⟨b, off, none⟩ = some (.int .i64 (l.getD 0 0)) := hB 0 (by omega)
    have c1 : w.cell? ⟨b, off + 1, none⟩ = some (.int .i64 (l.getD 1 0)) := hB 1 (by omega)
    have l1 : (1 : Int) < (l.length : Nat) := by omega
    by_cases e5 : l.getD 0 0 = 5
    · cases hb : byteB (l.getD 1 0) with
      | true =>
        have e : told l = (1 + l.getD 1 0, 2) := by
          unfold told
          rw [if_pos (by rw [hb, e5]; simp; omega)]
        rw [e]
        exact told23_five b off l.length cap _ _ 0 0 w hn l1 c0 c1 (beq_t e5) hb
      | false =>
        have e : told l = (0, 0) := by
          unfold told
          rw [if_neg (by rw [hb]; simp), if_neg (by rw [hb]; simp)]
        rw [e]
        exact told23_fivebad b off l.length cap _ _ 0 0 w hn l1 c0 c1 e5 hb
    · have h5 : ∀ x, ¬((decide (1 < l.length) && decide (l.getD 0 0 = 5) && x) = true) := fun x => by
        rw [show decide (l.getD 0 0 = 5) = false by simpa using e5]; simp
      by_cases h3 : l.length ≤ 3
      · have e : told l = (0, 0) := by
          unfold told
          rw [if_neg (h5 _), if_neg (by simp; omega)]
        rw [e]
        exact told23_other3 b off l.length cap _ 0 0 0 w hn l1 (by omega) c0 (beq_f e5)
      · have l3 : (3 : Int) < (l.length : Nat) := by omega
        have c2 : w.cell? ⟨b, off + 2, none⟩ = some (.int .i64 (l.getD 2 0)) := hB 2 (by omega)
        have c3 : w.cell? ⟨b, off + 3, none⟩ = some (.int .i64 (l.getD 3 0)) := hB 3 (by omega)
        by_cases e2 : l.getD 0 0 = 2
        · cases hb1 : byteB (l.getD 1 0) with
          | false =>
            have e : told l = (0, 0) := by
              unfold told
              rw [if_neg (h5 _), if_neg (by rw [hb1]; simp)]
            rw [e]
            exact told23_two1 b off l.length cap _ _ 0 0 w hn l3 c0 c1 e2 hb1
          | true =>
            cases hb2 : byteB (l.getD 2 0) with
            | false =>
              have e : told l = (0, 0) := by
                unfold told
                rw [if_neg (h5 _), if_neg (by rw [hb2]; simp)]
              rw [e]
              exact told23_two2 b off l.length cap _ _ _ 0 w hn l3 c0 c1 c2 e2 hb1 hb2
            | true =>
              cases hb3 : byteB (l.getD 3 0) with
              | false =>
                have e : told l = (0, 0) := by
                  unfold told
                  rw [if_neg (h5 _), if_neg (by rw [hb3]; simp)]
                rw [e]
                exact told23_two3 b off l.length cap _ _ _ _ w hn l3 c0 c1 c2 c3 e2 hb1 hb2 hb3
              | true =>
                have e : told l = (16777216 + 65536 * l.getD 1 0 + 256 * l.getD 2 0 + l.getD 3 0, 4) := by
                  unfold told
                  rw [if_neg (h5 _), if_pos (by rw [hb1, hb2, hb3, e2]; simp; omega)]
                rw [e]
                exact told23_two b off l.length cap _ _ _ _ w hn l3 c0 c1 c2 c3 e2 hb1 hb2 hb3
        · have e : told l = (0, 0) := by
            unfold told
            rw [if_neg (h5 _), if_neg (by rw [show decide (l.getD 0 0 = 2) = false by simpa using e2]; simp)]
          rw [e]
          exact told23_other b off l.length cap _ 0 0 0 w hn l3 c0 (beq_f e5) (beq_f e2)

end Go.Proofs.Ytinikpadbocfaaa
