/-
  IpcRound walked: true of any arguments. No conditions.
-/
import Derived.Test.YtabalnjbfhngnaaE1
namespace Go.Proofs.Ytabalnjbfhngnaa
open Go.RowKit

attribute [local go_sem] extract0 extract1

/-- A message of the law's. -/
def mm (i : Nat) : Int × List Int := ((i : Nat), [((i : Nat) : Int)])

/-- So many of them, from one on. -/
def ms (t : Nat) : Nat → List (Int × List Int)
  | 0 => []
  | m + 1 => mm t :: ms (t + 1) m

theorem ms_len : ∀ (m t : Nat), (ms t m).length = m
  | 0, _ => rfl
  | m + 1, t => by show (ms (t + 1) m).length + 1 = m + 1; rw [ms_len m]

theorem ms_snoc : ∀ (m t : Nat), ms t m ++ [mm (t + m)] = ms t (m + 1)
  | 0, _ => rfl
  | m + 1, t => by
    show mm t :: (ms (t + 1) m ++ [mm (t + (m + 1))]) = mm t :: ms (t + 1) (m + 1)
    rw [← ms_snoc m (t + 1), show t + 1 + m = t + (m + 1) by omega]

theorem tmod20 (x : Nat) : ((x : Nat) : Int).tmod 20 = ((x % 20 : Nat) : Int) := by
  rw [Int.tmod_eq_emod_of_nonneg (by omega)]; rfl

theorem tmodk (x k : Nat) : ((x : Nat) : Int).tmod ((k : Nat) : Int) = ((x % k : Nat) : Int) := by
  rw [Int.tmod_eq_emod_of_nonneg (by omega)]; rfl

/-- A message of one byte, in a row of its own. -/
theorem Holds.one {w : World} {a : Option Addr} {k c : Nat} {x : Int} (h : Holds w (.slice a k c) [x]) : k = 1 ∧ ∃ g, a = some ⟨g, 0, none⟩ ∧ w.cell? ⟨g, 0, none⟩ = some (.int .u8 x) := by
  obtain ⟨a', c', e, _, hc⟩ := ownsRow_shape h
  obtain ⟨h1, h2, h3⟩ : a = a' ∧ k = 1 ∧ c = c' := by cases e; exact ⟨rfl, rfl, rfl⟩
  subst h1
  obtain ⟨g, hg, _, hcell⟩ := hc 0 (.int .u8 x) rfl
  exact ⟨h2, g, hg, hcell⟩

set_option maxRecDepth 100000 in
set_option maxHeartbeats 2000000 in
theorem round_go (Rm N Lg : Nat) (w : World) (hR : Rm < 256) (hN : N < 256) (hL : Lg < 256) : Calls Try.prog 4 #[.int .u8 (Rm : Nat), .int .u8 (N : Nat), .int .u8 (Lg : Nat)] w (LawTrue w) := by
  have HAW := hide' awake7
  have rw0 : IntKind.i64.wrap ((Rm : Nat) : Int) = (Rm : Nat) := by rw [IntKind.wrap_i64]; omega
  have rt := tmod20 Rm
  obtain ⟨rr, hrr⟩ : ∃ n, n = Rm % 20 := ⟨_, rfl⟩
  rw [← hrr] at rt
  have rw1 : IntKind.i64.wrap ((rr : Nat) : Int) = (rr : Nat) := by rw [IntKind.wrap_i64]; omega
  obtain ⟨k, hk⟩ : ∃ k, k = 1 + rr := ⟨_, rfl⟩
  have rw2 : IntKind.i64.wrap (1 + ((rr : Nat) : Int)) = (k : Nat) := by rw [IntKind.wrap_i64]; omega
  have lw0 : IntKind.i64.wrap ((Lg : Nat) : Int) = (Lg : Nat) := by rw [IntKind.wrap_i64]; omega
  obtain ⟨d, hd⟩ : ∃ d, d = Lg % k := ⟨_, rfl⟩
  have hdk : d < k := by rw [hd]; exact Nat.mod_lt _ (by omega)
  have lt0 := tmodk Lg k
  rw [← hd] at lt0
  have lt1 : ((Lg : Nat) : Int) % ((k : Nat) : Int) = (d : Nat) := by rw [hd]; rfl
  have lw1 : IntKind.i64.wrap ((d : Nat) : Int) = (d : Nat) := by rw [IntKind.wrap_i64]; omega
  have nw0 : IntKind.i64.wrap ((N : Nat) : Int) = (N : Nat) := by rw [IntKind.wrap_i64]; omega
  have k0 : ¬ ((k : Nat) : Int) = 0 := by omega
  have kb : k ≤ 20 := by omega
  have HN := hide' (new_in (w0 := w) k (Stay.refl _ w) (by omega) (by omega))
  clear hk hrr hd
  go_enter Try.func4, Try.ntmps4
  go_wp2_with fail
  refine HN.out.mono ?_
  rintro e w1 ⟨q0, rfl, hi, _, _⟩
  obtain ⟨b, hb⟩ : ∃ b, b = q0.b := ⟨_, rfl⟩
  rw [← hb] at hi
  rw [← hb]
  have HI0 : Hid (RIn w w1 b k q0 (ms 0 0)) := hi
  clear hi hb HN rw0 rt rw1 rw2
  go_wp2_with fail
  go_loopg [10, 11] N (fun gg v10 v11 wr => ∃ t m : Nat, t + m ≤ N ∧ m ≤ d ∧ gg = N - (t + m) ∧ v10 = .int .i64 (t : Int) ∧ v11 = .int .i64 ((t + m : Nat) : Int) ∧ ∃ q, Hid (RIn w wr b k q (ms t m)))
  case atStart => exact ⟨0, 0, Nat.zero_le _, Nat.zero_le _, rfl, rfl, rfl, q0, HI0⟩
  case round =>
    clear HI0 lw0 lt0 lt1 lw1
    obtain ⟨t, m, htm, hmd, rfl, rfl, rfl, q, HC⟩ := hrel
    obtain ⟨j, hj⟩ : ∃ j, j = t + m := ⟨_, rfl⟩
    rw [← hj] at htm
    rw [← hj]
    by_cases hlt : j < N
    · have jn : (j : Int) < (N : Nat) := by omega
      have jw : IntKind.u8.wrap ((j : Nat) : Int) = (j : Nat) := by rw [IntKind.wrap_u8]; omega
      obtain ⟨W, hW⟩ : ∃ W, W = wr.alloc (.cells #[.int .u8 (j : Nat)] 5) := ⟨_, rfl⟩
      have hi1 : RIn w W b k q (ms t m) := by rw [hW]; exact HC.out.keep ((Stay.refl _ _).alloc _)
      have hrow : Holds W (.slice (some ⟨wr.heap.size, 0, none⟩) 1 1) [((j : Nat) : Int)] := by rw [hW]; exact bytes_new wr #[.int .u8 (j : Nat)] [((j : Nat) : Int)] 1 rfl rfl (by unfold maxLen; decide)
      have HS := hide' (send_in (j : Nat) (some ⟨wr.heap.size, 0, none⟩) 1 1 [((j : Nat) : Int)] hi1 hrow.row (by simp) (by rw [ms_len]; omega))
      have HW := hide' hW
      have HJ := hide' hj
      clear hi1 hrow hW HC hj
      go_wp2_with (rw [← HW.out])
      refine HS.out.mono ?_
      rintro e w2 ⟨q2, rfl, hi, _⟩
      have hi2 : RIn w w2 b k q2 (ms t (m + 1)) := by
        rw [← ms_snoc m t, ← HJ.out]
        exact hi
      obtain ⟨m1, hm1⟩ : ∃ n, n = m + 1 := ⟨_, rfl⟩
      have HLE := hide' (len_in m1 hi2 (by rw [ms_len, hm1]))
      have HM1 := hide' hm1
      clear hi hi2 HS hm1
      go_wp2_with fail
      refine HLE.out.mono ?_
      rintro e w3 ⟨rfl, hi, _⟩
      have HI3 := hide' hi
      clear hi HLE
      have hjn := HJ.out
      have hmn := HM1.out
      have htj : t ≤ j := by omega
      have hmd1 : m1 ≤ d + 1 := by omega
      clear hjn hmn
      by_cases hgt : d < m1
      · have gz : (d : Int) < (m1 : Nat) := by omega
        have HT := hide' (take_in (show RIn w w3 b k q2 (((t : Nat), [((t : Nat) : Int)]) :: ms (t + 1) m) from HI3.out))
        have t256 : t < 256 := by omega
        have tw : IntKind.u8.wrap ((t : Nat) : Int) = (t : Nat) := by rw [IntKind.wrap_u8]; omega
        obtain ⟨t1, ht1⟩ : ∃ n, n = t + 1 := ⟨_, rfl⟩
        have tw1 : IntKind.i64.wrap (((t : Nat) : Int) + 1) = (t1 : Nat) := by rw [IntKind.wrap_i64]; omega
        have HT1 := hide' ht1
        clear HI3 ht1
        go_wp2_with fail
        refine HT.out.mono ?_
        rintro e w4 ⟨q3, za, zk, zc, rfl, hi, _, hh, _⟩
        obtain ⟨rfl, zg, rfl, hce⟩ := hh.one
        obtain ⟨B4, hB4⟩ : ∃ B, B = w4.heap.size := ⟨_, rfl⟩
        obtain ⟨W4, hW4⟩ : ∃ W, W = w4.alloc (.cells #[.int .i64 (t : Nat), .slice (some ⟨zg, 0, none⟩) 1 zc] 28) := ⟨_, rfl⟩
        have hst4 : Stay (fun _ => False) w4 W4 := by rw [hW4]; exact (Stay.refl _ _).alloc _
        have hmb : MBox W4 B4 ⟨(t : Nat), .slice (some ⟨zg, 0, none⟩) 1 zc⟩ := by rw [hW4]; exact MBox.new ⟨(t : Nat), .slice (some ⟨zg, 0, none⟩) 1 zc⟩ hB4.symm
        have hce4 := keep_cell hst4 hce
        have HI4 := hide' (hi.keep hst4)
        have HW4 : Hid (B4 = w4.heap.size ∧ W4 = w4.alloc (.cells #[.int .i64 (t : Nat), .slice (some ⟨zg, 0, none⟩) 1 zc] 28)) := ⟨hB4, hW4⟩
        obtain ⟨c0, c1, _, _⟩ := hmb
        simp only at c0 c1
        clear hi hh hce hB4 hW4 hst4 HT
        go_upto_region 14 with fail
        obtain ⟨hB4, hW4⟩ := HW4.out
        rw [← hW4, ← hB4]
        clear hB4 hW4 HW4
        go_wp2
        go_roundg (N - (t1 + m))
        case measure => have := HT1.out; have := HJ.out; omega
        case rel => exact ⟨t1, m, by have := HT1.out; have := HJ.out; omega, hmd, rfl, rfl, by have := HT1.out; have := HJ.out; go_num, q3, by rw [HT1.out]; exact HI4.out⟩
      · have gz : ¬ (d : Int) < (m1 : Nat) := by omega
        have HI4 : Hid (RIn w w3 b k q2 (ms t m1)) := by rw [HM1.out]; exact HI3.out
        clear HI3
        go_wp2
        go_roundg (N - (t + m1))
        case measure => have := HM1.out; have := HJ.out; omega
        case rel => exact ⟨t, m1, by have := HM1.out; have := HJ.out; omega, by omega, rfl, rfl, by have := HM1.out; have := HJ.out; go_num, q2, HI4⟩
    · have e : j = N := by omega
      have HLE := hide' (len_in m HC.out (ms_len m t))
      have sw : IntKind.i64.wrap (((N : Nat) : Int) - ((t : Nat) : Int)) = (m : Nat) := by rw [IntKind.wrap_i64]; omega
      clear HC hj
      subst e
      go_wp2_with fail
      refine HLE.out.mono ?_
      rintro e w3 ⟨rfl, hi, _⟩
      have HS3 := hide' hi.stay
      clear hi HLE
      go_wp2_with fail
      refine (HAW.out _).mono ?_
      rintro e w4 ⟨rfl, hs⟩
      have HS4 := hide' (HS3.out.trans hs)
      clear hs
      go_wp2
      go_ret
      exact ⟨rfl, HS4.out⟩

end Go.Proofs.Ytabalnjbfhngnaa
