/-
  The table, searched by halves: walked. No conditions.
  How many cells a rune takes, of the code and of the document, walked. No conditions.
-/
import Derived.Test.YticccknocjnkpaaDoorGI
namespace Go.Proofs.YticccknocjnkpaaDoor.Wide
open Go.RowKit

/-- What is asked at a row. -/
theorem ask29 (r : Int) (i : Int) (D : Nat) (w : World) (hT : Tbl w) (h0 : 0 ≤ i) (h1 : i < 25) (hD : w.cell? ⟨D, 0, none⟩ = some (.int .i32 r)) (q : Bool) (hq : decide (r ≤ hiN i.toNat) = q) :
    Calls Tryd.prog 29 #[.int .i64 i, .pointer (some ⟨D, 0, none⟩)] w fun e w' => e = .returned (.bool q) ∧ ∃ n, w' = w.drewN n := by
  obtain ⟨k, rfl⟩ := Int.eq_ofNat_of_zero_le h0
  rw [Int.toNat_natCast] at hq
  have hh := hT.hi k (by omega)
  obtain ⟨z, hz⟩ : ∃ z, z = hiN k := ⟨_, rfl⟩
  rw [← hz] at hh hq
  have HQ := hide' hq
  clear hT hz hq
  have e1 : (k : Int).toNat = k := Int.toNat_natCast k
  go_enter Tryd.func29, Tryd.ntmps29
  go_wp2_with fail
  go_quiet (fail)
  go_wp2
  go_ret
  exact ⟨by rw [← HQ.out]; rfl, _, rfl⟩

/-- What a search by halves hands back. -/
def Found (r : Int) (w : World) (e : Ending) (w' : World) : Prop := ∃ k : Nat, e = .returned (.int .i64 (k : Int)) ∧ First r k ∧ ∃ n, w' = w.drewN n

theorem first_up {r : Int} {lo hi : Nat} (h1 : Hid ((∀ t, t < lo → hiN t < r) ∧ (∀ t, hi ≤ t → t < 25 → r ≤ hiN t))) {m : Nat} (hm : m < 25) (h : decide (r ≤ hiN m) = false) :
    Hid ((∀ t, t < m + 1 → hiN t < r) ∧ (∀ t, hi ≤ t → t < 25 → r ≤ hiN t)) :=
  ⟨fun t ht => by have := hi_mono t m (by omega) hm; simp at h; omega, h1.out.2⟩

theorem first_down {r : Int} {lo hi : Nat} (h1 : Hid ((∀ t, t < lo → hiN t < r) ∧ (∀ t, hi ≤ t → t < 25 → r ≤ hiN t))) {m : Nat} (h : decide (r ≤ hiN m) = true) :
    Hid ((∀ t, t < lo → hiN t < r) ∧ (∀ t, m ≤ t → t < 25 → r ≤ hiN t)) :=
  ⟨h1.out.1, fun t h2 h3 => by have := hi_mono m t h2 h3; simp at h; omega⟩

set_option maxHeartbeats 1000000 in
theorem search28 (r : Int) (D : Nat) (w : World) (hT : Tbl w) (hD : w.cell? ⟨D, 0, none⟩ = some (.int .i32 r)) :
    Calls Tryd.prog 28 #[.int .i64 25, .func (.func 29) #[] #[.pointer (some ⟨D, 0, none⟩)]] w (Found r w) := by
  have HT := hide' hT
  have HD := hide' hD
  clear hT hD
  go_enter Tryd.func28, Tryd.ntmps28
  go_wp2
  go_loopg [5, 6] 25 (fun g s5 s6 wr => ∃ lo hi : Nat, s5 = .int .i64 (lo : Int) ∧ s6 = .int .i64 (hi : Int) ∧ lo ≤ hi ∧ hi ≤ 25 ∧ hi - lo ≤ g ∧ Hid (∃ n, wr = w.drewN n) ∧ Hid ((∀ t, t < lo → hiN t < r) ∧ (∀ t, hi ≤ t → t < 25 → r ≤ hiN t)))
  case atStart => exact ⟨0, 25, rfl, rfl, by omega, by omega, by omega, ⟨0, rfl⟩, ⟨fun t ht => by omega, fun t h1 h2 => by omega⟩⟩
  case round =>
    obtain ⟨lo, hi, rfl, rfl, hlh, h25, hg, HN, HF⟩ := hrel
    by_cases hlt : lo < hi
    · have HW : Hid (Tbl wr) := by obtain ⟨n, hn⟩ := HN.out; rw [hn]; exact HT.out
      have HDW : Hid (wr.cell? ⟨D, 0, none⟩ = some (.int .i32 r)) := by obtain ⟨n, hn⟩ := HN.out; rw [hn]; exact HD.out
      have e2 : (((lo : Int) + (hi : Int)) / 2).toNat = (lo + hi) / 2 := by omega
      have HE := hide' e2
      clear e2
      cases hq : decide (r ≤ hiN ((lo + hi) / 2))
      · have HQ := hide' hq
        clear hq
        go_wp2_with (go_at_call 29; refine (ask29 r _ D _ HW.out (by omega) (by omega) HDW.out false (by rw [HE.out]; exact HQ.out)).mono ?_; rintro e w' ⟨rfl, nq, rfl⟩)
        go_roundg (hi - ((lo + hi) / 2 + 1))
        case measure => omega
        case rel =>
          exact ⟨(lo + hi) / 2 + 1, hi, by rw [show ((lo : Int) + (hi : Int)) / 2 + 1 = (((lo + hi) / 2 + 1 : Nat) : Int) by omega], rfl, by omega, h25, Nat.le_refl _, (by obtain ⟨n, hn⟩ := HN.out; exact ⟨n + nq, by rw [hn]; simp [World.drewN, Nat.add_assoc]⟩), first_up HF (by omega) HQ.out⟩
      · have HQ := hide' hq
        clear hq
        go_wp2_with (go_at_call 29; refine (ask29 r _ D _ HW.out (by omega) (by omega) HDW.out true (by rw [HE.out]; exact HQ.out)).mono ?_; rintro e w' ⟨rfl, nq, rfl⟩)
        go_roundg ((lo + hi) / 2 - lo)
        case measure => omega
        case rel =>
          exact ⟨lo, (lo + hi) / 2, rfl, by rw [show ((lo : Int) + (hi : Int)) / 2 = (((lo + hi) / 2 : Nat) : Int) by omega], by omega, by omega, Nat.le_refl _, (by obtain ⟨n, hn⟩ := HN.out; exact ⟨n + nq, by rw [hn]; simp [World.drewN, Nat.add_assoc]⟩), first_down HF HQ.out⟩
    · obtain rfl : hi = lo := by omega
      go_wp2
      go_ret
      exact ⟨hi, rfl, ⟨h25, HF.out.1, HF.out.2⟩, HN.out⟩

end Go.Proofs.YticccknocjnkpaaDoor.Wide

namespace Go.Proofs.YticccknocjnkpaaDoor.Wide
open Go.RowKit

theorem ret_int {k : IntKind} {a b : Int} (h : a = b) : Ending.returned (.int k a) = .returned (.int k b) := by rw [h]

theorem wid_neg {r : Int} (h : r < 0) : wid r = -1 := by unfold wid; rw [if_pos (by omega)]
theorem wid_big {r : Int} (h : 1114111 < r) : wid r = -1 := by unfold wid; rw [if_pos (by omega)]

set_option maxHeartbeats 1000000 in
theorem width14 (r : Int) (w : World) (hT : Tbl w) : Calls Tryd.prog 14 #[.int .i32 r] w (Gives (.int .i64 (wid r)) w) := by
  have hs : Stay (fun _ => False) w (w.alloc (.cells #[.int .i32 r] 21)) := (Stay.refl _ _).alloc _
  have HS := hide' hs
  have HT := hide' (hT.stay hs)
  have hl := hT.size
  clear hT hs
  by_cases h0 : r < 0
  · have d0 : decide (r < 0) = true := by simpa using h0
    have HW := hide' (wid_neg h0)
    go_enter Tryd.func14, Tryd.ntmps14
    go_wp2
    go_ret
    exact ⟨ret_int HW.out.symm, HS.out⟩
  have d0 : decide (r < 0) = false := by simpa using h0
  by_cases h1 : 1114111 < r
  · have HW := hide' (wid_big h1)
    go_enter Tryd.func14, Tryd.ntmps14
    go_wp2
    go_ret
    exact ⟨ret_int HW.out.symm, HS.out⟩
  have HD : Hid ((w.alloc (.cells #[.int .i32 r] 21)).cell? ⟨w.heap.size, 0, none⟩ = some (.int .i32 r)) := by simp [Hid]
  go_enter Tryd.func14, Tryd.ntmps14
  go_wp2_with (go_at_call 28; refine (search28 r _ _ HT.out HD.out).mono ?_; rintro e w' ⟨k, rfl, hf, n, rfl⟩)
  have hk := hf.1
  have HF := hide' (codeW_eq r k (by omega) (by omega) hf)
  obtain ⟨w1, hw1⟩ : ∃ w1, w1 = (w.alloc (.cells #[.int .i32 r] 21)).drewN n := ⟨_, rfl⟩
  rw [← hw1]
  have hT1 : Tbl w1 := by rw [hw1]; exact HT.out
  have HS1 : Hid (Stay (fun _ => False) w w1) := by rw [hw1]; exact HS.out.drewN n
  have hD1 : w1.cell? ⟨w.heap.size, 0, none⟩ = some (.int .i32 r) := by rw [hw1]; exact HD.out
  clear hw1 hf HD HS HT
  by_cases hk25 : k < 25
  · have c0 := hT1.lo k hk25
    have c2 := hT1.wd k hk25
    have d1 : decide ((k : Int) < 25) = true := by simp; omega
    have k0 : (0 : Int) ≤ k := by omega
    have k25 : (k : Int) < 25 := by omega
    have e1 : (k : Int).toNat = k := Int.toNat_natCast k
    by_cases hlo : loN k ≤ r
    · have HC : Hid (wdN k = wid r) := by have := HF.out; unfold codeW at this; rwa [if_pos ⟨hk25, hlo⟩] at this
      obtain ⟨x, hx⟩ : ∃ x, x = loN k := ⟨_, rfl⟩
      obtain ⟨y, hy⟩ : ∃ y, y = wdN k := ⟨_, rfl⟩
      rw [← hx] at c0 hlo
      rw [← hy] at c2 HC
      have d2 : decide (x ≤ r) = true := by simpa using hlo
      clear hT1 HF hx hy
      go_wp2_with fail
      go_quiet (fail)
      go_wp2
      go_ret
      exact ⟨ret_int HC.out, HS1.out.drewN _⟩
    · have HC : Hid (1 = wid r) := by have := HF.out; unfold codeW at this; rwa [if_neg (fun h => hlo h.2)] at this
      obtain ⟨x, hx⟩ : ∃ x, x = loN k := ⟨_, rfl⟩
      rw [← hx] at c0 hlo
      have d2 : decide (x ≤ r) = false := by simpa using hlo
      clear hT1 HF hx c2
      go_wp2_with fail
      go_quiet (fail)
      go_wp2
      go_ret
      exact ⟨ret_int HC.out, HS1.out.drewN _⟩
  · have HC : Hid (1 = wid r) := by have := HF.out; unfold codeW at this; rwa [if_neg (fun h => hk25 h.1)] at this
    have d1 : decide ((k : Int) < 25) = false := by simp; omega
    clear hT1 HF
    go_wp2_with fail
    go_quiet (fail)
    go_wp2
    go_ret
    exact ⟨ret_int HC.out, HS1.out.drewN _⟩

end Go.Proofs.YticccknocjnkpaaDoor.Wide
