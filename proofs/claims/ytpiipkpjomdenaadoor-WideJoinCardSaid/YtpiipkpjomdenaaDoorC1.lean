/-
  How many cells a rune takes, of the code and of the document, walked. No conditions.
-/
import Derived.Test.YtpiipkpjomdenaaDoorC0
namespace Go.Proofs.YtpiipkpjomdenaaDoor
open Go.RowKit

theorem ret_int {k : IntKind} {a b : Int} (h : a = b) : Ending.returned (.int k a) = .returned (.int k b) := by rw [h]

theorem wid_neg {r : Int} (h : r < 0) : wid r = -1 := by unfold wid; rw [if_pos (by omega)]
theorem wid_big {r : Int} (h : 1114111 < r) : wid r = -1 := by unfold wid; rw [if_pos (by omega)]

set_option maxHeartbeats 1000000 in
theorem width6 (r : Int) (w : World) (hT : Tbl w) : Calls Tryd.prog 6 #[.int .i32 r] w (Gives (.int .i64 (wid r)) w) := by
  have hs : Stay (fun _ => False) w (w.alloc (.cells #[.int .i32 r] 21)) := (Stay.refl _ _).alloc _
  have HS := hide' hs
  have HT := hide' (hT.stay hs)
  have hl := hT.size
  clear hT hs
  by_cases h0 : r < 0
  · have d0 : decide (r < 0) = true := by simpa using h0
    have HW := hide' (wid_neg h0)
    go_enter Tryd.func6, Tryd.ntmps6
    go_wp2
    go_ret
    exact ⟨ret_int HW.out.symm, HS.out⟩
  have d0 : decide (r < 0) = false := by simpa using h0
  by_cases h1 : 1114111 < r
  · have HW := hide' (wid_big h1)
    go_enter Tryd.func6, Tryd.ntmps6
    go_wp2
    go_ret
    exact ⟨ret_int HW.out.symm, HS.out⟩
  have HD : Hid ((w.alloc (.cells #[.int .i32 r] 21)).cell? ⟨w.heap.size, 0, none⟩ = some (.int .i32 r)) := by simp [Hid]
  go_enter Tryd.func6, Tryd.ntmps6
  go_wp2_with (go_at_call 13; refine (search13 r _ _ HT.out HD.out).mono ?_; rintro e w' ⟨k, rfl, hf, n, rfl⟩)
  have hk := hf.1
  have HF := hide' (codeW_eq r k (by omega) (by omega) hf)
  obtain ⟨w1, hw1⟩ : ∃ w1, w1 = (w.alloc (.cells #[.int .i32 r] 21)).drewN n := ⟨_, rfl⟩
  rw [← hw1]
  have hT1 : Tbl w1 := by rw [hw1]; exact HT.out
  have HS1 : Hid (Stay (fun _ => False) w w1) := by rw [hw1]; exact HS.out.drewN n
  have hD1 : w1.cell? ⟨w.heap.size, 0, none⟩ = some (.int .i32 r) := by rw [hw1]; exact HD.out
  clear hw1 hf HD HS HT
  by_cases hk25 : k < 25
  · have c0 := hT1.lo k hk25
    have c2 := hT1.wd k hk25
    have d1 : decide ((k : Int) < 25) = true := by simp; omega
    have k0 : (0 : Int) ≤ k := by omega
    have k25 : (k : Int) < 25 := by omega
    have e1 : (k : Int).toNat = k := Int.toNat_natCast k
    by_cases hlo : loN k ≤ r
    · have HC : Hid (wdN k = wid r) := by have := HF.out; unfold codeW at this; rwa [if_pos ⟨hk25, hlo⟩] at this
      obtain ⟨x, hx⟩ : ∃ x, x = loN k := ⟨_, rfl⟩
      obtain ⟨y, hy⟩ : ∃ y, y = wdN k := ⟨_, rfl⟩
      rw [← hx] at c0 hlo
      rw [← hy] at c2 HC
      have d2 : decide (x ≤ r) = true := by simpa using hlo
      clear hT1 HF hx hy
      go_wp2_with fail
      go_quiet (fail)
      go_wp2
      go_ret
      exact ⟨ret_int HC.out, HS1.out.drewN _⟩
    · have HC : Hid (1 = wid r) := by have := HF.out; unfold codeW at this; rwa [if_neg (fun h => hlo h.2)] at this
      obtain ⟨x, hx⟩ : ∃ x, x = loN k := ⟨_, rfl⟩
      rw [← hx] at c0 hlo
      have d2 : decide (x ≤ r) = false := by simpa using hlo
      clear hT1 HF hx c2
      go_wp2_with fail
      go_quiet (fail)
      go_wp2
      go_ret
      exact ⟨ret_int HC.out, HS1.out.drewN _⟩
  · have HC : Hid (1 = wid r) := by have := HF.out; unfold codeW at this; rwa [if_neg (fun h => hk25 h.1)] at this
    have d1 : decide ((k : Int) < 25) = false := by simp; omega
    clear hT1 HF
    go_wp2_with fail
    go_quiet (fail)
    go_wp2
    go_ret
    exact ⟨ret_int HC.out, HS1.out.drewN _⟩

end Go.Proofs.YtpiipkpjomdenaaDoor
