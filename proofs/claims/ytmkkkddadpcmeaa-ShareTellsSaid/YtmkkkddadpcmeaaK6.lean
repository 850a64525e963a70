/-
  No weights, or too many, or cells out of range: nothing is shared, on both sides.
-/
import Derived.Test.YtmkkkddadpcmeaaK5
import Derived.Test.YtmkkkddadpcmeaaE3
namespace Go.Proofs.Ytmkkkddadpcmeaa
open Go.RowKit

set_option maxHeartbeats 1000000

theorem together_none (a : Option Addr) (n cap : Nat) (w : World) (h : n = 0 ∨ 64 < n) (hn : (n : Int) ≤ 9223372036854775807) :
    Calls Try.prog 14 #[.slice a n cap] w fun e w' => e = .returned (.slice none 0 0) ∧ w = w' := by
  go_enter Try.func14, Try.ntmps14
  rcases h with rfl | h
  · go_wp2
    go_ret
    exact ⟨rfl, rfl⟩
  · have hz : ((n : Int) == 0) = false := by simp; omega
    have hz2 : (64 : Int) < n := by omega
    go_wp2
    go_ret
    exact ⟨rfl, rfl⟩

theorem rtogether_none (a : Option Addr) (n cap : Nat) (w : World) (h : n = 0 ∨ 64 < n) (hn : (n : Int) ≤ 9223372036854775807) :
    Calls Try.prog 15 #[.slice a n cap] w fun e w' => e = .returned (.slice none 0 0) ∧ w = w' := by
  go_enter Try.func15, Try.ntmps15
  rcases h with rfl | h
  · go_wp2
    go_ret
    exact ⟨rfl, rfl⟩
  · have hz : ¬ (n : Int) < 1 := by omega
    have hz2 : (64 : Int) < n := by omega
    go_wp2
    go_ret
    exact ⟨rfl, rfl⟩

theorem shares_out (N : Int) (a : Option Addr) (n cap : Nat) (w : World) (h : N < 0 ∨ 512 < N) :
    Calls Try.prog 17 #[.int .i64 N, .slice a n cap] w fun e w' => e = .returned (.slice none 0 0) ∧ w = w' := by
  go_enter Try.func17, Try.ntmps17
  rcases h with h | h
  · go_wp2
    go_ret
    exact ⟨rfl, rfl⟩
  · have h2 : ¬ N < 0 := by omega
    go_wp2
    go_ret
    exact ⟨rfl, rfl⟩

theorem shares_none (N : Int) (a : Option Addr) (n cap : Nat) (w : World) (h : n = 0 ∨ 64 < n) (hn : (n : Int) ≤ 9223372036854775807) :
    Calls Try.prog 17 #[.int .i64 N, .slice a n cap] w fun e w' => e = .returned (.slice none 0 0) ∧ w = w' := by
  by_cases hN : N < 0 ∨ 512 < N
  · exact shares_out N a n cap w hN
  have H := hide' (together_none a n cap w h hn)
  have h1 : ¬ N < 0 := by omega
  have h2 : ¬ 512 < N := by omega
  clear h hN
  go_enter Try.func17, Try.ntmps17
  go_wp2_with fail
  refine H.out.mono ?_
  rintro e w' ⟨rfl, rfl⟩
  go_wp2
  go_ret
  exact ⟨rfl, rfl⟩

theorem rshares_none (N : Int) (a : Option Addr) (n cap : Nat) (w : World) (h : n = 0 ∨ 64 < n) (hn : (n : Int) ≤ 9223372036854775807) :
    Calls Try.prog 18 #[.int .i64 N, .slice a n cap] w fun e w' => e = .returned (.slice none 0 0) ∧ w = w' := by
  have H := hide' (rtogether_none a n cap w h hn)
  clear h
  go_enter Try.func18, Try.ntmps18
  go_wp2_with fail
  refine H.out.mono ?_
  rintro e w' ⟨rfl, rfl⟩
  go_wp2
  go_ret
  exact ⟨rfl, rfl⟩

theorem rshares_out (f : Nat → Nat) (N : Int) (b off n cap : Nat) (w : World) (h : N < 0 ∨ 512 < N) (hn : n ≤ 64) (h0 : 0 < n) (hf : ∀ j, f j < 18446744073709551616)
    (hc : ∀ j, j < n → w.cell? ⟨b, off + j, none⟩ = some (.float .f64 (f j))) :
    Calls Try.prog 18 #[.int .i64 N, .slice (some ⟨b, off, none⟩) n cap] w fun e w' => e = .returned (.slice none 0 0) ∧ Below w.heap.size w w' := by
  have H := hide' (rtogether_any f b off n cap w hn h0 hf hc)
  have hz : ((n : Int) == 0) = false := by simp; omega
  have hn64 : (n : Int) ≤ 64 := by omega
  clear hc hf
  go_enter Try.func18, Try.ntmps18
  go_wp2_with fail
  refine H.out.mono ?_
  rintro e w1 ⟨B1, cap1, hB1, rfl, hc1, hb1⟩
  have HB := hide' hb1
  clear hc1 hb1
  rcases h with h | h
  · go_wp2
    go_ret
    exact ⟨rfl, HB.out⟩
  · have h2 : ¬ N < 0 := by omega
    go_wp2
    go_ret
    exact ⟨rfl, HB.out⟩

theorem same_nil (w : World) : Calls Try.prog 16 #[.slice none 0 0, .slice none 0 0] w fun e w' => e = .returned (.bool true) ∧ w = w' := by
  go_enter Try.func16, Try.ntmps16
  go_wp2_with fail
  go_loopg [5] 0 (fun g i wr => g = 0 ∧ i = .int .i64 0 ∧ wr = w)
  case atStart => exact ⟨rfl, rfl, rfl⟩
  case round =>
    obtain ⟨rfl, rfl, rfl⟩ := hrel
    go_wp2
    go_ret
    exact ⟨rfl, rfl⟩

theorem ordI_self (a : Nat) (ha : a < 18446744073709551616) : ordI a a = 0 := by
  have e5 := ordI_key a a ha ha
  have b5 := cmpI_bounds (ky a) (ky a)
  omega

end Go.Proofs.Ytmkkkddadpcmeaa
