/-
  ScanFeeds, whatever came in. No conditions.
-/
import Derived.Test.YtjficpcfdpbegaaF6
namespace Go.Proofs.Ytjficpcfdpbegaa
open Go.RowKit

set_option maxRecDepth 100000 in
theorem feeds_nil (a : Option Addr) (cap : Nat) (w : World) : Calls Try.prog 3 #[.slice a 0 cap] w (LawTrue w) := by
  have HA := hide' (fun wx => awake8 wx)
  have H0 := hide' ((Newer.refl w).alloc (.cells #[.int .i64 0] 25))
  go_enter Try.func3, Try.ntmps3
  go_wp2_with fail
  go_loopg [4, 5] 0 (fun g v4 v5 wr => g = 0 ∧ v4 = .int .i64 0 ∧ v5 = .int .i64 0 ∧ Hid (Newer w wr))
  case atStart => exact ⟨rfl, rfl, rfl, H0⟩
  case round =>
    obtain ⟨rfl, rfl, rfl, HF⟩ := hrel
    go_wp2_with fail
    refine (HA.out _).mono ?_
    rintro e w' ⟨rfl, hs⟩
    have HY := hide' (HF.out.keep hs)
    clear hs
    go_wp2
    go_ret
    exact ⟨by simp, HY.out.out⟩

set_option maxRecDepth 100000 in
theorem feeds_long (a : Option Addr) (n cap : Nat) (w : World) (hn : 300 < n) (hm : (n : Int) ≤ 9223372036854775807) : Calls Try.prog 3 #[.slice a n cap] w (LawTrue w) := by
  have HA := hide' (fun wx => awake8 wx)
  have n1 : (300 : Int) < n := by omega
  clear hn
  go_enter Try.func3, Try.ntmps3
  go_wp2_with fail
  refine (HA.out _).mono ?_
  rintro e w' ⟨rfl, hs⟩
  have HY := hide' hs
  clear hs
  go_wp2
  go_ret
  exact ⟨by simp, HY.out⟩

theorem feeds_run3 (a : Option Addr) (cap : Nat) (l : List Int) (w : World) (hA : IArg .u8 w (.slice a l.length cap) l a cap) : Calls Try.prog 3 #[.slice a l.length cap] w (LawTrue w) := by
  by_cases hn : l.length ≤ 300
  · by_cases hne : l = []
    · subst hne
      exact feeds_nil a cap w
    · obtain ⟨b, off, rfl, hb, h⟩ := hA.cells hne
      exact feeds_some l b off l.length cap w rfl hn hb h (fun x hx => wf_u8 (hA.wf x hx))
  · refine feeds_long a l.length cap w (by omega) ?_
    have h1 := hA.lenLe
    have h2 := hA.capLe
    unfold maxLen at h2
    omega

end Go.Proofs.Ytjficpcfdpbegaa
