/-
  ScanReleases, whatever came in. No conditions.
-/
import Derived.Test.YtjficpcfdpbegaaF7
namespace Go.Proofs.Ytjficpcfdpbegaa
open Go.RowKit

set_option maxRecDepth 100000 in
theorem rels_long (a : Option Addr) (n cap : Nat) (w : World) (hn : 100 < n) (hm : (n : Int) ≤ 9223372036854775807) : Calls Try.prog 6 #[.slice a n cap] w (LawTrue w) := by
  have HA := hide' (fun wx => awake8 wx)
  have n1 : (100 : Int) < n := by omega
  clear hn
  go_enter Try.func6, Try.ntmps6
  go_wp2_with fail
  refine (HA.out _).mono ?_
  rintro e w' ⟨rfl, hs⟩
  have HY := hide' hs
  clear hs
  go_wp2
  go_ret
  exact ⟨by simp, HY.out⟩

theorem rels_run6 (a : Option Addr) (cap : Nat) (l : List Int) (w : World) (hA : IArg .u8 w (.slice a l.length cap) l a cap) : Calls Try.prog 6 #[.slice a l.length cap] w (LawTrue w) := by
  by_cases hn : l.length ≤ 100
  · by_cases hne : l = []
    · subst hne
      exact rels_nil a cap w
    · obtain ⟨b, off, rfl, hb, h⟩ := hA.cells hne
      exact rels_some l b off l.length cap w rfl hn hb h (fun x hx => wf_u8 (hA.wf x hx))
  · refine rels_long a l.length cap w (by omega) ?_
    have h1 := hA.lenLe
    have h2 := hA.capLe
    unfold maxLen at h2
    omega

end Go.Proofs.Ytjficpcfdpbegaa
