/-
  The example of the document; far cells: walked. No conditions.
-/
import Derived.Test.YtloijopnfnhnhaaD0
namespace Go.Proofs.Ytloijopnfnhnhaa
open Go.RowKit

theorem less_example : lessL ⟨0, 0, 4, 3⟩ ⟨1, 1, 1, 1⟩ = [⟨0, 0, 4, 1⟩, ⟨0, 1, 1, 1⟩, ⟨2, 1, 2, 1⟩, ⟨0, 2, 4, 1⟩] := by decide +kernel

theorem rects_four (w : World) : Rects (w.alloc (.cells #[.int .i64 0, .int .i64 0, .int .i64 4, .int .i64 1, .int .i64 0, .int .i64 1, .int .i64 1, .int .i64 1, .int .i64 2, .int .i64 1, .int .i64 2, .int .i64 1, .int .i64 0, .int .i64 2, .int .i64 4, .int .i64 1] 23)) (.slice (some ⟨w.heap.size, 0, none⟩) 4 4) [⟨0, 0, 4, 1⟩, ⟨0, 1, 1, 1⟩, ⟨2, 1, 2, 1⟩, ⟨0, 2, 4, 1⟩] :=
  rects_of_owns (L := [⟨0, 0, 4, 1⟩, ⟨0, 1, 1, 1⟩, ⟨2, 1, 2, 1⟩, ⟨0, 2, 4, 1⟩]) (by simpa [R.cells] using owns_newS w #[.int .i64 0, .int .i64 0, .int .i64 4, .int .i64 1, .int .i64 0, .int .i64 1, .int .i64 1, .int .i64 1, .int .i64 2, .int .i64 1, .int .i64 2, .int .i64 1, .int .i64 0, .int .i64 2, .int .i64 4, .int .i64 1] 23 4 4 rfl (by decide))

set_option maxHeartbeats 1000000 in
theorem awake18 (w : World) : Calls Try.prog 18 #[] w (LawTrue w) := by
  have HL := hide' (less16 ⟨0, 0, 4, 3⟩ ⟨1, 1, 1, 1⟩ w)
  rw [less_example] at HL
  go_enter Try.func18, Try.ntmps18
  go_wp2_with fail
  refine HL.out.mono ?_
  rintro e w1 ⟨t, rfl, hr, hs⟩
  have HS1 := hide' (hs.alloc (.cells #[.int .i64 0, .int .i64 0, .int .i64 4, .int .i64 1, .int .i64 0, .int .i64 1, .int .i64 1, .int .i64 1, .int .i64 2, .int .i64 1, .int .i64 2, .int .i64 1, .int .i64 0, .int .i64 2, .int .i64 4, .int .i64 1] 23))
  have HC := hide' (sameAll15 t _ _ _ _ (hr.keep ((Stay.refl _ w1).alloc _)) (rects_four w1))
  clear hr hs HL
  go_wp2_with fail
  refine HC.out.mono ?_
  rintro e w2 ⟨rfl, hs⟩
  have HS2 := hide' (HS1.out.trans hs)
  clear hs HS1 HC
  go_wp2
  go_ret
  exact ⟨by simp, HS2.out⟩

end Go.Proofs.Ytloijopnfnhnhaa
