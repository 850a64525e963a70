/-
  What is within bounds, has a flag, is right: walked. No conditions.
-/
import Derived.Test.YtkggmjjjopfdbaaL17B0
import Derived.Deep.DeepCutAuto
import Derived.BigQuiet
namespace Go.Proofs.Ytkggmjjjopfdbaa.L17
open Go.RowKit

theorem up47 (m n : Int) (w : World) : Calls Try.prog 47 #[.int .i64 m, .int .i64 n] w (Gives (.bool (upB m n)) w) := by
  have HS := hide' (Stay.refl (fun _ => False) w)
  unfold upB
  by_cases h : 0 ≤ n
  · have d1 : decide (0 ≤ n) = true := by simpa using h
    clear h
    go_enter Try.func47, Try.ntmps47
    go_wp2
    go_ret
    exact ⟨ret_bool (by simp [*]), HS.out⟩
  · have d1 : decide (0 ≤ n) = false := by simpa using h
    clear h
    go_enter Try.func47, Try.ntmps47
    go_wp2
    go_ret
    exact ⟨ret_bool (by simp [*]), HS.out⟩

theorem has61 (n f : Int) (w : World) : Calls Try.prog 61 #[.int .i64 n, .int .i64 f] w (Gives (.bool (hasB n f)) w) := by
  have HS := hide' (Stay.refl (fun _ => False) w)
  go_enter Try.func61, Try.ntmps61
  go_wp2
  go_ret
  exact ⟨ret_bool rfl, HS.out⟩

theorem has48 (n f : Int) (w : World) : Calls Try.prog 48 #[.int .i64 n, .int .i64 f] w (Gives (.bool (hasB n f)) w) := by
  have HS := hide' (Stay.refl (fun _ => False) w)
  go_enter Try.func48, Try.ntmps48
  go_wp2
  go_ret
  exact ⟨ret_bool rfl, HS.out⟩

end Go.Proofs.Ytkggmjjjopfdbaa.L17
