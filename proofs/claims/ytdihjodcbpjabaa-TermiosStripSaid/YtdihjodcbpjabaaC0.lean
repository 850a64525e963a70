/-
  What is within bounds, has a flag, is right: walked. No conditions.
-/
import Derived.Test.YtdihjodcbpjabaaB0
import Derived.Deep.DeepCutAuto
import Derived.BigQuiet
namespace Go.Proofs.Ytdihjodcbpjabaa
open Go.RowKit

theorem up16 (m n : Int) (w : World) : Calls Try.prog 16 #[.int .i64 m, .int .i64 n] w (Gives (.bool (upB m n)) w) := by
  have HS := hide' (Stay.refl (fun _ => False) w)
  unfold upB
  by_cases h : 0 ≤ n
  · have d1 : decide (0 ≤ n) = true := by simpa using h
    clear h
    go_enter Try.func16, Try.ntmps16
    go_wp2
    go_ret
    exact ⟨ret_bool (by simp [*]), HS.out⟩
  · have d1 : decide (0 ≤ n) = false := by simpa using h
    clear h
    go_enter Try.func16, Try.ntmps16
    go_wp2
    go_ret
    exact ⟨ret_bool (by simp [*]), HS.out⟩

theorem has14 (n f : Int) (w : World) : Calls Try.prog 14 #[.int .i64 n, .int .i64 f] w (Gives (.bool (hasB n f)) w) := by
  have HS := hide' (Stay.refl (fun _ => False) w)
  go_enter Try.func14, Try.ntmps14
  go_wp2
  go_ret
  exact ⟨ret_bool rfl, HS.out⟩

theorem has15 (n f : Int) (w : World) : Calls Try.prog 15 #[.int .i64 n, .int .i64 f] w (Gives (.bool (hasB n f)) w) := by
  have HS := hide' (Stay.refl (fun _ => False) w)
  go_enter Try.func15, Try.ntmps15
  go_wp2
  go_ret
  exact ⟨ret_bool rfl, HS.out⟩


end Go.Proofs.Ytdihjodcbpjabaa
