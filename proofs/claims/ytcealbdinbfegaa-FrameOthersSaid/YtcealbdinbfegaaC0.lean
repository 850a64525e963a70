/-
  The small functions of rect, walked. No conditions.
-/
import Derived.Test.YtcealbdinbfegaaA2
namespace Go.Proofs.Ytcealbdinbfegaa
open Go.RowKit

def nearB (n : Int) : Bool := decide (-1073741824 ≤ n) && decide (n ≤ 1073741824)

/-- A rectangle's numbers. -/
structure R where
  x : Int
  y : Int
  w : Int
  h : Int

/-- Two rectangles are the same if their numbers are. -/
@[reducible] def R.dec (a b : R) : Decidable (a = b) := decidable_of_iff (a.x = b.x ∧ a.y = b.y ∧ a.w = b.w ∧ a.h = b.h) ⟨fun h => by
    obtain ⟨x, y, w, k⟩ := a
    obtain ⟨x', y', w', k'⟩ := b
    simp only at h
    obtain ⟨rfl, rfl, rfl, rfl⟩ := h
    rfl, fun h => by subst h; exact ⟨rfl, rfl, rfl, rfl⟩⟩

attribute [instance] R.dec

def R.val (r : R) : Value := .agg #[.int .i64 r.x, .int .i64 r.y, .int .i64 r.w, .int .i64 r.h]

def emptyB (r : R) : Bool := decide (r.w < 1) || decide (r.h < 1)

theorem near38 (n : Int) (w : World) : Calls Try.prog 38 #[.int .i64 n] w fun e w' => e = .returned (.bool (nearB n)) ∧ w = w' := by
  unfold nearB
  go_enter Try.func38, Try.ntmps38
  go_wp2
  all_goals
    go_ret
    exact ⟨by simp [*] <;> omega, rfl⟩

theorem empty32 (r : R) (w : World) : Calls Try.prog 32 #[.agg #[.int .i64 r.x, .int .i64 r.y, .int .i64 r.w, .int .i64 r.h]] w (Gives (.bool (emptyB r)) w) := by
  have HS := hide' ((Stay.refl (fun _ => False) w).alloc (.cells #[.int .i64 r.x, .int .i64 r.y, .int .i64 r.w, .int .i64 r.h] 58))
  unfold emptyB
  go_enter Try.func32, Try.ntmps32
  go_wp2
  all_goals
    go_ret
    exact ⟨by simp [*], HS.out⟩

def rightB (r : R) : Bool := nearB r.x && nearB r.y && nearB r.w && nearB r.h && decide (0 ≤ r.w) && decide (0 ≤ r.h)

theorem right35 (r : R) (w : World) : Calls Try.prog 35 #[.agg #[.int .i64 r.x, .int .i64 r.y, .int .i64 r.w, .int .i64 r.h]] w (Gives (.bool (rightB r)) w) := by
  have HS := hide' ((Stay.refl (fun _ => False) w).alloc (.cells #[.int .i64 r.x, .int .i64 r.y, .int .i64 r.w, .int .i64 r.h] 58))
  unfold rightB
  go_enter Try.func35, Try.ntmps35
  go_wp2_with (go_at_call 38; refine (near38 _ _).mono ?_; rintro e w' ⟨rfl, rfl⟩)
  all_goals
    go_ret
    exact ⟨by simp [*] <;> omega, HS.out⟩

end Go.Proofs.Ytcealbdinbfegaa
