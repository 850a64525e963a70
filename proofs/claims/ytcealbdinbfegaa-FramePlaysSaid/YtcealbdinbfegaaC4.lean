/-
  Area of rect, walked. No conditions.
-/
import Derived.Test.YtcealbdinbfegaaC3
namespace Go.Proofs.Ytcealbdinbfegaa
open Go.RowKit

def areaI (r : R) : Int := if rightB r = true then r.w * r.h else 0

theorem area_bd {x y : Int} (h1 : 0 ≤ x) (h2 : x ≤ 1073741824) (h3 : 0 ≤ y) (h4 : y ≤ 1073741824) : 0 ≤ x * y ∧ x * y ≤ 1152921504606846976 := by
  refine ⟨Int.mul_nonneg h1 h3, ?_⟩
  have := Int.mul_le_mul h2 h4 h3 (by omega : (0 : Int) ≤ 1073741824)
  omega

theorem area37 (r : R) (w : World) : Calls Try.prog 37 #[.agg #[.int .i64 r.x, .int .i64 r.y, .int .i64 r.w, .int .i64 r.h]] w (Gives (.int .i64 (areaI r)) w) := by
  have HS := hide' ((Stay.refl (fun _ => False) w).alloc (.cells #[.int .i64 r.x, .int .i64 r.y, .int .i64 r.w, .int .i64 r.h] 58))
  have HR := hide' (right35 r)
  have HD := hide' (@right_bd r)
  unfold areaI
  obtain ⟨c, hc⟩ : ∃ c, c = rightB r := ⟨_, rfl⟩
  rw [← hc] at HR HD ⊢
  clear hc
  cases c
  · go_enter Try.func37, Try.ntmps37
    go_wp2_with fail
    refine (HR.out _).mono ?_
    rintro e w1 ⟨rfl, hs⟩
    have HS1 := hide' (HS.out.trans hs)
    clear hs
    go_wp2
    go_ret
    exact ⟨rfl, HS1.out⟩
  · obtain ⟨_, _, ⟨q5, q6⟩, q7, q8⟩ := HD.out rfl
    obtain ⟨m1, m2⟩ := area_bd q5 q6 q7 q8
    clear HD
    go_enter Try.func37, Try.ntmps37
    go_wp2_with fail
    refine (HR.out _).mono ?_
    rintro e w1 ⟨rfl, hs⟩
    have HBr := hide' (Box.keep (Box.new r rfl) hs)
    obtain ⟨rc0, rc1, rc2, rc3, _⟩ := HBr.out
    have HS1 := hide' (HS.out.trans hs)
    clear hs
    go_wp2
    go_ret
    exact ⟨by simp [go_sem], HS1.out⟩

end Go.Proofs.Ytcealbdinbfegaa
