/-
  In, Has, Area, Meets of rect and of the document, walked. No conditions.
-/
import Derived.Test.YtcealbdinbfegaaC2
namespace Go.Proofs.Ytcealbdinbfegaa
open Go.RowKit

/-- A number that an int can be. -/
def I64 (n : Int) : Prop := -9223372036854775808 ≤ n ∧ n ≤ 9223372036854775807

def inB (r : R) (x y : Int) : Bool := decide (1 ≤ r.w) && decide (1 ≤ r.h) && decide (r.x ≤ x) && decide (x - r.x < r.w) && decide (r.y ≤ y) && decide (y - r.y < r.h)

theorem within33 (n f s : Int) (w : World) (hn : I64 n) (hf : I64 f) (hs : I64 s) (h1 : 1 ≤ s) : Calls Try.prog 33 #[.int .i64 n, .int .i64 f, .int .i64 s] w fun e w' => e = .returned (.bool (decide (f ≤ n) && decide (n - f < s))) ∧ w = w' := by
  obtain ⟨n1, n2⟩ := hn
  obtain ⟨f1, f2⟩ := hf
  obtain ⟨s1, s2⟩ := hs
  go_enter Try.func33, Try.ntmps33
  go_wp2
  all_goals
    go_ret
    exact ⟨ret_bool (by rw [Bool.eq_iff_iff]; simp [IntKind.wrap_u64, *] <;> omega), rfl⟩

theorem in26 (r : R) (x y : Int) (w : World) (h0 : I64 r.x) (h1 : I64 r.y) (h2 : I64 r.w) (h3 : I64 r.h) (hx : I64 x) (hy : I64 y) :
    Calls Try.prog 26 #[.agg #[.int .i64 r.x, .int .i64 r.y, .int .i64 r.w, .int .i64 r.h], .int .i64 x, .int .i64 y] w (Gives (.bool (inB r x y)) w) := by
  have HS := hide' ((Stay.refl (fun _ => False) w).alloc (.cells #[.int .i64 r.x, .int .i64 r.y, .int .i64 r.w, .int .i64 r.h] 58))
  have HE := hide' (empty32 r)
  have HI : Hid (emptyB r = false → 1 ≤ r.w ∧ 1 ≤ r.h) := by
    intro h
    unfold emptyB at h
    simp at h
    omega
  have HI' : Hid (emptyB r = true → inB r x y = false) := by
    intro h
    unfold emptyB at h
    unfold inB
    simp at h ⊢
    omega
  obtain ⟨c, hc⟩ : ∃ c, c = emptyB r := ⟨_, rfl⟩
  rw [← hc] at HE HI HI'
  clear hc
  cases c
  · obtain ⟨w1', h1'⟩ := HI.out rfl
    have HX := hide' (fun w => within33 x r.x r.w w hx h0 h2 w1')
    have HY := hide' (fun w => within33 y r.y r.h w hy h1 h3 h1')
    have HQ : Hid (inB r x y = ((decide (r.x ≤ x) && decide (x - r.x < r.w)) && (decide (r.y ≤ y) && decide (y - r.y < r.h)))) := by
      show _ = _
      unfold inB
      rw [Bool.eq_iff_iff]
      simp
      omega
    obtain ⟨cx, hcx⟩ : ∃ c, c = (decide (r.x ≤ x) && decide (x - r.x < r.w)) := ⟨_, rfl⟩
    obtain ⟨cy, hcy⟩ : ∃ c, c = (decide (r.y ≤ y) && decide (y - r.y < r.h)) := ⟨_, rfl⟩
    rw [← hcx, ← hcy] at HQ
    rw [← hcx] at HX
    rw [← hcy] at HY
    clear hcx hcy w1' h1' hx hy h0 h1 h2 h3 HI HI'
    go_enter Try.func26, Try.ntmps26
    go_wp2_with fail
    refine (HE.out _).mono ?_
    rintro e w1 ⟨rfl, hs⟩
    have HBr := hide' (Box.keep (Box.new r rfl) hs)
    obtain ⟨rc0, rc1, rc2, rc3, _⟩ := HBr.out
    have HS1 := hide' (HS.out.trans hs)
    clear hs HS
    cases cx
    · go_wp2_with fail
      refine (HX.out _).mono ?_
      rintro e w' ⟨rfl, rfl⟩
      go_wp2
      go_ret
      exact ⟨ret_bool (by rw [HQ.out]; rfl), HS1.out⟩
    · go_wp2_with fail
      refine (HX.out _).mono ?_
      rintro e w' ⟨rfl, rfl⟩
      go_wp2_with fail
      refine (HY.out _).mono ?_
      rintro e w' ⟨rfl, rfl⟩
      go_wp2
      go_ret
      exact ⟨ret_bool (by rw [HQ.out]; rfl), HS1.out⟩
  · have HQ := hide' (HI'.out rfl)
    clear HI HI' hx hy h0 h1 h2 h3
    go_enter Try.func26, Try.ntmps26
    go_wp2_with fail
    refine (HE.out _).mono ?_
    rintro e w1 ⟨rfl, hs⟩
    have HS1 := hide' (HS.out.trans hs)
    clear hs HS
    go_wp2
    go_ret
    exact ⟨ret_bool (by rw [HQ.out]), HS1.out⟩

end Go.Proofs.Ytcealbdinbfegaa
