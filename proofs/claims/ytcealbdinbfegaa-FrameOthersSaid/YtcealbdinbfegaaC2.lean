/-
  Both of rect, walked. No conditions.
-/
import Derived.Test.YtcealbdinbfegaaC1
namespace Go.Proofs.Ytcealbdinbfegaa
open Go.RowKit

theorem near_bd {n : Int} (h : nearB n = true) : -1073741824 ≤ n ∧ n ≤ 1073741824 := by unfold nearB at h; simpa using h

theorem right_bd {r : R} (h : rightB r = true) : (-1073741824 ≤ r.x ∧ r.x ≤ 1073741824) ∧ (-1073741824 ≤ r.y ∧ r.y ≤ 1073741824) ∧ (0 ≤ r.w ∧ r.w ≤ 1073741824) ∧ (0 ≤ r.h ∧ r.h ≤ 1073741824) := by
  unfold rightB at h
  simp only [Bool.and_eq_true, decide_eq_true_eq] at h
  obtain ⟨⟨⟨⟨⟨h1, h2⟩, h3⟩, h4⟩, h5⟩, h6⟩ := h
  have := near_bd h1
  have := near_bd h2
  have := near_bd h3
  have := near_bd h4
  omega

def interR (a b : R) : R := ⟨max a.x b.x, max a.y b.y, min (a.x + a.w) (b.x + b.w) - max a.x b.x, min (a.y + a.h) (b.y + b.h) - max a.y b.y⟩

def bothR (a b : R) : R := if (rightB a && rightB b) = true then orNoneR (interR a b) else ⟨0, 0, 0, 0⟩

theorem orNone40_at (r q : R) (h : q = orNoneR r) (w : World) : Calls Try.prog 40 #[.agg #[.int .i64 r.x, .int .i64 r.y, .int .i64 r.w, .int .i64 r.h]] w (Gives (.agg #[.int .i64 q.x, .int .i64 q.y, .int .i64 q.w, .int .i64 q.h]) w) := by
  rw [h]; exact orNone40 r w

set_option maxHeartbeats 1000000 in
theorem both36 (a b : R) (w : World) : Calls Try.prog 36 #[.agg #[.int .i64 a.x, .int .i64 a.y, .int .i64 a.w, .int .i64 a.h], .agg #[.int .i64 b.x, .int .i64 b.y, .int .i64 b.w, .int .i64 b.h]] w (Gives (.agg #[.int .i64 (bothR a b).x, .int .i64 (bothR a b).y, .int .i64 (bothR a b).w, .int .i64 (bothR a b).h]) w) := by
  have HS := hide' ((((Stay.refl (fun _ => False) w).alloc (.cells #[.int .i64 a.x, .int .i64 a.y, .int .i64 a.w, .int .i64 a.h] 58)).alloc (.cells #[.int .i64 b.x, .int .i64 b.y, .int .i64 b.w, .int .i64 b.h] 58)).alloc (.cells #[.int .i64 0, .int .i64 0, .int .i64 0, .int .i64 0] 58))
  obtain ⟨q, hq⟩ : ∃ q, q = bothR a b := ⟨_, rfl⟩
  rw [← hq]
  unfold bothR at hq
  have HQ := hide' hq
  clear hq
  have HR := hide' (right39 a b)
  have HD : Hid ((rightB a && rightB b) = true → rightB a = true ∧ rightB b = true) := fun h => by simpa using h
  obtain ⟨c, hc⟩ : ∃ c, c = (rightB a && rightB b) := ⟨_, rfl⟩
  rw [← hc] at HQ HR HD
  clear hc
  go_enter Try.func36, Try.ntmps36
  go_wp2_with fail
  refine (HR.out _).mono ?_
  rintro e w1 ⟨rfl, hs⟩
  have HBa := hide' (Box.keep (((Box.new a rfl).alloc _).alloc _) hs)
  obtain ⟨ac0, ac1, ac2, ac3, _⟩ := HBa.out
  have HBb := hide' (Box.keep ((Box.new b (by simp [World.size_alloc]) : Box _ (w.heap.size + 1) b).alloc _) hs)
  obtain ⟨bc0, bc1, bc2, bc3, _⟩ := HBb.out
  have HBz := hide' (Box.keep (Box.new ⟨0, 0, 0, 0⟩ (by simp [World.size_alloc]) : Box _ (w.heap.size + 1 + 1) ⟨0, 0, 0, 0⟩) hs)
  obtain ⟨zc0, zc1, zc2, zc3, zf0, zf1, zf2, zf3⟩ := HBz.out
  have HS1 := hide' (HS.out.trans hs)
  clear hs HS
  cases c
  · have hq := HQ.out
    rw [if_neg (by decide)] at hq
    go_wp2
    exact bodyPost_ret (results_box rfl _ _ _ ⟨0, 0, 0, 0⟩ rfl (HBz.out.put ⟨0, 0, 0, 0⟩)) rfl ⟨ret_rect (a := ⟨0, 0, 0, 0⟩) hq.symm, HS1.out.put (by omega) _ _ _ _⟩
  · have hq := HQ.out
    rw [if_pos rfl] at hq
    have hd := HD.out rfl
    have HA := right_bd hd.1
    have HB := right_bd hd.2
    obtain ⟨⟨p1, p2⟩, ⟨p3, p4⟩, ⟨p5, p6⟩, p7, p8⟩ := HA
    obtain ⟨⟨q1, q2⟩, ⟨q3, q4⟩, ⟨q5, q6⟩, q7, q8⟩ := HB
    clear hd HD HQ
    have HQ := hide' hq
    clear hq
    go_wp2_with fail
    go_quiet (fail)
    go_wp2_with fail
    go_quiet (fail)
    go_wp2_with fail
    refine (orNone40_at ⟨_, _, _, _⟩ q (HQ.out.trans (congrArg orNoneR (by simp only [interR]))) _).mono ?_
    rintro e w2 ⟨rfl, hs⟩
    have hs' := ((Stay.refl _ w1).drewN _).trans hs
    have HBz' := hide' (HBz.out.keep hs')
    clear HBz zc0 zc1 zc2 zc3 zf0 zf1 zf2 zf3
    have HBz := HBz'
    clear HBz'
    obtain ⟨zc0, zc1, zc2, zc3, zf0, zf1, zf2, zf3⟩ := HBz.out
    have HS2 := hide' (HS1.out.trans hs')
    clear hs hs'
    go_wp2
    exact bodyPost_ret (results_box rfl _ _ _ q rfl (HBz.out.put q)) rfl ⟨rfl, HS2.out.put (by omega) _ _ _ _⟩

end Go.Proofs.Ytcealbdinbfegaa
