/-
  Meets, Both, Has, Area of the document and Area of rect, walked. No conditions.
-/
import Derived.Test.YtloijopnfnhnhaaC4
namespace Go.Proofs.Ytloijopnfnhnhaa
open Go.RowKit

def meetsB (a b : R) : Bool := (!(emptyB a || emptyB b)) && decide (a.x < b.x + b.w) && decide (b.x < a.x + a.w) && decide (a.y < b.y + b.h) && decide (b.y < a.y + a.h)

set_option maxHeartbeats 1000000 in
theorem meets25 (a b : R) (w : World) (ha : rightB a = true) (hb : rightB b = true) : Calls Try.prog 25 #[.agg #[.int .i64 a.x, .int .i64 a.y, .int .i64 a.w, .int .i64 a.h], .agg #[.int .i64 b.x, .int .i64 b.y, .int .i64 b.w, .int .i64 b.h]] w (Gives (.bool (meetsB a b)) w) := by
  have HS := hide' (((Stay.refl (fun _ => False) w).alloc (.cells #[.int .i64 a.x, .int .i64 a.y, .int .i64 a.w, .int .i64 a.h] 23)).alloc (.cells #[.int .i64 b.x, .int .i64 b.y, .int .i64 b.w, .int .i64 b.h] 23))
  obtain ⟨⟨p1, p2⟩, ⟨p3, p4⟩, ⟨p5, p6⟩, p7, p8⟩ := right_bd ha
  obtain ⟨⟨q1, q2⟩, ⟨q3, q4⟩, ⟨q5, q6⟩, q7, q8⟩ := right_bd hb
  clear ha hb
  go_enter Try.func25, Try.ntmps25
  go_wp2
  all_goals
    go_ret
    exact ⟨ret_bool (by unfold meetsB emptyB; rw [Bool.eq_iff_iff]; simp <;> omega), HS.out⟩

theorem both_meets (a b : R) (ha : rightB a = true) (hb : rightB b = true) : bothR a b = if meetsB a b = true then interR a b else ⟨0, 0, 0, 0⟩ := by
  obtain ⟨⟨p1, p2⟩, ⟨p3, p4⟩, ⟨p5, p6⟩, p7, p8⟩ := right_bd ha
  obtain ⟨⟨q1, q2⟩, ⟨q3, q4⟩, ⟨q5, q6⟩, q7, q8⟩ := right_bd hb
  have e : emptyB (interR a b) = !meetsB a b := by
    unfold meetsB emptyB interR
    rw [Bool.eq_iff_iff]
    simp
    omega
  unfold bothR orNoneR
  rw [if_pos (by rw [ha, hb]; rfl), e]
  cases meetsB a b <;> rfl

set_option maxHeartbeats 1000000 in
theorem refBoth10 (a b : R) (w : World) : Calls Try.prog 10 #[.agg #[.int .i64 a.x, .int .i64 a.y, .int .i64 a.w, .int .i64 a.h], .agg #[.int .i64 b.x, .int .i64 b.y, .int .i64 b.w, .int .i64 b.h]] w (Gives (.agg #[.int .i64 (bothR a b).x, .int .i64 (bothR a b).y, .int .i64 (bothR a b).w, .int .i64 (bothR a b).h]) w) := by
  have HS := hide' ((((Stay.refl (fun _ => False) w).alloc (.cells #[.int .i64 a.x, .int .i64 a.y, .int .i64 a.w, .int .i64 a.h] 23)).alloc (.cells #[.int .i64 b.x, .int .i64 b.y, .int .i64 b.w, .int .i64 b.h] 23)).alloc (.cells #[.int .i64 0, .int .i64 0, .int .i64 0, .int .i64 0] 23))
  have HA := hide' (refRight7 a)
  have HB := hide' (refRight7 b)
  have HM : Hid (rightB a = true → rightB b = true → ∀ w, Calls Try.prog 25 #[.agg #[.int .i64 a.x, .int .i64 a.y, .int .i64 a.w, .int .i64 a.h], .agg #[.int .i64 b.x, .int .i64 b.y, .int .i64 b.w, .int .i64 b.h]] w (Gives (.bool (meetsB a b)) w)) := fun ha hb w => meets25 a b w ha hb
  have HQ : Hid (bothR a b = if (rightB a && rightB b) = true then (if meetsB a b = true then interR a b else ⟨0, 0, 0, 0⟩) else ⟨0, 0, 0, 0⟩) := by
    show _ = _
    by_cases h : (rightB a && rightB b) = true
    · have h' : rightB a = true ∧ rightB b = true := by simpa using h
      rw [if_pos h]; exact both_meets a b h'.1 h'.2
    · unfold bothR; rw [if_neg h, if_neg h]
  have HDA := hide' (@right_bd a)
  have HDB := hide' (@right_bd b)
  obtain ⟨q, hq⟩ : ∃ q, q = bothR a b := ⟨_, rfl⟩
  rw [← hq] at HQ ⊢
  obtain ⟨ca, hca⟩ : ∃ c, c = rightB a := ⟨_, rfl⟩
  obtain ⟨cb, hcb⟩ : ∃ c, c = rightB b := ⟨_, rfl⟩
  obtain ⟨cm, hcm⟩ : ∃ c, c = meetsB a b := ⟨_, rfl⟩
  rw [← hca] at HA HM HQ HDA
  rw [← hcb] at HB HM HQ HDB
  rw [← hcm] at HM HQ
  clear hq hca hcb hcm
  go_enter Try.func10, Try.ntmps10
  go_wp2_with fail
  refine (HA.out _).mono ?_
  rintro e w1 ⟨rfl, hs⟩
  have HBa := hide' (Box.keep (((Box.new a rfl).alloc _).alloc _) hs)
  obtain ⟨ac0, ac1, ac2, ac3, _⟩ := HBa.out
  have HBb := hide' (Box.keep ((Box.new b (by simp [World.size_alloc]) : Box _ (w.heap.size + 1) b).alloc _) hs)
  obtain ⟨bc0, bc1, bc2, bc3, _⟩ := HBb.out
  have HBz := hide' (Box.keep (Box.new ⟨0, 0, 0, 0⟩ (by simp [World.size_alloc]) : Box _ (w.heap.size + 1 + 1) ⟨0, 0, 0, 0⟩) hs)
  obtain ⟨zc0, zc1, zc2, zc3, zf0, zf1, zf2, zf3⟩ := HBz.out
  have HS1 := hide' (HS.out.trans hs)
  clear hs HS HA
  cases ca
  · have hq : q = ⟨0, 0, 0, 0⟩ := HQ.out
    have HQ' := hide' hq
    clear hq HQ
    go_wp2
    exact bodyPost_ret (results_box rfl _ _ _ ⟨0, 0, 0, 0⟩ rfl (HBz.out.put ⟨0, 0, 0, 0⟩)) rfl ⟨ret_rect (a := ⟨0, 0, 0, 0⟩) HQ'.out.symm, HS1.out.put (by omega) _ _ _ _⟩
  · go_wp2_with fail
    refine (HB.out _).mono ?_
    rintro e w2 ⟨rfl, hs⟩
    have HBa' := hide' (HBa.out.keep hs)
    clear HBa ac0 ac1 ac2 ac3
    have HBa := HBa'
    clear HBa'
    obtain ⟨ac0, ac1, ac2, ac3, _⟩ := HBa.out
    have HBb' := hide' (HBb.out.keep hs)
    clear HBb bc0 bc1 bc2 bc3
    have HBb := HBb'
    clear HBb'
    obtain ⟨bc0, bc1, bc2, bc3, _⟩ := HBb.out
    have HBz' := hide' (HBz.out.keep hs)
    clear HBz zc0 zc1 zc2 zc3 zf0 zf1 zf2 zf3
    have HBz := HBz'
    clear HBz'
    obtain ⟨zc0, zc1, zc2, zc3, zf0, zf1, zf2, zf3⟩ := HBz.out
    have HS2 := hide' (HS1.out.trans hs)
    clear hs HS1 HB
    cases cb
    · have hq : q = ⟨0, 0, 0, 0⟩ := HQ.out
      have HQ' := hide' hq
      clear hq HQ
      go_wp2
      exact bodyPost_ret (results_box rfl _ _ _ ⟨0, 0, 0, 0⟩ rfl (HBz.out.put ⟨0, 0, 0, 0⟩)) rfl ⟨ret_rect (a := ⟨0, 0, 0, 0⟩) HQ'.out.symm, HS2.out.put (by omega) _ _ _ _⟩
    · go_wp2_with fail
      refine (HM.out (by first | rfl | trivial) (by first | rfl | trivial) _).mono ?_
      rintro e w3 ⟨rfl, hs⟩
      have HBa' := hide' (HBa.out.keep hs)
      clear HBa ac0 ac1 ac2 ac3
      have HBa := HBa'
      clear HBa'
      obtain ⟨ac0, ac1, ac2, ac3, _⟩ := HBa.out
      have HBb' := hide' (HBb.out.keep hs)
      clear HBb bc0 bc1 bc2 bc3
      have HBb := HBb'
      clear HBb'
      obtain ⟨bc0, bc1, bc2, bc3, _⟩ := HBb.out
      have HBz' := hide' (HBz.out.keep hs)
      clear HBz zc0 zc1 zc2 zc3 zf0 zf1 zf2 zf3
      have HBz := HBz'
      clear HBz'
      obtain ⟨zc0, zc1, zc2, zc3, zf0, zf1, zf2, zf3⟩ := HBz.out
      have HS3 := hide' (HS2.out.trans hs)
      clear hs HS2 HM
      cases cm
      · have hq : q = ⟨0, 0, 0, 0⟩ := HQ.out
        have HQ' := hide' hq
        clear hq HQ
        go_wp2
        exact bodyPost_ret (results_box rfl _ _ _ ⟨0, 0, 0, 0⟩ rfl (HBz.out.put ⟨0, 0, 0, 0⟩)) rfl ⟨ret_rect (a := ⟨0, 0, 0, 0⟩) HQ'.out.symm, HS3.out.put (by omega) _ _ _ _⟩
      · have hq : q = interR a b := HQ.out
        have HQ' := hide' hq
        clear hq HQ
        obtain ⟨⟨p1, p2⟩, ⟨p3, p4⟩, ⟨p5, p6⟩, p7, p8⟩ := HDA.out (by first | rfl | trivial)
        obtain ⟨⟨q1, q2⟩, ⟨q3, q4⟩, ⟨q5, q6⟩, q7, q8⟩ := HDB.out (by first | rfl | trivial)
        clear HDA HDB
        go_wp2_with fail
        go_quiet (fail)
        go_wp2
        exact bodyPost_ret (results_box rfl _ _ _ (interR a b) rfl ((HBz.out.keep ((Stay.refl _ _).drewN _)).put (interR a b))) rfl ⟨ret_rect (a := interR a b) HQ'.out.symm, (HS3.out.drewN _).put (by omega) _ _ _ _⟩

def areaI (r : R) : Int := if rightB r = true then r.w * r.h else 0

theorem area_bd {x y : Int} (h1 : 0 ≤ x) (h2 : x ≤ 1073741824) (h3 : 0 ≤ y) (h4 : y ≤ 1073741824) : 0 ≤ x * y ∧ x * y ≤ 1152921504606846976 := by
  refine ⟨Int.mul_nonneg h1 h3, ?_⟩
  have := Int.mul_le_mul h2 h4 h3 (by omega : (0 : Int) ≤ 1073741824)
  omega

theorem area13 (r : R) (w : World) : Calls Try.prog 13 #[.agg #[.int .i64 r.x, .int .i64 r.y, .int .i64 r.w, .int .i64 r.h]] w (Gives (.int .i64 (areaI r)) w) := by
  have HS := hide' ((Stay.refl (fun _ => False) w).alloc (.cells #[.int .i64 r.x, .int .i64 r.y, .int .i64 r.w, .int .i64 r.h] 23))
  have HR := hide' (right6 r)
  have HD := hide' (@right_bd r)
  unfold areaI
  obtain ⟨c, hc⟩ : ∃ c, c = rightB r := ⟨_, rfl⟩
  rw [← hc] at HR HD ⊢
  clear hc
  cases c
  · go_enter Try.func13, Try.ntmps13
    go_wp2_with fail
    refine (HR.out _).mono ?_
    rintro e w1 ⟨rfl, hs⟩
    have HS1 := hide' (HS.out.trans hs)
    clear hs
    go_wp2
    go_ret
    exact ⟨rfl, HS1.out⟩
  · obtain ⟨_, _, ⟨q5, q6⟩, q7, q8⟩ := HD.out rfl
    obtain ⟨m1, m2⟩ := area_bd q5 q6 q7 q8
    clear HD
    go_enter Try.func13, Try.ntmps13
    go_wp2_with fail
    refine (HR.out _).mono ?_
    rintro e w1 ⟨rfl, hs⟩
    have HBr := hide' (Box.keep (Box.new r rfl) hs)
    obtain ⟨rc0, rc1, rc2, rc3, _⟩ := HBr.out
    have HS1 := hide' (HS.out.trans hs)
    clear hs
    go_wp2
    go_ret
    exact ⟨by simp [go_sem], HS1.out⟩

theorem refArea14 (r : R) (w : World) : Calls Try.prog 14 #[.agg #[.int .i64 r.x, .int .i64 r.y, .int .i64 r.w, .int .i64 r.h]] w (Gives (.int .i64 (areaI r)) w) := by
  have HS := hide' ((Stay.refl (fun _ => False) w).alloc (.cells #[.int .i64 r.x, .int .i64 r.y, .int .i64 r.w, .int .i64 r.h] 23))
  have HR := hide' (refRight7 r)
  have HD := hide' (@right_bd r)
  unfold areaI
  obtain ⟨c, hc⟩ : ∃ c, c = rightB r := ⟨_, rfl⟩
  rw [← hc] at HR HD ⊢
  clear hc
  cases c
  · go_enter Try.func14, Try.ntmps14
    go_wp2_with fail
    refine (HR.out _).mono ?_
    rintro e w1 ⟨rfl, hs⟩
    have HS1 := hide' (HS.out.trans hs)
    clear hs
    go_wp2
    go_ret
    exact ⟨rfl, HS1.out⟩
  · obtain ⟨_, _, ⟨q5, q6⟩, q7, q8⟩ := HD.out rfl
    obtain ⟨m1, m2⟩ := area_bd q5 q6 q7 q8
    clear HD
    go_enter Try.func14, Try.ntmps14
    go_wp2_with fail
    refine (HR.out _).mono ?_
    rintro e w1 ⟨rfl, hs⟩
    have HBr := hide' (Box.keep (Box.new r rfl) hs)
    obtain ⟨rc0, rc1, rc2, rc3, _⟩ := HBr.out
    have HS1 := hide' (HS.out.trans hs)
    clear hs
    go_wp2
    go_ret
    exact ⟨by simp [go_sem], HS1.out⟩

end Go.Proofs.Ytloijopnfnhnhaa
