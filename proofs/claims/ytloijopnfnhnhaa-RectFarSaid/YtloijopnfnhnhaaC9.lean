/-
  What is left of a rectangle, by the document: walked. No conditions.
-/
import Derived.Test.YtloijopnfnhnhaaC8
namespace Go.Proofs.Ytloijopnfnhnhaa
open Go.RowKit

def part0 (a c : R) : R := ⟨a.x, a.y, a.w, c.y - a.y⟩
def part1 (a c : R) : R := ⟨a.x, c.y, c.x - a.x, c.h⟩
def part2 (a c : R) : R := ⟨c.x + c.w, c.y, a.x + a.w - (c.x + c.w), c.h⟩
def part3 (a c : R) : R := ⟨a.x, c.y + c.h, a.w, a.y + a.h - (c.y + c.h)⟩

def lessL (a b : R) : List R :=
  if (rightB a && rightB b && !emptyB a) = true then
    if meetsB a b = true then putL (putL (putL (putL [] (part0 a (bothR a b))) (part1 a (bothR a b))) (part2 a (bothR a b))) (part3 a (bothR a b)) else [a]
  else []

theorem both_bd (a b : R) (ha : rightB a = true) (hb : rightB b = true) : (-1073741824 ≤ (bothR a b).x ∧ (bothR a b).x ≤ 1073741824) ∧ (-1073741824 ≤ (bothR a b).y ∧ (bothR a b).y ≤ 1073741824) ∧ (0 ≤ (bothR a b).w ∧ (bothR a b).w ≤ 1073741824) ∧ (0 ≤ (bothR a b).h ∧ (bothR a b).h ≤ 1073741824) := by
  rw [both_meets a b ha hb]
  obtain ⟨⟨p1, p2⟩, ⟨p3, p4⟩, ⟨p5, p6⟩, p7, p8⟩ := right_bd ha
  obtain ⟨⟨q1, q2⟩, ⟨q3, q4⟩, ⟨q5, q6⟩, q7, q8⟩ := right_bd hb
  split
  · rename_i h
    unfold meetsB at h
    simp at h
    unfold interR
    simp only
    omega
  · simp

theorem put_len (L : List R) (r : R) : (putL L r).length ≤ L.length + 1 := by
  unfold putL; split <;> simp

theorem put26_at (v : Value) (L L' : List R) (r : R) (w : World) (hv : Rects w v L) (hL : L.length ≤ 1000) (h : L' = putL L r) : Calls Try.prog 26 #[v, .agg #[.int .i64 r.x, .int .i64 r.y, .int .i64 r.w, .int .i64 r.h]] w (GivesRects L' w) := by
  rw [h]; exact put26 v L r w hv hL

theorem put26_by (v : Value) (L L' : List R) (p : R) (x y ww h : Int) (w : World) (hv : Rects w v L) (hL : L.length ≤ 1000) (hp : L' = putL L p) (he : x = p.x ∧ y = p.y ∧ ww = p.w ∧ h = p.h) :
    Calls Try.prog 26 #[v, .agg #[.int .i64 x, .int .i64 y, .int .i64 ww, .int .i64 h]] w (GivesRects L' w) := by
  obtain ⟨rfl, rfl, rfl, rfl⟩ := he
  exact put26_at v L L' p w hv hL hp

/-- A rectangle in a box is a slice of one. -/
theorem rects_new (w : World) (r : R) : Rects (w.alloc (.cells #[.int .i64 r.x, .int .i64 r.y, .int .i64 r.w, .int .i64 r.h] 23)) (.slice (some ⟨w.heap.size, 0, none⟩) 1 1) [r] :=
  rects_of_owns (L := [r]) (by simpa [R.cells] using owns_newS w #[.int .i64 r.x, .int .i64 r.y, .int .i64 r.w, .int .i64 r.h] 23 4 1 rfl (by decide))

/-- Two boxes and a third. -/
def Three (w : World) (a b q : R) (c : Nat) (w' : World) : Prop := Two w a b w' ∧ Box w' c q

theorem Three.keep {w W w1 : World} {a b q : R} {c : Nat} (h : Three w a b q c W) (hs : Stay (fun _ => False) W w1) : Three w a b q c w1 := ⟨h.1.keep hs, h.2.keep hs⟩

theorem three_new {w w4 : World} {a b : R} (q : R) (h : Two w a b w4) : Three w a b q w4.heap.size (w4.alloc (.cells #[.int .i64 q.x, .int .i64 q.y, .int .i64 q.w, .int .i64 q.h] 23)) :=
  ⟨h.keep ((Stay.refl _ w4).alloc _), Box.new q rfl⟩

set_option maxHeartbeats 2000000 in
theorem refLess17 (a b : R) (w : World) : Calls Try.prog 17 #[.agg #[.int .i64 a.x, .int .i64 a.y, .int .i64 a.w, .int .i64 a.h], .agg #[.int .i64 b.x, .int .i64 b.y, .int .i64 b.w, .int .i64 b.h]] w (GivesRects (lessL a b) w) := by
  have HS := hide' (two_new a b w)
  have HA := hide' (refRight7 a)
  have HB := hide' (refRight7 b)
  by_cases hc : (rightB a && rightB b && !emptyB a) = true
  · have hc' := hc
    simp only [Bool.and_eq_true, Bool.not_eq_true'] at hc'
    obtain ⟨⟨ha, hb⟩, he⟩ := hc'
    obtain ⟨⟨p1, p2⟩, ⟨p3, p4⟩, ⟨p5, p6⟩, p7, p8⟩ := right_bd ha
    have HM := hide' (fun w => meets25 a b w ha hb)
    have HX := hide' (refBoth10 a b)
    have HQB := hide' (both_bd a b ha hb)
    have he' : 1 ≤ a.w ∧ 1 ≤ a.h := by
      unfold emptyB at he; simp at he; omega
    have HLL : Hid (lessL a b = if meetsB a b = true then putL (putL (putL (putL [] (part0 a (bothR a b))) (part1 a (bothR a b))) (part2 a (bothR a b))) (part3 a (bothR a b)) else [a]) := by
      show _ = _
      unfold lessL; rw [if_pos hc]
    rw [ha] at HA
    rw [hb] at HB
    obtain ⟨L, hL⟩ : ∃ L, L = lessL a b := ⟨_, rfl⟩
    obtain ⟨q, hq⟩ : ∃ q, q = bothR a b := ⟨_, rfl⟩
    obtain ⟨cm, hm⟩ : ∃ c, c = meetsB a b := ⟨_, rfl⟩
    rw [← hL, ← hq, ← hm] at HLL
    rw [← hL]
    rw [← hq] at HX HQB
    rw [← hm] at HM
    have d1 : decide (a.w < 1) = false := by simp; omega
    have d2 : decide (a.h < 1) = false := by simp; omega
    clear ha hb he he' hL hq hm hc
    go_enter Try.func17, Try.ntmps17
    go_wp2_with fail
    refine (HA.out _).mono ?_
    rintro e w1 ⟨rfl, hs⟩
    have HS1 := hide' (HS.out.keep hs)
    obtain ⟨_, ⟨ac0, ac1, ac2, ac3, _⟩, bc0, bc1, bc2, bc3, _⟩ := HS1.out
    clear hs
    go_wp2_with fail
    refine (HB.out _).mono ?_
    rintro e w2 ⟨rfl, hs⟩
    have HS2 := hide' (HS1.out.keep hs)
    clear ac0 ac1 ac2 ac3 bc0 bc1 bc2 bc3
    obtain ⟨_, ⟨ac0, ac1, ac2, ac3, _⟩, bc0, bc1, bc2, bc3, _⟩ := HS2.out
    clear hs
    go_wp2_with fail
    refine (HM.out _).mono ?_
    rintro e w3 ⟨rfl, hs⟩
    have HS3 := hide' (HS2.out.keep hs)
    clear ac0 ac1 ac2 ac3 bc0 bc1 bc2 bc3
    obtain ⟨_, ⟨ac0, ac1, ac2, ac3, _⟩, bc0, bc1, bc2, bc3, _⟩ := HS3.out
    clear hs HS HS1 HS2 HM HA HB
    cases cm
    · have hll : L = [a] := HLL.out
      have HLL' := hide' hll
      clear hll HLL
      go_wp2
      go_ret
      exact ⟨_, rfl, by rw [HLL'.out]; exact rects_new _ a, HS3.out.1.alloc _⟩
    · have hll : L = putL (putL (putL (putL [] (part0 a q)) (part1 a q)) (part2 a q)) (part3 a q) := HLL.out
      have HLL' := hide' hll
      clear hll HLL
      obtain ⟨⟨q1, q2⟩, ⟨q3, q4⟩, ⟨q5, q6⟩, q7, q8⟩ := HQB.out
      clear HQB
      go_wp2_with fail
      refine (HX.out _).mono ?_
      rintro e w4 ⟨rfl, hs⟩
      have HS4 := hide' (HS3.out.keep hs)
      clear hs HX ac0 ac1 ac2 ac3 bc0 bc1 bc2 bc3
      have HT0 := hide' (three_new q HS4.out)
      obtain ⟨⟨_, ⟨ac0, ac1, ac2, ac3, _⟩, _⟩, qc0, qc1, qc2, qc3, _⟩ := HT0.out
      have HP0 : Hid (putL [] (part0 a q) = putL [] (part0 a q)) := rfl
      obtain ⟨L1, hl1⟩ : ∃ L1, L1 = putL [] (part0 a q) := ⟨_, rfl⟩
      obtain ⟨L2, hl2⟩ : ∃ L2, L2 = putL L1 (part1 a q) := ⟨_, rfl⟩
      obtain ⟨L3, hl3⟩ : ∃ L3, L3 = putL L2 (part2 a q) := ⟨_, rfl⟩
      have hl4 : L = putL L3 (part3 a q) := by rw [HLL'.out, hl3, hl2, hl1]
      have n1 := put_len [] (part0 a q)
      have n2 := put_len L1 (part1 a q)
      have n3 := put_len L2 (part2 a q)
      rw [← hl1] at n1
      rw [← hl2] at n2
      rw [← hl3] at n3
      have HN : Hid (L1.length ≤ 1 ∧ L2.length ≤ 2 ∧ L3.length ≤ 3) := ⟨by simpa using n1, by simp at n1; omega, by simp at n1; omega⟩
      have HP1 := hide' hl1
      have HP2 := hide' hl2
      have HP3 := hide' hl3
      have HP4 := hide' hl4
      clear hl1 hl2 hl3 hl4 n1 n2 n3 HP0 HLL' HS3 HS4
      go_wp2_with fail
      refine (put26_by _ [] L1 (part0 a q) _ _ _ _ _ (.inl ⟨rfl, rfl⟩) (by decide) HP1.out (by unfold part0; refine ⟨?_, ?_, ?_, ?_⟩ <;> first | rfl | (dsimp only; omega))).mono ?_
      rintro e w5 ⟨t1, rfl, hr, hs⟩
      have HL1 := hide' hr
      have HT1 := hide' (HT0.out.keep hs)
      clear hr hs ac0 ac1 ac2 ac3 qc0 qc1 qc2 qc3 HT0
      obtain ⟨⟨_, ⟨ac0, ac1, ac2, ac3, _⟩, _⟩, qc0, qc1, qc2, qc3, _⟩ := HT1.out
      go_wp2_with fail
      refine (put26_by t1 L1 L2 (part1 a q) _ _ _ _ _ HL1.out (by have := HN.out; omega) HP2.out (by unfold part1; refine ⟨?_, ?_, ?_, ?_⟩ <;> first | rfl | (dsimp only; omega))).mono ?_
      rintro e w6 ⟨t2, rfl, hr, hs⟩
      have HL2 := hide' hr
      have HT2 := hide' (HT1.out.keep hs)
      clear hr hs ac0 ac1 ac2 ac3 qc0 qc1 qc2 qc3 HT1 HL1
      obtain ⟨⟨_, ⟨ac0, ac1, ac2, ac3, _⟩, _⟩, qc0, qc1, qc2, qc3, _⟩ := HT2.out
      go_wp2_with fail
      refine (put26_by t2 L2 L3 (part2 a q) _ _ _ _ _ HL2.out (by have := HN.out; omega) HP3.out (by unfold part2; refine ⟨?_, ?_, ?_, ?_⟩ <;> first | rfl | (dsimp only; omega))).mono ?_
      rintro e w7 ⟨t3, rfl, hr, hs⟩
      have HL3 := hide' hr
      have HT3 := hide' (HT2.out.keep hs)
      clear hr hs ac0 ac1 ac2 ac3 qc0 qc1 qc2 qc3 HT2 HL2
      obtain ⟨⟨_, ⟨ac0, ac1, ac2, ac3, _⟩, _⟩, qc0, qc1, qc2, qc3, _⟩ := HT3.out
      go_wp2_with fail
      refine (put26_by t3 L3 L (part3 a q) _ _ _ _ _ HL3.out (by have := HN.out; omega) HP4.out (by unfold part3; refine ⟨?_, ?_, ?_, ?_⟩ <;> first | rfl | (dsimp only; omega))).mono ?_
      rintro e w8 ⟨t4, rfl, hr, hs⟩
      have HL4 := hide' hr
      have HT4 := hide' (HT3.out.keep hs)
      clear hr hs ac0 ac1 ac2 ac3 qc0 qc1 qc2 qc3 HT3 HL3
      go_wp2
      go_ret
      exact ⟨t4, rfl, HL4.out, HT4.out.1.1⟩
  · have HLL : Hid (lessL a b = []) := by
      show _ = _
      unfold lessL; rw [if_neg hc]
    obtain ⟨L, hL⟩ : ∃ L, L = lessL a b := ⟨_, rfl⟩
    rw [← hL] at HLL ⊢
    have HE : Hid (rightB a = true → rightB b = true → a.w < 1 ∨ a.h < 1) := fun h1 h2 => by
      by_cases h : a.w < 1 ∨ a.h < 1
      · exact h
      · exact absurd (by rw [h1, h2]; unfold emptyB; simp; omega) hc
    obtain ⟨ca, hca⟩ : ∃ c, c = rightB a := ⟨_, rfl⟩
    obtain ⟨cb, hcb⟩ : ∃ c, c = rightB b := ⟨_, rfl⟩
    rw [← hca] at HA HE
    rw [← hcb] at HB HE
    clear hL hc hca hcb
    cases ca
    · clear HE HB
      go_enter Try.func17, Try.ntmps17
      go_wp2_with fail
      refine (HA.out _).mono ?_
      rintro e w1 ⟨rfl, hs⟩
      have HS1 := hide' (HS.out.keep hs)
      clear hs
      go_wp2
      go_ret
      exact ⟨_, rfl, .inl ⟨HLL.out, rfl⟩, HS1.out.1⟩
    · cases cb
      · clear HE
        go_enter Try.func17, Try.ntmps17
        go_wp2_with fail
        refine (HA.out _).mono ?_
        rintro e w1 ⟨rfl, hs⟩
        have HS1 := hide' (HS.out.keep hs)
        obtain ⟨_, ⟨ac0, ac1, ac2, ac3, _⟩, bc0, bc1, bc2, bc3, _⟩ := HS1.out
        clear hs
        go_wp2_with fail
        refine (HB.out _).mono ?_
        rintro e w2 ⟨rfl, hs⟩
        have HS2 := hide' (HS1.out.keep hs)
        clear hs
        go_wp2
        go_ret
        exact ⟨_, rfl, .inl ⟨HLL.out, rfl⟩, HS2.out.1⟩
      · have he := HE.out rfl rfl
        clear HE
        by_cases hw : a.w < 1
        · have d1 : decide (a.w < 1) = true := by simpa using hw
          clear he hw
          go_enter Try.func17, Try.ntmps17
          go_wp2_with fail
          refine (HA.out _).mono ?_
          rintro e w1 ⟨rfl, hs⟩
          have HS1 := hide' (HS.out.keep hs)
          obtain ⟨_, ⟨ac0, ac1, ac2, ac3, _⟩, bc0, bc1, bc2, bc3, _⟩ := HS1.out
          clear hs
          go_wp2_with fail
          refine (HB.out _).mono ?_
          rintro e w2 ⟨rfl, hs⟩
          have HS2 := hide' (HS1.out.keep hs)
          clear hs ac0 ac1 ac2 ac3 bc0 bc1 bc2 bc3
          obtain ⟨_, ⟨ac0, ac1, ac2, ac3, _⟩, bc0, bc1, bc2, bc3, _⟩ := HS2.out
          go_wp2
          go_ret
          exact ⟨_, rfl, .inl ⟨HLL.out, rfl⟩, HS2.out.1⟩
        · have d1 : decide (a.w < 1) = false := by simpa using hw
          have d2 : decide (a.h < 1) = true := by simp; omega
          clear he hw
          go_enter Try.func17, Try.ntmps17
          go_wp2_with fail
          refine (HA.out _).mono ?_
          rintro e w1 ⟨rfl, hs⟩
          have HS1 := hide' (HS.out.keep hs)
          obtain ⟨_, ⟨ac0, ac1, ac2, ac3, _⟩, bc0, bc1, bc2, bc3, _⟩ := HS1.out
          clear hs
          go_wp2_with fail
          refine (HB.out _).mono ?_
          rintro e w2 ⟨rfl, hs⟩
          have HS2 := hide' (HS1.out.keep hs)
          clear hs ac0 ac1 ac2 ac3 bc0 bc1 bc2 bc3
          obtain ⟨_, ⟨ac0, ac1, ac2, ac3, _⟩, bc0, bc1, bc2, bc3, _⟩ := HS2.out
          go_wp2
          go_ret
          exact ⟨_, rfl, .inl ⟨HLL.out, rfl⟩, HS2.out.1⟩

end Go.Proofs.Ytloijopnfnhnhaa
