/-
  How many parts have a cell: plain.
-/
import Derived.Test.YtloijopnfnhnhaaE2
namespace Go.Proofs.Ytloijopnfnhnhaa
open Go.RowKit

def cnt (L : List R) (x y : Int) : Nat := (L.filter (inB · x y)).length

def one (b : Bool) : Nat := if b = true then 1 else 0

theorem cnt_snoc (L : List R) (r : R) (x y : Int) : cnt (L ++ [r]) x y = cnt L x y + one (inB r x y) := by
  unfold cnt one
  rw [List.filter_append, List.length_append]
  cases h : inB r x y <;> simp [h]

theorem in_empty (r : R) (x y : Int) (h : emptyB r = true) : inB r x y = false := by
  unfold emptyB at h
  unfold inB
  simp at h ⊢
  omega

theorem cnt_put (L : List R) (r : R) (x y : Int) : cnt (putL L r) x y = cnt L x y + one (inB r x y) := by
  unfold putL
  split
  · rename_i h
    rw [in_empty r x y h]
    rfl
  · exact cnt_snoc L r x y

/-- A cell of one of the parts, or of both, is one of the whole, and of one of them alone. -/
theorem parts_count (a c : R) (x y : Int) (h1 : a.x ≤ c.x) (h2 : c.x + c.w ≤ a.x + a.w) (h3 : a.y ≤ c.y) (h4 : c.y + c.h ≤ a.y + a.h) (h5 : 1 ≤ c.w) (h6 : 1 ≤ c.h) :
    one (inB (part0 a c) x y) + one (inB (part1 a c) x y) + one (inB (part2 a c) x y) + one (inB (part3 a c) x y) + one (inB c x y) = one (inB a x y) := by
  obtain ⟨ax, ay, aw, ah⟩ := a
  obtain ⟨cx, cy, cw, ch⟩ := c
  simp only at h1 h2 h3 h4 h5 h6
  unfold part0 part1 part2 part3 inB
  simp only
  by_cases y1 : y < cy
  · rw [show (decide (1 ≤ cx - ax) && decide (1 ≤ ch) && decide (ax ≤ x) && decide (x - ax < cx - ax) && decide (cy ≤ y) && decide (y - cy < ch)) = false by simp; omega,
      show (decide (1 ≤ ax + aw - (cx + cw)) && decide (1 ≤ ch) && decide (cx + cw ≤ x) && decide (x - (cx + cw) < ax + aw - (cx + cw)) && decide (cy ≤ y) && decide (y - cy < ch)) = false by simp; omega,
      show (decide (1 ≤ aw) && decide (1 ≤ ay + ah - (cy + ch)) && decide (ax ≤ x) && decide (x - ax < aw) && decide (cy + ch ≤ y) && decide (y - (cy + ch) < ay + ah - (cy + ch))) = false by simp; omega,
      show (decide (1 ≤ cw) && decide (1 ≤ ch) && decide (cx ≤ x) && decide (x - cx < cw) && decide (cy ≤ y) && decide (y - cy < ch)) = false by simp; omega,
      show (decide (1 ≤ aw) && decide (1 ≤ cy - ay) && decide (ax ≤ x) && decide (x - ax < aw) && decide (ay ≤ y) && decide (y - ay < cy - ay)) = (decide (1 ≤ aw) && decide (1 ≤ ah) && decide (ax ≤ x) && decide (x - ax < aw) && decide (ay ≤ y) && decide (y - ay < ah)) by rw [Bool.eq_iff_iff]; simp; omega]
    simp [one]
  · by_cases y2 : cy + ch ≤ y
    · rw [show (decide (1 ≤ cx - ax) && decide (1 ≤ ch) && decide (ax ≤ x) && decide (x - ax < cx - ax) && decide (cy ≤ y) && decide (y - cy < ch)) = false by simp; omega,
        show (decide (1 ≤ ax + aw - (cx + cw)) && decide (1 ≤ ch) && decide (cx + cw ≤ x) && decide (x - (cx + cw) < ax + aw - (cx + cw)) && decide (cy ≤ y) && decide (y - cy < ch)) = false by simp; omega,
        show (decide (1 ≤ aw) && decide (1 ≤ cy - ay) && decide (ax ≤ x) && decide (x - ax < aw) && decide (ay ≤ y) && decide (y - ay < cy - ay)) = false by simp; omega,
        show (decide (1 ≤ cw) && decide (1 ≤ ch) && decide (cx ≤ x) && decide (x - cx < cw) && decide (cy ≤ y) && decide (y - cy < ch)) = false by simp; omega,
        show (decide (1 ≤ aw) && decide (1 ≤ ay + ah - (cy + ch)) && decide (ax ≤ x) && decide (x - ax < aw) && decide (cy + ch ≤ y) && decide (y - (cy + ch) < ay + ah - (cy + ch))) = (decide (1 ≤ aw) && decide (1 ≤ ah) && decide (ax ≤ x) && decide (x - ax < aw) && decide (ay ≤ y) && decide (y - ay < ah)) by rw [Bool.eq_iff_iff]; simp; omega]
      simp [one]
    · rw [show (decide (1 ≤ aw) && decide (1 ≤ cy - ay) && decide (ax ≤ x) && decide (x - ax < aw) && decide (ay ≤ y) && decide (y - ay < cy - ay)) = false by simp; omega,
        show (decide (1 ≤ aw) && decide (1 ≤ ay + ah - (cy + ch)) && decide (ax ≤ x) && decide (x - ax < aw) && decide (cy + ch ≤ y) && decide (y - (cy + ch) < ay + ah - (cy + ch))) = false by simp; omega]
      by_cases x1 : x < cx
      · rw [show (decide (1 ≤ ax + aw - (cx + cw)) && decide (1 ≤ ch) && decide (cx + cw ≤ x) && decide (x - (cx + cw) < ax + aw - (cx + cw)) && decide (cy ≤ y) && decide (y - cy < ch)) = false by simp; omega,
          show (decide (1 ≤ cw) && decide (1 ≤ ch) && decide (cx ≤ x) && decide (x - cx < cw) && decide (cy ≤ y) && decide (y - cy < ch)) = false by simp; omega,
          show (decide (1 ≤ cx - ax) && decide (1 ≤ ch) && decide (ax ≤ x) && decide (x - ax < cx - ax) && decide (cy ≤ y) && decide (y - cy < ch)) = (decide (1 ≤ aw) && decide (1 ≤ ah) && decide (ax ≤ x) && decide (x - ax < aw) && decide (ay ≤ y) && decide (y - ay < ah)) by rw [Bool.eq_iff_iff]; simp; omega]
        simp [one]
      · by_cases x2 : cx + cw ≤ x
        · rw [show (decide (1 ≤ cx - ax) && decide (1 ≤ ch) && decide (ax ≤ x) && decide (x - ax < cx - ax) && decide (cy ≤ y) && decide (y - cy < ch)) = false by simp; omega,
            show (decide (1 ≤ cw) && decide (1 ≤ ch) && decide (cx ≤ x) && decide (x - cx < cw) && decide (cy ≤ y) && decide (y - cy < ch)) = false by simp; omega,
            show (decide (1 ≤ ax + aw - (cx + cw)) && decide (1 ≤ ch) && decide (cx + cw ≤ x) && decide (x - (cx + cw) < ax + aw - (cx + cw)) && decide (cy ≤ y) && decide (y - cy < ch)) = (decide (1 ≤ aw) && decide (1 ≤ ah) && decide (ax ≤ x) && decide (x - ax < aw) && decide (ay ≤ y) && decide (y - ay < ah)) by rw [Bool.eq_iff_iff]; simp; omega]
          simp [one]
        · rw [show (decide (1 ≤ cx - ax) && decide (1 ≤ ch) && decide (ax ≤ x) && decide (x - ax < cx - ax) && decide (cy ≤ y) && decide (y - cy < ch)) = false by simp; omega,
            show (decide (1 ≤ ax + aw - (cx + cw)) && decide (1 ≤ ch) && decide (cx + cw ≤ x) && decide (x - (cx + cw) < ax + aw - (cx + cw)) && decide (cy ≤ y) && decide (y - cy < ch)) = false by simp; omega,
            show (decide (1 ≤ cw) && decide (1 ≤ ch) && decide (cx ≤ x) && decide (x - cx < cw) && decide (cy ≤ y) && decide (y - cy < ch)) = (decide (1 ≤ aw) && decide (1 ≤ ah) && decide (ax ≤ x) && decide (x - ax < aw) && decide (ay ≤ y) && decide (y - ay < ah)) by rw [Bool.eq_iff_iff]; simp; omega]
          simp [one]

theorem count_all (a b : R) (x y : Int) (ha : rightB a = true) (hb : rightB b = true) : cnt (lessL a b) x y + one (inB (bothR a b) x y) = one (inB a x y) := by
  have z : inB ⟨0, 0, 0, 0⟩ x y = false := in_empty _ x y (by decide)
  unfold lessL
  rw [both_meets a b ha hb]
  cases he : emptyB a
  · rw [if_pos (by rw [ha, hb]; rfl)]
    cases hm : meetsB a b
    · rw [if_neg (by decide), if_neg (by decide), z]
      have e := cnt_snoc [] a x y
      rw [List.nil_append] at e
      rw [e]
      simp [cnt, one]
    · rw [if_pos rfl, if_pos rfl, cnt_put, cnt_put, cnt_put, cnt_put]
      have hc0 : cnt [] x y = 0 := rfl
      rw [hc0]
      have hm' := hm
      obtain ⟨⟨p1, p2⟩, ⟨p3, p4⟩, ⟨p5, p6⟩, p7, p8⟩ := right_bd ha
      obtain ⟨⟨q1, q2⟩, ⟨q3, q4⟩, ⟨q5, q6⟩, q7, q8⟩ := right_bd hb
      unfold meetsB emptyB at hm'
      simp at hm'
      have := parts_count a (interR a b) x y (by unfold interR; simp only; omega) (by unfold interR; simp only; omega) (by unfold interR; simp only; omega) (by unfold interR; simp only; omega) (by unfold interR; simp only; omega) (by unfold interR; simp only; omega)
      omega
  · rw [if_neg (by simp), in_empty a x y he]
    have hm : meetsB a b = false := by unfold meetsB; rw [he]; rfl
    rw [hm, if_neg (by decide), z]
    rfl

/-- The parts' numbers are ints. -/
def Ints64 (r : R) : Prop := I64 r.x ∧ I64 r.y ∧ I64 r.w ∧ I64 r.h

theorem right_i64 {r : R} (h : rightB r = true) : Ints64 r := by
  obtain ⟨⟨p1, p2⟩, ⟨p3, p4⟩, ⟨p5, p6⟩, p7, p8⟩ := right_bd h
  unfold Ints64 I64
  omega

theorem both_i64 (a b : R) (ha : rightB a = true) (hb : rightB b = true) : Ints64 (bothR a b) := by
  have := both_bd a b ha hb
  unfold Ints64 I64
  omega

theorem mem_put {L : List R} {p r : R} (h : r ∈ putL L p) : r ∈ L ∨ r = p := by
  unfold putL at h
  split at h
  · exact .inl h
  · simpa using h

theorem less_i64 (a b : R) (ha : rightB a = true) (hb : rightB b = true) : ∀ r ∈ lessL a b, Ints64 r := by
  intro r hr
  have h1 := both_bd a b ha hb
  have h2 := right_bd ha
  unfold lessL at hr
  split at hr
  · split at hr
    · rcases mem_put hr with hr | rfl
      · rcases mem_put hr with hr | rfl
        · rcases mem_put hr with hr | rfl
          · rcases mem_put hr with hr | rfl
            · simp at hr
            · unfold Ints64 I64 part0; simp only; omega
          · unfold Ints64 I64 part1; simp only; omega
        · unfold Ints64 I64 part2; simp only; omega
      · unfold Ints64 I64 part3; simp only; omega
    · simp at hr
      subst hr
      exact right_i64 ha
  · simp at hr

theorem less_len (a b : R) : (lessL a b).length ≤ 4 := by
  unfold lessL
  split
  · split
    · have h1 := put_len [] (part0 a (bothR a b))
      have h2 := put_len (putL [] (part0 a (bothR a b))) (part1 a (bothR a b))
      have h3 := put_len (putL (putL [] (part0 a (bothR a b))) (part1 a (bothR a b))) (part2 a (bothR a b))
      have h4 := put_len (putL (putL (putL [] (part0 a (bothR a b))) (part1 a (bothR a b))) (part2 a (bothR a b))) (part3 a (bothR a b))
      simp only [List.length_nil] at h1
      omega
    · simp
  · simp

theorem cnt_le (L : List R) (x y : Int) : cnt L x y ≤ L.length := List.length_filter_le _ _

theorem cnt_take (L : List R) (k : Nat) (r : R) (x y : Int) (h : L[k]? = some r) : cnt (L.take (k + 1)) x y = cnt (L.take k) x y + one (inB r x y) := by
  rw [List.take_add_one, h]
  exact cnt_snoc _ _ _ _

end Go.Proofs.Ytloijopnfnhnhaa
