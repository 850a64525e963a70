/-
  Has of the document, the same rectangles: walked. No conditions.
-/
import Derived.Test.YtloijopnfnhnhaaC5
namespace Go.Proofs.Ytloijopnfnhnhaa
open Go.RowKit

theorem has_in (a b : R) (ha : rightB a = true) (hb : rightB b = true) (h1 : 1 ≤ b.w) (h2 : 1 ≤ b.h) : decide (bothR a b = b) = (inB a b.x b.y && inB a (b.x + b.w - 1) (b.y + b.h - 1)) := by
  rw [both_meets a b ha hb]
  obtain ⟨⟨p1, p2⟩, ⟨p3, p4⟩, ⟨p5, p6⟩, p7, p8⟩ := right_bd ha
  obtain ⟨⟨q1, q2⟩, ⟨q3, q4⟩, ⟨q5, q6⟩, q7, q8⟩ := right_bd hb
  obtain ⟨ax, ay, aw, ah⟩ := a
  obtain ⟨bx, b_y, bw, bh⟩ := b
  simp only at *
  unfold inB meetsB interR emptyB
  rw [Bool.eq_iff_iff]
  simp only [decide_eq_true_eq, Bool.and_eq_true]
  split
  · rename_i h
    simp at h
    simp only [R.mk.injEq]
    omega
  · rename_i h
    simp at h
    simp only [R.mk.injEq]
    omega

set_option maxHeartbeats 1000000 in
theorem refHas12 (a b : R) (w : World) : Calls Try.prog 12 #[.agg #[.int .i64 a.x, .int .i64 a.y, .int .i64 a.w, .int .i64 a.h], .agg #[.int .i64 b.x, .int .i64 b.y, .int .i64 b.w, .int .i64 b.h]] w (Gives (.bool (hasB a b)) w) := by
  have HS := hide' (two_new a b w)
  have HA := hide' (refRight7 a)
  have HB := hide' (refRight7 b)
  by_cases ha : rightB a = true
  · by_cases hb : rightB b = true
    · have HQ : Hid (hasB a b = (emptyB b || decide (bothR a b = b))) := by
        show _ = _
        unfold hasB; rw [ha, hb]; rfl
      obtain ⟨⟨p1, p2⟩, ⟨p3, p4⟩, ⟨p5, p6⟩, p7, p8⟩ := right_bd ha
      obtain ⟨⟨q1, q2⟩, ⟨q3, q4⟩, ⟨q5, q6⟩, q7, q8⟩ := right_bd hb
      have HX := hide' (fun w => refIn20 a b.x b.y w ha (by unfold Mid; omega) (by unfold Mid; omega))
      have HY := hide' (fun w => refIn20 a (b.x + b.w - 1) (b.y + b.h - 1) w ha (by unfold Mid; omega) (by unfold Mid; omega))
      have HI := hide' (has_in a b ha hb)
      rw [ha] at HA
      rw [hb] at HB
      clear ha hb
      obtain ⟨q, hq⟩ : ∃ q, q = hasB a b := ⟨_, rfl⟩
      rw [← hq] at HQ ⊢
      clear hq
      by_cases e1 : b.w < 1
      · have HQ' : Hid (q = true) := by
          show q = true
          rw [HQ.out]; unfold emptyB; simp [e1]
        have d1 : decide (b.w < 1) = true := by simpa using e1
        clear HQ HX HY HI e1
        go_enter Try.func12, Try.ntmps12
        go_wp2_with fail
        refine (HA.out _).mono ?_
        rintro e w1 ⟨rfl, hs⟩
        have HS1 := hide' (HS.out.keep hs)
        obtain ⟨_, ⟨c0, c1, c2, c3, _⟩, d0, d1', d2, d3, _⟩ := HS1.out
        clear hs
        go_wp2_with fail
        refine (HB.out _).mono ?_
        rintro e w2 ⟨rfl, hs⟩
        have HS2 := hide' (HS1.out.keep hs)
        clear c0 c1 c2 c3 d0 d1' d2 d3
        obtain ⟨_, ⟨c0, c1, c2, c3, _⟩, d0, d1', d2, d3, _⟩ := HS2.out
        clear hs
        go_wp2
        go_ret
        exact ⟨ret_bool HQ'.out.symm, HS2.out.1⟩
      · by_cases e2 : b.h < 1
        · have HQ' : Hid (q = true) := by
            show q = true
            rw [HQ.out]; unfold emptyB; simp [e2]
          have d1 : decide (b.w < 1) = false := by simpa using e1
          have d1x : decide (b.h < 1) = true := by simpa using e2
          clear HQ HX HY HI e1 e2
          go_enter Try.func12, Try.ntmps12
          go_wp2_with fail
          refine (HA.out _).mono ?_
          rintro e w1 ⟨rfl, hs⟩
          have HS1 := hide' (HS.out.keep hs)
          obtain ⟨_, ⟨c0, c1, c2, c3, _⟩, d0, d1', d2, d3, _⟩ := HS1.out
          clear hs
          go_wp2_with fail
          refine (HB.out _).mono ?_
          rintro e w2 ⟨rfl, hs⟩
          have HS2 := hide' (HS1.out.keep hs)
          clear c0 c1 c2 c3 d0 d1' d2 d3
          obtain ⟨_, ⟨c0, c1, c2, c3, _⟩, d0, d1', d2, d3, _⟩ := HS2.out
          clear hs
          go_wp2
          go_ret
          exact ⟨ret_bool HQ'.out.symm, HS2.out.1⟩
        · have HQ' : Hid (q = (inB a b.x b.y && inB a (b.x + b.w - 1) (b.y + b.h - 1))) := by
            show q = _
            rw [HQ.out, HI.out (by omega) (by omega)]; unfold emptyB; simp [e1, e2]
          obtain ⟨cx, hcx⟩ : ∃ c, c = inB a b.x b.y := ⟨_, rfl⟩
          obtain ⟨cy, hcy⟩ : ∃ c, c = inB a (b.x + b.w - 1) (b.y + b.h - 1) := ⟨_, rfl⟩
          rw [← hcx] at HQ' HX
          rw [← hcy] at HQ' HY
          have d1 : decide (b.w < 1) = false := by simpa using e1
          have d1x : decide (b.h < 1) = false := by simpa using e2
          clear HQ HI e1 e2 hcx hcy
          go_enter Try.func12, Try.ntmps12
          go_wp2_with fail
          refine (HA.out _).mono ?_
          rintro e w1 ⟨rfl, hs⟩
          have HS1 := hide' (HS.out.keep hs)
          obtain ⟨_, ⟨c0, c1, c2, c3, _⟩, d0, d1', d2, d3, _⟩ := HS1.out
          clear hs
          go_wp2_with fail
          refine (HB.out _).mono ?_
          rintro e w2 ⟨rfl, hs⟩
          have HS2 := hide' (HS1.out.keep hs)
          clear c0 c1 c2 c3 d0 d1' d2 d3
          obtain ⟨_, ⟨c0, c1, c2, c3, _⟩, d0, d1', d2, d3, _⟩ := HS2.out
          clear hs
          cases cx
          · go_wp2_with fail
            refine (HX.out _).mono ?_
            rintro e w3 ⟨rfl, hs⟩
            have HS3 := hide' (HS2.out.keep hs)
            clear hs
            go_wp2
            go_ret
            exact ⟨ret_bool HQ'.out.symm, HS3.out.1⟩
          · go_wp2_with fail
            refine (HX.out _).mono ?_
            rintro e w3 ⟨rfl, hs⟩
            have HS3 := hide' (HS2.out.keep hs)
            clear c0 c1 c2 c3 d0 d1' d2 d3
            obtain ⟨_, ⟨c0, c1, c2, c3, _⟩, d0, d1', d2, d3, _⟩ := HS3.out
            clear hs
            go_wp2_with fail
            refine (HY.out _).mono ?_
            rintro e w4 ⟨rfl, hs⟩
            have HS4 := hide' (HS3.out.keep hs)
            clear hs
            go_wp2
            go_ret
            exact ⟨ret_bool HQ'.out.symm, HS4.out.1⟩
    · have hb' : rightB b = false := by simpa using hb
      have HQ : Hid (hasB a b = false) := by
        show _ = _
        unfold hasB; rw [ha, hb']; rfl
      rw [ha] at HA
      rw [hb'] at HB
      clear ha hb hb'
      obtain ⟨q, hq⟩ : ∃ q, q = hasB a b := ⟨_, rfl⟩
      rw [← hq] at HQ ⊢
      clear hq
      go_enter Try.func12, Try.ntmps12
      go_wp2_with fail
      refine (HA.out _).mono ?_
      rintro e w1 ⟨rfl, hs⟩
      have HS1 := hide' (HS.out.keep hs)
      obtain ⟨_, ⟨c0, c1, c2, c3, _⟩, d0, d1', d2, d3, _⟩ := HS1.out
      clear hs
      go_wp2_with fail
      refine (HB.out _).mono ?_
      rintro e w2 ⟨rfl, hs⟩
      have HS2 := hide' (HS1.out.keep hs)
      clear hs
      go_wp2
      go_ret
      exact ⟨ret_bool HQ.out.symm, HS2.out.1⟩
  · have ha' : rightB a = false := by simpa using ha
    have HQ : Hid (hasB a b = false) := by
      show _ = _
      unfold hasB; rw [ha']; rfl
    rw [ha'] at HA
    clear ha ha' HB
    obtain ⟨q, hq⟩ : ∃ q, q = hasB a b := ⟨_, rfl⟩
    rw [← hq] at HQ ⊢
    clear hq
    go_enter Try.func12, Try.ntmps12
    go_wp2_with fail
    refine (HA.out _).mono ?_
    rintro e w1 ⟨rfl, hs⟩
    have HS1 := hide' (HS.out.keep hs)
    clear hs
    go_wp2
    go_ret
    exact ⟨ret_bool HQ.out.symm, HS1.out.1⟩

/-- A rectangle's cells. -/
def R.cells (r : R) : List Value := [.int .i64 r.x, .int .i64 r.y, .int .i64 r.w, .int .i64 r.h]

/-- A rectangle in the midst of a block. -/
structure BoxAt (w : World) (g o : Nat) (r : R) : Prop where
  c0 : w.cell? ⟨g, o, none⟩ = some (.int .i64 r.x)
  c1 : w.cell? ⟨g, o + 1, none⟩ = some (.int .i64 r.y)
  c2 : w.cell? ⟨g, o + 2, none⟩ = some (.int .i64 r.w)
  c3 : w.cell? ⟨g, o + 3, none⟩ = some (.int .i64 r.h)

theorem BoxAt.keep {W w1 : World} {g o : Nat} {r : R} (h : BoxAt W g o r) (hs : Stay (fun _ => False) W w1) : BoxAt w1 g o r := ⟨keep_cell hs h.c0, keep_cell hs h.c1, keep_cell hs h.c2, keep_cell hs h.c3⟩

theorem BoxAt.cells {w : World} {g o : Nat} {r : R} (h : BoxAt w g o r) : ∀ (j : Nat) (v : Value), [Value.int .i64 r.x, .int .i64 r.y, .int .i64 r.w, .int .i64 r.h][j]? = some v → w.cell? ⟨g, o + j, none⟩ = some v := by
  intro j v hj
  match j, hj with
  | 0, hj => cases hj; exact h.c0
  | 1, hj => cases hj; exact h.c1
  | 2, hj => cases hj; exact h.c2
  | 3, hj => cases hj; exact h.c3

/-- A slice that is these rectangles. -/
def Rects (w : World) (v : Value) (L : List R) : Prop :=
  (L = [] ∧ v = .slice none 0 0) ∨ ∃ g cap, v = .slice (some ⟨g, 0, none⟩) L.length cap ∧ L.length ≤ cap ∧ cap ≤ maxLen ∧ ∀ j r, L[j]? = some r → BoxAt w g (j * 4) r

theorem Rects.keep {W w1 : World} {v : Value} {L : List R} (h : Rects W v L) (hs : Stay (fun _ => False) W w1) : Rects w1 v L := by
  rcases h with h | ⟨g, cap, h1, h2, h3, h4⟩
  · exact .inl h
  · exact .inr ⟨g, cap, h1, h2, h3, fun j r hj => (h4 j r hj).keep hs⟩

theorem cells_at : ∀ (L : List R) (j : Nat) (r : R), L[j]? = some r → ∀ k, k < 4 → (L.flatMap R.cells)[j * 4 + k]? = r.cells[k]?
  | [], j, r, h, _, _ => by simp at h
  | s :: L, 0, r, h, k, hk => by
    simp at h
    subst h
    rw [List.flatMap_cons, Nat.zero_mul, Nat.zero_add, List.getElem?_append_left (by simpa [R.cells] using hk)]
  | s :: L, j + 1, r, h, k, hk => by
    have := cells_at L j r (by simpa using h) k hk
    rw [List.flatMap_cons, List.getElem?_append_right (by simp [R.cells]; omega)]
    rw [← this]
    congr 1
    simp [R.cells]
    omega

theorem cells_len (L : List R) : (L.flatMap R.cells).length = L.length * 4 := by
  induction L with
  | nil => rfl
  | cons s L ih => rw [List.flatMap_cons, List.length_append, ih, List.length_cons]; simp [R.cells]; omega

theorem cells_of_at : ∀ (L : List R) (i : Nat) (u : Value), (L.flatMap R.cells)[i]? = some u → ∃ r, L[i / 4]? = some r ∧ r.cells[i % 4]? = some u := fun L i u h => by
  have hl : i < L.length * 4 := by rw [← cells_len]; exact (List.getElem?_eq_some_iff.1 h).1
  have hj : i / 4 < L.length := by omega
  refine ⟨L[i / 4], List.getElem?_eq_getElem hj, ?_⟩
  have := cells_at L (i / 4) L[i / 4] (List.getElem?_eq_getElem hj) (i % 4) (by omega)
  rw [← this, show i / 4 * 4 + i % 4 = i by omega, h]

theorem Rects.row {w : World} {v : Value} {L : List R} (h : Rects w v L) : IsRowS w 4 v L.length (L.flatMap R.cells) := by
  rcases h with ⟨rfl, rfl⟩ | ⟨g, cap, rfl, _, _, hb⟩
  · exact .inl ⟨rfl, rfl, rfl⟩
  · refine .inr ⟨_, _, rfl, cells_len L, fun i u hu => ?_⟩
    obtain ⟨r, h1, h2⟩ := cells_of_at L i u hu
    have B := hb _ r h1
    rw [addr_add, Nat.zero_add]
    have hi : i / 4 * 4 + i % 4 = i := by omega
    obtain ⟨b0, b1, b2, b3⟩ := B
    have h4 : i % 4 < 4 := by omega
    rw [← hi]
    match hk : i % 4, h4 with
    | 0, _ => rw [hk] at h2; cases h2; exact b0
    | 1, _ => rw [hk] at h2; cases h2; exact b1
    | 2, _ => rw [hk] at h2; cases h2; exact b2
    | 3, _ => rw [hk] at h2; cases h2; exact b3

theorem cells_one (L : List R) : ∀ u ∈ L.flatMap R.cells, u.oneCell' = true := by
  intro u hu
  obtain ⟨r, _, h⟩ := List.mem_flatMap.1 hu
  simp [R.cells] at h
  rcases h with rfl | rfl | rfl | rfl <;> rfl

/-- An own row of rectangles is a slice of them. -/
theorem rects_of_owns {w : World} {base : Nat} {v : Value} {L : List R} (h : w.ownsRow base 23 4 v L.length (L.flatMap R.cells)) : Rects w v L := by
  rcases h.2 with ⟨h1, h2⟩ | ⟨g, cap, cur, hv, hb, hg, hc, hm, hs, ht⟩
  · left
    exact ⟨List.eq_nil_of_length_eq_zero h2, h1⟩
  · right
    refine ⟨g, cap, hv, hc, hm, fun j r hj => ?_⟩
    have hcell := h.cells (g := g) (by rw [hv]; rfl)
    have at_ : ∀ k, k < 4 → ∀ u, r.cells[k]? = some u → w.cell? ⟨g, j * 4 + k, none⟩ = some u := fun k hk u hu => by
      have := hcell (j * 4 + k) u (by rw [cells_at L j r hj k hk]; exact hu)
      rwa [addr_add, Nat.zero_add] at this
    exact ⟨at_ 0 (by omega) _ rfl, at_ 1 (by omega) _ rfl, at_ 2 (by omega) _ rfl, at_ 3 (by omega) _ rfl⟩

end Go.Proofs.Ytloijopnfnhnhaa
