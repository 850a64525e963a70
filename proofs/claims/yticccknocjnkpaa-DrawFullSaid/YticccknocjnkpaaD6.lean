/-
  Which cells come, and how many; rows that have come. No conditions.
-/
import Derived.Test.YticccknocjnkpaaG5
namespace Go.Proofs.Yticccknocjnkpaa
open Go.RowKit

def cntRow (p : Nat → Bool) : Nat → Nat
  | 0 => 0
  | n + 1 => cntRow p n + if p n then 1 else 0

/-- How many cells of the first rows are such. -/
def cntAll (p : Nat → Nat → Bool) (w : Nat) : Nat → Nat
  | 0 => 0
  | n + 1 => cntAll p w n + cntRow (fun X => p X n) w

theorem cntRow_span {p : Nat → Bool} {w x a : Nat} (h : ∀ X, X < w → (p X = true ↔ (x ≤ X ∧ X < x + a))) : ∀ n, n ≤ w → cntRow p n = min n (x + a) - min n x
  | 0, _ => by simp [cntRow]
  | n + 1, hn => by
    unfold cntRow
    rw [cntRow_span h n (by omega)]
    by_cases hp : p n = true
    · have := (h n (by omega)).1 hp
      rw [if_pos hp]
      omega
    · have := mt (h n (by omega)).2 hp
      rw [if_neg hp]
      omega

theorem cntRow_none {p : Nat → Bool} {w : Nat} (h : ∀ X, X < w → p X = false) : ∀ n, n ≤ w → cntRow p n = 0
  | 0, _ => rfl
  | n + 1, hn => by
    unfold cntRow
    rw [cntRow_none h n (by omega), h n (by omega)]
    rfl

theorem cntAll_rows {p : Nat → Nat → Bool} {w h x y a b : Nat} (hx : x + a ≤ w) (hp : ∀ X Y, X < w → Y < h → (p X Y = true ↔ (x ≤ X ∧ X < x + a ∧ y ≤ Y ∧ Y < y + b))) : ∀ n, n ≤ h → cntAll p w n = (min n (y + b) - min n y) * a
  | 0, _ => by simp [cntAll]
  | n + 1, hn => by
    unfold cntAll
    rw [cntAll_rows hx hp n (by omega)]
    by_cases hy : y ≤ n ∧ n < y + b
    · rw [cntRow_span (x := x) (a := a) (fun X hX => ⟨fun h => by have := (hp X n hX (by omega)).1 h; omega, fun h => (hp X n hX (by omega)).2 (by omega)⟩) w (Nat.le_refl _)]
      rw [show min (n + 1) (y + b) - min (n + 1) y = (min n (y + b) - min n y) + 1 by omega, Nat.add_mul]
      omega
    · rw [cntRow_none (fun X hX => by
        cases hq : p X n
        · rfl
        · have := (hp X n hX (by omega)).1 hq
          omega) w (Nat.le_refl _)]
      rw [show min (n + 1) (y + b) - min (n + 1) y = (min n (y + b) - min n y) by omega]
      rfl

theorem cntAll_rect {p : Nat → Nat → Bool} {w h x y a b : Nat} (hx : x + a ≤ w) (hy : y + b ≤ h) (hp : ∀ X Y, X < w → Y < h → (p X Y = true ↔ (x ≤ X ∧ X < x + a ∧ y ≤ Y ∧ Y < y + b))) : cntAll p w h = a * b := by
  rw [cntAll_rows hx hp h (Nat.le_refl _), Nat.mul_comm]
  congr 1
  omega

theorem cntAll_none {p : Nat → Nat → Bool} {w h : Nat} (hp : ∀ X Y, X < w → Y < h → p X Y = false) : cntAll p w h = 0 := by
  rw [cntAll_rect (x := 0) (y := 0) (a := 0) (b := 0) (Nat.zero_le _) (Nat.zero_le _) (fun X Y hX hY => by rw [hp X Y hX hY]; simp)]

/-- Does a cell come to X and Y? -/
def comesB (gw gh : Nat) (r : R) (x y : Int) (X Y : Nat) : Bool := (rightB r && rightB ⟨x, y, 0, 0⟩) && (inB r (X - x + r.x) (Y - y + r.y) && insB gw gh (X - x + r.x) (Y - y + r.y))

theorem both_pos {r q : R} {x0 y0 a0 b0 : Nat} (h : bothR r q = ⟨x0, y0, a0, b0⟩) (hb : 0 < b0) : 0 < a0 := by
  unfold bothR at h
  split at h
  · unfold orNoneR at h
    split at h
    · simp only [R.mk.injEq] at h
      omega
    · rename_i he
      rw [h] at he
      unfold emptyB at he
      simp at he
      omega
  · simp only [R.mk.injEq] at h
    omega

theorem xy_bd {x y : Int} (h : rightB ⟨x, y, 0, 0⟩ = true) : (-1073741824 ≤ x ∧ x ≤ 1073741824) ∧ -1073741824 ≤ y ∧ y ≤ 1073741824 := by
  obtain ⟨h1, h2, _⟩ := right_bd h
  exact ⟨h1, h2⟩

/-- Where cells come to, and from. -/
theorem blit_rect (gw gh ow oh : Nat) (r : R) (x y : Int) (g1 : gw ≤ 512) (g2 : gh ≤ 512) (o1 : ow ≤ 512) (o2 : oh ≤ 512) (hr : rightB r = true) (hxy : rightB ⟨x, y, 0, 0⟩ = true) :
    ∃ x0 y0 a0 b0 : Nat, bothR r ⟨0, 0, gw, gh⟩ = ⟨x0, y0, a0, b0⟩ ∧ x0 + a0 ≤ gw ∧ y0 + b0 ≤ gh ∧
    ∃ x1 y1 a1 b1 u1 v1 : Nat, bothR ⟨(x0 : Int) + (x - r.x), (y0 : Int) + (y - r.y), a0, b0⟩ ⟨0, 0, ow, oh⟩ = ⟨x1, y1, a1, b1⟩ ∧ x1 + a1 ≤ ow ∧ y1 + b1 ≤ oh ∧
    (∀ X Y : Nat, X < ow → Y < oh → (comesB gw gh r x y X Y = true ↔ (x1 ≤ X ∧ X < x1 + a1 ∧ y1 ≤ Y ∧ Y < y1 + b1))) ∧
    (0 < b1 → (u1 : Int) = x1 - (x - r.x) ∧ (v1 : Int) = y1 - (y - r.y) ∧ u1 + a1 ≤ gw ∧ v1 + b1 ≤ gh ∧ 0 < a1) := by
  obtain ⟨x0, y0, a0, b0, hq, hx, hy, hm⟩ := both_whole r gw gh g1 g2
  refine ⟨x0, y0, a0, b0, hq, hx, hy, ?_⟩
  obtain ⟨x1, y1, a1, b1, hq1, hx1, hy1, hm1⟩ := both_whole ⟨(x0 : Int) + (x - r.x), (y0 : Int) + (y - r.y), a0, b0⟩ ow oh o1 o2
  obtain ⟨⟨p1, p2⟩, ⟨p3, p4⟩, _⟩ := right_bd hr
  obtain ⟨⟨q1, q2⟩, q3, q4⟩ := xy_bd hxy
  have key : ∀ X Y : Nat, X < ow → Y < oh → (comesB gw gh r x y X Y = true ↔ ((x0 : Int) ≤ X - x + r.x ∧ X - x + r.x < x0 + a0 ∧ (y0 : Int) ≤ Y - y + r.y ∧ Y - y + r.y < y0 + b0)) := fun X Y hX hY => by
    unfold comesB
    rw [hr, hxy]
    simp only [Bool.and_self, Bool.true_and, Bool.and_eq_true]
    constructor
    · rintro ⟨h1, h2⟩
      obtain ⟨U, V, hU, hV, h3, h4⟩ := ins_true h2
      rw [hU, hV] at h1 ⊢
      have := (hm U V h3 h4).1 ⟨hr, h1⟩
      omega
    · rintro ⟨h1, h2, h3, h4⟩
      obtain ⟨U, hU⟩ : ∃ U : Nat, (X : Int) - x + r.x = U := ⟨((X : Int) - x + r.x).toNat, by omega⟩
      obtain ⟨V, hV⟩ : ∃ V : Nat, (Y : Int) - y + r.y = V := ⟨((Y : Int) - y + r.y).toNat, by omega⟩
      rw [hU] at h1 h2 ⊢
      rw [hV] at h3 h4 ⊢
      exact ⟨((hm U V (by omega) (by omega)).2 (by omega)).2, ins_nat (by omega) (by omega)⟩
  have key1 : ∀ X Y : Nat, X < ow → Y < oh → (((x0 : Int) ≤ X - x + r.x ∧ X - x + r.x < x0 + a0 ∧ (y0 : Int) ≤ Y - y + r.y ∧ Y - y + r.y < y0 + b0) ↔ (x1 ≤ X ∧ X < x1 + a1 ∧ y1 ≤ Y ∧ Y < y1 + b1)) := fun X Y hX hY => by
    rw [← hm1 X Y hX hY]
    constructor
    · rintro ⟨h1, h2, h3, h4⟩
      refine ⟨right_of (by omega), ?_⟩
      unfold inB
      simp only [Bool.and_eq_true, decide_eq_true_eq]
      omega
    · rintro ⟨_, h⟩
      unfold inB at h
      simp only [Bool.and_eq_true, decide_eq_true_eq] at h
      omega
  by_cases hb : 0 < b1
  · have ha := both_pos hq1 hb
    have e1 := (key1 x1 y1 (by omega) (by omega)).2 (by omega)
    have e2 := (key1 (x1 + a1 - 1) (y1 + b1 - 1) (by omega) (by omega)).2 (by omega)
    exact ⟨x1, y1, a1, b1, ((x1 : Int) - (x - r.x)).toNat, ((y1 : Int) - (y - r.y)).toNat, hq1, hx1, hy1, fun X Y hX hY => (key X Y hX hY).trans (key1 X Y hX hY), fun _ => by omega⟩
  · exact ⟨x1, y1, a1, b1, 0, 0, hq1, hx1, hy1, fun X Y hX hY => (key X Y hX hY).trans (key1 X Y hX hY), fun h => absurd h hb⟩

theorem idx_span {w x a X y Y : Nat} (hX : X < w) (hx : x + a ≤ w) : (y * w + x ≤ Y * w + X ∧ Y * w + X < y * w + x + a) ↔ (Y = y ∧ x ≤ X ∧ X < x + a) := by
  rcases Nat.lt_trichotomy Y y with h | h | h
  · have := Nat.mul_le_mul_right w (show Y + 1 ≤ y by omega)
    rw [Nat.succ_mul] at this
    omega
  · subst h
    omega
  · have := Nat.mul_le_mul_right w (show y + 1 ≤ Y by omega)
    rw [Nat.succ_mul] at this
    omega

/-- Rows have come: so many of them, from the first one on, or from the last one. -/
def Blitted (gw ow oh x1 y1 a1 b1 u1 v1 : Nat) (down : Bool) (F f g : Nat → Cl) (k : Nat) : Prop := ∀ X Y : Nat, X < ow → Y < oh →
  g (Y * ow + X) = if (x1 ≤ X ∧ X < x1 + a1 ∧ ((down = true ∧ y1 + b1 - k ≤ Y ∧ Y < y1 + b1) ∨ (down = false ∧ y1 ≤ Y ∧ Y < y1 + k))) then F ((Y - y1 + v1) * gw + (X - x1 + u1)) else f (Y * ow + X)

theorem Blitted.none (gw ow oh x1 y1 a1 b1 u1 v1 : Nat) (down : Bool) (F f : Nat → Cl) : Blitted gw ow oh x1 y1 a1 b1 u1 v1 down F f f 0 := fun X Y _ _ => by
  rw [if_neg (by omega)]

/-- The row that comes next. -/
def nextRow (y1 b1 : Nat) (down : Bool) (k : Nat) : Nat := if down = true then y1 + b1 - 1 - k else y1 + k

theorem Blitted.next {gw ow oh x1 y1 a1 b1 u1 v1 : Nat} {down : Bool} {F f g : Nat → Cl} {k : Nat} (h : Blitted gw ow oh x1 y1 a1 b1 u1 v1 down F f g k) (hk : k < b1) (hx : x1 + a1 ≤ ow) (hu : u1 + a1 ≤ gw) {y s : Nat} (hy : y = nextRow y1 b1 down k) (hs : s = y - y1 + v1) {S : Nat → Cl}
    (hS : ∀ U, U < gw → S (s * gw + U) = F (s * gw + U)) : Blitted gw ow oh x1 y1 a1 b1 u1 v1 down F f (fun i => if y * ow + x1 ≤ i ∧ i < y * ow + x1 + a1 then S (s * gw + u1 + (i - (y * ow + x1))) else g i) (k + 1) := fun X Y hX hY => by
  subst hs
  have e := idx_span (y := y) (Y := Y) hX hx
  simp only
  rw [h X Y hX hY]
  by_cases h1 : y * ow + x1 ≤ Y * ow + X ∧ Y * ow + X < y * ow + x1 + a1
  · obtain ⟨rfl, h2, h3⟩ := e.1 h1
    rw [if_pos h1, show (Y - y1 + v1) * gw + u1 + (Y * ow + X - (Y * ow + x1)) = (Y - y1 + v1) * gw + (X - x1 + u1) by omega, hS _ (by omega), if_pos]
    unfold nextRow at hy
    cases down <;> simp at hy ⊢ <;> omega
  · rw [if_neg h1]
    have h2 := mt e.2 h1
    unfold nextRow at hy
    by_cases h3 : (x1 ≤ X ∧ X < x1 + a1 ∧ ((down = true ∧ y1 + b1 - k ≤ Y ∧ Y < y1 + b1) ∨ (down = false ∧ y1 ≤ Y ∧ Y < y1 + k)))
    · rw [if_pos h3, if_pos]
      cases down <;> simp at hy h3 ⊢ <;> omega
    · rw [if_neg h3, if_neg]
      cases down <;> simp at hy h3 ⊢ <;> omega

/-- Cells have come. -/
def Blits (gw gh ow oh : Nat) (r : R) (x y : Int) (F f g : Nat → Cl) : Prop := ∀ X Y : Nat, X < ow → Y < oh → g (Y * ow + X) = if comesB gw gh r x y X Y = true then atF gw gh F (X - x + r.x) (Y - y + r.y) else f (Y * ow + X)

theorem Blitted.all {gw gh ow oh x1 y1 a1 b1 u1 v1 : Nat} {down : Bool} {F f g : Nat → Cl} {r : R} {x y : Int} (h : Blitted gw ow oh x1 y1 a1 b1 u1 v1 down F f g b1)
    (hm : ∀ X Y : Nat, X < ow → Y < oh → (comesB gw gh r x y X Y = true ↔ (x1 ≤ X ∧ X < x1 + a1 ∧ y1 ≤ Y ∧ Y < y1 + b1)))
    (hu : 0 < b1 → (u1 : Int) = x1 - (x - r.x) ∧ (v1 : Int) = y1 - (y - r.y) ∧ u1 + a1 ≤ gw ∧ v1 + b1 ≤ gh ∧ 0 < a1) : Blits gw gh ow oh r x y F f g := fun X Y hX hY => by
  rw [h X Y hX hY]
  by_cases hc : comesB gw gh r x y X Y = true
  · have h1 := (hm X Y hX hY).1 hc
    obtain ⟨e1, e2, e3, e4, _⟩ := hu (by omega)
    rw [if_pos hc, if_pos (by cases down <;> simp <;> omega)]
    rw [show (X : Int) - x + r.x = ((X - x1 + u1 : Nat) : Int) by omega, show (Y : Int) - y + r.y = ((Y - y1 + v1 : Nat) : Int) by omega, atF_nat F (by omega) (by omega)]
  · have h1 := mt (hm X Y hX hY).2 hc
    rw [if_neg hc, if_neg (by cases down <;> simp <;> omega)]

theorem Blits.wrong {gw gh ow oh : Nat} {r : R} {x y : Int} (F f : Nat → Cl) (h : (rightB r && rightB ⟨x, y, 0, 0⟩) = false) : Blits gw gh ow oh r x y F f f ∧ cntAll (comesB gw gh r x y) ow oh = 0 := by
  have hc : ∀ X Y, comesB gw gh r x y X Y = false := fun X Y => by unfold comesB; rw [h]; rfl
  exact ⟨fun X Y _ _ => by rw [hc X Y]; simp, cntAll_none (fun X Y _ _ => hc X Y)⟩

end Go.Proofs.Yticccknocjnkpaa
