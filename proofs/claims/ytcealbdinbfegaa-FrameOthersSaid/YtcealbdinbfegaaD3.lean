/-
  What a rectangle and a whole grid have in common. No conditions.
-/
import Derived.Test.YtcealbdinbfegaaD2
namespace Go.Proofs.Ytcealbdinbfegaa
open Go.RowKit

theorem right_of {x y a b : Int} (h : -1073741824 ≤ x ∧ x ≤ 1073741824 ∧ -1073741824 ≤ y ∧ y ≤ 1073741824 ∧ 0 ≤ a ∧ a ≤ 1073741824 ∧ 0 ≤ b ∧ b ≤ 1073741824) : rightB ⟨x, y, a, b⟩ = true := by
  unfold rightB nearB
  simp
  omega

/-- What is in both, of a rectangle and a whole grid: its numbers, and its cells. -/
theorem both_whole (r : R) (w h : Nat) (w2 : w ≤ 512) (h2 : h ≤ 512) : ∃ x0 y0 a0 b0 : Nat, bothR r ⟨0, 0, w, h⟩ = ⟨x0, y0, a0, b0⟩ ∧ x0 + a0 ≤ w ∧ y0 + b0 ≤ h ∧
    ∀ X Y : Nat, X < w → Y < h → ((rightB r = true ∧ inB r X Y = true) ↔ (x0 ≤ X ∧ X < x0 + a0 ∧ y0 ≤ Y ∧ Y < y0 + b0)) := by
  have hw : rightB ⟨0, 0, w, h⟩ = true := right_of (by omega)
  unfold bothR
  rw [hw, Bool.and_true]
  by_cases hr : rightB r = true
  · rw [if_pos hr]
    obtain ⟨⟨p1, p2⟩, ⟨p3, p4⟩, ⟨p5, p6⟩, p7, p8⟩ := right_bd hr
    obtain ⟨x, y, a, b⟩ := r
    simp only at p1 p2 p3 p4 p5 p6 p7 p8
    unfold orNoneR
    by_cases he : emptyB (interR ⟨x, y, a, b⟩ ⟨0, 0, w, h⟩) = true
    · rw [if_pos he]
      refine ⟨0, 0, 0, 0, rfl, by omega, by omega, fun X Y hX hY => ?_⟩
      unfold emptyB interR at he
      unfold inB
      simp at he ⊢
      omega
    · rw [if_neg he]
      unfold emptyB interR at he
      simp at he
      obtain ⟨x0, hx0⟩ : ∃ n : Nat, (n : Int) = max x 0 := ⟨(max x 0).toNat, by omega⟩
      obtain ⟨y0, hy0⟩ : ∃ n : Nat, (n : Int) = max y 0 := ⟨(max y 0).toNat, by omega⟩
      obtain ⟨a0, ha0⟩ : ∃ n : Nat, (n : Int) = min (x + a) w - max x 0 := ⟨(min (x + a) w - max x 0).toNat, by omega⟩
      obtain ⟨b0, hb0⟩ : ∃ n : Nat, (n : Int) = min (y + b) h - max y 0 := ⟨(min (y + b) h - max y 0).toNat, by omega⟩
      refine ⟨x0, y0, a0, b0, ?_, by omega, by omega, fun X Y hX hY => ?_⟩
      · show (⟨max x 0, max y 0, min (x + a) (0 + w) - max x 0, min (y + b) (0 + h) - max y 0⟩ : R) = _
        simp only [R.mk.injEq]
        refine ⟨?_, ?_, ?_, ?_⟩ <;> omega
      · unfold inB
        simp only [Bool.and_eq_true, decide_eq_true_eq, hr, true_and]
        omega
  · rw [if_neg hr]
    refine ⟨0, 0, 0, 0, rfl, by omega, by omega, fun X Y hX hY => ?_⟩
    simp [hr]

theorem area_nat (x y a b : Nat) (h : x + a ≤ 512 ∧ y + b ≤ 512) : areaI ⟨x, y, a, b⟩ = ((a * b : Nat) : Int) := by
  unfold areaI
  rw [if_pos (right_of (by omega))]
  simp

/-- A rectangle's cells have turned: so many rows are done, and so many cells of the next one. -/
def Filled (w h : Nat) (x0 y0 a0 : Nat) (c : Cl) (f g : Nat → Cl) (k j : Nat) : Prop := ∀ X Y : Nat, X < w → Y < h →
  g (Y * w + X) = if (x0 ≤ X ∧ X < x0 + a0 ∧ y0 ≤ Y ∧ (Y < y0 + k ∨ (Y = y0 + k ∧ X < x0 + j))) then c else f (Y * w + X)

theorem Filled.none (w h x0 y0 a0 : Nat) (c : Cl) (f : Nat → Cl) : Filled w h x0 y0 a0 c f f 0 0 := fun X Y _ _ => by
  rw [if_neg (by omega)]

theorem Filled.one {w h x0 y0 a0 k j : Nat} {c : Cl} {f g : Nat → Cl} (hf : Filled w h x0 y0 a0 c f g k j) (hx : x0 + a0 ≤ w) (hj : j < a0) : Filled w h x0 y0 a0 c f (fun i => if i = (y0 + k) * w + (x0 + j) then c else g i) k (j + 1) := fun X Y hX hY => by
  have e := idx_iff (w := w) (x := X) (y := Y) (x' := x0 + j) (y' := y0 + k) hX (by omega)
  simp only
  rw [hf X Y hX hY]
  by_cases h1 : X = x0 + j ∧ Y = y0 + k
  · rw [if_pos (e.2 h1), if_pos (by omega)]
  · rw [if_neg (fun h => h1 (e.1 h))]
    by_cases h2 : (x0 ≤ X ∧ X < x0 + a0 ∧ y0 ≤ Y ∧ (Y < y0 + k ∨ (Y = y0 + k ∧ X < x0 + j)))
    · rw [if_pos h2, if_pos (by omega)]
    · rw [if_neg h2, if_neg (by omega)]

theorem Filled.next {w h x0 y0 a0 k j : Nat} {c : Cl} {f g : Nat → Cl} (hf : Filled w h x0 y0 a0 c f g k j) (hj : a0 ≤ j) : Filled w h x0 y0 a0 c f g (k + 1) 0 := fun X Y hX hY => by
  rw [hf X Y hX hY]
  by_cases h2 : (x0 ≤ X ∧ X < x0 + a0 ∧ y0 ≤ Y ∧ (Y < y0 + k ∨ (Y = y0 + k ∧ X < x0 + j)))
  · rw [if_pos h2, if_pos (by omega)]
  · rw [if_neg h2, if_neg (by omega)]

/-- All cells of a rectangle have turned. -/
def Fills (w h : Nat) (r : R) (c : Cl) (f g : Nat → Cl) : Prop := ∀ X Y : Nat, X < w → Y < h → g (Y * w + X) = if rightB r = true ∧ inB r X Y = true then c else f (Y * w + X)

theorem Filled.all {w h x0 y0 a0 b0 : Nat} {c : Cl} {f g : Nat → Cl} {r : R} (hf : Filled w h x0 y0 a0 c f g b0 0) (hr : ∀ X Y : Nat, X < w → Y < h → ((rightB r = true ∧ inB r X Y = true) ↔ (x0 ≤ X ∧ X < x0 + a0 ∧ y0 ≤ Y ∧ Y < y0 + b0))) : Fills w h r c f g := fun X Y hX hY => by
  rw [hf X Y hX hY]
  by_cases h2 : rightB r = true ∧ inB r X Y = true
  · have := (hr X Y hX hY).1 h2
    rw [if_pos h2, if_pos (by omega)]
  · have := mt (hr X Y hX hY).2 h2
    rw [if_neg h2, if_neg (by omega)]

end Go.Proofs.Ytcealbdinbfegaa
