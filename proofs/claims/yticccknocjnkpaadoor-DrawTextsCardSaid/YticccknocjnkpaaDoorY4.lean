/-
  The document fills: walked. No conditions.
-/
import Derived.Test.YticccknocjnkpaaDoorGA
namespace Go.Proofs.YticccknocjnkpaaDoor
open Go.RowKit

/-- Writes of a row. -/
def rowN (P : Nat → Nat → Bool) (Q : Nat → Nat → Wr) (j : Nat) : Nat → List Wr
  | 0 => []
  | k + 1 => rowN P Q j k ++ if P j k = true then [Q j k] else []

/-- Writes of rows. -/
def allN (P : Nat → Nat → Bool) (Q : Nat → Nat → Wr) (n : Nat) : Nat → List Wr
  | 0 => []
  | j + 1 => allN P Q n j ++ rowN P Q j n

theorem rowN_len (P : Nat → Nat → Bool) (Q : Nat → Nat → Wr) (j : Nat) : ∀ k, (rowN P Q j k).length ≤ k
  | 0 => Nat.le_refl _
  | k + 1 => by
    have := rowN_len P Q j k
    show (_ ++ _ : List Wr).length ≤ k + 1
    rw [List.length_append]
    split <;> simp <;> omega

theorem allN_len (P : Nat → Nat → Bool) (Q : Nat → Nat → Wr) (n : Nat) : ∀ j, (allN P Q n j).length ≤ j * n
  | 0 => by simp [allN]
  | j + 1 => by
    have h1 := allN_len P Q n j
    have h2 := rowN_len P Q j n
    show (_ ++ _ : List Wr).length ≤ (j + 1) * n
    rw [List.length_append, Nat.succ_mul]
    omega

/-- Which cells are filled, and with what. -/
def fillP (L : List Wn) (p : Wn) (r : R) (j k : Nat) : Bool := inB r k j && ownB L p k j
def fillQ (p : Wn) (c : Cl) (j k : Nat) : Wr := Wr.of (p.x + k) (p.y + j) c

/-- What filling writes. -/
def fillA (L : List Wn) (p : Wn) (r : R) (c : Cl) : List Wr := if rightB r = true then allN (fillP L p r) (fillQ p c) p.w.toNat p.h.toNat else []

variable {w0 w1 wr : World} {A bp B br bc a h b0 : Nat} {p : Wn} {f g : Nat → Cl} {r : R} {c : Cl}

theorem boxC_stay {T : Nat → Prop} {w w1 : World} {b : Nat} {r : Cl} (h : BoxC w b r) (hs : Stay T w w1) (hn : ¬ T b) : BoxC w1 b r := by
  obtain ⟨h0, h1, h2, h3, k0, k1, k2, k3⟩ := h
  have hb : b < w.heap.size := World.block_lt_of_cell? _ _ h0
  have c : ∀ o, w1.cell? ⟨b, o, none⟩ = w.cell? ⟨b, o, none⟩ := fun o => hs.cell (p := ⟨b, o, none⟩) hb hn
  have f : ∀ o, w1.frozen? ⟨b, o, none⟩ = w.frozen? ⟨b, o, none⟩ := fun o => hs.frozen (p := ⟨b, o, none⟩) hb hn
  exact ⟨(c 0).trans h0, (c 1).trans h1, (c 2).trans h2, (c 3).trans h3, (f 0).trans k0, (f 1).trans k1, (f 2).trans k2, (f 3).trans k3⟩

end Go.Proofs.YticccknocjnkpaaDoor
