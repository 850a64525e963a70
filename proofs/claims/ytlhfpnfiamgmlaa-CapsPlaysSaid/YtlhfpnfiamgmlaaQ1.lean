/-
  Who goes, plain. No conditions.
-/
import Derived.Test.YtlhfpnfiamgmlaaQ0
namespace Go.Proofs.Ytlhfpnfiamgmlaa
open Go.RowKit

/-- Who goes: marks that are those who stand below. -/
theorem marks (n : Nat) (f : Nat → Sl) (m0 : Nat → Bool) : ∃ M : Nat → Bool, ∀ i, M i = true ↔ Bel n f m0 i :=
  ⟨fun i => @decide (Bel n f m0 i) (Classical.propDecidable _), fun i => by simp⟩

theorem bel_used {n : Nat} {f : Nat → Sl} {m0 : Nat → Bool} (hm : ∀ i, m0 i = true → 0 ≤ (f i).env) {i : Nat} (h : Bel n f m0 i) : 0 ≤ (f i).env := by
  cases h with
  | base h => exact hm i h
  | step _ h _ _ => exact h

/-- One goes on to whom it was made of. -/
theorem bel_up {n : Nat} {f : Nat → Sl} {m0 : Nat → Bool} (hok : Okf n f) {i j : Nat} (hi : i < n) (h0 : m0 i = false) (hj : (f i).of = (j : Nat)) : Bel n f m0 i ↔ Bel n f m0 j := by
  constructor
  · intro h
    cases h with
    | base h => rw [h0] at h; cases h
    | step _ _ h3 h4 =>
      have : j = _ := Int.ofNat.inj (hj.symm.trans h3)
      subst this
      exact h4
  · intro h
    have hu : 0 ≤ (f i).env := by
      rcases hok.1 i hi with e | e
      · omega
      · exact e.1
    exact .step hi hu hj h

theorem bel_end {n : Nat} {f : Nat → Sl} {m0 : Nat → Bool} {i : Nat} (h0 : m0 i = false) (hj : (f i).of < 0) : ¬ Bel n f m0 i := by
  intro h
  cases h with
  | base h => rw [h0] at h; cases h
  | step _ _ h3 _ => omega

/-- A slot that is let go. -/
def goneS (s : Sl) : Sl := ⟨s.gen + 1, -1, 0, 0, 0, -1⟩

/-- What comes of letting go. -/
def EOut (T B n : Nat) (q : Int) (f : Nat → Sl) (m0 : Nat → Bool) (w : World) (E : Ending) (w' : World) : Prop := ∃ M : Nat → Bool, (∀ i, M i = true ↔ Bel n f m0 i) ∧ E = .returned (.int .i64 (cnt (goneB M f) n : Nat)) ∧ Stay (fun j => j = B) w w' ∧ TAt w' T B n q (goneF M f)

/-- The chain from a slot: where it stands. -/
def Chain (n B : Nat) (f : Nat → Sl) (m0 : Nat → Bool) (rk : Nat → Nat) (k gg : Nat) (v : Value) : Prop :=
  (v = .pointer none ∧ ¬ Bel n f m0 k ∧ gg = 0) ∨ ∃ j, v = .pointer (some ⟨B, j * 6, none⟩) ∧ j < n ∧ gg = rk j + 1 ∧ (Bel n f m0 k ↔ Bel n f m0 j)

theorem take_snoc {L : List Nat} {t i : Nat} (h : L[t]? = some i) : L.take (t + 1) = L.take t ++ [i] := by
  obtain ⟨hl, rfl⟩ := List.getElem?_eq_some_iff.1 h
  exact (List.take_append_getElem hl).symm

end Go.Proofs.Ytlhfpnfiamgmlaa
