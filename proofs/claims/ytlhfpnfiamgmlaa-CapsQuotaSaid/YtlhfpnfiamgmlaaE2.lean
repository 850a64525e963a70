/-
  Slots' numbers stay right. No conditions.
-/
import Derived.Test.YtlhfpnfiamgmlaaE1
namespace Go.Proofs.Ytlhfpnfiamgmlaa
open Go.RowKit

/-- Generations are no greater than a number, and who stands below one is below one that is there. -/
def GB (n : Nat) (f : Nat → Sl) (K : Int) : Prop := ∀ i, i < n → 0 ≤ (f i).gen ∧ (f i).gen ≤ K ∧ (f i).of < (n : Nat)

theorem GB.wf {n : Nat} {f : Nat → Sl} {K : Int} (h : GB n f K) (hK : K ≤ 4611686018427387904) : WF n f := fun i hi => ⟨(h i hi).1, Int.le_trans (h i hi).2.1 hK, (h i hi).2.2⟩

theorem GB.le {n : Nat} {f : Nat → Sl} {K J : Int} (h : GB n f K) (hK : K ≤ J) : GB n f J := fun i hi => ⟨(h i hi).1, Int.le_trans (h i hi).2.1 hK, (h i hi).2.2⟩

theorem GB.fresh (n : Nat) : GB n (fun _ => Sl.fresh) 1 := fun i _ => ⟨by show (0 : Int) ≤ 1; decide, by show (1 : Int) ≤ 1; decide, by show (-1 : Int) < (n : Nat); omega⟩

theorem GB.add {n : Nat} {q : Int} {f : Nat → Sl} {s : Sl} {K : Int} (h : GB n f K) (hs : s.of < (n : Nat)) : GB n (addS n q f s).1 K := by
  unfold addS
  split
  · exact h
  · split
    · intro i hi
      show 0 ≤ (putF f _ _ i).gen ∧ (putF f _ _ i).gen ≤ K ∧ (putF f _ _ i).of < (n : Nat)
      unfold putF
      split
      · rename_i h1 h2 e
        exact ⟨(h _ h2).1, (h _ h2).2.1, hs⟩
      · exact h i hi
    · exact h

theorem GB.mint {n : Nat} {q : Int} {f : Nat → Sl} {env kind obj rights K : Int} (h : GB n f K) : GB n (mintS n q f env kind obj rights).1 K := by
  unfold mintS
  split
  · exact h
  · exact h.add (by show (-1 : Int) < (n : Nat); omega)

theorem GB.share {n : Nat} {q : Int} {f : Nat → Sl} {env sl gn tw rights K : Int} (h : GB n f K) : GB n (shareS n q f env sl gn tw rights).1 K := by
  unfold shareS
  split
  · rename_i h0
    split
    · exact h
    · split
      · refine h.add ?_
        obtain ⟨k, rfl, hk, _⟩ := ownE_zero h0
        show (k : Int) < (n : Nat)
        omega
      · exact h
  · exact h

theorem GB.gone {n : Nat} {f : Nat → Sl} {M : Nat → Bool} {K : Int} (h : GB n f K) : GB n (goneF M f) (K + 1) := by
  intro i hi
  obtain ⟨h1, h2, h3⟩ := h i hi
  unfold goneF
  split
  · exact ⟨by show 0 ≤ (f i).gen + 1; omega, by show (f i).gen + 1 ≤ K + 1; omega, by show (-1 : Int) < (n : Nat); omega⟩
  · exact ⟨h1, by omega, h3⟩

end Go.Proofs.Ytlhfpnfiamgmlaa
