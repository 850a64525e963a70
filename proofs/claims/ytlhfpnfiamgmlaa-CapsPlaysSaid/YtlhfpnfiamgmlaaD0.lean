/-
  Who stands below: the least marks that are closed. No conditions.
-/
import Derived.Test.YtlhfpnfiamgmlaaC3
namespace Go.Proofs.Ytlhfpnfiamgmlaa
open Go.RowKit

/-- Who is marked, or stands below one who is. -/
inductive Bel (n : Nat) (f : Nat → Sl) (m : Nat → Bool) : Nat → Prop
  | base {i : Nat} : m i = true → Bel n f m i
  | step {i j : Nat} : i < n → 0 ≤ (f i).env → (f i).of = (j : Nat) → Bel n f m j → Bel n f m i

/-- Who stands below a marked one is marked. -/
def closedAt (f : Nat → Sl) (m : Nat → Bool) (i : Nat) : Prop := 0 ≤ (f i).env → ∀ j : Nat, (f i).of = (j : Nat) → m j = true → m i = true

theorem bel_closed {n : Nat} {f : Nat → Sl} {m0 m : Nat → Bool} (h0 : ∀ i, m0 i = true → m i = true) (hc : ∀ i, i < n → closedAt f m i) : ∀ i, Bel n f m0 i → m i = true := by
  intro i hi
  induction hi with
  | base h => exact h0 _ h
  | step h1 h2 h3 _ ih => exact hc _ h1 h2 _ h3 ih

/-- Slots without those that are marked. -/
def goneF (M : Nat → Bool) (f : Nat → Sl) : Nat → Sl := fun i => if M i = true ∧ 0 ≤ (f i).env then ⟨(f i).gen + 1, -1, 0, 0, 0, -1⟩ else f i

/-- Who goes. -/
def goneB (M : Nat → Bool) (f : Nat → Sl) (i : Nat) : Bool := M i && decide (0 ≤ (f i).env)

/-- Slots whose numbers are right: who stands below one is below one that is there. -/
def WF (n : Nat) (f : Nat → Sl) : Prop := ∀ i, i < n → 0 ≤ (f i).gen ∧ (f i).gen ≤ 4611686018427387904 ∧ (f i).of < (n : Nat)

theorem cnt_succ (p : Nat → Bool) (n : Nat) : cnt p (n + 1) = cnt p n + if p n = true then 1 else 0 := rfl

/-- At the head of a round: marks, and whether another round comes. -/
structure WO (w : World) (gb tb n : Nat) (f : Nat → Sl) (m0 m : Nat → Bool) (ag : Bool) (wr : World) : Prop where
  stay : Stay (fun j => j = gb) w wr
  rd : Rd wr tb n f
  row : wr.rowIs gb 4 n (fun i => .bool (m i))
  up : ∀ i, m0 i = true → m i = true
  bel : ∀ i, m i = true → Bel n f m0 i
  cl : ag = false → ∀ i, i < n → closedAt f m i

/-- Within a round. -/
structure WI (w : World) (gb tb n : Nat) (f : Nat → Sl) (m0 m m' : Nat → Bool) (ag : Bool) (k : Nat) (wr : World) : Prop where
  stay : Stay (fun j => j = gb) w wr
  rd : Rd wr tb n f
  row : wr.rowIs gb 4 n (fun i => .bool (m' i))
  up : ∀ i, m0 i = true → m' i = true
  bel : ∀ i, m' i = true → Bel n f m0 i
  more : ag = true → cnt (fun i => !m' i) n < cnt (fun i => !m i) n
  same : ag = false → m' = m ∧ ∀ i, i < k → closedAt f m i

variable {w wr w1 : World} {gb tb n k : Nat} {f : Nat → Sl} {m0 m m' : Nat → Bool} {ag : Bool}

theorem WI.begin (h : WO w gb tb n f m0 m ag wr) : WI w gb tb n f m0 m m false 0 wr :=
  ⟨h.stay, h.rd, h.row, h.up, h.bel, (fun h => by cases h), fun _ => ⟨rfl, fun i hi => absurd hi (Nat.not_lt_zero _)⟩⟩

theorem WI.ends (h : WI w gb tb n f m0 m m' ag n wr) : WO w gb tb n f m0 m' ag wr :=
  ⟨h.stay, h.rd, h.row, h.up, h.bel, fun e => by obtain ⟨e1, e2⟩ := h.same e; rw [e1]; exact e2⟩

/-- A slot is passed by. -/
theorem WI.skip (h : WI w gb tb n f m0 m m' ag k wr) (hc : closedAt f m' k) : WI w gb tb n f m0 m m' ag (k + 1) wr :=
  ⟨h.stay, h.rd, h.row, h.up, h.bel, h.more, fun e => by
    obtain ⟨e1, e2⟩ := h.same e
    refine ⟨e1, fun i hi => ?_⟩
    by_cases hik : i = k
    · subst hik; rw [← e1]; exact hc
    · exact e2 i (by omega)⟩

/-- A slot is marked. -/
theorem WI.mark (h : WI w gb tb n f m0 m m' ag k wr) (hk : k < n) (h0 : m' k = false) (hb : Bel n f m0 k) (hn : gb ≠ tb) (hm : ∀ i, m i = true → m' i = true) : WI w gb tb n f m0 m (fun i => if i = k then true else m' i) true (k + 1) (wr.setCell ⟨gb, k, none⟩ (.bool true)) := by
  have hst : Stay (fun j => j = gb) wr (wr.setCell ⟨gb, k, none⟩ (.bool true)) := (Stay.refl (fun j => j = gb) wr).setCell (p := ⟨gb, k, none⟩) rfl _
  refine ⟨h.stay.trans hst, h.rd.stay hst (fun e => hn e.symm), (h.row.set k (.bool true)).congr (fun i _ => by split <;> rfl), fun i hi => ?_, fun i hi => ?_, fun _ => ?_, fun e => by cases e⟩
  · show (if i = k then true else m' i) = true
    split
    · rfl
    · exact h.up i hi
  · by_cases hik : i = k
    · subst hik; exact hb
    · have hi' : (if i = k then true else m' i) = true := hi
      rw [if_neg hik] at hi'
      exact h.bel i hi'
  · have h1 : cnt (fun i => !(if i = k then true else m' i)) n < cnt (fun i => !m' i) n := cnt_lt (k := k) (fun i _ hi => by
      by_cases hik : i = k
      · subst hik; simp at hi
      · simpa [hik] using hi) hk (by simp) (by simp [h0])
    have h2 : cnt (fun i => !m' i) n ≤ cnt (fun i => !m i) n := cnt_mono (fun i _ hi => by
      cases hmi : m i with
      | false => rfl
      | true => rw [hm i hmi] at hi; exact hi)
    omega

end Go.Proofs.Ytlhfpnfiamgmlaa
