/-
  Rights never grow: plain. No conditions.
-/
import Derived.Test.YtlhfpnfiamgmlaaR2
namespace Go.Proofs.Ytlhfpnfiamgmlaa
open Go.RowKit

/-- A table of which each slot was made of the one ahead of it, with those rights. -/
def fR (R : List Int) : Nat → Sl := fun j => if j < R.length then ⟨1, (j : Nat), 2, 3, R.getD j 0, (j : Nat) - 1⟩ else Sl.fresh

theorem fR_lo {R : List Int} {j : Nat} (h : j < R.length) : fR R j = ⟨1, (j : Nat), 2, 3, R.getD j 0, (j : Nat) - 1⟩ := if_pos h
theorem fR_hi {R : List Int} {j : Nat} (h : ¬ j < R.length) : fR R j = Sl.fresh := if_neg h

theorem fR_nil : fR [] = fun _ => Sl.fresh := by
  funext j
  exact fR_hi (by simp)

theorem fR_free {R : List Int} (hl : R.length ≤ 20) : freeIx (fR R) 20 = R.length := by
  obtain ⟨h1, h2, h3⟩ := freeIx_spec (fR R) 20
  have a : R.length ≤ freeIx (fR R) 20 := by
    by_cases e : freeIx (fR R) 20 < 20
    · have hf := h3 e
      by_cases g : freeIx (fR R) 20 < R.length
      · rw [fR_lo g] at hf
        have hf' : ((freeIx (fR R) 20 : Nat) : Int) < 0 := hf
        omega
      · omega
    · omega
  have b : ¬ R.length < freeIx (fR R) 20 := fun e => by
    have := h2 _ e
    rw [fR_hi (Nat.lt_irrefl _)] at this
    have t : (0 : Int) ≤ -1 := this
    omega
  omega

theorem fR_cnt {R : List Int} (k : Nat) (hk : R.length ≤ k) : cnt (isOf (fR R) (k : Nat)) 20 = 0 := by
  have h : cnt (isOf (fR R) (k : Nat)) 20 = cnt (fun _ => false) 20 := cnt_congr (fun j _ => by
    unfold isOf
    by_cases g : j < R.length
    · rw [fR_lo g]
      show (decide ((0 : Int) ≤ (k : Nat)) && (((j : Nat) : Int) == (k : Nat))) = false
      rw [beq_eq_false_iff_ne.2 (show ((j : Nat) : Int) ≠ (k : Nat) by omega), Bool.and_false]
    · rw [fR_hi g]
      show (decide ((0 : Int) ≤ (k : Nat)) && ((-1 : Int) == (k : Nat))) = false
      rw [beq_eq_false_iff_ne.2 (show (-1 : Int) ≠ (k : Nat) by omega), Bool.and_false])
  rw [h]
  rfl

theorem fR_put (R : List Int) (r : Int) : putF (fR R) R.length ⟨1, (R.length : Nat), 2, 3, r, (R.length : Nat) - 1⟩ = fR (R ++ [r]) := by
  funext j
  unfold putF
  by_cases h : j = R.length
  · subst h
    rw [if_pos rfl, fR_lo (by simp)]
    simp
  · rw [if_neg h]
    by_cases g : j < R.length
    · rw [fR_lo g, fR_lo (by simp; omega)]
      have e : (R ++ [r]).getD j 0 = R.getD j 0 := by rw [List.getD_eq_getElem?_getD, List.getD_eq_getElem?_getD, List.getElem?_append_left g]
      rw [e]
    · rw [fR_hi g, fR_hi (by simp; omega)]

theorem mint_R (first : Int) : mintS 20 20 (fun _ => Sl.fresh) 0 2 3 first = if 1 ≤ first ∧ first ≤ 7 then (fR [first], 0, 1, 0) else ((fun _ => Sl.fresh), 0, 0, 1) := by
  unfold mintS
  by_cases h : 1 ≤ first ∧ first ≤ 7
  · rw [if_neg (by unfold badArgs; omega), if_pos h]
    unfold addS
    have hc := fR_cnt (R := []) 0 (Nat.le_refl _)
    rw [fR_nil] at hc
    have hf := fR_free (R := []) (by decide)
    rw [fR_nil] at hf
    show (if (20 : Int) ≤ (cnt (isOf (fun _ => Sl.fresh) ((0 : Nat) : Int)) 20 : Nat) then _ else _) = _
    rw [hc, if_neg (by decide), hf, if_pos (by decide)]
    have hp := fR_put [] first
    rw [fR_nil] at hp
    show (putF (fun _ => Sl.fresh) 0 ⟨1, 0, 2, 3, first, -1⟩, _, _, _) = _
    have hp' : putF (fun _ => Sl.fresh) 0 ⟨1, 0, 2, 3, first, -1⟩ = fR [first] := hp
    rw [hp']
    rfl
  · rw [if_pos (by unfold badArgs; omega), if_neg h]

/-- Rights that are right. -/
structure RI (R : List Int) (i : Nat) : Prop where
  len : R.length = i + 1
  le : i ≤ 10
  ok : ∀ j, j < R.length → 1 ≤ R.getD j 0 ∧ R.getD j 0 ≤ 7

theorem own_R {R : List Int} {i : Nat} (h : RI R i) (j : Nat) (hj : j ≤ i) (x : Int) : ownE 20 (fR R) (j : Nat) (j : Nat) 1 x = if hasB (R.getD j 0) x = true then 0 else 8 := by
  have hlt : j < R.length := by have := h.len; omega
  have hle := h.le
  unfold ownE
  rw [Int.toNat_natCast, fR_lo hlt]
  rw [if_pos ⟨by omega, by omega, by show (0 : Int) ≤ (j : Nat); omega, rfl⟩]
  by_cases c : hasB (R.getD j 0) x = true
  · rw [if_pos c]; exact if_pos ⟨rfl, c⟩
  · rw [if_neg c]; exact if_neg (fun y => c y.2)

/-- What a share does: nothing, and something is wrong; or one more, with no more rights. -/
theorem share_R {R : List Int} {i : Nat} (h : RI R i) (hi : i < 10) (r : Int) :
    (∃ e, e ≠ 0 ∧ shareS 20 20 (fR R) (i : Nat) (i : Nat) 1 ((i : Nat) + 1) r = (fR R, 0, 0, e)) ∨ (shareS 20 20 (fR R) (i : Nat) (i : Nat) 1 ((i : Nat) + 1) r = (fR (R ++ [r]), ((i : Nat) : Int) + 1, 1, 0) ∧ RI (R ++ [r]) (i + 1) ∧ bits .and .i64 (R.getD i 0) r = r) := by
  have hlen := h.len
  have hlt : i < R.length := by omega
  have ho := own_R h i (Nat.le_refl _) 2
  unfold shareS
  rw [ho]
  by_cases c2 : hasB (R.getD i 0) 2 = true
  · rw [if_pos c2, if_pos rfl]
    by_cases cr : (((i : Nat) : Int) + 1 < 0 ∨ r < 1 ∨ 7 < r)
    · rw [if_pos cr]
      exact .inl ⟨1, by decide, rfl⟩
    · rw [if_neg cr, Int.toNat_natCast, fR_lo hlt]
      by_cases cb : hasB (R.getD i 0) r = true
      · refine .inr ⟨?_, ⟨?_, by omega, ?_⟩, eq_of_beq cb⟩
        · show (if hasB (R.getD i 0) r = true then _ else _) = _
          rw [if_pos cb]
          unfold addS
          show (if (20 : Int) ≤ (cnt (isOf (fR R) (((i : Nat) : Int) + 1)) 20 : Nat) then _ else _) = _
          have e1 : ((i : Nat) : Int) + 1 = ((i + 1 : Nat) : Int) := by omega
          rw [e1, fR_cnt (i + 1) (by omega), if_neg (by decide), fR_free (by omega), if_pos (by omega), fR_hi (Nat.lt_irrefl _)]
          have hp := fR_put R r
          have e2 : ((R.length : Nat) : Int) - 1 = (i : Nat) := by omega
          have e3 : ((R.length : Nat) : Int) = ((i + 1 : Nat) : Int) := by omega
          rw [e2, e3] at hp
          show (putF (fR R) R.length ⟨1, ((i + 1 : Nat) : Int), 2, 3, r, (i : Nat)⟩, ((R.length : Nat) : Int), (1 : Int), (0 : Int)) = _
          rw [hp, e3]
        · rw [List.length_append, hlen]; rfl
        · intro j hj
          rw [List.length_append] at hj
          have hj' : j < R.length + 1 := hj
          by_cases g : j < R.length
          · have e : (R ++ [r]).getD j 0 = R.getD j 0 := by rw [List.getD_eq_getElem?_getD, List.getD_eq_getElem?_getD, List.getElem?_append_left g]
            rw [e]
            exact h.ok j g
          · have : j = R.length := by omega
            subst this
            simp
            omega
      · refine .inl ⟨8, by decide, ?_⟩
        show (if hasB (R.getD i 0) r = true then _ else _) = _
        rw [if_neg cb]
  · rw [if_neg c2, if_neg (by decide)]
    exact .inl ⟨8, by decide, rfl⟩

/-- What a check says of the last one. -/
theorem check_R {R : List Int} {i : Nat} (h : RI R i) (x : Int) : checkR 20 (fR R) (i : Nat) (i : Nat) 1 2 x = if x = bits .and .i64 x (R.getD i 0) then (3, 0) else (0, 8) := by
  have hlt : i < R.length := by have := h.len; omega
  have ho := own_R h i (Nat.le_refl _) 0
  rw [has0, if_pos rfl] at ho
  unfold checkR
  rw [ho, if_pos rfl, Int.toNat_natCast, fR_lo hlt]
  exact if_pos rfl

theorem revoke_R {R : List Int} {i : Nat} {M : Nat → Bool} (h : RI R i) (hM : ∀ j, M j = true ↔ Bel 20 (fR R) (madeOf (fR R) 0) j) :
    cnt (goneB M (fR R)) 20 = i ∧ goneF M (fR R) 0 = fR R 0 ∧ ∀ j, 1 ≤ j → j < R.length → goneF M (fR R) j = ⟨2, -1, 0, 0, 0, -1⟩ := by
  have hlen := h.len
  have hle := h.le
  have hup : ∀ j, j + 1 < R.length → Bel 20 (fR R) (madeOf (fR R) 0) (j + 1) := by
    intro j
    induction j with
    | zero =>
      intro hj
      refine .base ?_
      unfold madeOf
      rw [fR_lo hj]
      rfl
    | succ j ih =>
      intro hj
      refine .step (j := j + 1) (by omega) (by rw [fR_lo hj]; show (0 : Int) ≤ ((j + 1 + 1 : Nat) : Int); omega) (by rw [fR_lo hj]; show ((j + 1 + 1 : Nat) : Int) - 1 = ((j + 1 : Nat) : Int); omega) (ih (by omega))
  have m0 : M 0 = false := by
    cases hc : M 0 with
    | false => rfl
    | true =>
      have hb := (hM 0).1 hc
      have h0 : fR R 0 = ⟨1, ((0 : Nat) : Int), 2, 3, R.getD 0 0, ((0 : Nat) : Int) - 1⟩ := fR_lo (by omega)
      cases hb with
      | base hb =>
        unfold madeOf at hb
        rw [h0] at hb
        have hb' : (decide ((0 : Int) ≤ ((0 : Nat) : Int)) && ((((0 : Nat) : Int) - 1) == 0)) = true := hb
        exact absurd hb' (by decide)
      | step _ _ h3 _ =>
        rw [h0] at h3
        have h3' : ((0 : Nat) : Int) - 1 = _ := h3
        omega
  have mj : ∀ j, 1 ≤ j → j < R.length → M j = true := fun j h1 h2 => by
    obtain ⟨l, rfl⟩ : ∃ l, j = l + 1 := ⟨j - 1, by omega⟩
    exact (hM _).2 (hup l h2)
  refine ⟨?_, ?_, fun j h1 h2 => ?_⟩
  · have all : ∀ n, cnt (goneB M (fR R)) n = min n R.length - min n 1 := by
      intro n
      induction n with
      | zero => simp [cnt]
      | succ n ih =>
        rw [cnt_succ, ih]
        by_cases hn : n < R.length
        · by_cases hz : n = 0
          · subst hz
            have hg : goneB M (fR R) 0 = false := by unfold goneB; rw [m0]; rfl
            rw [hg]
            simp
            omega
          · have hg : goneB M (fR R) n = true := by
              unfold goneB
              rw [mj n (by omega) hn, fR_lo hn]
              show (true && decide ((0 : Int) ≤ (n : Nat))) = true
              rw [decide_eq_true (by omega)]
              rfl
            rw [hg]
            simp
            omega
        · have hg : goneB M (fR R) n = false := by
            unfold goneB
            rw [fR_hi hn]
            exact Bool.and_false _
          rw [hg]
          simp
          omega
    rw [all 20]
    omega
  · unfold goneF
    rw [if_neg (fun x => by rw [m0] at x; cases x.1)]
  · unfold goneF
    rw [if_pos ⟨mj j h1 h2, by rw [fR_lo h2]; show (0 : Int) ≤ (j : Nat); omega⟩, fR_lo h2]
    rfl

/-- What is revoked is stale. -/
theorem stale_R {R : List Int} {i : Nat} {M : Nat → Bool} (h : RI R i) (hM : ∀ j, M j = true ↔ Bel 20 (fR R) (madeOf (fR R) 0) j) (k : Nat) (hk : k < i) : checkR 20 (goneF M (fR R)) ((k : Nat) + 1) ((k : Nat) + 1) 1 2 0 = (0, 9) := by
  obtain ⟨_, _, hg⟩ := revoke_R h hM
  have hlen := h.len
  have hgk := hg (k + 1) (by omega) (by omega)
  have h9 : ownE 20 (goneF M (fR R)) (((k : Nat) : Int) + 1) (((k : Nat) : Int) + 1) 1 0 = 9 := by
    unfold ownE
    rw [if_neg (fun x => by
      have := x.2.2.1
      rw [show (((k : Nat) : Int) + 1).toNat = k + 1 by omega, hgk] at this
      have t : (0 : Int) ≤ -1 := this
      omega)]
  unfold checkR
  rw [h9, if_neg (by decide)]

theorem and_self_small : ∀ x : Nat, x < 8 → bits .and .i64 (x : Nat) (x : Nat) = (x : Nat) := by decide +kernel

/-- What revoked stays. -/
theorem root_R {R : List Int} {i : Nat} {M : Nat → Bool} (h : RI R i) (hM : ∀ j, M j = true ↔ Bel 20 (fR R) (madeOf (fR R) 0) j) : checkR 20 (goneF M (fR R)) 0 0 1 2 (R.getD 0 0) = (3, 0) := by
  obtain ⟨_, hg, _⟩ := revoke_R h hM
  have hlen := h.len
  have h0 : fR R 0 = ⟨1, ((0 : Nat) : Int), 2, 3, R.getD 0 0, ((0 : Nat) : Int) - 1⟩ := fR_lo (by omega)
  have ho : ownE 20 (goneF M (fR R)) 0 0 1 0 = 0 := by
    unfold ownE
    rw [show (0 : Int).toNat = 0 from rfl, hg, h0]
    rw [if_pos ⟨by decide, by decide, by show (0 : Int) ≤ ((0 : Nat) : Int); decide, rfl⟩]
    exact if_pos ⟨rfl, has0 _⟩
  obtain ⟨x, hx⟩ := Int.eq_ofNat_of_zero_le (show 0 ≤ R.getD 0 0 by have := (h.ok 0 (by omega)).1; omega)
  have h7 := (h.ok 0 (by omega)).2
  unfold checkR
  rw [ho, if_pos rfl, show (0 : Int).toNat = 0 from rfl, hg, h0]
  show (if (2 : Int) = 2 then (if R.getD 0 0 = bits .and .i64 (R.getD 0 0) (R.getD 0 0) then ((3 : Int), (0 : Int)) else (0, 8)) else (0, 11)) = _
  rw [if_pos rfl, hx, and_self_small x (by omega), if_pos rfl]

/-- The names that are made of the first. -/
def madeR (i : Nat) : List Nm := (List.range i).map (fun j => ⟨(j : Nat) + 1, 1⟩)

theorem madeR_len (m : Nat) : (madeR m).length = m := by unfold madeR; rw [List.length_map, List.length_range]

theorem madeR_get (m k : Nat) (hk : k < m) : (madeR m)[k]? = some ⟨(k : Nat) + 1, 1⟩ := by
  unfold madeR
  rw [List.getElem?_map, List.getElem?_range hk]
  rfl

theorem madeR_succ (m : Nat) : madeR (m + 1) = madeR m ++ [⟨(m : Nat) + 1, 1⟩] := by
  unfold madeR
  rw [List.range_succ, List.map_append]
  rfl

end Go.Proofs.Ytlhfpnfiamgmlaa
