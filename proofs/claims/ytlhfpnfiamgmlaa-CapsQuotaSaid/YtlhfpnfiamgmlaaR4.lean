/-
  Nobody has more than the quota: plain. No conditions.
-/
import Derived.Test.YtlhfpnfiamgmlaaR2
namespace Go.Proofs.Ytlhfpnfiamgmlaa
open Go.RowKit

/-- A table of which the first slots have one each, of those environments. -/
def fQ (W : List Int) (o : Nat → Int) : Nat → Sl := fun j => if j < W.length then ⟨1, W.getD j 0, 3, o j, 7, -1⟩ else Sl.fresh

theorem fQ_lo {W : List Int} {o : Nat → Int} {j : Nat} (h : j < W.length) : fQ W o j = ⟨1, W.getD j 0, 3, o j, 7, -1⟩ := if_pos h
theorem fQ_hi {W : List Int} {o : Nat → Int} {j : Nat} (h : ¬ j < W.length) : fQ W o j = Sl.fresh := if_neg h

theorem fQ_nil (o : Nat → Int) : fQ [] o = fun _ => Sl.fresh := by
  funext j
  exact fQ_hi (by simp)

/-- What holds of those environments. -/
structure QI (W : List Int) (o : Nat → Int) : Prop where
  len : W.length ≤ 12
  env : ∀ j, j < W.length → 0 ≤ W.getD j 0 ∧ W.getD j 0 < 5
  cnt : ∀ k : Int, cnt (isOf (fQ W o) k) 12 ≤ 4

theorem cnt_more {p p' : Nat → Bool} {m : Nat} (hp : p m = false) (hp' : p' m = true) (ho : ∀ j, j ≠ m → p' j = p j) : ∀ n, cnt p' n = cnt p n + if m < n then 1 else 0
  | 0 => rfl
  | n + 1 => by
    rw [cnt_succ, cnt_succ, cnt_more hp hp' ho n]
    by_cases e : n = m
    · subst e
      rw [hp, hp', if_neg (Nat.lt_irrefl n), if_pos (Nat.lt_succ_self n)]
      rfl
    · rw [ho n e]
      have e2 : (if m < n + 1 then 1 else 0 : Nat) = if m < n then 1 else 0 := by
        by_cases h : m < n
        · rw [if_pos h, if_pos (show m < n + 1 by omega)]
        · rw [if_neg h, if_neg (show ¬ m < n + 1 by omega)]
      rw [e2]
      omega

theorem isOf_lo {W : List Int} {o : Nat → Int} {j : Nat} (h : j < W.length) (k : Int) (h0 : 0 ≤ W.getD j 0) : isOf (fQ W o) k j = (W.getD j 0 == k) := by
  unfold isOf
  rw [fQ_lo h]
  show (decide (0 ≤ k) && (W.getD j 0 == k)) = _
  by_cases e : W.getD j 0 = k
  · rw [← e, decide_eq_true h0]; rfl
  · rw [beq_eq_false_iff_ne.2 e, Bool.and_false]

theorem isOf_hi {W : List Int} {o : Nat → Int} {j : Nat} (h : ¬ j < W.length) (k : Int) : isOf (fQ W o) k j = false := by
  unfold isOf
  rw [fQ_hi h]
  show (decide (0 ≤ k) && ((-1 : Int) == k)) = false
  by_cases e : 0 ≤ k
  · rw [beq_eq_false_iff_ne.2 (show (-1 : Int) ≠ k by omega), Bool.and_false]
  · rw [decide_eq_false e]; rfl

/-- How many the first environments have together. -/
def S5 (f : Nat → Sl) : Nat → Nat
  | 0 => 0
  | k + 1 => S5 f k + cnt (isOf f (k : Nat)) 12

theorem S5_all {W : List Int} {o : Nat → Int} (h : QI W o) : S5 (fQ W o) 5 = W.length := by
  have all : ∀ n, cnt (isOf (fQ W o) 0) n + cnt (isOf (fQ W o) 1) n + cnt (isOf (fQ W o) 2) n + cnt (isOf (fQ W o) 3) n + cnt (isOf (fQ W o) 4) n = min n W.length := by
    intro n
    induction n with
    | zero => simp [cnt]
    | succ n ih =>
      simp only [cnt_succ]
      by_cases hn : n < W.length
      · obtain ⟨h0, h1⟩ := h.env n hn
        rw [isOf_lo hn 0 h0, isOf_lo hn 1 h0, isOf_lo hn 2 h0, isOf_lo hn 3 h0, isOf_lo hn 4 h0]
        have e : W.getD n 0 = 0 ∨ W.getD n 0 = 1 ∨ W.getD n 0 = 2 ∨ W.getD n 0 = 3 ∨ W.getD n 0 = 4 := by omega
        rcases e with e | e | e | e | e <;> rw [e] <;> simp <;> omega
      · rw [isOf_hi hn, isOf_hi hn, isOf_hi hn, isOf_hi hn, isOf_hi hn]
        simp
        omega
  have h12 := all 12
  have hl := h.len
  show 0 + cnt (isOf (fQ W o) ((0 : Nat) : Int)) 12 + cnt (isOf (fQ W o) ((1 : Nat) : Int)) 12 + cnt (isOf (fQ W o) ((2 : Nat) : Int)) 12 + cnt (isOf (fQ W o) ((3 : Nat) : Int)) 12 + cnt (isOf (fQ W o) ((4 : Nat) : Int)) 12 = _
  have e0 : ((0 : Nat) : Int) = 0 := rfl
  have e1 : ((1 : Nat) : Int) = 1 := rfl
  have e2 : ((2 : Nat) : Int) = 2 := rfl
  have e3 : ((3 : Nat) : Int) = 3 := rfl
  have e4 : ((4 : Nat) : Int) = 4 := rfl
  rw [e0, e1, e2, e3, e4]
  omega

theorem fQ_free {W : List Int} {o : Nat → Int} (h : ∀ j, j < W.length → 0 ≤ W.getD j 0) (hl : W.length ≤ 12) : freeIx (fQ W o) 12 = W.length := by
  obtain ⟨h1, h2, h3⟩ := freeIx_spec (fQ W o) 12
  have a : W.length ≤ freeIx (fQ W o) 12 := by
    by_cases e : freeIx (fQ W o) 12 < 12
    · have hf := h3 e
      by_cases g : freeIx (fQ W o) 12 < W.length
      · rw [fQ_lo g] at hf
        have := h _ g
        have hf' : W.getD (freeIx (fQ W o) 12) 0 < 0 := hf
        omega
      · omega
    · omega
  have b : ¬ W.length < freeIx (fQ W o) 12 := fun e => by
    have := h2 _ e
    rw [fQ_hi (Nat.lt_irrefl _)] at this
    have t : (0 : Int) ≤ -1 := this
    omega
  omega

theorem fQ_put (W : List Int) (o : Nat → Int) (env i : Int) : putF (fQ W o) W.length ⟨1, env, 3, i, 7, -1⟩ = fQ (W ++ [env]) (fun j => if j = W.length then i else o j) := by
  funext j
  unfold putF
  by_cases h : j = W.length
  · subst h
    rw [if_pos rfl, fQ_lo (by simp)]
    simp
  · rw [if_neg h]
    by_cases g : j < W.length
    · rw [fQ_lo g, fQ_lo (by simp; omega)]
      have e : (W ++ [env]).getD j 0 = W.getD j 0 := by rw [List.getD_eq_getElem?_getD, List.getD_eq_getElem?_getD, List.getElem?_append_left g]
      rw [e]
      show _ = Sl.mk _ _ _ (if j = W.length then i else o j) _ _
      rw [if_neg h]
    · rw [fQ_hi g, fQ_hi (by simp; omega)]

/-- What a mint does: nothing, and something is wrong; or one more. -/
theorem mint_Q {W : List Int} {o : Nat → Int} (h : QI W o) (env : Int) (i : Nat) (h0 : 0 ≤ env) (h5 : env < 5) :
    (∃ e, e ≠ 0 ∧ mintS 12 4 (fQ W o) env 3 (i : Nat) 7 = (fQ W o, 0, 0, e)) ∨ (mintS 12 4 (fQ W o) env 3 (i : Nat) 7 = (fQ (W ++ [env]) (fun j => if j = W.length then (i : Nat) else o j), ((W.length : Nat) : Int), 1, 0) ∧ QI (W ++ [env]) (fun j => if j = W.length then (i : Nat) else o j)) := by
  have hm : mintS 12 4 (fQ W o) env 3 (i : Nat) 7 = addS 12 4 (fQ W o) ⟨0, env, 3, (i : Nat), 7, -1⟩ := by
    unfold mintS
    rw [if_neg (by unfold badArgs; omega)]
  have hfr := fQ_free (o := o) (fun j hj => (h.env j hj).1) h.len
  by_cases hq : (4 : Int) ≤ (cnt (isOf (fQ W o) env) 12 : Nat)
  · refine .inl ⟨10, by decide, ?_⟩
    rw [hm]
    unfold addS
    exact if_pos hq
  · by_cases hf : W.length < 12
    · refine .inr ⟨?_, ?_, ?_, ?_⟩
      · rw [hm]
        unfold addS
        show (if (4 : Int) ≤ (cnt (isOf (fQ W o) env) 12 : Nat) then _ else _) = _
        rw [if_neg hq, hfr, if_pos hf, fQ_hi (Nat.lt_irrefl _)]
        show (putF (fQ W o) W.length ⟨1, env, 3, (i : Nat), 7, -1⟩, _, _, _) = _
        rw [fQ_put]
        rfl
      · rw [List.length_append]; show W.length + 1 ≤ 12; omega
      · intro j hj
        rw [List.length_append] at hj
        have hj' : j < W.length + 1 := hj
        by_cases g : j < W.length
        · have e : (W ++ [env]).getD j 0 = W.getD j 0 := by rw [List.getD_eq_getElem?_getD, List.getD_eq_getElem?_getD, List.getElem?_append_left g]
          rw [e]
          exact h.env j g
        · have : j = W.length := by omega
          subst this
          simp
          omega
      · intro k
        rw [← fQ_put]
        by_cases hk : env = k
        · subst hk
          rw [cnt_more (p := isOf (fQ W o) env) (m := W.length) (isOf_hi (Nat.lt_irrefl _) env) (by
            unfold isOf putF
            rw [if_pos rfl, decide_eq_true h0]
            simp) (fun j hj => by unfold isOf putF; rw [if_neg hj]) 12]
          rw [if_pos hf]
          omega
        · have e : cnt (isOf (putF (fQ W o) W.length ⟨1, env, 3, (i : Nat), 7, -1⟩) k) 12 = cnt (isOf (fQ W o) k) 12 := cnt_congr (fun j _ => by
            by_cases hj : j = W.length
            · subst hj
              rw [isOf_hi (Nat.lt_irrefl _) k]
              unfold isOf putF
              rw [if_pos rfl]
              show (decide (0 ≤ k) && (env == k)) = false
              rw [beq_eq_false_iff_ne.2 hk, Bool.and_false]
            · unfold isOf putF; rw [if_neg hj])
          rw [e]
          exact h.cnt k
    · refine .inl ⟨3, by decide, ?_⟩
      rw [hm]
      unfold addS
      show (if (4 : Int) ≤ (cnt (isOf (fQ W o) env) 12 : Nat) then _ else _) = _
      rw [if_neg hq, hfr, if_neg hf]

theorem fQ_of (W : List Int) (o : Nat → Int) (j : Nat) : (fQ W o j).of = -1 := by
  unfold fQ
  split <;> rfl

/-- Who goes where one is killed. -/
theorem kill_Q {W : List Int} {o : Nat → Int} {M : Nat → Bool} {e : Int} (hM : ∀ i, M i = true ↔ Bel 12 (fQ W o) (isOf (fQ W o) e) i) : ∀ i, M i = isOf (fQ W o) e i := by
  intro i
  have h : M i = true ↔ isOf (fQ W o) e i = true := by
    rw [hM i]
    constructor
    · intro hb
      cases hb with
      | base h => exact h
      | step _ _ h3 _ => rw [fQ_of] at h3; omega
    · exact .base
  cases a : M i <;> cases b : isOf (fQ W o) e i <;> simp_all

theorem kill_cnt {W : List Int} {o : Nat → Int} {M : Nat → Bool} {e : Int} (hM : ∀ i, M i = true ↔ Bel 12 (fQ W o) (isOf (fQ W o) e) i) : cnt (goneB M (fQ W o)) 12 = cnt (isOf (fQ W o) e) 12 := by
  refine cnt_congr (fun i _ => ?_)
  unfold goneB
  rw [kill_Q hM i]
  cases h : isOf (fQ W o) e i with
  | false => rfl
  | true =>
    unfold isOf at h
    rw [Bool.and_eq_true] at h
    have h1 := of_decide_eq_true h.1
    have h2 := eq_of_beq h.2
    rw [decide_eq_true (by omega)]
    rfl

theorem kill_none {W : List Int} {o : Nat → Int} {M : Nat → Bool} {e : Int} (h0 : 0 ≤ e) (hM : ∀ i, M i = true ↔ Bel 12 (fQ W o) (isOf (fQ W o) e) i) : cnt (isOf (goneF M (fQ W o)) e) 12 = 0 := by
  have h : cnt (isOf (goneF M (fQ W o)) e) 12 = cnt (fun _ => false) 12 := cnt_congr (fun i _ => by
    unfold isOf goneF
    rw [kill_Q hM i]
    by_cases h : isOf (fQ W o) e i = true ∧ 0 ≤ (fQ W o i).env
    · rw [if_pos h]
      show (decide (0 ≤ e) && ((-1 : Int) == e)) = false
      rw [beq_eq_false_iff_ne.2 (show (-1 : Int) ≠ e by omega), Bool.and_false]
    · rw [if_neg h]
      have h2 : ¬ isOf (fQ W o) e i = true := fun x => h ⟨x, by
        unfold isOf at x
        rw [Bool.and_eq_true] at x
        have := eq_of_beq x.2
        omega⟩
      show isOf (fQ W o) e i = false
      cases hb : isOf (fQ W o) e i with
      | false => rfl
      | true => exact absurd hb h2)
  rw [h]
  rfl

/-- What a check says behind it. -/
theorem check_Q {W : List Int} {o : Nat → Int} {M : Nat → Bool} {e : Int} (h : QI W o) (hM : ∀ i, M i = true ↔ Bel 12 (fQ W o) (isOf (fQ W o) e) i) (j : Nat) (hj : j < W.length) :
    ∃ a b, checkR 12 (goneF M (fQ W o)) (W.getD j 0) (j : Nat) 1 3 7 = (a, b) ∧ ((b == 0) = !(W.getD j 0 == e)) := by
  have hl := h.len
  obtain ⟨h0, h5⟩ := h.env j hj
  by_cases he : W.getD j 0 = e
  · have hm : M j = true := by rw [kill_Q hM j, isOf_lo hj e h0, he]; simp
    have hg : goneF M (fQ W o) j = ⟨2, -1, 0, 0, 0, -1⟩ := by
      unfold goneF
      rw [if_pos ⟨hm, by rw [fQ_lo hj]; exact h0⟩, fQ_lo hj]
      rfl
    have h9 : ownE 12 (goneF M (fQ W o)) (W.getD j 0) (j : Nat) 1 0 = 9 := by
      unfold ownE
      rw [if_neg (fun x => by have := x.2.2.1; rw [Int.toNat_natCast, hg] at this; have t : (0 : Int) ≤ -1 := this; omega)]
    refine ⟨0, 9, ?_, ?_⟩
    · unfold checkR
      rw [h9, if_neg (by decide)]
    · rw [he]; simp
  · have hm : M j = false := by rw [kill_Q hM j, isOf_lo hj e h0]; exact beq_eq_false_iff_ne.2 he
    have hg : goneF M (fQ W o) j = ⟨1, W.getD j 0, 3, o j, 7, -1⟩ := by
      unfold goneF
      rw [if_neg (fun x => by rw [hm] at x; cases x.1), fQ_lo hj]
    have h1 : ownE 12 (goneF M (fQ W o)) (W.getD j 0) (j : Nat) 1 0 = 0 := by
      unfold ownE
      rw [Int.toNat_natCast, hg]
      rw [if_pos ⟨by omega, by omega, h0, rfl⟩, if_pos ⟨rfl, has0 _⟩]
    refine ⟨o j, 0, ?_, ?_⟩
    · unfold checkR
      rw [h1, if_pos rfl, Int.toNat_natCast, hg, if_pos rfl, if_pos (show (7 : Int) = bits .and .i64 7 7 by decide +kernel)]
    · rw [beq_eq_false_iff_ne.2 he]; rfl

end Go.Proofs.Ytlhfpnfiamgmlaa
