/-
  Plain facts on the document's own dealing of what is left: who is looked for, round by round, is the next of the places in their order; rests are numbers from 0 on.
-/
import Derived.Test.YtmkkkddadpcmeaaK2
import Derived.Test.YtmkkkddadpcmeaaG3
namespace Go.Proofs.Ytmkkkddadpcmeaa
open Go.RowKit Ieee

/-- The search: the first of those that haven't got one whose rest is the greatest. -/
def srch (R : Nat → Nat) (got : Nat → Bool) : Nat → Option Nat
  | 0 => none
  | k + 1 => if !got k && (match srch R got k with | none => true | some a => decide (R a < R k)) then some k else srch R got k

theorem pos_ord {x y : Nat} (hx : Pos x) (hy : Pos y) (wx : x < 18446744073709551616) (wy : y < 18446744073709551616) : ordI x y = cmpI x y := by
  rw [ordI_key x y wx wy]
  have e : ∀ z, Pos z → z < 18446744073709551616 → ky z = z := fun z hz wz => by
    unfold ky
    rw [if_neg (by have := hz.num; omega), hz.plus]
    have := hz.word wz
    simp
    omega
  rw [e x hx wx, e y hy wy]

theorem prec_of_lt {R : Nat → Nat} (hP : ∀ j, Pos (R j)) (hw : ∀ j, R j < 18446744073709551616) {x y : Nat} (h : R y < R x) : Prec (cfR R) x y := by
  left
  unfold cfR
  rw [pos_ord (hP _) (hP _) (hw _) (hw _)]
  unfold cmpI
  rw [if_pos (by omega)]
  decide

theorem prec_of_le {R : Nat → Nat} (hP : ∀ j, Pos (R j)) (hw : ∀ j, R j < 18446744073709551616) {x y : Nat} (h : R y ≤ R x) (hxy : x < y) : Prec (cfR R) x y := by
  by_cases e : R y < R x
  · exact prec_of_lt hP hw e
  · right
    unfold cfR
    rw [pos_ord (hP _) (hP _) (hw _) (hw _)]
    unfold cmpI
    rw [if_neg (by omega), if_neg (by omega)]
    exact ⟨rfl, hxy⟩

/-- What the search has found among the first k. -/
theorem srch_spec {R : Nat → Nat} (hP : ∀ j, Pos (R j)) (hw : ∀ j, R j < 18446744073709551616) (got : Nat → Bool) (k : Nat) :
    (srch R got k = none → ∀ j, j < k → got j = true) ∧ ∀ a, srch R got k = some a → a < k ∧ got a = false ∧ ∀ j, j < k → got j = false → j ≠ a → Prec (cfR R) a j := by
  have hc := cfR_cmp R hw
  induction k with
  | zero => exact ⟨fun _ j hj => by omega, (fun a h => by cases h)⟩
  | succ k ih =>
    obtain ⟨i1, i2⟩ := ih
    cases hs : srch R got k with
    | none =>
      have i1 := i1 hs
      cases hg : got k with
      | true =>
        have e : srch R got (k + 1) = none := by unfold srch; rw [hs, hg]; rfl
        rw [e]
        refine ⟨fun _ j hj => ?_, (fun a h => by cases h)⟩
        by_cases ej : j = k
        · subst ej; exact hg
        · exact i1 j (by omega)
      | false =>
        have e : srch R got (k + 1) = some k := by unfold srch; rw [hs, hg]; rfl
        rw [e]
        refine ⟨(fun h => by cases h), fun a h => ?_⟩
        cases h
        refine ⟨by omega, hg, fun j hj hgj hne => ?_⟩
        have := i1 j (by omega)
        rw [hgj] at this
        cases this
    | some a =>
      obtain ⟨a1, a2, a3⟩ := i2 a hs
      by_cases ht : got k = false ∧ R a < R k
      · have e : srch R got (k + 1) = some k := by unfold srch; rw [hs, ht.1]; simp [ht.2]
        rw [e]
        refine ⟨(fun h => by cases h), fun b h => ?_⟩
        cases h
        have p0 := prec_of_lt hP hw ht.2
        refine ⟨by omega, ht.1, fun j hj hgj hne => ?_⟩
        by_cases ej : j = a
        · subst ej; exact p0
        · exact p0.trans hc (a3 j (by omega) hgj ej)
      · have e : srch R got (k + 1) = some a := by
          unfold srch
          rw [hs]
          cases hg : got k with
          | true => rfl
          | false =>
            have : ¬ R a < R k := fun h => ht ⟨hg, h⟩
            simp [this]
        rw [e]
        refine ⟨(fun h => by cases h), fun b h => ?_⟩
        cases h
        refine ⟨by omega, a2, fun j hj hgj hne => ?_⟩
        by_cases ej : j = k
        · subst ej
          exact prec_of_le hP hw (by have : ¬ R a < R j := fun h => ht ⟨hgj, h⟩
                                     omega) a1
        · exact a3 j (by omega) hgj hne

/-- The first c of the places in their order have got one. -/
def Got (n : Nat) (E : Nat → Nat) (c : Nat) (got : Nat → Bool) : Prop := ∀ j, j < n → (got j = true ↔ ∃ i, i < c ∧ E i = j)

/-- THE SEARCH FINDS THE NEXT OF THE PLACES IN THEIR ORDER. -/
theorem srch_next {n : Nat} {R E : Nat → Nat} (hP : ∀ j, Pos (R j)) (hw : ∀ j, R j < 18446744073709551616) (hO : Order n R E) {c : Nat} (hcn : c < n) {got : Nat → Bool} (hG : Got n E c got) : srch R got n = some (E c) := by
  have hcm := cfR_cmp R hw
  have hinj := hO.inj hw
  have hEn : ∀ i, i < n → E i < n := fun i hi => (hO.all _).1 ⟨i, hi, rfl⟩
  have hfree : got (E c) = false := by
    cases hg : got (E c) with
    | false => rfl
    | true =>
      obtain ⟨i, i1, i2⟩ := (hG (E c) (hEn c hcn)).1 hg
      have := hinj i c (by omega) hcn i2
      omega
  obtain ⟨s1, s2⟩ := srch_spec hP hw got n
  cases hs : srch R got n with
  | none =>
    have := s1 hs (E c) (hEn c hcn)
    rw [hfree] at this
    cases this
  | some a =>
    obtain ⟨a1, a2, a3⟩ := s2 a hs
    by_cases e : a = E c
    · rw [e]
    · exfalso
      have p1 := a3 (E c) (hEn c hcn) hfree (fun h => e h.symm)
      obtain ⟨i, i1, i2⟩ := (hO.all a).2 a1
      have hic : c < i := by
        rcases Nat.lt_trichotomy c i with h | h | h
        · exact h
        · subst h; exact absurd i2.symm e
        · have := (hG a a1).2 ⟨i, h, i2⟩
          rw [a2] at this
          cases this
      have p2 := hO.chain c i (Nat.zero_le _) hic i1
      rw [i2] at p2
      exact (p1.trans hcm p2).irrefl hcm

theorem Got.none (n : Nat) (E : Nat → Nat) : Got n E 0 (fun _ => false) := fun j _ => ⟨(fun h => by cases h), fun ⟨i, h, _⟩ => by omega⟩

theorem Got.step {n : Nat} {E : Nat → Nat} {c : Nat} {got : Nat → Bool} (h : Got n E c got) : Got n E (c + 1) (fun j => if j = E c then true else got j) := by
  intro j hj
  by_cases e : j = E c
  · simp only [e, if_true]
    exact ⟨fun _ => ⟨c, by omega, rfl⟩, fun _ => trivial⟩
  · simp only [e, if_false]
    refine (h j hj).trans ⟨fun ⟨i, i1, i2⟩ => ⟨i, by omega, i2⟩, fun ⟨i, i1, i2⟩ => ⟨i, ?_, i2⟩⟩
    by_cases ei : i = c
    · subst ei; exact absurd i2.symm e
    · omega

/-- A rest is a number from 0 on. -/
theorem rest_pos {q : Nat} (hq : q < infR) (hs : V q / U ≤ 512) : Pos (restF q) := by
  obtain ⟨s, s1, _, s3, s4⟩ := flo_fin q hq hs
  obtain ⟨m, e, x1, x2⟩ := fin_read hq
  obtain ⟨n, d, y1, y2⟩ := fin_read s4
  have hle : V s ≤ V q := by rw [s3]; exact Nat.div_mul_le_self _ _
  unfold restF
  rw [s1]
  show Pos ((dbl.sub q s).getD 0)
  unfold Format.sub
  rw [x1, y1]
  simp only [Datum.opposite, Datum.sum, signed_eq, Option.map_some, Option.getD_some, Format.write]
  obtain ⟨b, hb, h1, h2⟩ : ∃ b : Nat, min (-1074 + (e : Int)) (-1074 + (d : Int)) = -1074 + (b : Int) ∧ b ≤ e ∧ b ≤ d := ⟨min e d, by omega, by omega, by omega⟩
  rw [hb, show (-1074 + (e : Int) - (-1074 + (b : Int))).toNat = e - b by omega, show (-1074 + (d : Int) - (-1074 + (b : Int))).toNat = d - b by omega]
  have p1 : m * 2 ^ e = m * 2 ^ (e - b) * 2 ^ b := by rw [Nat.mul_assoc, ← Nat.pow_add]; congr 2; omega
  have p2 : n * 2 ^ d = n * 2 ^ (d - b) * 2 ^ b := by rw [Nat.mul_assoc, ← Nat.pow_add]; congr 2; omega
  rw [p1] at x2
  rw [p2] at y2
  rw [← x2, ← y2] at hle
  have hle2 := Nat.le_of_mul_le_mul_right hle (Nat.two_pow_pos b)
  generalize m * 2 ^ (e - b) = u at *
  generalize n * 2 ^ (d - b) = v at *
  have e2 : (if sg false u + sg (!false) v = 0 then false && !false else decide (sg false u + sg (!false) v < 0)) = false := by
    simp only [sg, Bool.false_eq_true, if_false, Bool.not_false, if_true, Bool.and_true]
    split
    · rfl
    · exact decide_eq_false (by omega)
  rw [e2]
  have hz : infR < 9223372036854775808 := by decide
  have key : ∀ z, z ≤ infR → Pos z := fun z hz2 => by
    refine ⟨?_, ?_⟩
    · unfold rung; omega
    · unfold ngv
      rw [Nat.div_eq_of_lt (by omega)]
      rfl
  obtain ⟨r, h3, _⟩ := nearest_rv (sg false u + sg (!false) v).natAbs b 0
  rw [show -1074 - ((0 : Nat) : Int) + (b : Int) = -1074 + (b : Int) by omega] at h3
  rw [h3]
  exact key _ (Nat.min_le_right _ _)

end Go.Proofs.Ytmkkkddadpcmeaa
