/-
  Plain facts on a stable sort by insertion, over rows told by functions of the index: a comparison that orders all, equal ones by their own number; no program here.
-/
namespace Go.Proofs.Ytmkkkddadpcmeaa

/-- A comparison of three answers that orders all. -/
structure Cmp (cf : Nat → Nat → Int) : Prop where
  anti : ∀ x y, cf x y = -cf y x
  trans : ∀ x y z, cf x y ≤ 0 → cf y z ≤ 0 → cf x z ≤ 0

/-- x stands ahead of y: by the comparison, or by its number. -/
def Prec (cf : Nat → Nat → Int) (x y : Nat) : Prop := cf x y < 0 ∨ cf x y = 0 ∧ x < y

theorem Prec.trans {cf : Nat → Nat → Int} (h : Cmp cf) {x y z : Nat} (h1 : Prec cf x y) (h2 : Prec cf y z) : Prec cf x z := by
  have a1 := h.trans x y z
  have a2 := h.trans z x y
  have a3 := h.trans y z x
  have b1 := h.anti x y
  have b2 := h.anti y z
  have b3 := h.anti x z
  unfold Prec at *
  omega

theorem Prec.irrefl {cf : Nat → Nat → Int} (h : Cmp cf) {x : Nat} (h1 : Prec cf x x) : False := by
  have := h.anti x x
  unfold Prec at h1
  omega

/-- The two exchanged. -/
def swf (D : Nat → Nat) (i j : Nat) : Nat → Nat := fun k => if k = i then D j else if k = j then D i else D k

/-- The same numbers stand between a and b, and all else is as it was. -/
structure PermW (a b : Nat) (D E : Nat → Nat) : Prop where
  mem : ∀ v, (∃ k, a ≤ k ∧ k < b ∧ E k = v) ↔ (∃ k, a ≤ k ∧ k < b ∧ D k = v)
  out : ∀ k, (k < a ∨ b ≤ k) → E k = D k

theorem PermW.refl (a b : Nat) (D : Nat → Nat) : PermW a b D D := ⟨fun _ => Iff.rfl, fun _ _ => rfl⟩
theorem PermW.trans {a b : Nat} {D E F : Nat → Nat} (h : PermW a b D E) (k : PermW a b E F) : PermW a b D F :=
  ⟨fun v => (k.mem v).trans (h.mem v), fun i hi => (k.out i hi).trans (h.out i hi)⟩
theorem PermW.swf {a b : Nat} (D : Nat → Nat) (i j : Nat) (hi : a ≤ i) (hi' : i < b) (hj : a ≤ j) (hj' : j < b) : PermW a b D (swf D i j) := by
  refine ⟨fun v => ⟨?_, ?_⟩, fun k hk => ?_⟩
  · rintro ⟨k, h1, h2, h3⟩
    unfold Ytmkkkddadpcmeaa.swf at h3
    by_cases e : k = i
    · rw [if_pos e] at h3; exact ⟨j, hj, hj', h3⟩
    · rw [if_neg e] at h3
      by_cases e2 : k = j
      · rw [if_pos e2] at h3; exact ⟨i, hi, hi', h3⟩
      · rw [if_neg e2] at h3; exact ⟨k, h1, h2, h3⟩
  · rintro ⟨k, h1, h2, h3⟩
    by_cases e : k = i
    · subst e
      refine ⟨j, hj, hj', ?_⟩
      unfold Ytmkkkddadpcmeaa.swf
      by_cases e2 : j = k
      · subst e2; rw [if_pos rfl]; exact h3
      · rw [if_neg e2, if_pos rfl]; exact h3
    · by_cases e2 : k = j
      · subst e2
        exact ⟨i, hi, hi', by unfold Ytmkkkddadpcmeaa.swf; rw [if_pos rfl]; exact h3⟩
      · exact ⟨k, h1, h2, by unfold Ytmkkkddadpcmeaa.swf; rw [if_neg e, if_neg e2]; exact h3⟩
  · unfold Ytmkkkddadpcmeaa.swf
    rw [if_neg (by omega), if_neg (by omega)]
theorem PermW.mono {a b a' b' : Nat} {D E : Nat → Nat} (h : PermW a b D E) (ha : a' ≤ a) (hb : b ≤ b') : PermW a' b' D E := by
  refine ⟨fun v => ⟨?_, ?_⟩, fun k hk => h.out k (by omega)⟩
  · rintro ⟨k, h1, h2, h3⟩
    by_cases hk : a ≤ k ∧ k < b
    · obtain ⟨k', h4, h5, h6⟩ := (h.mem v).1 ⟨k, hk.1, hk.2, h3⟩
      exact ⟨k', by omega, by omega, h6⟩
    · exact ⟨k, h1, h2, by rw [← h3, h.out k (by omega)]⟩
  · rintro ⟨k, h1, h2, h3⟩
    by_cases hk : a ≤ k ∧ k < b
    · obtain ⟨k', h4, h5, h6⟩ := (h.mem v).2 ⟨k, hk.1, hk.2, h3⟩
      exact ⟨k', by omega, by omega, h6⟩
    · exact ⟨k, h1, h2, by rw [← h3, h.out k (by omega)]⟩
theorem PermW.all {a b : Nat} {D E : Nat → Nat} (h : PermW a b D E) (p : Nat → Prop) (hp : ∀ k, a ≤ k → k < b → p (D k)) : ∀ k, a ≤ k → k < b → p (E k) := by
  intro k h1 h2
  obtain ⟨k', h4, h5, h6⟩ := (h.mem (E k)).1 ⟨k, h1, h2, rfl⟩
  rw [← h6]
  exact hp k' h4 h5

/-- The row stands in order between a and b. -/
def Chain (cf : Nat → Nat → Int) (a b : Nat) (D : Nat → Nat) : Prop := ∀ i j, a ≤ i → i < j → j < b → Prec cf (D i) (D j)

/-- In the midst of the sort: [a, i) is in order, of the numbers that stood there; behind it all is as it was. -/
structure Outer (cf : Nat → Nat → Int) (a b i : Nat) (D E : Nat → Nat) : Prop where
  perm : PermW a i D E
  chain : Chain cf a i E

/-- In the midst of an insertion: the number that is inserted stands at j; the others are in order, and those behind j stand behind it. -/
structure Inner (cf : Nat → Nat → Int) (a i j : Nat) (D E : Nat → Nat) : Prop where
  perm : PermW a (i + 1) D E
  mine : E j = D i
  chain : ∀ k l, a ≤ k → k < l → l ≤ i → k ≠ j → l ≠ j → Prec cf (E k) (E l)
  behind : ∀ k, j < k → k ≤ i → Prec cf (E j) (E k)
  less : ∀ k, a ≤ k → k ≤ i → k ≠ j → E k < D i

theorem Outer.start (cf : Nat → Nat → Int) (a b : Nat) (D : Nat → Nat) : Outer cf a b (a + 1) D D :=
  ⟨PermW.refl _ _ _, fun i j h1 h2 h3 => by omega⟩

theorem Outer.inner {cf : Nat → Nat → Int} {a b i : Nat} {D E : Nat → Nat} (h : Outer cf a b i D E) (hD : ∀ k, a ≤ k → k < i → D k < D i) : Inner cf a i i D E :=
  ⟨h.perm.mono (Nat.le_refl _) (by omega), h.perm.out i (by omega), fun k l h1 h2 h3 _ h5 => h.chain k l h1 h2 (by omega), fun k h1 h2 => by omega,
   fun k h1 h2 h3 => h.perm.all (fun v => v < D i) hD k h1 (by omega)⟩

theorem Inner.step {cf : Nat → Nat → Int} {a i j : Nat} {D E : Nat → Nat} (h : Inner cf a i (j + 1) D E) (ha : a ≤ j) (hj : j + 1 ≤ i) (hlt : cf (E (j + 1)) (E j) < 0) : Inner cf a i j D (swf E (j + 1) j) := by
  have hs1 : swf E (j + 1) j j = E (j + 1) := by unfold swf; rw [if_neg (by omega), if_pos rfl]
  have hs2 : swf E (j + 1) j (j + 1) = E j := by unfold swf; rw [if_pos rfl]
  have hs3 : ∀ k, k ≠ j → k ≠ j + 1 → swf E (j + 1) j k = E k := fun k h1 h2 => by unfold swf; rw [if_neg h2, if_neg h1]
  refine ⟨h.perm.trans (.swf E (j + 1) j (by omega) (by omega) ha (by omega)), by rw [hs1, h.mine], ?_, ?_, ?_⟩
  · intro k l h1 h2 h3 h4 h5
    by_cases e1 : k = j + 1
    · subst e1
      rw [hs2, hs3 l h5 (by omega)]
      exact h.chain j l ha (by omega) h3 (by omega) (by omega)
    · rw [hs3 k h4 e1]
      by_cases e2 : l = j + 1
      · subst e2
        rw [hs2]
        exact h.chain k j h1 (by omega) (by omega) (by omega) (by omega)
      · rw [hs3 l h5 e2]
        exact h.chain k l h1 h2 h3 (by omega) (by omega)
  · intro k h1 h2
    rw [hs1]
    by_cases e : k = j + 1
    · subst e; rw [hs2]; exact Or.inl hlt
    · rw [hs3 k (by omega) e]
      exact h.behind k (by omega) h2
  · intro k h1 h2 h3
    by_cases e : k = j + 1
    · subst e; rw [hs2]; exact h.less j ha (by omega) (by omega)
    · rw [hs3 k h3 e]
      exact h.less k h1 h2 e

/-- Out of the insertion: all up to i is in order. -/
theorem Inner.done {cf : Nat → Nat → Int} (hc : Cmp cf) {a b i j : Nat} {D E : Nat → Nat} (h : Inner cf a i j D E) (hji : j ≤ i) (hs : j ≤ a ∨ ¬ cf (E j) (E (j - 1)) < 0) : Outer cf a b (i + 1) D E := by
  have front : ∀ k, a ≤ k → k < j → Prec cf (E k) (E j) := by
    intro k h1 h2
    have p1 : Prec cf (E (j - 1)) (E j) := by
      have h3 := hc.anti (E j) (E (j - 1))
      have h4 := h.less (j - 1) (by omega) (by omega) (by omega)
      rw [← h.mine] at h4
      unfold Prec
      omega
    by_cases e : k = j - 1
    · subst e; exact p1
    · exact (h.chain k (j - 1) h1 (by omega) (by omega) (by omega) (by omega)).trans hc p1
  refine ⟨h.perm, fun k l h1 h2 h3 => ?_⟩
  by_cases e1 : k = j
  · subst e1; exact h.behind l h2 (by omega)
  · by_cases e2 : l = j
    · subst e2; exact front k h1 h2
    · exact h.chain k l h1 h2 (by omega) e1 e2

end Go.Proofs.Ytmkkkddadpcmeaa
