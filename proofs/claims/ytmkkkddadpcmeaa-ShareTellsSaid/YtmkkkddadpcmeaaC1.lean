/-
  Plain facts on a stable sort by merging in place: exchanging two stretches, turning two stretches round, and what a merge by halves makes; no program here.
-/
import Derived.Test.YtmkkkddadpcmeaaC0
namespace Go.Proofs.Ytmkkkddadpcmeaa

/-- Two stretches of n exchanged. -/
def swr (D : Nat → Nat) (a b n : Nat) : Nat → Nat := fun k => if a ≤ k ∧ k < a + n then D (k - a + b) else if b ≤ k ∧ k < b + n then D (k - b + a) else D k

theorem swr_zero (D : Nat → Nat) (a b : Nat) : swr D a b 0 = D := by
  funext k
  unfold swr
  rw [if_neg (by omega), if_neg (by omega)]

theorem swr_succ (D : Nat → Nat) (a b n : Nat) (h : a + n < b) : swf (swr D a b n) (a + n) (b + n) = swr D a b (n + 1) := by
  funext k
  unfold swf swr
  by_cases e1 : k = a + n
  · rw [if_pos e1, if_neg (by omega), if_neg (by omega), if_pos (by omega)]
    congr 1; omega
  · rw [if_neg e1]
    by_cases e2 : k = b + n
    · rw [if_pos e2, if_neg (by omega), if_neg (by omega), if_neg (by omega), if_pos (by omega)]
      congr 1; omega
    · rw [if_neg e2]
      by_cases e3 : a ≤ k ∧ k < a + n
      · rw [if_pos e3, if_pos (by omega)]
      · rw [if_neg e3, if_neg (show ¬ (a ≤ k ∧ k < a + (n + 1)) by omega)]
        by_cases e4 : b ≤ k ∧ k < b + n
        · rw [if_pos e4, if_pos (by omega)]
        · rw [if_neg e4, if_neg (by omega)]

/-- Two stretches that lie side by side, [l, m) and [m, h), turned round. -/
def rot (D : Nat → Nat) (l m h : Nat) : Nat → Nat := fun k => if l ≤ k ∧ k < l + (h - m) then D (k - l + m) else if l + (h - m) ≤ k ∧ k < h then D (k - (l + (h - m)) + l) else D k

theorem rot_gt (D : Nat → Nat) (l m h : Nat) (h1 : l ≤ m) (h2 : m ≤ h) (hg : h - m < m - l) : rot (swr D l m (h - m)) (l + (h - m)) m h = rot D l m h := by
  funext k
  unfold rot
  by_cases e1 : l ≤ k ∧ k < l + (h - m)
  · rw [if_neg (by omega), if_neg (by omega), if_pos e1]
    unfold swr
    rw [if_pos e1]
  · rw [if_neg e1]
    by_cases e2 : l + (h - m) ≤ k ∧ k < l + (h - m) + (h - m)
    · rw [if_pos e2, if_pos (by omega)]
      unfold swr
      rw [if_neg (by omega), if_pos (by omega)]
      congr 1; omega
    · rw [if_neg e2]
      by_cases e3 : l + (h - m) + (h - m) ≤ k ∧ k < h
      · rw [if_pos e3, if_pos (by omega)]
        unfold swr
        rw [if_neg (by omega), if_neg (by omega)]
        congr 1; omega
      · rw [if_neg e3, if_neg (by omega)]
        unfold swr
        rw [if_neg (by omega), if_neg (by omega)]

theorem rot_lt (D : Nat → Nat) (l m h : Nat) (h1 : l ≤ m) (h2 : m ≤ h) (hg : m - l < h - m) : rot (swr D l (h - (m - l)) (m - l)) l m (h - (m - l)) = rot D l m h := by
  funext k
  unfold rot
  by_cases e1 : l ≤ k ∧ k < l + (h - (m - l) - m)
  · rw [if_pos e1, if_pos (by omega)]
    unfold swr
    by_cases e2 : h - (m - l) ≤ k - l + m
    · omega
    · rw [if_neg (by omega), if_neg (by omega)]
  · rw [if_neg e1]
    by_cases e2 : l + (h - (m - l) - m) ≤ k ∧ k < h - (m - l)
    · rw [if_pos e2]
      unfold swr
      by_cases e3 : k < l + (h - m)
      · rw [if_pos (by omega), if_pos (by omega)]
        congr 1; omega
      · omega
    · rw [if_neg e2]
      unfold swr
      by_cases e3 : l ≤ k ∧ k < l + (h - m)
      · omega
      · rw [if_neg e3]
        by_cases e4 : l + (h - m) ≤ k ∧ k < h
        · rw [if_pos e4, if_neg (by omega), if_pos (by omega)]
          congr 1; omega
        · rw [if_neg e4, if_neg (by omega), if_neg (by omega)]

theorem rot_eq (D : Nat → Nat) (l m h : Nat) (h1 : l ≤ m) (h2 : m ≤ h) (he : m - l = h - m) : swr D l m (m - l) = rot D l m h := by
  funext k
  unfold rot swr
  by_cases e1 : l ≤ k ∧ k < l + (m - l)
  · rw [if_pos e1, if_pos (by omega)]
  · have e3 : ¬ (l ≤ k ∧ k < l + (h - m)) := by omega
    rw [if_neg e1, if_neg e3]
    by_cases e2 : m ≤ k ∧ k < m + (m - l)
    · rw [if_pos e2, if_pos (by omega)]
      congr 1; omega
    · rw [if_neg e2, if_neg (by omega)]

theorem rot_perm (D : Nat → Nat) (a b l m h : Nat) (h0 : a ≤ l) (h1 : l ≤ m) (h2 : m ≤ h) (h3 : h ≤ b) : PermW a b D (rot D l m h) := by
  refine ⟨fun v => ⟨?_, ?_⟩, fun k hk => ?_⟩
  · rintro ⟨k, a1, a2, a3⟩
    unfold rot at a3
    by_cases e1 : l ≤ k ∧ k < l + (h - m)
    · rw [if_pos e1] at a3; exact ⟨_, by omega, by omega, a3⟩
    · rw [if_neg e1] at a3
      by_cases e2 : l + (h - m) ≤ k ∧ k < h
      · rw [if_pos e2] at a3; exact ⟨_, by omega, by omega, a3⟩
      · rw [if_neg e2] at a3; exact ⟨k, a1, a2, a3⟩
  · rintro ⟨k, a1, a2, a3⟩
    by_cases e1 : l ≤ k ∧ k < m
    · refine ⟨k + (h - m), by omega, by omega, ?_⟩
      unfold rot
      rw [if_neg (by omega), if_pos (by omega), ← a3]
      congr 1; omega
    · by_cases e2 : m ≤ k ∧ k < h
      · refine ⟨k - m + l, by omega, by omega, ?_⟩
        unfold rot
        rw [if_pos (by omega), ← a3]
        congr 1; omega
      · refine ⟨k, a1, a2, ?_⟩
        unfold rot
        rw [if_neg (by omega), if_neg (by omega)]
        exact a3
  · unfold rot
    rw [if_neg (by omega), if_neg (by omega)]

/-- All numbers of the one stretch are below those of the other. -/
def Less (a m b : Nat) (D : Nat → Nat) : Prop := ∀ i j, a ≤ i → i < m → m ≤ j → j < b → D i < D j
/-- All of the one stretch stand ahead of those of the other. -/
def Ahead (cf : Nat → Nat → Int) (a m b : Nat) (D : Nat → Nat) : Prop := ∀ i j, a ≤ i → i < m → m ≤ j → j < b → Prec cf (D i) (D j)

theorem Ahead.chain {cf : Nat → Nat → Int} {a m b : Nat} {D : Nat → Nat} (h : Ahead cf a m b D) (h1 : Chain cf a m D) (h2 : Chain cf m b D) : Chain cf a b D := by
  intro i j hi hij hj
  by_cases e1 : j < m
  · exact h1 i j hi hij e1
  · by_cases e2 : m ≤ i
    · exact h2 i j e2 hij hj
    · exact h i j hi (by omega) (by omega) hj

theorem Chain.congr {cf : Nat → Nat → Int} {a b : Nat} {D E : Nat → Nat} (h : Chain cf a b D) (e : ∀ k, a ≤ k → k < b → E k = D k) : Chain cf a b E := fun i j h1 h2 h3 => by
  rw [e i h1 (by omega), e j (by omega) h3]; exact h i j h1 h2 h3
theorem Less.congr {a m b : Nat} {D E : Nat → Nat} (h : Less a m b D) (e : ∀ k, a ≤ k → k < b → E k = D k) : Less a m b E := fun i j h1 h2 h3 h4 => by
  rw [e i h1 (by omega), e j (by omega) h4]; exact h i j h1 h2 h3 h4

theorem Ahead.perm {cf : Nat → Nat → Int} {a m b : Nat} {D E : Nat → Nat} (h : Ahead cf a m b D) (hl : PermW a m D E ∨ PermW m b D E) : Ahead cf a m b E := by
  intro i j h1 h2 h3 h4
  rcases hl with hl | hl
  · rw [hl.out j (Or.inr h3)]
    exact hl.all (fun x => Prec cf x (D j)) (fun k k1 k2 => h k j k1 k2 h3 h4) i h1 h2
  · rw [hl.out i (Or.inl h2)]
    exact hl.all (fun x => Prec cf (D i) x) (fun k k1 k2 => h i k h1 h2 k1 k2) j h3 h4

/-- What the search finds: s, with e = n - s on the other side. -/
structure Found (cf : Nat → Nat → Int) (a m b mid s e : Nat) (D : Nat → Nat) : Prop where
  as : a ≤ s
  sm : s ≤ m
  me : m ≤ e
  eb : e ≤ b
  sum : s + e = mid + m
  /-- what stands ahead of s stays ahead of what stands from e on -/
  low : s = a ∨ e = b ∨ ¬ cf (D e) (D (s - 1)) < 0
  /-- what stands ahead of e goes ahead of what stands from s on -/
  high : s = m ∨ e = m ∨ cf (D (e - 1)) (D s) < 0

/-- Behind the turn: two halves, each of two stretches in order, all of the first ahead of all of the second. -/
structure Halves (cf : Nat → Nat → Int) (a b mid s e : Nat) (F : Nat → Nat) : Prop where
  c1 : Chain cf a s F
  c2 : Chain cf s mid F
  l1 : Less a s mid F
  c3 : Chain cf mid e F
  c4 : Chain cf e b F
  l2 : Less mid e b F
  ahead : Ahead cf a mid b F

theorem Found.halves {cf : Nat → Nat → Int} (hc : Cmp cf) {a m b mid s e : Nat} {D : Nat → Nat} (h : Found cf a m b mid s e D) (h1 : Chain cf a m D) (h2 : Chain cf m b D) (hl : Less a m b D) : Halves cf a b mid s e (rot D s m e) := by
  have A := h.as
  have B := h.sm
  have C := h.me
  have E := h.eb
  have S := h.sum
  -- where each place's number comes from
  have r1 : ∀ k, a ≤ k → k < s → rot D s m e k = D k := fun k k1 k2 => by unfold rot; rw [if_neg (by omega), if_neg (by omega)]
  have r2 : ∀ k, s ≤ k → k < mid → rot D s m e k = D (k - s + m) := fun k k1 k2 => by unfold rot; rw [if_pos (by omega)]
  have r3 : ∀ k, mid ≤ k → k < e → rot D s m e k = D (k - mid + s) := fun k k1 k2 => by unfold rot; rw [if_neg (by omega), if_pos (by omega)]; congr 1; omega
  have r4 : ∀ k, e ≤ k → k < b → rot D s m e k = D k := fun k k1 k2 => by unfold rot; rw [if_neg (by omega), if_neg (by omega)]
  refine ⟨?_, ?_, ?_, ?_, ?_, ?_, ?_⟩
  · exact (fun i j i1 i2 i3 => by rw [r1 i i1 (by omega), r1 j (by omega) i3]; exact h1 i j i1 i2 (by omega))
  · exact (fun i j i1 i2 i3 => by rw [r2 i i1 (by omega), r2 j (by omega) i3]; exact h2 _ _ (by omega) (by omega) (by omega))
  · exact (fun i j i1 i2 i3 i4 => by rw [r1 i i1 i2, r2 j i3 i4]; exact hl _ _ i1 (by omega) (by omega) (by omega))
  · exact (fun i j i1 i2 i3 => by rw [r3 i i1 (by omega), r3 j (by omega) i3]; exact h1 _ _ (by omega) (by omega) (by omega))
  · exact (fun i j i1 i2 i3 => by rw [r4 i i1 (by omega), r4 j (by omega) i3]; exact h2 i j (by omega) i2 i3)
  · exact (fun i j i1 i2 i3 i4 => by rw [r3 i i1 i2, r4 j i3 i4]; exact hl _ _ (by omega) (by omega) (by omega) i4)
  · intro i j i1 i2 i3 i4
    -- the two crossings
    have low : ∀ c k, a ≤ c → c < s → e ≤ k → k < b → Prec cf (D c) (D k) := by
      intro c k c1 c2 k1 k2
      have hlow := h.low
      have hne : ¬ cf (D e) (D (s - 1)) < 0 := by
        rcases hlow with h | h | h
        · omega
        · omega
        · exact h
      have p0 : Prec cf (D (s - 1)) (D e) := by
        have q1 := hc.anti (D e) (D (s - 1))
        have q2 := hl (s - 1) e (by omega) (by omega) (by omega) (by omega)
        unfold Prec; omega
      have p1 : Prec cf (D c) (D e) := by
        by_cases ec : c = s - 1
        · subst ec; exact p0
        · exact (h1 c (s - 1) c1 (by omega) (by omega)).trans hc p0
      by_cases ek : k = e
      · subst ek; exact p1
      · exact p1.trans hc (h2 e k (by omega) (by omega) k2)
    have high : ∀ k c, m ≤ k → k < e → s ≤ c → c < m → Prec cf (D k) (D c) := by
      intro k c k1 k2 c1 c2
      have hhigh := h.high
      have hlt : cf (D (e - 1)) (D s) < 0 := by
        rcases hhigh with h | h | h
        · omega
        · omega
        · exact h
      have p0 : Prec cf (D (e - 1)) (D s) := Or.inl hlt
      have p1 : Prec cf (D k) (D s) := by
        by_cases ek : k = e - 1
        · subst ek; exact p0
        · exact (h2 k (e - 1) k1 (by omega) (by omega)).trans hc p0
      by_cases ec : c = s
      · subst ec; exact p1
      · exact p1.trans hc (h1 s c (by omega) (by omega) c2)
    by_cases ei : i < s
    · rw [r1 i i1 ei]
      by_cases ej : j < e
      · rw [r3 j i3 ej]; exact h1 _ _ i1 (by omega) (by omega)
      · rw [r4 j (by omega) i4]; exact low i j i1 ei (by omega) i4
    · rw [r2 i (by omega) i2]
      by_cases ej : j < e
      · rw [r3 j i3 ej]; exact high _ _ (by omega) (by omega) (by omega) (by omega)
      · rw [r4 j (by omega) i4]; exact h2 _ _ (by omega) (by omega) i4

/-- A half of which one stretch is empty is in order. -/
theorem half_done {cf : Nat → Nat → Int} {a s m : Nat} {F : Nat → Nat} (h1 : Chain cf a s F) (h2 : Chain cf s m F) (he : ¬ (a < s ∧ s < m)) : Chain cf a m F := by
  intro i j i1 i2 i3
  by_cases e : a < s
  · exact h1 i j i1 i2 (by omega)
  · exact h2 i j (by omega) i2 i3

/-- The two halves merged: all is in order. -/
theorem Halves.done {cf : Nat → Nat → Int} {a b mid s e : Nat} {F E1 E2 : Nat → Nat} (h : Halves cf a b mid s e F) (p1 : PermW a mid F E1) (k1 : Chain cf a mid E1) (p2 : PermW mid b E1 E2) (k2 : Chain cf mid b E2) : Chain cf a b E2 := by
  have h1 := h.ahead.perm (Or.inl p1)
  have h2 := h1.perm (Or.inr p2)
  exact h2.chain (k1.congr fun k _ hk => p2.out k (Or.inl hk)) k2

end Go.Proofs.Ytmkkkddadpcmeaa
