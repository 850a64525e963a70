/-
  Timers in their order: plain. No conditions.
-/
import Derived.Test.YtihciknbmhadjaaC0
namespace Go.Proofs.Ytihciknbmhadjaa
open Go.RowKit

/-- Is a timer ahead of another one? -/
def ahB (a b : Tm) : Bool := if a.du = b.du then (if a.en = b.en then decide (a.nr < b.nr) else decide (a.en < b.en)) else decide (a.du < b.du)

theorem ahB_iff (a b : Tm) : ahB a b = true ↔ a.du < b.du ∨ (a.du = b.du ∧ (a.en < b.en ∨ (a.en = b.en ∧ a.nr < b.nr))) := by
  unfold ahB
  split
  · split
    · simp only [decide_eq_true_eq]; omega
    · simp only [decide_eq_true_eq]; omega
  · simp only [decide_eq_true_eq]; omega

theorem ah_false (a b : Tm) : ahB a b = false ↔ ¬ ahB a b = true := by simp

theorem Tm.ext {a b : Tm} (h0 : a.en = b.en) (h1 : a.nr = b.nr) (h2 : a.du = b.du) : a = b := by
  obtain ⟨a0, a1, a2⟩ := a
  obtain ⟨b0, b1, b2⟩ := b
  simp only at h0 h1 h2
  rw [h0, h1, h2]

theorem ah_trans {a b c : Tm} (h : ahB a b = true) (k : ahB b c = true) : ahB a c = true := by
  rw [ahB_iff] at *
  omega

theorem ah_asymm {a b : Tm} (h : ahB a b = true) : ahB b a = false := by
  rw [ah_false]
  rw [ahB_iff] at *
  omega

theorem ah_total {a b : Tm} (h : ahB a b = false) (hn : a ≠ b) : ahB b a = true := by
  rw [ah_false] at h
  rw [ahB_iff] at *
  by_cases h0 : a.du = b.du
  · by_cases h1 : a.en = b.en
    · by_cases h2 : a.nr = b.nr
      · exact absurd (Tm.ext h1 h2 h0) hn
      · omega
    · omega
  · omega

/-- Two numbers, compared. -/
def cI (x y : Int) : Int := if x < y then -1 else if y < x then 1 else 0

/-- The first of three that isn't 0. -/
def orI (x y z : Int) : Int := if x = 0 then (if y = 0 then z else y) else x

/-- Two timers, compared. -/
def cT (a b : Tm) : Int := orI (cI a.du b.du) (cI a.en b.en) (cI a.nr b.nr)

theorem cI_cases (x y : Int) : (x < y ∧ cI x y = -1) ∨ (x = y ∧ cI x y = 0) ∨ (y < x ∧ cI x y = 1) := by
  unfold cI
  by_cases h : x < y
  · left; rw [if_pos h]; exact ⟨h, rfl⟩
  · rw [if_neg h]
    by_cases k : y < x
    · right; right; rw [if_pos k]; exact ⟨k, rfl⟩
    · right; left; rw [if_neg k]; exact ⟨by omega, rfl⟩

theorem cT_neg (a b : Tm) : decide (cT a b < 0) = ahB a b := by
  have h0 := cI_cases a.du b.du
  have h1 := cI_cases a.en b.en
  have h2 := cI_cases a.nr b.nr
  have hx : cT a b < 0 ↔ ahB a b = true := by
    rw [ahB_iff]
    unfold cT orI
    split
    · split
      · omega
      · omega
    · omega
  by_cases h : ahB a b = true
  · rw [h]; exact decide_eq_true (hx.2 h)
  · rw [(ah_false a b).2 h]; exact decide_eq_false (fun e => h (hx.1 e))

/-- Timers stand in their order. -/
def Srt (L : List Tm) : Prop := L.Pairwise (fun a b => ahB a b = true)

/-- Timers in their order, with one more. -/
def insT (t : Tm) (L : List Tm) : List Tm := L.takeWhile (fun a => !ahB t a) ++ t :: L.dropWhile (fun a => !ahB t a)

theorem insT_mem {t x : Tm} {L : List Tm} : x ∈ insT t L ↔ x = t ∨ x ∈ L := by
  unfold insT
  have h : x ∈ L ↔ x ∈ L.takeWhile (fun a => !ahB t a) ∨ x ∈ L.dropWhile (fun a => !ahB t a) := by
    rw [← List.mem_append, List.takeWhile_append_dropWhile]
  rw [List.mem_append, List.mem_cons, h]
  constructor
  · rintro (h | h | h)
    · exact .inr (.inl h)
    · exact .inl h
    · exact .inr (.inr h)
  · rintro (h | h | h)
    · exact .inr (.inl h)
    · exact .inl h
    · exact .inr (.inr h)

theorem insT_len (t : Tm) (L : List Tm) : (insT t L).length = L.length + 1 := by
  unfold insT
  have h := congrArg List.length (List.takeWhile_append_dropWhile (p := fun a => !ahB t a) (l := L))
  rw [List.length_append] at h
  rw [List.length_append, List.length_cons]
  omega

theorem mem_takeWhile {p : Tm → Bool} : ∀ {L : List Tm} {x : Tm}, x ∈ L.takeWhile p → p x = true ∧ x ∈ L
  | [], x, h => by simp at h
  | a :: L, x, h => by
    rw [List.takeWhile_cons] at h
    split at h
    · rename_i hp
      rcases List.mem_cons.1 h with e | h
      · exact ⟨e ▸ hp, by rw [e]; exact List.mem_cons_self⟩
      · exact ⟨(mem_takeWhile h).1, List.mem_cons_of_mem _ (mem_takeWhile h).2⟩
    · simp at h

theorem drop_head {p : Tm → Bool} : ∀ {L : List Tm} {x : Tm} {R : List Tm}, L.dropWhile p = x :: R → p x = false
  | [], x, R, h => by simp at h
  | a :: L, x, R, h => by
    rw [List.dropWhile_cons] at h
    split at h
    · exact drop_head h
    · rename_i hp
      cases h
      simpa using hp

theorem Srt.ins {t : Tm} {L : List Tm} (h : Srt L) (hn : ∀ a ∈ L, a ≠ t) : Srt (insT t L) := by
  unfold Srt insT
  have e := List.takeWhile_append_dropWhile (p := fun a => !ahB t a) (l := L)
  have h0 := h
  unfold Srt at h0
  rw [← e, List.pairwise_append] at h0
  obtain ⟨h1, h2, h3⟩ := h0
  rw [List.pairwise_append]
  have hb : ∀ x ∈ L.dropWhile (fun a => !ahB t a), ahB t x = true := by
    intro x hx
    cases hd : L.dropWhile (fun a => !ahB t a) with
    | nil => rw [hd] at hx; simp at hx
    | cons y R =>
      have hy := drop_head hd
      simp only [Bool.not_eq_false'] at hy
      rw [hd] at hx h2
      rcases List.mem_cons.1 hx with rfl | hx
      · exact hy
      · exact ah_trans hy ((List.pairwise_cons.1 h2).1 x hx)
  refine ⟨h1, List.pairwise_cons.2 ⟨hb, h2⟩, fun a ha b hb' => ?_⟩
  rcases List.mem_cons.1 hb' with rfl | hb'
  · have hm := mem_takeWhile ha
    exact ah_total (by simpa using hm.1) (fun e => hn a hm.2 e.symm)
  · exact h3 a ha b hb'

theorem Srt.filter {L : List Tm} (h : Srt L) (p : Tm → Bool) : Srt (L.filter p) := List.Pairwise.filter p h

theorem Srt.drop {L : List Tm} (h : Srt L) (n : Nat) : Srt (L.drop n) := List.Pairwise.sublist (List.drop_sublist n L) h

theorem takeWhile_at {p : Tm → Bool} : ∀ {L : List Tm} {i : Nat}, i ≤ L.length → (∀ k a, k < i → L[k]? = some a → p a = true) → (∀ a, L[i]? = some a → p a = false) → L.takeWhile p = L.take i ∧ L.dropWhile p = L.drop i
  | [], i, _, _, _ => by simp
  | a :: L, 0, _, _, h => by
    have := h a rfl
    rw [List.takeWhile_cons, List.dropWhile_cons, this]
    exact ⟨rfl, rfl⟩
  | a :: L, i + 1, hi, h1, h2 => by
    have h0 := h1 0 a (by omega) rfl
    have ih := takeWhile_at (p := p) (L := L) (i := i) (by simpa using hi) (fun k b hk hb => h1 (k + 1) b (by omega) (by simpa using hb)) (fun b hb => h2 b (by simpa using hb))
    rw [List.takeWhile_cons, List.dropWhile_cons, h0, List.take_succ_cons, List.drop_succ_cons]
    exact ⟨by rw [if_pos rfl, ih.1], by rw [if_pos rfl, ih.2]⟩

/-- Where the search ends one comes among them. -/
theorem ins_at {t : Tm} {L : List Tm} {i : Nat} (hi : i ≤ L.length) (h1 : ∀ k a, k < i → L[k]? = some a → ahB a t = true) (h2 : ∀ k a, i ≤ k → L[k]? = some a → ahB a t = false) (hn : ∀ a ∈ L, a ≠ t) : L.take i ++ t :: L.drop i = insT t L := by
  obtain ⟨e1, e2⟩ := takeWhile_at (p := fun a => !ahB t a) hi (fun k a hk ha => by simp only [Bool.not_eq_true']; exact ah_asymm (h1 k a hk ha)) (fun a ha => by
    simp only [Bool.not_eq_false']
    exact ah_total (h2 i a (Nat.le_refl _) ha) (hn a (List.mem_of_getElem? ha)))
  unfold insT
  rw [e1, e2]

/-- Is it the timer of an environment and a number? -/
def isB (e k : Int) (t : Tm) : Bool := t.en == e && t.nr == k

/-- Is it a timer of an environment? -/
def ofB (e : Int) (t : Tm) : Bool := t.en == e

/-- Timers without some. -/
def outL (p : Tm → Bool) (L : List Tm) : List Tm := L.filter (fun t => !p t)

theorem outL_len (p : Tm → Bool) (L : List Tm) : (outL p L).length ≤ L.length := List.length_filter_le _ _

theorem outL_ne {e k d : Int} {L : List Tm} : ∀ a ∈ outL (isB e k) L, a ≠ ⟨e, k, d⟩ := by
  intro a ha h
  have h1 := (List.mem_filter.1 ha).2
  subst h
  simp [isB] at h1

theorem Srt.out {L : List Tm} (h : Srt L) (p : Tm → Bool) : Srt (outL p L) := h.filter _

/-- How many are due. -/
def dueN (now : Int) : List Tm → Nat
  | [] => 0
  | a :: L => if a.du ≤ now then dueN now L + 1 else 0

theorem dueN_le (now : Int) : ∀ L : List Tm, dueN now L ≤ L.length
  | [] => Nat.le_refl _
  | a :: L => by
    unfold dueN
    have := dueN_le now L
    split
    · rw [List.length_cons]; omega
    · omega

theorem dueN_lt {now : Int} : ∀ {L : List Tm} {k : Nat} {a : Tm}, k < dueN now L → L[k]? = some a → a.du ≤ now
  | [], k, a, h, _ => by unfold dueN at h; omega
  | b :: L, 0, a, h, ha => by
    unfold dueN at h
    split at h
    · rename_i hb
      cases ha
      exact hb
    · omega
  | b :: L, k + 1, a, h, ha => by
    unfold dueN at h
    split at h
    · exact dueN_lt (now := now) (L := L) (k := k) (by omega) (by simpa using ha)
    · omega

theorem dueN_at {now : Int} : ∀ {L : List Tm} {a : Tm}, L[dueN now L]? = some a → now < a.du
  | [], a, h => by simp at h
  | b :: L, a, h => by
    unfold dueN at h
    split at h
    · exact dueN_at (L := L) (by simpa using h)
    · rename_i hb
      have : b = a := by simpa using h
      subst this
      omega

/-- In their order those that are due come first. -/
theorem due_rest {now : Int} {L : List Tm} (h : Srt L) : ∀ a ∈ L.drop (dueN now L), now < a.du := by
  intro a ha
  cases hd : L.drop (dueN now L) with
  | nil => rw [hd] at ha; simp at ha
  | cons b R =>
    have hb : L[dueN now L]? = some b := by
      have := congrArg (fun l => l[0]?) hd
      simpa using this
    have h0 := dueN_at hb
    have h1 := h.drop (dueN now L)
    unfold Srt at h1
    rw [hd] at ha h1
    rcases List.mem_cons.1 ha with rfl | ha
    · exact h0
    · have := (ahB_iff _ _).1 ((List.pairwise_cons.1 h1).1 a ha)
      omega

theorem due_first {now : Int} {L : List Tm} : ∀ a ∈ L.take (dueN now L), a.du ≤ now := by
  intro a ha
  obtain ⟨k, hk⟩ := List.getElem?_of_mem ha
  rw [List.getElem?_take] at hk
  split at hk
  · rename_i h
    exact dueN_lt h hk
  · cases hk

end Go.Proofs.Ytihciknbmhadjaa
