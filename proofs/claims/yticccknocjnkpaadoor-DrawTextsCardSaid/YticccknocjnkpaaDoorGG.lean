/-
  What the table of forms holds, cell by cell; the bounds of a place. No conditions.
  Bytes as runes, plain: a decoder by what waits, and what stands at a place. No conditions.
-/
import Derived.Test.YticccknocjnkpaaDoorG0
import Derived.Test.YticccknocjnkpaaDoorCards
namespace Go.Proofs.YticccknocjnkpaaDoor.Utf
open Go.RowKit

theorem gForms : Tryd.prog.globalNamed "betony/utf.forms" = some 1 := by kernel_rfl
theorem tForms : (Tryd.prog.globals[1]?).map (·.type) = some 104 := by kernel_rfl

/-- The numbers of the table: size and eight bounds of each form. -/
def tabN : List Nat := [1, 0, 127, 0, 0, 0, 0, 0, 0, 2, 194, 223, 128, 191, 0, 0, 0, 0, 3, 224, 224, 160, 191, 128, 191, 0, 0, 3, 225, 236, 128, 191, 128, 191, 0, 0, 3, 237, 237, 128, 159, 128, 191, 0, 0, 3, 238, 239, 128, 191, 128, 191, 0, 0, 4, 240, 240, 144, 191, 128, 191, 128, 191, 4, 241, 243, 128, 191, 128, 191, 128, 191, 4, 244, 244, 128, 143, 128, 191, 128, 191]

def tabV (i : Nat) : Value := if i % 9 = 0 then .int .i64 (tabN.getD i 0 : Nat) else .int .u8 (tabN.getD i 0 : Nat)

/-- The table's cells. -/
def Tbl (w : World) : Prop := ∀ i, i < 81 → w.cell? ⟨1, i, none⟩ = some (tabV i)

theorem flat_forms : flat 5 (Rows.laid_betony_utf_forms (H := Unit)) = (List.range 81).map tabV := by kernel_rfl

theorem laid_vars {w : World} {rest : List (String × DataW Unit)} {ps : List MemPlace} (h : DataW.LaidVars Tryd.prog w (("betony/utf.forms", Rows.laid_betony_utf_forms) :: rest) ps) : ∃ cs, w.var? Tryd.prog "betony/utf.forms" = some cs ∧ cs.toList = (List.range 81).map tabV := by
  obtain ⟨g0, t0, cs0, f0, p0, q0, hg0, ht0, hv0, hd0, _⟩ := h
  obtain rfl := Option.some.inj (gForms.symm.trans hg0)
  obtain rfl := Option.some.inj (tForms.symm.trans ht0)
  refine ⟨cs0, hv0, ?_⟩
  have u5 := flat_any_int (enc := fun _ => ()) (P := Tryd.prog) (w := w) (base := 0) (sp := fun _ => true) (held := false) 0 Tryd.underlying5
  have u3 := flat_any_int (enc := fun _ => ()) (P := Tryd.prog) (w := w) (base := 0) (sp := fun _ => true) (held := false) 2 Tryd.underlying3
  have b48 := flat_any_two Tryd.underlying100 rfl (by kernel_rfl) (by kernel_rfl) u5 u5
  have a49 := flat_any_array Tryd.underlying101 (by kernel_rfl) b48
  have s51 := flat_any_two Tryd.underlying103 rfl (by kernel_rfl) (by kernel_rfl) u3 a49
  have a52 := flat_any_array Tryd.underlying104 (by kernel_rfl) s51
  have := a52 _ _ _ hd0
  rw [this, ← flat_forms]

theorem tbl_of_laid {w : World} {rest : List (String × DataW Unit)} {ps : List MemPlace} (h : DataW.LaidVars Tryd.prog w (("betony/utf.forms", Rows.laid_betony_utf_forms) :: rest) ps) : Tbl w := by
  obtain ⟨cs, hv, hc⟩ := laid_vars h
  intro i hi
  have := World.var?_cell gForms hv i
  rw [this, ← Array.getElem?_toList, hc]
  simp [hi]

end Go.Proofs.YticccknocjnkpaaDoor.Utf

namespace Go.Proofs.YticccknocjnkpaaDoor.Utf
open Go.RowKit

/-- May c begin a form of more than one byte; may d stand second behind c; may d stand further on. -/
def lead (c : Nat) : Bool := decide (194 ≤ c) && decide (c ≤ 244)
def second (c d : Nat) : Bool := decide ((if c = 224 then 160 else if c = 240 then 144 else 128) ≤ d) && decide (d ≤ if c = 237 then 159 else if c = 244 then 143 else 191)
def cont (d : Nat) : Bool := decide (128 ≤ d) && decide (d ≤ 191)
def long (c : Nat) : Nat := if 240 ≤ c then 4 else if 224 ≤ c then 3 else 2

/-- May a form of more than one byte begin so? -/
def beg : List Nat → Bool
  | [c] => lead c
  | [c, d] => lead c && second c d
  | [c, d, e] => lead c && decide (224 ≤ c) && second c d && cont e
  | [c, d, e, f] => lead c && decide (240 ≤ c) && second c d && cont e && cont f
  | _ => false

/-- What bytes bring of the rune. -/
def valF (p : List Nat) : Nat := match p with
  | [] => 0
  | c :: r => r.foldl (fun v d => v * 64 + d % 64) (c % 2 ^ (8 - long c))

/-- A byte behind what waits: what waits then, and the runes. -/
def feedP (p : List Nat) (b : Nat) : List Nat × List Nat :=
  if p ≠ [] ∧ beg (p ++ [b]) = true then (if p.length + 1 < long (p.headD 0) then (p ++ [b], []) else ([], [valF (p ++ [b])]))
  else if b < 128 then ([], (if p = [] then [] else [65533]) ++ [b])
  else if lead b = true then ([b], if p = [] then [] else [65533])
  else ([], (if p = [] then [] else [65533]) ++ [65533])

def endP (p : List Nat) : List Nat := if p = [] then [] else [65533]

/-- Bytes one by one: what waits at the end; the runes told on the way. -/
def foldP : List Nat → List Nat → List Nat
  | p, [] => p
  | p, b :: r => foldP (feedP p b).1 r
def outP : List Nat → List Nat → List Nat
  | _, [] => []
  | p, b :: r => (feedP p b).2 ++ outP (feedP p b).1 r

def runes (l : List Nat) : List Nat := outP [] l ++ endP (foldP [] l)
def waitsOf (l : List Nat) : Nat := (foldP [] l).length

theorem foldP_append : ∀ (p a b : List Nat), foldP p (a ++ b) = foldP (foldP p a) b
  | _, [], _ => rfl
  | p, x :: a, b => foldP_append (feedP p x).1 a b

theorem outP_append : ∀ (p a b : List Nat), outP p (a ++ b) = outP p a ++ outP (foldP p a) b
  | _, [], _ => rfl
  | p, x :: a, b => by
    show (feedP p x).2 ++ outP (feedP p x).1 (a ++ b) = ((feedP p x).2 ++ outP (feedP p x).1 a) ++ _
    rw [outP_append, List.append_assoc]
    rfl

/-- Right: nothing waits, or a form's beginning that isn't whole. -/
def Right (p : List Nat) : Prop := p = [] ∨ (beg p = true ∧ p.length < long (p.headD 0))

theorem right_nil : Right [] := Or.inl rfl

theorem lead_iff {c : Nat} : lead c = true ↔ 194 ≤ c ∧ c ≤ 244 := by simp [lead]
theorem cont_iff {c : Nat} : cont c = true ↔ 128 ≤ c ∧ c ≤ 191 := by simp [cont]

theorem right_one {b : Nat} (h : lead b = true) : Right [b] := by
  refine Or.inr ⟨h, ?_⟩
  show 1 < long b
  unfold long; split <;> (try split) <;> omega

theorem feedP_right (p : List Nat) (b : Nat) : Right (feedP p b).1 := by
  unfold feedP
  split
  · rename_i h
    split
    · refine Or.inr ⟨h.2, ?_⟩
      cases p with
      | nil => exact absurd rfl h.1
      | cons c r => simpa using ‹_›
    · exact right_nil
  · split
    · exact right_nil
    · split
      · exact right_one ‹_›
      · exact right_nil

theorem foldP_right : ∀ (p l : List Nat), Right p → Right (foldP p l)
  | _, [], h => h
  | p, b :: r, _ => foldP_right _ r (feedP_right p b)

theorem feedP_two (p : List Nat) (b : Nat) : (feedP p b).2.length ≤ 2 := by
  unfold feedP
  split
  · split <;> simp
  · split
    · split <;> simp
    · split
      · split <;> simp
      · split <;> simp

theorem right_len {p : List Nat} (h : Right p) : p.length ≤ 3 := by
  rcases h with rfl | ⟨_, h⟩
  · simp
  · unfold long at h
    split at h <;> (try split at h) <;> omega

theorem runes_join {a : List Nat} (h : waitsOf a = 0) (b : List Nat) : runes (a ++ b) = runes a ++ runes b := by
  have h0 : foldP [] a = [] := List.eq_nil_of_length_eq_zero h
  unfold runes
  rw [foldP_append, outP_append, h0]
  simp [endP]

/-! What stands at a place. -/

/-- How far a form goes that begins here. -/
def run (l : List Nat) : Nat :=
  if ¬ (0 < l.length ∧ beg (l.take 1) = true) then 0
  else if ¬ (1 < l.length ∧ beg (l.take 2) = true) then 1
  else if ¬ (2 < l.length ∧ beg (l.take 3) = true) then 2
  else if ¬ (3 < l.length ∧ beg (l.take 4) = true) then 3 else 4

theorem run_of (l : List Nat) (n : Nat) (h4 : n ≤ 4) (h : ∀ m, m < n → m < l.length ∧ beg (l.take (m + 1)) = true) (hs : n = 4 ∨ ¬ (n < l.length ∧ beg (l.take (n + 1)) = true)) : run l = n := by
  unfold run
  have hn : n = 0 ∨ n = 1 ∨ n = 2 ∨ n = 3 ∨ n = 4 := by omega
  rcases hn with rfl | rfl | rfl | rfl | rfl
  · rw [if_pos (by simpa using hs)]
  · rw [if_neg (by simpa using h 0 (by omega)), if_pos (by simpa using hs)]
  · rw [if_neg (by simpa using h 0 (by omega)), if_neg (by simpa using h 1 (by omega)), if_pos (by simpa using hs)]
  · rw [if_neg (by simpa using h 0 (by omega)), if_neg (by simpa using h 1 (by omega)), if_neg (by simpa using h 2 (by omega)), if_pos (by simpa using hs)]
  · rw [if_neg (by simpa using h 0 (by omega)), if_neg (by simpa using h 1 (by omega)), if_neg (by simpa using h 2 (by omega)), if_neg (by simpa using h 3 (by omega))]

theorem run_le (l : List Nat) : run l ≤ 4 ∧ run l ≤ l.length := by
  unfold run
  repeat (split; omega)
  simp only [Decidable.not_not] at *
  omega

/-- What n bytes of a form are. -/
def formV (l : List Nat) (n : Nat) : Nat :=
  if n = 2 ∧ l.getD 0 0 < 224 then l.getD 0 0 % 32 * 64 + l.getD 1 0 % 64
  else if n = 3 ∧ l.getD 0 0 < 240 then l.getD 0 0 % 16 * 4096 + l.getD 1 0 % 64 * 64 + l.getD 2 0 % 64
  else if n = 4 then l.getD 0 0 % 8 * 262144 + l.getD 1 0 % 64 * 4096 + l.getD 2 0 % 64 * 64 + l.getD 3 0 % 64
  else 65533

def atV (l : List Nat) : Nat := if l.getD 0 0 < 128 then l.getD 0 0 else if run l = 0 then 65533 else formV l (run l)
def atN (l : List Nat) : Nat := if l.getD 0 0 < 128 then 1 else if run l = 0 then 1 else run l

theorem atN_le (l : List Nat) (h : l ≠ []) : 1 ≤ atN l ∧ atN l ≤ l.length := by
  have h0 : 0 < l.length := List.length_pos_iff.2 h
  have := run_le l
  unfold atN
  split
  · omega
  · split <;> omega

theorem beg_len : ∀ {l : List Nat}, beg l = true → l.length ≤ long (l.headD 0) ∧ 194 ≤ l.headD 0 ∧ l.headD 0 ≤ 244 ∧ 0 < l.length
  | [c], h => by
    have := lead_iff.1 h
    simp [long]
    split <;> (try split) <;> omega
  | [c, d], h => by
    simp only [beg, Bool.and_eq_true] at h
    have := lead_iff.1 h.1
    simp [long]
    split <;> (try split) <;> omega
  | [c, d, e], h => by
    simp only [beg, Bool.and_eq_true, decide_eq_true_eq] at h
    have := lead_iff.1 h.1.1.1
    have := h.1.1.2
    simp [long]
    split <;> (try split) <;> omega
  | [c, d, e, f], h => by
    simp only [beg, Bool.and_eq_true, decide_eq_true_eq] at h
    have := lead_iff.1 h.1.1.1.1
    have := h.1.1.1.2
    simp [long]
    split <;> (try split) <;> omega
  | [], h => by simp [beg] at h
  | _ :: _ :: _ :: _ :: _ :: _, h => by simp [beg] at h

/-- A beginning's beginning is one. -/
theorem beg_take : ∀ {l : List Nat}, beg l = true → ∀ m, m < l.length → beg (l.take (m + 1)) = true
  | [c], h, m, hm => by
    obtain rfl : m = 0 := by simp at hm; omega
    exact h
  | [c, d], h, m, hm => by
    have hm' : m = 0 ∨ m = 1 := by simp at hm; omega
    simp only [beg, Bool.and_eq_true] at h
    rcases hm' with rfl | rfl <;> simp [beg, h]
  | [c, d, e], h, m, hm => by
    have hm' : m = 0 ∨ m = 1 ∨ m = 2 := by simp at hm; omega
    simp only [beg, Bool.and_eq_true] at h
    rcases hm' with rfl | rfl | rfl <;> simp [beg, h]
  | [c, d, e, f], h, m, hm => by
    have hm' : m = 0 ∨ m = 1 ∨ m = 2 ∨ m = 3 := by simp at hm; omega
    simp only [beg, Bool.and_eq_true, decide_eq_true_eq] at h
    have := h.1.1.1.2
    rcases hm' with rfl | rfl | rfl | rfl <;> simp [beg, h] <;> omega
  | [], h, _, _ => by simp [beg] at h
  | _ :: _ :: _ :: _ :: _ :: _, h, _, _ => by simp [beg] at h

theorem run_all {p r : List Nat} (h : beg p = true) (hs : ∀ b, r.head? = some b → beg (p ++ [b]) = false) : run (p ++ r) = p.length := by
  have hb := beg_len h
  have hl : p.length ≤ 4 := by
    have : long (p.headD 0) ≤ 4 := by unfold long; split <;> (try split) <;> omega
    omega
  refine run_of _ _ hl (fun m hm => ⟨by simp; omega, ?_⟩) ?_
  · rw [List.take_append_of_le_length (by omega)]
    exact beg_take h m hm
  · by_cases h4 : p.length = 4
    · exact Or.inl h4
    · refine Or.inr ?_
      cases r with
      | nil => simp
      | cons b r =>
        intro hc
        have := hs b rfl
        rw [List.take_append, List.take_of_length_le (by omega), show p.length + 1 - p.length = 1 by omega] at hc
        simp [this] at hc

theorem long_bd (c : Nat) : 2 ≤ long c ∧ long c ≤ 4 := by unfold long; split <;> (try split) <;> omega

/-- A whole form's rune. -/
theorem formV_val : ∀ {q r : List Nat}, beg q = true → q.length = long (q.headD 0) → formV (q ++ r) q.length = valF q
  | [c], r, h, hl => by have := long_bd c; simp at hl; omega
  | [c, d], r, h, hl => by
    have hc : long c = 2 := by simpa using hl.symm
    have h1 := lead_iff.1 (show lead c = true by simp only [beg, Bool.and_eq_true] at h; exact h.1)
    have h2 : c < 224 := by unfold long at hc; split at hc <;> (try split at hc) <;> omega
    simp [formV, valF, hc, h2]
    omega
  | [c, d, e], r, h, hl => by
    have hc : long c = 3 := by simpa using hl.symm
    have h1 := lead_iff.1 (show lead c = true by simp only [beg, Bool.and_eq_true] at h; exact h.1.1.1)
    have h2 : 224 ≤ c ∧ c < 240 := by unfold long at hc; split at hc <;> (try split at hc) <;> omega
    simp [formV, valF, hc, h2]
    omega
  | [c, d, e, f], r, h, hl => by
    have hc : long c = 4 := by simpa using hl.symm
    have h1 := lead_iff.1 (show lead c = true by simp only [beg, Bool.and_eq_true] at h; exact h.1.1.1.1)
    have h2 : 240 ≤ c := by unfold long at hc; split at hc <;> (try split at hc) <;> omega
    simp [formV, valF, hc]
    omega
  | [], r, h, hl => by simp [beg] at h
  | _ :: _ :: _ :: _ :: _ :: _, r, h, hl => by simp [beg] at h

theorem formV_bad (l : List Nat) (n : Nat) (h : n < long (l.getD 0 0)) : formV l n = 65533 := by
  have h2 : n = 2 → ¬ l.getD 0 0 < 224 := fun e hc => by unfold long at h; rw [if_neg (by omega), if_neg (by omega)] at h; omega
  have h3 : n = 3 → ¬ l.getD 0 0 < 240 := fun e hc => by unfold long at h; rw [if_neg (by omega)] at h; split at h <;> omega
  have := (long_bd (l.getD 0 0)).2
  unfold formV
  rw [if_neg (fun c => h2 c.1 c.2), if_neg (fun c => h3 c.1 c.2), if_neg (by omega)]

theorem feedP_fail {p : List Nat} {b : Nat} (hp : p ≠ []) (h : beg (p ++ [b]) = false) : feedP p b = ((feedP [] b).1, 65533 :: (feedP [] b).2) := by
  have e : feedP p b = if b < 128 then ([], (if p = [] then [] else [65533]) ++ [b])
      else if lead b = true then ([b], if p = [] then [] else [65533]) else ([], (if p = [] then [] else [65533]) ++ [65533]) := by
    unfold feedP; rw [if_neg (by rw [h]; simp)]
  have e0 : feedP [] b = if b < 128 then ([], [b]) else if lead b = true then ([b], []) else ([], [65533]) := by
    unfold feedP; rw [if_neg (by simp)]; simp
  rw [e, e0]
  simp only [if_neg hp]
  split
  · rfl
  · split <;> rfl

theorem beg_ne {p : List Nat} (h : beg p = true) : p ≠ [] := by rintro rfl; simp [beg] at h

theorem getD_head (p r : List Nat) (h : p ≠ []) : (p ++ r).getD 0 0 = p.headD 0 := by
  cases p with
  | nil => exact absurd rfl h
  | cons c t => rfl

theorem at_pending {p r : List Nat} (hb : beg p = true) (hs : ∀ b, r.head? = some b → beg (p ++ [b]) = false) : atN (p ++ r) = p.length ∧ atV (p ++ r) = formV (p ++ r) p.length := by
  have hr := run_all hb hs
  have h1 := beg_len hb
  have hne := beg_ne hb
  unfold atN atV
  rw [getD_head p r hne, if_neg (by omega), if_neg (by omega), hr, if_neg (by omega), if_neg (by omega)]
  exact ⟨rfl, rfl⟩

theorem beg_stop {p : List Nat} {b : Nat} (hl : long (p.headD 0) ≤ p.length) (hp : p ≠ []) : beg (p ++ [b]) = false := by
  cases h : beg (p ++ [b]) with
  | false => rfl
  | true =>
    have := (beg_len h).1
    have e : (p ++ [b]).headD 0 = p.headD 0 := by cases p with | nil => exact absurd rfl hp | cons c t => rfl
    rw [e, List.length_append] at this
    simp only [List.length_cons, List.length_nil] at this
    omega

theorem headD_snoc {p : List Nat} (hp : p ≠ []) (b : Nat) : (p ++ [b]).headD 0 = p.headD 0 := by cases p with | nil => exact absurd rfl hp | cons c t => rfl

/-- What begins with a form that waits: the rune at its place, and those behind it. -/
theorem pend_at : ∀ (r p : List Nat), beg p = true → p.length < long (p.headD 0) →
    outP p r ++ endP (foldP p r) = atV (p ++ r) :: runes ((p ++ r).drop (atN (p ++ r)))
  | [], p, hb, hl => by
    have hne := beg_ne hb
    obtain ⟨h1, h2⟩ := at_pending (r := []) hb (by simp)
    rw [h1, h2, formV_bad _ _ (by rw [getD_head p [] hne]; exact hl)]
    simp [outP, foldP, endP, hne, runes]
  | b :: r, p, hb, hl => by
    have hne := beg_ne hb
    by_cases hg : beg (p ++ [b]) = true
    · have hf : feedP p b = if p.length + 1 < long (p.headD 0) then (p ++ [b], []) else ([], [valF (p ++ [b])]) := by unfold feedP; rw [if_pos ⟨hne, hg⟩]
      by_cases hlt : p.length + 1 < long (p.headD 0)
      · rw [if_pos hlt] at hf
        have ih := pend_at r (p ++ [b]) hg (by rw [headD_snoc hne, List.length_append]; exact hlt)
        rw [List.append_assoc] at ih
        simp only [outP, foldP, hf]
        simpa using ih
      · rw [if_neg hlt] at hf
        have hfull : long ((p ++ [b]).headD 0) ≤ (p ++ [b]).length := by rw [headD_snoc hne, List.length_append]; simp only [List.length_cons, List.length_nil]; omega
        have hlen := (beg_len hg).1
        obtain ⟨h1, h2⟩ := at_pending (p := p ++ [b]) (r := r) hg (fun x _ => beg_stop hfull (by simp))
        rw [show p ++ b :: r = (p ++ [b]) ++ r by simp, h1, h2, formV_val hg (by omega), List.drop_left]
        simp only [outP, foldP, hf]
        simp [runes]
    · have hg' : beg (p ++ [b]) = false := by simpa using hg
      obtain ⟨h1, h2⟩ := at_pending (p := p) (r := b :: r) hb (fun x hx => by simp at hx; subst hx; exact hg')
      rw [h1, h2, formV_bad _ _ (by rw [getD_head p _ hne]; exact hl), List.drop_left]
      simp only [outP, foldP, feedP_fail hne hg', runes]
      simp

theorem feedP_nil (b : Nat) : feedP [] b = if b < 128 then ([], [b]) else if lead b = true then ([b], []) else ([], [65533]) := by
  unfold feedP; rw [if_neg (by simp)]; simp

/-- The rune at the beginning, and those behind it. -/
theorem runes_at {l : List Nat} (h : l ≠ []) : runes l = atV l :: runes (l.drop (atN l)) := by
  cases l with
  | nil => exact absurd rfl h
  | cons b r =>
    have e := feedP_nil b
    by_cases h1 : b < 128
    · rw [if_pos h1] at e
      simp [runes, outP, foldP, e, atV, atN, h1]
    · by_cases h2 : lead b = true
      · rw [if_neg h1, if_pos h2] at e
        have := pend_at r [b] h2 (by have := (long_bd b).1; show 1 < long b; omega)
        rw [show b :: r = [b] ++ r from rfl, ← this]
        simp [runes, outP, foldP, e]
      · rw [if_neg h1, if_neg h2] at e
        have hr : run (b :: r) = 0 := by unfold run; rw [if_pos (by simpa [beg] using h2)]
        simp [runes, outP, foldP, e, atV, atN, h1, hr]

theorem runes_nil : runes [] = [] := rfl

theorem pend_waits : ∀ (r p : List Nat), beg p = true → p.length < long (p.headD 0) →
    (beg (p ++ r) = true ∧ (p ++ r).length < long (p.headD 0) → foldP p r = p ++ r) ∧
    (¬ (beg (p ++ r) = true ∧ (p ++ r).length < long (p.headD 0)) → foldP p r = foldP [] ((p ++ r).drop (atN (p ++ r))))
  | [], p, hb, hl => by
    refine ⟨fun _ => by simp [foldP], fun h => absurd ⟨by simpa using hb, by simpa using hl⟩ h⟩
  | b :: r, p, hb, hl => by
    have hne := beg_ne hb
    by_cases hg : beg (p ++ [b]) = true
    · have hf : feedP p b = if p.length + 1 < long (p.headD 0) then (p ++ [b], []) else ([], [valF (p ++ [b])]) := by unfold feedP; rw [if_pos ⟨hne, hg⟩]
      by_cases hlt : p.length + 1 < long (p.headD 0)
      · rw [if_pos hlt] at hf
        have ih := pend_waits r (p ++ [b]) hg (by rw [headD_snoc hne, List.length_append]; exact hlt)
        rw [headD_snoc hne, List.append_assoc] at ih
        simp only [foldP, hf]
        exact ih
      · rw [if_neg hlt] at hf
        have hfull : long ((p ++ [b]).headD 0) ≤ (p ++ [b]).length := by rw [headD_snoc hne, List.length_append]; simp only [List.length_cons, List.length_nil]; omega
        obtain ⟨h1, _⟩ := at_pending (p := p ++ [b]) (r := r) hg (fun x _ => beg_stop hfull (by simp))
        refine ⟨fun h => ?_, fun _ => ?_⟩
        · have := h.2
          rw [List.length_append, List.length_cons] at this
          omega
        · rw [show p ++ b :: r = (p ++ [b]) ++ r by simp, h1, List.drop_left]
          simp only [foldP, hf]
    · have hg' : beg (p ++ [b]) = false := by simpa using hg
      obtain ⟨h1, _⟩ := at_pending (p := p) (r := b :: r) hb (fun x hx => by simp at hx; subst hx; exact hg')
      refine ⟨fun h => ?_, fun _ => ?_⟩
      · have := beg_take h.1 p.length (by simp)
        rw [List.take_append, List.take_of_length_le (by omega), show p.length + 1 - p.length = 1 by omega] at this
        simp [hg'] at this
      · rw [h1, List.drop_left]
        simp only [foldP, feedP_fail hne hg']

/-- How many wait, from the place on. -/
theorem waits_here {l : List Nat} (h : l ≠ []) (hb : beg l = true) (hl : l.length < long (l.headD 0)) : waitsOf l = l.length ∧ atN l = l.length ∧ atV l = 65533 := by
  obtain ⟨h1, h2⟩ := at_pending (p := l) (r := []) hb (by simp)
  rw [List.append_nil] at h1 h2
  refine ⟨?_, h1, by rw [h2, formV_bad _ _ (by have := getD_head l [] h; rw [List.append_nil] at this; rw [this]; exact hl)]⟩
  cases l with
  | nil => exact absurd rfl h
  | cons b r =>
    have h128 := (beg_len hb).2.1
    have hlead : lead b = true := by simpa [beg] using beg_take hb 0 (by simp)
    have e := feedP_nil b
    rw [if_neg (by simp at h128; omega), if_pos hlead] at e
    have := (pend_waits r [b] hlead (by have := (long_bd b).1; show 1 < long b; omega)).1 ⟨hb, hl⟩
    unfold waitsOf
    simp only [foldP, e, this]
    rfl

theorem waits_on {l : List Nat} (h : l ≠ []) (hn : ¬ (beg l = true ∧ l.length < long (l.headD 0))) : waitsOf l = waitsOf (l.drop (atN l)) := by
  unfold waitsOf
  congr 1
  cases l with
  | nil => exact absurd rfl h
  | cons b r =>
    have e := feedP_nil b
    by_cases h1 : b < 128
    · rw [if_pos h1] at e
      simp [foldP, e, atN, h1]
    · by_cases h2 : lead b = true
      · rw [if_neg h1, if_pos h2] at e
        have := (pend_waits r [b] h2 (by have := (long_bd b).1; show 1 < long b; omega)).2 hn
        rw [show b :: r = [b] ++ r from rfl, ← this]
        simp [foldP, e]
      · rw [if_neg h1, if_neg h2] at e
        have hr : run (b :: r) = 0 := by unfold run; rw [if_pos (by simpa [beg] using h2)]
        simp [foldP, e, atN, h1, hr]

end Go.Proofs.YticccknocjnkpaaDoor.Utf
