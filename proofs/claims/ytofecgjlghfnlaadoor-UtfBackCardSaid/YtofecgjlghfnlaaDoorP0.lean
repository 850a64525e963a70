/-
  A rune's bytes, plain: they are decoded as it was. No conditions.
-/
import Derived.Test.YtofecgjlghfnlaaDoorE6
namespace Go.Proofs.YtofecgjlghfnlaaDoor
open Go.RowKit

/-- Is there such a rune? -/
def isR (r : Int) : Prop := 0 ≤ r ∧ r ≤ 1114111 ∧ ¬ (55296 ≤ r ∧ r ≤ 57343)
instance (r : Int) : Decidable (isR r) := by unfold isR; exact inferInstance

def formL (v : Nat) : List Nat :=
  if v < 128 then [v] else if v < 2048 then [192 + v / 64, 128 + v % 64] else if v < 65536 then [224 + v / 4096, 128 + v / 64 % 64, 128 + v % 64]
  else [240 + v / 262144, 128 + v / 4096 % 64, 128 + v / 64 % 64, 128 + v % 64]

def putL (r : Int) : List Nat := if isR r then formL r.toNat else [239, 191, 189]
def repR (r : Int) : Nat := if isR r then r.toNat else 65533

theorem sec_of {c d : Nat} (h1 : 128 ≤ d) (h2 : d ≤ 191) (h3 : c = 224 → 160 ≤ d) (h4 : c = 240 → 144 ≤ d) (h5 : c = 237 → d ≤ 159) (h6 : c = 244 → d ≤ 143) : second c d = true := by
  unfold second
  rw [Bool.and_eq_true, decide_eq_true_eq, decide_eq_true_eq]
  refine ⟨?_, ?_⟩
  · split
    · exact h3 ‹_›
    · split
      · exact h4 ‹_›
      · exact h1
  · split
    · exact h5 ‹_›
    · split
      · exact h6 ‹_›
      · exact h2

/-- A whole form is one rune, and then nothing waits. -/
theorem whole_form {q : List Nat} (h : beg q = true) (hl : q.length = long (q.headD 0)) : runes q = [valF q] ∧ waitsOf q = 0 := by
  have hne := beg_ne h
  obtain ⟨h1, h2⟩ := at_pending (p := q) (r := []) h (by simp)
  rw [List.append_nil] at h1 h2
  have hv := formV_val (r := []) h hl
  rw [List.append_nil] at hv
  refine ⟨?_, ?_⟩
  · rw [runes_at hne, h1, h2, hv, List.drop_length, runes_nil]
  · rw [waits_on hne (fun hh => by omega), h1, List.drop_length]
    rfl

theorem runes_form (v : Nat) (h : v ≤ 1114111) (hs : ¬ (55296 ≤ v ∧ v ≤ 57343)) : runes (formL v) = [v] ∧ waitsOf (formL v) = 0 := by
  unfold formL
  by_cases h1 : v < 128
  · rw [if_pos h1]
    have e := feedP_nil v
    rw [if_pos h1] at e
    simp [runes, outP, foldP, e, endP, waitsOf]
  · rw [if_neg h1]
    by_cases h2 : v < 2048
    · rw [if_pos h2]
      have hb : beg [192 + v / 64, 128 + v % 64] = true := by
        simp only [beg, Bool.and_eq_true]
        exact ⟨lead_iff.2 ⟨by omega, by omega⟩, sec_of (by omega) (by omega) (by omega) (by omega) (by omega) (by omega)⟩
      have hl : long (192 + v / 64) = 2 := by unfold long; rw [if_neg (by omega), if_neg (by omega)]
      obtain ⟨r1, r2⟩ := whole_form hb (by simp [hl])
      refine ⟨?_, r2⟩
      rw [r1]
      simp [valF, hl]
      omega
    · rw [if_neg h2]
      by_cases h3 : v < 65536
      · rw [if_pos h3]
        have hb : beg [224 + v / 4096, 128 + v / 64 % 64, 128 + v % 64] = true := by
          simp only [beg, Bool.and_eq_true, decide_eq_true_eq]
          exact ⟨⟨⟨lead_iff.2 ⟨by omega, by omega⟩, by omega⟩, sec_of (by omega) (by omega) (by omega) (by omega) (by omega) (by omega)⟩, cont_iff.2 ⟨by omega, by omega⟩⟩
        have hl : long (224 + v / 4096) = 3 := by unfold long; rw [if_neg (by omega), if_pos (by omega)]
        obtain ⟨r1, r2⟩ := whole_form hb (by simp [hl])
        refine ⟨?_, r2⟩
        rw [r1]
        simp [valF, hl]
        omega
      · rw [if_neg h3]
        have hb : beg [240 + v / 262144, 128 + v / 4096 % 64, 128 + v / 64 % 64, 128 + v % 64] = true := by
          simp only [beg, Bool.and_eq_true, decide_eq_true_eq]
          exact ⟨⟨⟨⟨lead_iff.2 ⟨by omega, by omega⟩, by omega⟩, sec_of (by omega) (by omega) (by omega) (by omega) (by omega) (by omega)⟩, cont_iff.2 ⟨by omega, by omega⟩⟩, cont_iff.2 ⟨by omega, by omega⟩⟩
        have hl : long (240 + v / 262144) = 4 := by unfold long; rw [if_pos (by omega)]
        obtain ⟨r1, r2⟩ := whole_form hb (by simp [hl])
        refine ⟨?_, r2⟩
        rw [r1]
        simp [valF, hl]
        omega

theorem runes_put (r : Int) : runes (putL r) = [repR r] ∧ waitsOf (putL r) = 0 := by
  unfold putL repR
  by_cases h : isR r
  · rw [if_pos h, if_pos h]
    obtain ⟨h1, h2, h3⟩ := h
    exact runes_form r.toNat (by omega) (by omega)
  · rw [if_neg h, if_neg h]
    decide +kernel

theorem formL_lt (v : Nat) (h : v ≤ 1114111) : ∀ x ∈ formL v, x < 256 := by
  unfold formL
  intro x hx
  split at hx
  · simp at hx; omega
  · split at hx
    · simp at hx; omega
    · split at hx
      · simp at hx; omega
      · simp at hx; omega

theorem putL_lt (r : Int) : ∀ x ∈ putL r, x < 256 := by
  unfold putL
  split
  · rename_i h
    obtain ⟨h1, h2, _⟩ := h
    exact formL_lt _ (by omega)
  · intro x hx; simp at hx; omega

theorem putL_len (r : Int) : 1 ≤ (putL r).length ∧ (putL r).length ≤ 4 := by
  unfold putL formL
  split
  · split
    · simp
    · split
      · simp
      · split <;> simp
  · simp

def putsL (l : List Int) : List Nat := l.flatMap putL

theorem puts_all : ∀ (l : List Int), runes (putsL l) = l.map repR ∧ waitsOf (putsL l) = 0
  | [] => ⟨rfl, rfl⟩
  | r :: l => by
    obtain ⟨h1, h2⟩ := runes_put r
    obtain ⟨h3, h4⟩ := puts_all l
    have e : putsL (r :: l) = putL r ++ putsL l := rfl
    refine ⟨by rw [e, runes_join h2, h1, h3]; rfl, ?_⟩
    have h2' : foldP [] (putL r) = [] := List.eq_nil_of_length_eq_zero h2
    rw [e]
    unfold waitsOf
    rw [foldP_append, h2']
    exact h4

theorem putsL_len : ∀ (l : List Int), (putsL l).length ≤ 4 * l.length
  | [] => by simp [putsL]
  | r :: l => by
    have := putsL_len l
    have := (putL_len r).2
    have e : putsL (r :: l) = putL r ++ putsL l := rfl
    rw [e, List.length_append, List.length_cons]
    omega

theorem putsL_lt (l : List Int) : ∀ x ∈ putsL l, x < 256 := by
  intro x hx
  obtain ⟨r, _, h⟩ := List.mem_flatMap.1 hx
  exact putL_lt r x h

theorem putsL_snoc (l : List Int) (k : Nat) (h : k < l.length) : putsL (l.take (k + 1)) = putsL (l.take k) ++ putL (l.getD k 0) := by
  unfold putsL
  rw [List.take_succ_eq_append_getElem h, List.flatMap_append, List.getD_eq_getElem?_getD, List.getElem?_eq_getElem h]
  simp

end Go.Proofs.YtofecgjlghfnlaaDoor
