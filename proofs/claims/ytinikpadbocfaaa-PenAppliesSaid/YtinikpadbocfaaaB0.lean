/-
  Pens and parameters, plain: what one parameter does, what parameters do, a pen's parameters. No conditions.
-/
import Derived.Test.YtinikpadbocfaaaA1
import Derived.Laws.BitsLemmas
namespace Go.Proofs.Ytinikpadbocfaaa
open Go.RowKit

/-- A number of 64 bits. -/
def W64 (x : Int) : Prop := -9223372036854775808 ≤ x ∧ x ≤ 9223372036854775807

theorem bits_w64 (op : BinOp) (x y : Int) : W64 (bits op .i64 x y) := by
  unfold bits W64
  simp only [IntKind.wrap_i64]
  omega

theorem or_zero {x : Int} (h : W64 x) : bits .or .i64 x 0 = x := by
  have e : BitVec.ofInt 64 x ||| BitVec.ofInt 64 0 = BitVec.ofInt 64 x := by
    rw [show BitVec.ofInt 64 0 = 0#64 by decide]; simp
  show IntKind.i64.wrap ((BitVec.ofInt 64 x ||| BitVec.ofInt 64 0).toNat : Nat) = x
  rw [e, BitVec.toNat_ofInt, IntKind.wrap_i64]
  unfold W64 at h
  omega

/-- A pen. -/
structure Pn where
  fg : Int
  bg : Int
  fl : Int

/-- The value of the flag that a parameter sets. -/
def val (n : Int) : Int :=
  if n = 1 then 1 else if n = 2 then 2 else if n = 3 then 4 else if n = 4 then 8 else if n = 5 then 16 else if n = 7 then 32 else if n = 8 then 64 else if n = 9 then 128 else 0

theorem val_off {n : Int} (h : n < 1 ∨ 9 < n) : val n = 0 := by
  unfold val
  repeat rw [if_neg (by omega)]

/-- What one parameter makes of a pen. -/
def one (p : Pn) (n : Int) : Pn :=
  if n = 0 then ⟨0, 0, 0⟩
  else if n = 22 then ⟨p.fg, p.bg, bits .andNot .i64 (bits .andNot .i64 p.fl 1) 2⟩
  else if 23 ≤ n ∧ n ≤ 29 then ⟨p.fg, p.bg, bits .andNot .i64 p.fl (val (n - 20))⟩
  else if 90 ≤ n ∧ n ≤ 97 then ⟨n - 81, p.bg, p.fl⟩
  else if 30 ≤ n ∧ n ≤ 37 then ⟨n - 29, p.bg, p.fl⟩
  else if 100 ≤ n ∧ n ≤ 107 then ⟨p.fg, n - 91, p.fl⟩
  else if 40 ≤ n ∧ n ≤ 47 then ⟨p.fg, n - 39, p.fl⟩
  else if n = 39 then ⟨0, p.bg, p.fl⟩
  else if n = 49 then ⟨p.fg, 0, p.fl⟩
  else ⟨p.fg, p.bg, bits .or .i64 p.fl (val n)⟩

theorem one_w64 {p : Pn} {n : Int} (h : W64 p.fl) : W64 (one p n).fl := by
  have e : (one p n).fl = 0 ∨ (one p n).fl = p.fl ∨ ∃ op x y, (one p n).fl = bits op .i64 x y := by
    unfold one
    split
    · exact .inl rfl
    split
    · exact .inr (.inr ⟨.andNot, _, _, rfl⟩)
    split
    · exact .inr (.inr ⟨.andNot, _, _, rfl⟩)
    split
    · exact .inr (.inl rfl)
    split
    · exact .inr (.inl rfl)
    split
    · exact .inr (.inl rfl)
    split
    · exact .inr (.inl rfl)
    split
    · exact .inr (.inl rfl)
    split
    · exact .inr (.inl rfl)
    · exact .inr (.inr ⟨.or, _, _, rfl⟩)
  rcases e with e | e | ⟨op, x, y, e⟩
  · rw [e]; unfold W64; omega
  · rw [e]; exact h
  · rw [e]; exact bits_w64 op x y

def byteB (n : Int) : Bool := decide (0 ≤ n) && decide (n ≤ 255)

/-- The colour that numbers tell, and how many tell it; 0: none. -/
def told (l : List Int) : Int × Nat :=
  if (decide (1 < l.length) && decide (l.getD 0 0 = 5) && byteB (l.getD 1 0)) = true then (1 + l.getD 1 0, 2)
  else if (decide (3 < l.length) && decide (l.getD 0 0 = 2) && byteB (l.getD 1 0) && byteB (l.getD 2 0) && byteB (l.getD 3 0)) = true then (16777216 + 65536 * l.getD 1 0 + 256 * l.getD 2 0 + l.getD 3 0, 4)
  else (0, 0)

theorem told_len (l : List Int) : (told l).2 ≤ l.length := by
  unfold told
  split
  · rename_i h; simp at h; simp; omega
  · split
    · rename_i h; simp at h; simp; omega
    · simp

/-- The colour is set behind 38, or behind 48. -/
def tint (p : Pn) (n c : Int) : Pn := if n = 38 then ⟨c, p.bg, p.fl⟩ else ⟨p.fg, c, p.fl⟩

/-- What parameters make of a pen, one by one: at most so many. -/
def runF : Nat → Pn → List Int → Pn
  | 0, p, _ => p
  | _ + 1, p, [] => p
  | f + 1, p, n :: r => if n = 38 ∨ n = 48 then (if (told r).2 = 0 then p else runF f (tint p n (told r).1) (r.drop (told r).2)) else runF f (one p n) r

theorem runF_nil (f : Nat) (p : Pn) : runF f p [] = p := by cases f <;> rfl

theorem runF_cons (f : Nat) (p : Pn) (n : Int) (r : List Int) : runF (f + 1) p (n :: r) = if n = 38 ∨ n = 48 then (if (told r).2 = 0 then p else runF f (tint p n (told r).1) (r.drop (told r).2)) else runF f (one p n) r := rfl

theorem runF_more : ∀ (f g : Nat) (p : Pn) (l : List Int), l.length ≤ f → l.length ≤ g → runF f p l = runF g p l
  | _, _, _, [], _, _ => by rw [runF_nil, runF_nil]
  | 0, _, _, _ :: _, h, _ => by simp at h
  | _ + 1, 0, _, _ :: _, _, h => by simp at h
  | f + 1, g + 1, p, n :: r, h1, h2 => by
    simp only [List.length_cons] at h1 h2
    rw [runF_cons, runF_cons]
    by_cases h : n = 38 ∨ n = 48
    · rw [if_pos h, if_pos h]
      by_cases h0 : (told r).2 = 0
      · rw [if_pos h0, if_pos h0]
      · rw [if_neg h0, if_neg h0]
        exact runF_more f g _ _ (by rw [List.length_drop]; omega) (by rw [List.length_drop]; omega)
    · rw [if_neg h, if_neg h]
      exact runF_more f g _ _ (by omega) (by omega)

/-- What parameters make of a pen. -/
def runL (p : Pn) (l : List Int) : Pn := runF l.length p l

def applyL (p : Pn) (l : List Int) : Pn := if l = [] then ⟨0, 0, 0⟩ else runL p l

theorem runL_nil (p : Pn) : runL p [] = p := rfl

theorem runL_one {p : Pn} {n : Int} {r : List Int} (h : ¬(n = 38 ∨ n = 48)) : runL p (n :: r) = runL (one p n) r := by
  unfold runL
  rw [List.length_cons, runF_cons, if_neg h]

theorem runL_none {p : Pn} {n : Int} {r : List Int} (h : n = 38 ∨ n = 48) (h2 : (told r).2 = 0) : runL p (n :: r) = p := by
  unfold runL
  rw [List.length_cons, runF_cons, if_pos h, if_pos h2]

theorem runL_told {p : Pn} {n : Int} {r : List Int} (h : n = 38 ∨ n = 48) (h2 : (told r).2 ≠ 0) : runL p (n :: r) = runL (tint p n (told r).1) (r.drop (told r).2) := by
  unfold runL
  rw [List.length_cons, runF_cons, if_pos h, if_neg h2]
  exact runF_more _ _ _ _ (by rw [List.length_drop]; omega) (Nat.le_refl _)

/-- Plain ones: none opens a colour. -/
def plainB (l : List Int) : Bool := l.all fun n => decide (n ≠ 38) && decide (n ≠ 48)

theorem runL_append : ∀ (a b : List Int) (p : Pn), plainB a = true → runL p (a ++ b) = runL (runL p a) b
  | [], b, p, _ => by rw [runL_nil]; rfl
  | n :: a, b, p, h => by
    simp only [plainB, List.all_cons, Bool.and_eq_true, decide_eq_true_eq] at h
    have hn : ¬(n = 38 ∨ n = 48) := by omega
    rw [List.cons_append, runL_one hn, runL_one hn]
    exact runL_append a b _ h.2

theorem runL_fold : ∀ (a : List Int) (p : Pn), plainB a = true → runL p a = a.foldl one p
  | [], p, _ => by rw [runL_nil]; rfl
  | n :: a, p, h => by
    simp only [plainB, List.all_cons, Bool.and_eq_true, decide_eq_true_eq] at h
    rw [runL_one (by omega), List.foldl_cons]
    exact runL_fold a _ h.2

/-- Is a colour right? -/
def colB (c : Int) : Bool := (decide (0 ≤ c) && decide (c ≤ 256)) || (decide (16777216 ≤ c) && decide (c ≤ 33554431))

def rightB (p : Pn) : Bool := colB p.fg && colB p.bg && (decide (0 ≤ p.fl) && decide (p.fl ≤ 255))

/-- Flags of 8 bits: what is set, and let go. -/
theorem flags_small : ∀ f : Nat, f < 256 → ∀ v ∈ [0, 1, 2, 4, 8, 16, 32, 64, 128], (0 ≤ bits .or .i64 (f : Int) v ∧ bits .or .i64 (f : Int) v ≤ 255) ∧ 0 ≤ bits .andNot .i64 (f : Int) v ∧ bits .andNot .i64 (f : Int) v ≤ 255 := by
  decide +kernel

theorem val_mem (n : Int) : val n ∈ [(0 : Int), 1, 2, 4, 8, 16, 32, 64, 128] := by
  unfold val
  repeat' split
  all_goals decide

theorem or_small {f n : Int} (h0 : 0 ≤ f) (h1 : f ≤ 255) : 0 ≤ bits .or .i64 f (val n) ∧ bits .or .i64 f (val n) ≤ 255 := by
  have := (flags_small f.toNat (by omega) _ (val_mem n)).1
  rwa [show ((f.toNat : Nat) : Int) = f by omega] at this

theorem gone_small {f v : Int} (h0 : 0 ≤ f) (h1 : f ≤ 255) (hv : v ∈ [(0 : Int), 1, 2, 4, 8, 16, 32, 64, 128]) : 0 ≤ bits .andNot .i64 f v ∧ bits .andNot .i64 f v ≤ 255 := by
  have := (flags_small f.toNat (by omega) _ hv).2
  rwa [show ((f.toNat : Nat) : Int) = f by omega] at this

theorem colB_pal {c : Int} (h0 : 0 ≤ c) (h1 : c ≤ 256) : colB c = true := by unfold colB; simp [h0, h1]

theorem one_right {p : Pn} {n : Int} (h : rightB p = true) : rightB (one p n) = true := by
  unfold rightB at h
  simp only [Bool.and_eq_true, decide_eq_true_eq] at h
  obtain ⟨⟨h1, h2⟩, h3, h4⟩ := h
  have hg := gone_small h3 h4 (v := 1) (by decide)
  have hg2 := gone_small hg.1 hg.2 (v := 2) (by decide)
  have hg3 := gone_small h3 h4 (val_mem (n - 20))
  have ho := or_small (n := n) h3 h4
  unfold one
  have mk : ∀ {a b f : Int}, colB a = true → colB b = true → 0 ≤ f → f ≤ 255 → rightB ⟨a, b, f⟩ = true := fun ha hb h0 h1 => by
    unfold rightB
    simp only [Bool.and_eq_true, decide_eq_true_eq]
    exact ⟨⟨ha, hb⟩, h0, h1⟩
  repeat' split
  · decide
  · exact mk h1 h2 hg2.1 hg2.2
  · exact mk h1 h2 hg3.1 hg3.2
  · exact mk (colB_pal (by omega) (by omega)) h2 h3 h4
  · exact mk (colB_pal (by omega) (by omega)) h2 h3 h4
  · exact mk h1 (colB_pal (by omega) (by omega)) h3 h4
  · exact mk h1 (colB_pal (by omega) (by omega)) h3 h4
  · exact mk (by decide) h2 h3 h4
  · exact mk h1 (by decide) h3 h4
  · exact mk h1 h2 ho.1 ho.2

theorem told_right {l : List Int} (h : (told l).2 ≠ 0) : colB (told l).1 = true := by
  unfold told at h ⊢
  split
  · rename_i h1
    simp only [byteB, Bool.and_eq_true, decide_eq_true_eq] at h1
    exact colB_pal (c := 1 + l.getD 1 0) (by omega) (by omega)
  · split
    · rename_i h1
      simp only [byteB, Bool.and_eq_true, decide_eq_true_eq] at h1
      unfold colB
      simp only [Bool.or_eq_true, Bool.and_eq_true, decide_eq_true_eq]
      omega
    · rename_i h1 h2
      rw [if_neg h1, if_neg h2] at h
      exact absurd rfl h

theorem tint_right {p : Pn} {n c : Int} (h : rightB p = true) (hc : colB c = true) : rightB (tint p n c) = true := by
  unfold rightB at h ⊢
  unfold tint
  simp only [Bool.and_eq_true] at h ⊢
  split
  · exact ⟨⟨hc, h.1.2⟩, h.2⟩
  · exact ⟨⟨h.1.1, hc⟩, h.2⟩

theorem runL_right (p : Pn) (l : List Int) (h : rightB p = true) : rightB (runL p l) = true := by
  induction hn : l.length using Nat.strongRecOn generalizing p l with
  | _ k ih =>
    cases l with
    | nil => rw [runL_nil]; exact h
    | cons n r =>
      by_cases h1 : n = 38 ∨ n = 48
      · by_cases h2 : (told r).2 = 0
        · rw [runL_none h1 h2]; exact h
        · rw [runL_told h1 h2]
          exact ih _ (by rw [← hn]; simp only [List.length_drop, List.length_cons]; omega) _ _ (tint_right h (told_right h2)) rfl
      · rw [runL_one h1]
        exact ih _ (by rw [← hn]; simp) _ _ (one_right h) rfl

theorem tint_w64 {p : Pn} {n c : Int} (h : W64 p.fl) : W64 (tint p n c).fl := by unfold tint; split <;> exact h

/-! ### A pen's parameters -/

/-- The numbers of its flags, rising. -/
def flagsL (f : Int) : List Int := [1, 2, 3, 4, 5, 6, 7, 8, 9].filter fun n => decide (bits .and .i64 f (val n) ≠ 0)

/-- A colour's parameters. -/
def colL (first c : Int) : List Int :=
  if c = 0 then [] else if c ≤ 256 then [first, 5, c - 1] else [first, 2, (c - 16777216) / 65536, c / 256 % 256, c % 256]

def leastL (p : Pn) : List Int := if rightB p = true then 0 :: flagsL p.fl ++ colL 38 p.fg ++ colL 48 p.bg else []

theorem flags_nat : ∀ f : Nat, f < 256 → plainB (flagsL (f : Int)) = true ∧ ((flagsL (f : Int)).foldl one ⟨0, 0, 0⟩).fg = 0 ∧ ((flagsL (f : Int)).foldl one ⟨0, 0, 0⟩).bg = 0 ∧ ((flagsL (f : Int)).foldl one ⟨0, 0, 0⟩).fl = (f : Int) := by
  decide +kernel

theorem pn_parts {p : Pn} {a b c : Int} (h : p.fg = a ∧ p.bg = b ∧ p.fl = c) : p = ⟨a, b, c⟩ := by
  obtain ⟨rfl, rfl, rfl⟩ := h
  rfl

theorem col_run {p : Pn} {first c : Int} {rest : List Int} (hf : first = 38 ∨ first = 48) (hc : colB c = true) (hz : c = 0 → tint p first 0 = p) : runL p (colL first c ++ rest) = runL (tint p first c) rest := by
  unfold colL
  by_cases h0 : c = 0
  · rw [if_pos h0, h0, hz h0]; rfl
  · rw [if_neg h0]
    unfold colB at hc
    simp at hc
    by_cases h1 : c ≤ 256
    · rw [if_pos h1]
      have ht : told (5 :: (c - 1) :: rest) = (c, 2) := by
        unfold told
        rw [if_pos (by simp [byteB]; omega)]
        simp
        omega
      show runL p (first :: 5 :: (c - 1) :: rest) = _
      rw [runL_told hf (by rw [ht]; simp), ht]
      rfl
    · rw [if_neg h1]
      have ht : told (2 :: (c - 16777216) / 65536 :: c / 256 % 256 :: c % 256 :: rest) = (c, 4) := by
        unfold told
        rw [if_neg (by simp), if_pos (by simp [byteB]; omega)]
        simp
        omega
      show runL p (first :: 2 :: (c - 16777216) / 65536 :: c / 256 % 256 :: c % 256 :: rest) = _
      rw [runL_told hf (by rw [ht]; simp), ht]
      rfl

theorem least_makes (p q : Pn) (h : rightB p = true) : applyL q (leastL p) = p := by
  have hr := h
  unfold rightB at h
  simp only [Bool.and_eq_true, decide_eq_true_eq] at h
  obtain ⟨⟨h1, h2⟩, h3, h4⟩ := h
  obtain ⟨h5, h6'⟩ := flags_nat p.fl.toNat (by omega)
  rw [show ((p.fl.toNat : Nat) : Int) = p.fl by omega] at h5 h6'
  have h6 := pn_parts h6'
  unfold leastL applyL
  rw [if_pos hr, if_neg (by simp), List.append_assoc, List.cons_append, runL_one (by omega), runL_append _ _ _ h5, runL_fold _ _ h5]
  rw [show one q 0 = ⟨0, 0, 0⟩ by unfold one; rfl, h6, col_run (.inl rfl) h1 (fun _ => by unfold tint; rfl)]
  have := col_run (p := tint ⟨0, 0, p.fl⟩ 38 p.fg) (c := p.bg) (rest := []) (.inr rfl) h2 (fun _ => by unfold tint; rfl)
  rw [List.append_nil] at this
  rw [this, runL_nil]
  unfold tint
  rfl

/-! ### What a 0 leaves, and what lets all flags go -/

theorem reset_makes (p : Pn) : runL p [0, 4] = ⟨0, 0, 8⟩ := by
  rw [runL_one (by omega), runL_one (by omega), runL_nil, show one p 0 = ⟨0, 0, 0⟩ by unfold one; rfl]
  kernel_rfl

theorem gone_nat : ∀ f : Nat, f < 256 → (([22, 23, 24, 25, 27, 28, 29] : List Int).foldl one ⟨0, 0, (f : Int)⟩).fl = 0 := by
  decide +kernel

theorem one_fl (p q : Pn) (n : Int) (h : p.fl = q.fl) : (one p n).fl = (one q n).fl := by
  unfold one
  rw [h]
  repeat' split
  all_goals rfl

theorem fold_fl : ∀ (a : List Int) (p q : Pn), p.fl = q.fl → (a.foldl one p).fl = (a.foldl one q).fl
  | [], _, _, h => h
  | n :: a, p, q, h => fold_fl a _ _ (one_fl p q n h)

theorem gone_makes (p : Pn) (h : rightB p = true) : (runL p [22, 23, 24, 25, 27, 28, 29]).fl = 0 := by
  unfold rightB at h
  simp only [Bool.and_eq_true, decide_eq_true_eq] at h
  obtain ⟨_, h3, h4⟩ := h
  rw [runL_fold _ _ (by decide), fold_fl _ p ⟨0, 0, p.fl⟩ rfl]
  have := gone_nat p.fl.toNat (by omega)
  rwa [show ((p.fl.toNat : Nat) : Int) = p.fl by omega] at this

theorem awake_run : applyL ⟨0, 0, 0⟩ [1, 38, 5, 9] = ⟨10, 0, 1⟩ := by
  unfold applyL
  rw [if_neg (by simp), runL_one (by omega), runL_told (.inl rfl) (by decide)]
  rw [show (told [5, 9]) = (10, 2) by decide, show List.drop 2 [(5 : Int), 9] = [] by rfl, runL_nil]
  kernel_rfl

end Go.Proofs.Ytinikpadbocfaaa
