/-
  What is written of a byte, and of bytes; the column behind. No conditions.
-/
import Derived.Test.YtjpdlnifbinloaaA4
namespace Go.Proofs.Ytjpdlnifbinloaa
open Go.RowKit

/-- Has a number a flag? -/
def has (o f : Int) : Bool := bits .and .i64 o f != 0

/-- The column that a number stands for. -/
def plc (col : Int) : Int := if col < 0 ∨ 1073741824 < col then 0 else col

/-- The flags that count. -/
def cnt (o : Int) : Int := if has o 1 then o else 0

/-- What is written of one byte, and the column behind it. -/
def addM (o col c : Int) : List Int × Int :=
  if c = 13 ∧ has o 4 = false then (if col = 0 ∧ has o 8 = true then ([], 0) else ([13], 0))
  else if c = 13 ∨ c = 10 then (if has o 2 then ([13, 10], 0) else if has o 16 then ([10], 0) else ([10], col))
  else if c = 9 then (if has o 32 then (List.replicate (8 - col % 8).toNat 32, col + 8 - col % 8) else ([9], col + 8 - col % 8))
  else if c = 8 then ([8], if col = 0 then 0 else col - 1)
  else if c < 32 ∨ (127 ≤ c ∧ c ≤ 191) then ([c], col)
  else ([c], col + 1)

/-- Of bytes, one behind the other. -/
def bytesM (o : Int) : Int → List Int → List Int × Int
  | col, [] => ([], col)
  | col, c :: l => ((addM o (plc col) c).1 ++ (bytesM o (addM o (plc col) c).2 l).1, (bytesM o (addM o (plc col) c).2 l).2)

theorem plc_range (col : Int) : 0 ≤ plc col ∧ plc col ≤ 1073741824 := by unfold plc; split <;> omega

theorem plc_id {col : Int} (h0 : 0 ≤ col) (h1 : col ≤ 1073741824) : plc col = col := by unfold plc; rw [if_neg (by omega)]

theorem plc_plc (col : Int) : plc (plc col) = plc col := plc_id (plc_range col).1 (plc_range col).2

theorem has_zero (f : Int) : has 0 f = false := by
  unfold has
  have h : bits .and .i64 0 f = 0 := by
    show IntKind.i64.wrap ((BitVec.ofInt 64 0 &&& BitVec.ofInt 64 f).toNat : Nat) = 0
    rw [show BitVec.ofInt 64 0 = 0#64 by decide]
    simp
    decide
  rw [h]
  rfl

theorem cnt_zero {o : Int} (h : has o 1 = false) : cnt o = 0 := by unfold cnt; rw [h]; rfl

theorem cnt_same {o : Int} (h : has o 1 = true) : cnt o = o := by unfold cnt; rw [h]; rfl

/-- The column behind a byte. -/
theorem addM_range (o col c : Int) (h0 : 0 ≤ col) (h1 : col ≤ 1073741824) : 0 ≤ (addM o col c).2 ∧ (addM o col c).2 ≤ 1073741832 := by
  unfold addM
  repeat' split
  all_goals (simp only []; omega)

theorem addM_len (o col c : Int) : (addM o col c).1.length ≤ 8 := by
  unfold addM
  repeat' split
  all_goals simp
  omega

theorem wf_u8_of {c : Int} (h0 : 0 ≤ c) (h1 : c < 256) : (Lit.int .u8 c).wf = true := by
  have z1 : IntKind.u8.min = 0 := by decide
  have z2 : IntKind.u8.max = 255 := by decide
  simp only [Lit.wf, decide_eq_true_eq, Bool.and_eq_true]
  omega

/-- Without flags each byte is itself. -/
theorem addM_zero (col c : Int) : (addM 0 col c).1 = [c] := by
  unfold addM
  simp only [has_zero]
  repeat' split
  all_goals simp_all

/-- The column without flags is the one with Opost alone. -/
theorem addM_one (col c : Int) : addM 1 col c = addM 0 col c := by
  unfold addM
  rw [show has 1 4 = false by decide, show has 1 8 = false by decide, show has 1 2 = false by decide, show has 1 16 = false by decide, show has 1 32 = false by decide]
  simp only [has_zero]

theorem bytesM_cons (o col c : Int) (l : List Int) : bytesM o col (c :: l) = ((addM o (plc col) c).1 ++ (bytesM o (addM o (plc col) c).2 l).1, (bytesM o (addM o (plc col) c).2 l).2) := rfl

theorem bytesM_nil (o col : Int) : bytesM o col [] = ([], col) := rfl

theorem bytesM_append (o : Int) : ∀ (a b : List Int) (col : Int), bytesM o col (a ++ b) = ((bytesM o col a).1 ++ (bytesM o (bytesM o col a).2 b).1, (bytesM o (bytesM o col a).2 b).2)
  | [], b, col => by simp [bytesM_nil]
  | c :: a, b, col => by
    have h := bytesM_append o a b (addM o (plc col) c).2
    simp only [List.cons_append, bytesM_cons, h, List.append_assoc]

theorem bytesM_range (o : Int) : ∀ (l : List Int) (col : Int), 0 ≤ col → 0 ≤ (bytesM o col l).2
  | [], _col, h => h
  | c :: l, col, _h => bytesM_range o l _ (addM_range o (plc col) c (plc_range col).1 (plc_range col).2).1

theorem bytesM_top (o : Int) : ∀ (l : List Int) (col : Int), col ≤ 1073741832 → (bytesM o col l).2 ≤ 1073741832
  | [], _col, h => h
  | c :: l, col, _h => bytesM_top o l _ (addM_range o (plc col) c (plc_range col).1 (plc_range col).2).2

theorem bytesM_len (o : Int) : ∀ (l : List Int) (col : Int), (bytesM o col l).1.length ≤ 8 * l.length
  | [], col => by simp [bytesM_nil]
  | c :: l, col => by
    have h := bytesM_len o l (addM o (plc col) c).2
    have h2 := addM_len o (plc col) c
    rw [bytesM_cons, List.length_append, List.length_cons]
    omega

theorem bytesM_plc_bytes (o col : Int) (l : List Int) : (bytesM o (plc col) l).1 = (bytesM o col l).1 := by
  cases l with
  | nil => rfl
  | cons c l => simp only [bytesM_cons, plc_plc]

theorem bytesM_plc_col (o col : Int) (l : List Int) (h : l ≠ []) : (bytesM o (plc col) l).2 = (bytesM o col l).2 := by
  cases l with
  | nil => exact absurd rfl h
  | cons c l => simp only [bytesM_cons, plc_plc]

/-- Without the flag the bytes stay. -/
theorem bytesM_zero : ∀ (l : List Int) (col : Int), (bytesM 0 col l).1 = l
  | [], _ => rfl
  | c :: l, col => by rw [bytesM_cons]; simp only [addM_zero, bytesM_zero l, List.singleton_append]

theorem addM_plain (o col c : Int) (h0 : 32 ≤ c) (h1 : c ≤ 126) : addM o col c = ([c], col + 1) := by
  unfold addM
  rw [if_neg (by omega), if_neg (by omega), if_neg (by omega), if_neg (by omega), if_neg (by omega)]

/-- Plain bytes stay, and the column goes with them. -/
theorem bytesM_plain (o : Int) : ∀ (l : List Int) (col : Int), (∀ c ∈ l, 32 ≤ c ∧ c ≤ 126) → 0 ≤ col → col + l.length ≤ 1073741824 → bytesM o col l = (l, col + l.length)
  | [], col, _, _, _ => by simp [bytesM_nil]
  | c :: l, col, h, h0, h1 => by
    obtain ⟨a1, a2⟩ := h c List.mem_cons_self
    rw [List.length_cons] at h1
    have ih := bytesM_plain o l (col + 1) (fun x hx => h x (List.mem_cons_of_mem _ hx)) (by omega) (by omega)
    rw [bytesM_cons, plc_id h0 (by omega), addM_plain o col c a1 a2, ih]
    simp only [List.singleton_append, List.length_cons, Prod.mk.injEq, true_and]
    omega

/-- A line behind a new line begins at column 0. -/
theorem bytesM_lines (a b : List Int) (col : Int) (hb : ∀ c ∈ b, 32 ≤ c ∧ c ≤ 126) (hl : b.length ≤ 1000) :
    bytesM 3 col (a ++ 10 :: b) = ((bytesM 3 col a).1 ++ [13, 10] ++ b, ((b.length : Nat) : Int)) := by
  rw [bytesM_append, bytesM_cons]
  have h : ∀ x, addM 3 x 10 = ([13, 10], 0) := fun x => by
    unfold addM
    rw [if_neg (by omega), if_pos (by omega), show has 3 2 = true by decide]
    rfl
  rw [h, bytesM_plain 3 b 0 hb (by omega) (by omega)]
  simp

/-- The next byte. -/
theorem bytesM_snoc (o col : Int) (l : List Int) (c : Int) : bytesM o col (l ++ [c]) = ((bytesM o col l).1 ++ (addM o (plc (bytesM o col l).2) c).1, (addM o (plc (bytesM o col l).2) c).2) := by
  rw [bytesM_append, bytesM_cons, bytesM_nil]
  simp

theorem wf_replicate (n : Nat) : ∀ y ∈ List.replicate n (32 : Int), (Lit.int .u8 y).wf = true := by
  intro y hy
  rw [List.eq_of_mem_replicate hy]
  decide

theorem addM_wf (o col c : Int) (h0 : 0 ≤ c) (h1 : c < 256) : ∀ y ∈ (addM o col c).1, (Lit.int .u8 y).wf = true := by
  have hc := wf_u8_of h0 h1
  unfold addM
  repeat' split
  all_goals (intro y hy; simp only [List.mem_cons, List.not_mem_nil, or_false] at hy)
  all_goals first
    | exact wf_replicate _ y hy
    | (rcases hy with rfl | rfl <;> decide)
    | (subst hy; first | decide | exact hc)
    | exact hy.elim

theorem bytesM_wf (o : Int) : ∀ (l : List Int) (col : Int), (∀ c ∈ l, (Lit.int .u8 c).wf = true) → ∀ y ∈ (bytesM o col l).1, (Lit.int .u8 y).wf = true
  | [], col, _, y, hy => by simp [bytesM_nil] at hy
  | c :: l, col, h, y, hy => by
    have hc := wf_u8 (h c List.mem_cons_self)
    rw [bytesM_cons] at hy
    rcases List.mem_append.1 hy with hy | hy
    · exact addM_wf o _ c hc.1 hc.2 y hy
    · exact bytesM_wf o l _ (fun x hx => h x (List.mem_cons_of_mem _ hx)) y hy

end Go.Proofs.Ytjpdlnifbinloaa
