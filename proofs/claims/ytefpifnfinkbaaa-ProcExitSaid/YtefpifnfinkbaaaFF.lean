/-
  What is left when a process goes: lists, and what stands while they are gathered. No conditions.
-/
import Derived.Test.YtefpifnfinkbaaaFE
namespace Go.Proofs.Ytefpifnfinkbaaa
open Go.RowKit

variable {w : World} {x : Xr} {L : List Pr} {f : Int → Int}

/-- The first ones that are left. -/
def part (y : Int) (L : List Pr) (i k : Nat) : List Pr := ((L.take k).eraseIdx i).map (adopt y)

theorem part_zero (y : Int) (L : List Pr) (i : Nat) : part y L i 0 = [] := by simp [part]

theorem part_skip {y : Int} {i k : Nat} {t : Pr} (ht : L[k]? = some t) (e : k = i) : part y L i (k + 1) = part y L i k := by
  have hk : (L.take k).length = k := by rw [List.length_take]; have := (List.getElem?_eq_some_iff.1 ht).1; omega
  unfold part
  rw [List.take_add_one, ht, Option.toList_some, List.eraseIdx_append_of_length_le (by omega), List.eraseIdx_of_length_le (l := L.take k) (by omega), hk, e, Nat.sub_self]
  simp

theorem part_add {y : Int} {i k : Nat} {t : Pr} (ht : L[k]? = some t) (e : ¬ k = i) : part y L i (k + 1) = part y L i k ++ [adopt y t] := by
  have hk : (L.take k).length = k := by rw [List.length_take]; have := (List.getElem?_eq_some_iff.1 ht).1; omega
  unfold part
  rw [List.take_add_one, ht, Option.toList_some]
  by_cases h : i < k
  · rw [List.eraseIdx_append_of_lt_length (by omega), List.map_append]
    rfl
  · rw [List.eraseIdx_of_length_le (l := L.take k ++ [t]) (by rw [List.length_append, hk]; simp; omega), List.eraseIdx_of_length_le (l := L.take k) (by omega), List.map_append]
    rfl

theorem part_all {y : Int} {i k : Nat} (h : L.length ≤ k) : part y L i k = (L.eraseIdx i).map (adopt y) := by
  unfold part
  rw [List.take_of_length_le h]

theorem part_len (y : Int) (L : List Pr) (i k : Nat) : (part y L i k).length ≤ k := by
  unfold part
  rw [List.length_map]
  exact Nat.le_trans (List.length_eraseIdx_le _ _) (List.length_take_le _ _)

/-- What a group is told that is an orphan now. -/
def orphD (L L3 : List Pr) (g : Int) : List Sg := if orphB L3 g && !orphB L g then [⟨g, 4⟩, ⟨g, 5⟩] else []

/-- What the first groups are told. -/
def tellD (L L3 : List Pr) (k : Nat) : List Sg := (List.range k).flatMap (fun (j : Nat) => orphD L L3 ((j : Int) + 1))

theorem tellD_zero (L L3 : List Pr) : tellD L L3 0 = [] := rfl

theorem tellD_succ (L L3 : List Pr) (k : Nat) : tellD L L3 (k + 1) = tellD L L3 k ++ orphD L L3 ((k : Int) + 1) := by
  unfold tellD
  rw [List.range_succ, List.flatMap_append]
  simp

theorem tellD_none {L L3 : List Pr} {k : Nat} (h : (orphB L3 ((k : Int) + 1) && !orphB L ((k : Int) + 1)) = false) : tellD L L3 (k + 1) = tellD L L3 k := by
  rw [tellD_succ]
  unfold orphD
  rw [h]
  simp

theorem tellD_some {L L3 : List Pr} {k : Nat} (h : (orphB L3 ((k : Int) + 1) && !orphB L ((k : Int) + 1)) = true) : tellD L L3 (k + 1) = tellD L L3 k ++ [⟨(k : Int) + 1, 4⟩, ⟨(k : Int) + 1, 5⟩] := by
  rw [tellD_succ]
  unfold orphD
  rw [h]
  simp

theorem tellD_len (L L3 : List Pr) (k : Nat) : (tellD L L3 k).length ≤ 2 * k := by
  induction k with
  | zero => exact Nat.le_refl _
  | succ k ih =>
    rw [tellD_succ, List.length_append]
    have : (orphD L L3 ((k : Int) + 1)).length ≤ 2 := by
      unfold orphD
      split <;> simp
    omega

/-- What is told when a process goes: first a row, then the groups. -/
def allS (K : List Sg) (L L3 : List Pr) (k : Nat) : List Sg := K ++ tellD L L3 k

theorem allS_zero (K : List Sg) (L L3 : List Pr) : allS K L L3 0 = K := by unfold allS; rw [tellD_zero, List.append_nil]

theorem allS_none {K : List Sg} {L L3 : List Pr} {k : Nat} (h : (orphB L3 ((k : Int) + 1) && !orphB L ((k : Int) + 1)) = false) : allS K L L3 (k + 1) = allS K L L3 k := by
  unfold allS
  rw [tellD_none h]

theorem allS_some {K : List Sg} {L L3 : List Pr} {k : Nat} (h : (orphB L3 ((k : Int) + 1) && !orphB L ((k : Int) + 1)) = true) : allS K L L3 (k + 1) = allS K L L3 k ++ [⟨(k : Int) + 1, 4⟩, ⟨(k : Int) + 1, 5⟩] := by
  unfold allS
  rw [tellD_some h, List.append_assoc]

theorem allS_len (K : List Sg) (L L3 : List Pr) (k : Nat) : (allS K L L3 k).length ≤ K.length + 2 * k := by
  unfold allS
  rw [List.length_append]
  have := tellD_len L L3 k
  omega

/-- What stands while signals are gathered. -/
structure E34 (WB : World) (b : Nat) (nx : Int) (x3 : Xr) (L3 : List Pr) (f3 : Int → Int) (S : List Sg) (a : Option Addr) (cap : Nat) (wr : World) : Prop where
  sv : SV wr a cap S
  st : Stay (fun _ => False) WB wr
  bx : XBox wr b (xs x3 L3.length nx)
  xa : XAt wr x3 L3 f3
  nw : ∀ j, a.map Addr.block = some j → WB.heap.size ≤ j ∧ ¬ j = b ∧ ¬ x3.has j

theorem E34.keep {WB wr w1 : World} {b : Nat} {nx : Int} {x3 : Xr} {L3 : List Pr} {f3 : Int → Int} {S : List Sg} {a : Option Addr} {cap : Nat} (h : E34 WB b nx x3 L3 f3 S a cap wr) (hs : Stay (fun _ => False) wr w1) : E34 WB b nx x3 L3 f3 S a cap w1 :=
  ⟨h.sv.keep hs, h.st.trans hs, h.bx.keep hs, h.xa.keep hs, h.nw⟩

theorem E34.more {WB wr w1 : World} {b : Nat} {nx : Int} {x3 : Xr} {L3 : List Pr} {f3 : Int → Int} {S S2 : List Sg} {a a2 : Option Addr} {cap cap2 : Nat} (h : E34 WB b nx x3 L3 f3 S a cap wr) (hs : Stay (fun j => a.map Addr.block = some j) wr w1) (hv : SV w1 a2 cap2 S2) (hb : (∀ j, a2.map Addr.block = some j → a.map Addr.block = some j) ∨ (∀ j, a2.map Addr.block = some j → j = wr.heap.size)) : E34 WB b nx x3 L3 f3 S2 a2 cap2 w1 :=
  ⟨hv, h.st.trans2 hs (fun j hj e => by have := (h.nw j e).1; omega), h.bx.stay hs (fun e => (h.nw _ e).2.1 rfl), h.xa.stay hs (fun j hj e => (h.nw j e).2.2 hj), fun j hj => by
    rcases hb with e | e
    · exact h.nw j (e j hj)
    · have h1 := e j hj
      have h2 := h.st.size
      have h3 := h.bx.lt
      refine ⟨by omega, by omega, fun hh => ?_⟩
      have := h.xa.lt j hh
      omega⟩

/-- A table and signals that are handed back. -/
def XG4 (x : Xr) (L' : List Pr) (nx : Int) (f' : Int → Int) (K : List Sg) (w : World) (e : Ending) (w' : World) : Prop := ∃ (x' : Xr) (a : Option Addr) (cap : Nat), e = .returned (.tuple #[.agg #[.slice x'.a L'.length x'.cap, .int .i64 nx, .slice x'.a2 65 x'.c2], .slice a K.length cap]) ∧ XAt w' x' L' f' ∧ SV w' a cap K ∧ Stay (fun _ => False) w w' ∧ XFrom w x x' ∧ ∀ j, a.map Addr.block = some j → w.heap.size ≤ j

end Go.Proofs.Ytefpifnfinkbaaa
