/-
  Rows of bytes; parts of new rows; the tables of the document. No conditions.
-/
import Derived.Test.YtjficpcfdpbegaaD8
namespace Go.Proofs.Ytjficpcfdpbegaa
open Go.RowKit

theorem Try.info5 : (Try.prog.info? 5).map (fun i => (i.zero, i.size, i.bytes)) = some (some (.int .u8 0), 1, 1) := by kernel_rfl

theorem bs_owned {w : World} {base n : Nat} {v : Value} {xs : List Value} {l : List Int} (h : w.ownsRow base 5 1 v n xs) (hx : xs = l.map (.int .u8 ·)) : Bs w v l := by
  have hn : n = l.length := by have := h.1; rw [hx] at this; simpa using this.symm
  subst hn hx
  rcases h.2 with ⟨rfl, h0⟩ | ⟨g, cap, cur, rfl, hbg, hg, hnc, hcm, _⟩
  · rw [List.eq_nil_of_length_eq_zero h0]
    exact bs_nil w
  · refine ⟨_, cap, rfl, hnc, fun _ => ⟨g, 0, rfl, fun j hj => ?_⟩⟩
    have := h.cells (g := g) rfl j (.int .u8 (l.getD j 0)) (by rw [List.getElem?_map, List.getElem?_eq_getElem hj, List.getD_eq_getElem?_getD, List.getElem?_eq_getElem hj]; rfl)
    rwa [addr_add] at this

theorem Bs.isRow {w : World} {v : Value} {l : List Int} (h : Bs w v l) (hne : l ≠ []) : IsRow w v (l.map (.int .u8 ·)) := by
  obtain ⟨a, cap, rfl, _, h3⟩ := h
  obtain ⟨b, off, rfl, h4⟩ := h3 hne
  refine Or.inr ⟨_, _, _, rfl, by simp, fun j u hu => ?_⟩
  rw [List.getElem?_map, Option.map_eq_some_iff] at hu
  obtain ⟨z, hz, rfl⟩ := hu
  have hj := (List.getElem?_eq_some_iff.1 hz).1
  rw [addr_add, h4 j hj, List.getD_eq_getElem?_getD, hz]
  rfl

theorem bs_new' (w : World) (c : Array Value) (l : List Int) (b n : Nat) (hb : w.heap.size = b) (hn : c.size = n) (hl : c.toList = l.map (.int .u8 ·)) : Bs (w.alloc (.cells c 5)) (.slice (some ⟨b, 0, none⟩) n n) l := by
  subst hb
  exact bs_new w c l n hn hl

/-- A part of a new row. -/
theorem bs_part (w : World) (c : Array Value) (x : Int) (b k n cap : Nat) (hb : w.heap.size = b) (h : c[k]? = some (.int .u8 x)) (hn : n = 1) (hc : 1 ≤ cap) : Bs (w.alloc (.cells c 5)) (.slice (some ⟨b, k, none⟩) n cap) [x] := by
  subst hn hb
  refine ⟨_, cap, rfl, hc, fun _ => ⟨_, _, rfl, fun j hj => ?_⟩⟩
  have hj0 : j = 0 := by simpa using hj
  subst hj0
  simp [h]

theorem stay_made {w W W1 : World} {B : Nat} (h : Stay (fun _ => False) w W) (hB : w.heap.size ≤ B) (h1 : Stay (fun k => B ≤ k) W W1) : Stay (fun _ => False) w W1 :=
  ((h.mono (T := fun k => B ≤ k) (fun _ _ h => h.elim)).trans h1).mono (fun k hk (hs : B ≤ k) => absurd hk (by omega))

theorem k10 (c : Int) (h1 : 27 ≤ c) (h2 : c < 37) : (#[.int .u8 33, .int .u8 64, .int .u8 35, .int .u8 36, .int .u8 37, .int .u8 94, .int .u8 38, .int .u8 42, .int .u8 40, .int .u8 41] : Array Value)[(c - 27).toNat]? = some (.int .u8 (shiftT.getD (c - 1).toNat 0)) :=
  all_keys (fun c => (#[.int .u8 33, .int .u8 64, .int .u8 35, .int .u8 36, .int .u8 37, .int .u8 94, .int .u8 38, .int .u8 42, .int .u8 40, .int .u8 41] : Array Value)[(c - 27).toNat]? = some (.int .u8 (shiftT.getD (c - 1).toNat 0))) 27 37 (by
    intro n h h'
    rcases (show n = 27 ∨ n = 28 ∨ n = 29 ∨ n = 30 ∨ n = 31 ∨ n = 32 ∨ n = 33 ∨ n = 34 ∨ n = 35 ∨ n = 36 by omega) with rfl | rfl | rfl | rfl | rfl | rfl | rfl | rfl | rfl | rfl <;> rfl) c h1 h2

theorem k5 (c : Int) (h1 : 37 ≤ c) (h2 : c < 42) : (#[.int .u8 32, .int .u8 13, .int .u8 127, .int .u8 9, .int .u8 27] : Array Value)[(c - 37).toNat]? = some (.int .u8 (typedT.getD (c - 1).toNat 0)) :=
  all_keys (fun c => (#[.int .u8 32, .int .u8 13, .int .u8 127, .int .u8 9, .int .u8 27] : Array Value)[(c - 37).toNat]? = some (.int .u8 (typedT.getD (c - 1).toNat 0))) 37 42 (by
    intro n h h'
    rcases (show n = 37 ∨ n = 38 ∨ n = 39 ∨ n = 40 ∨ n = 41 by omega) with rfl | rfl | rfl | rfl | rfl <;> rfl) c h1 h2

theorem k11s (c : Int) (h1 : 42 ≤ c) (h2 : c < 53) : (#[.int .u8 95, .int .u8 43, .int .u8 123, .int .u8 125, .int .u8 124, .int .u8 58, .int .u8 34, .int .u8 60, .int .u8 62, .int .u8 63, .int .u8 126] : Array Value)[(c - 42).toNat]? = some (.int .u8 (shiftT.getD (c - 1).toNat 0)) :=
  all_keys (fun c => (#[.int .u8 95, .int .u8 43, .int .u8 123, .int .u8 125, .int .u8 124, .int .u8 58, .int .u8 34, .int .u8 60, .int .u8 62, .int .u8 63, .int .u8 126] : Array Value)[(c - 42).toNat]? = some (.int .u8 (shiftT.getD (c - 1).toNat 0))) 42 53 (by
    intro n h h'
    rcases (show n = 42 ∨ n = 43 ∨ n = 44 ∨ n = 45 ∨ n = 46 ∨ n = 47 ∨ n = 48 ∨ n = 49 ∨ n = 50 ∨ n = 51 ∨ n = 52 by omega) with rfl | rfl | rfl | rfl | rfl | rfl | rfl | rfl | rfl | rfl | rfl <;> rfl) c h1 h2

theorem k11t (c : Int) (h1 : 42 ≤ c) (h2 : c < 53) : (#[.int .u8 45, .int .u8 61, .int .u8 91, .int .u8 93, .int .u8 92, .int .u8 59, .int .u8 39, .int .u8 44, .int .u8 46, .int .u8 47, .int .u8 96] : Array Value)[(c - 42).toNat]? = some (.int .u8 (typedT.getD (c - 1).toNat 0)) :=
  all_keys (fun c => (#[.int .u8 45, .int .u8 61, .int .u8 91, .int .u8 93, .int .u8 92, .int .u8 59, .int .u8 39, .int .u8 44, .int .u8 46, .int .u8 47, .int .u8 96] : Array Value)[(c - 42).toNat]? = some (.int .u8 (typedT.getD (c - 1).toNat 0))) 42 53 (by
    intro n h h'
    rcases (show n = 42 ∨ n = 43 ∨ n = 44 ∨ n = 45 ∨ n = 46 ∨ n = 47 ∨ n = 48 ∨ n = 49 ∨ n = 50 ∨ n = 51 ∨ n = 52 by omega) with rfl | rfl | rfl | rfl | rfl | rfl | rfl | rfl | rfl | rfl | rfl <;> rfl) c h1 h2

theorem b0 (c : Int) (h1 : 27 ≤ c) (h2 : c < 36) : 49 + c - 27 = typedT.getD (c - 1).toNat 0 :=
  all_keys (fun c => 49 + c - 27 = typedT.getD (c - 1).toNat 0) 27 36 (by decide +kernel) c h1 h2

end Go.Proofs.Ytjficpcfdpbegaa
