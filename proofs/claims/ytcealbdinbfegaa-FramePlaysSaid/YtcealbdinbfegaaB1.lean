/-
  Rows of cells in memory, by an index function. No conditions.
-/
import Derived.Test.YtcealbdinbfegaaB0
import Derived.Deep.MidRow
import Derived.Laws.OwnMore
namespace Go.Proofs.Ytcealbdinbfegaa
open Go.RowKit

/-- A cell's parts. -/
def Cl.parts (c : Cl) : List Value := [.int .i32 c.r, .int .i64 c.fg, .int .i64 c.bg, .int .i64 c.fl]

theorem Cl.parts_one (c : Cl) : ∀ v ∈ c.parts, v.oneCell' = true := by
  intro v hv
  simp only [Cl.parts, List.mem_cons, List.not_mem_nil, or_false] at hv
  rcases hv with rfl | rfl | rfl | rfl <;> rfl

theorem Cl.all_one (c : Cl) : (#[Value.int .i32 c.r, .int .i64 c.fg, .int .i64 c.bg, .int .i64 c.fl] : Array Value).all (fun x => x.oneCell') = true := by simp [Value.oneCell']

/-- A cell that lies in a block, and may be written. -/
def CAt (w : World) (b o : Nat) (c : Cl) : Prop := w.rangeAt b o c.parts ∧ w.there b o 4

/-- The first n cells of a block. -/
def Pix (w : World) (b n : Nat) (f : Nat → Cl) : Prop := ∀ i, i < n → CAt w b (i * 4) (f i)

theorem CAt.lt {w : World} {b o : Nat} {c : Cl} (h : CAt w b o c) : b < w.heap.size := World.block_lt_of_cell? _ _ (h.1 0 _ rfl)

theorem CAt.stay {T : Nat → Prop} {w w1 : World} {b o : Nat} {c : Cl} (h : CAt w b o c) (hs : Stay T w w1) (hn : ¬ T b) : CAt w1 b o c :=
  ⟨fun j v hv => (hs.cell (p := ⟨b, o + j, none⟩) h.lt hn).trans (h.1 j v hv), fun j hj => by
    rw [hs.cell (p := ⟨b, o + j, none⟩) h.lt hn, hs.frozen (p := ⟨b, o + j, none⟩) h.lt hn]; exact h.2 j hj⟩

theorem Pix.stay {T : Nat → Prop} {w w1 : World} {b n : Nat} {f : Nat → Cl} (h : Pix w b n f) (hs : Stay T w w1) (hn : ¬ T b) : Pix w1 b n f := fun i hi => (h i hi).stay hs hn

theorem Pix.keep {w w1 : World} {b n : Nat} {f : Nat → Cl} (h : Pix w b n f) (hs : Stay (fun _ => False) w w1) : Pix w1 b n f := h.stay hs (fun h => h)

theorem Pix.congr {w : World} {b n : Nat} {f g : Nat → Cl} (h : Pix w b n f) (e : ∀ i, i < n → f i = g i) : Pix w b n g := fun i hi => by rw [← e i hi]; exact h i hi

theorem Pix.lt {w : World} {b n : Nat} {f : Nat → Cl} (h : Pix w b n f) (hn : 0 < n) : b < w.heap.size := (h 0 hn).lt

theorem Stay.setCells {S : Nat → Prop} (b : Nat) : ∀ (vs : List Value) (o : Nat) {w w1 : World}, Stay S w w1 → S b → Stay S w (w1.setCells b o vs)
  | [], _, _, _, h, _ => h
  | v :: r, o, _, _, h, hb => Stay.setCells b r (o + 1) (h.setCell (p := ⟨b, o, none⟩) hb v) hb

theorem Stay.setCellsNew {S : Nat → Prop} (b : Nat) : ∀ (vs : List Value) (o : Nat) {w w1 : World}, Stay S w w1 → w.heap.size ≤ b → Stay S w (w1.setCells b o vs)
  | [], _, _, _, h, _ => h
  | v :: r, o, _, _, h, hb => Stay.setCellsNew b r (o + 1) (h.setNew (p := ⟨b, o, none⟩) hb v) hb

/-- One cell is set. -/
theorem Pix.set {w : World} {b n : Nat} {f : Nat → Cl} (h : Pix w b n f) (k : Nat) (c : Cl) : Pix (w.setCells b (k * 4) c.parts) b n (fun i => if i = k then c else f i) := by
  intro i hi
  have hl : c.parts.length = 4 := rfl
  by_cases hk : i = k
  · subst hk
    simp only [if_pos]
    exact ⟨World.rangeAt_setCells_same w b (i * 4) c.parts (h i hi).2, World.there_setCells (h i hi).2 _ _ _⟩
  · simp only [if_neg hk]
    refine ⟨World.rangeAt_setCells_apart (h i hi).1 b (k * 4) c.parts (.inr ?_), World.there_setCells (h i hi).2 _ _ _⟩
    have : (f i).parts.length = 4 := rfl
    omega

/-- The parts of cells, one behind the other. -/
def seg (n : Nat) (f : Nat → Cl) : List Value := (List.range n).flatMap (fun i => (f i).parts)

theorem seg_succ (n : Nat) (f : Nat → Cl) : seg (n + 1) f = seg n f ++ (f n).parts := by
  unfold seg
  rw [List.range_succ, List.flatMap_append]
  simp

theorem seg_length (f : Nat → Cl) : ∀ n, (seg n f).length = n * 4
  | 0 => rfl
  | n + 1 => by rw [seg_succ, List.length_append, seg_length f n]; show _ + 4 = _; omega

theorem seg_get (f : Nat → Cl) (i j : Nat) (hj : j < 4) : ∀ n, i < n → (seg n f)[i * 4 + j]? = (f i).parts[j]?
  | 0, h => absurd h (Nat.not_lt_zero _)
  | n + 1, h => by
    rw [seg_succ]
    by_cases hi : i < n
    · rw [List.getElem?_append_left (by rw [seg_length]; omega)]
      exact seg_get f i j hj n hi
    · obtain rfl : i = n := by omega
      rw [List.getElem?_append_right (by rw [seg_length]; omega), seg_length]
      congr 1
      omega

theorem seg_at (f : Nat → Cl) (n k : Nat) (v : Value) (h : (seg n f)[k]? = some v) : ∃ i j, k = i * 4 + j ∧ i < n ∧ j < 4 ∧ (f i).parts[j]? = some v := by
  have hk : k < n * 4 := by
    have := (List.getElem?_eq_some_iff.1 h).1
    rwa [seg_length] at this
  refine ⟨k / 4, k % 4, by omega, by omega, by omega, ?_⟩
  rw [← seg_get f (k / 4) (k % 4) (by omega) n (by omega), ← h]
  congr 1
  omega

theorem seg_one (n : Nat) (f : Nat → Cl) : ∀ v ∈ seg n f, v.oneCell' = true := by
  intro v hv
  obtain ⟨i, _, h⟩ := List.mem_flatMap.1 hv
  exact Cl.parts_one _ v h

theorem seg_congr {f g : Nat → Cl} : ∀ {n : Nat}, (∀ i, i < n → f i = g i) → seg n f = seg n g
  | 0, _ => rfl
  | n + 1, h => by rw [seg_succ, seg_succ, seg_congr (fun i hi => h i (by omega)), h n (by omega)]

/-- What a copy reads. -/
theorem Pix.src {w : World} {b n : Nat} {f : Nat → Cl} (h : Pix w b n f) (s m : Nat) (hm : s + m ≤ n) : ∀ j v, (seg m (fun i => f (s + i)))[j]? = some v → w.cell? ⟨b, s * 4 + j, none⟩ = some v := by
  intro j v hv
  obtain ⟨i, k, rfl, hi, hk, hp⟩ := seg_at _ _ _ _ hv
  have := (h (s + i) (by omega)).1 k v hp
  rwa [show (s + i) * 4 + k = s * 4 + (i * 4 + k) by omega] at this

theorem Pix.there {w : World} {b n : Nat} {f : Nat → Cl} (h : Pix w b n f) (s m : Nat) (hm : s + m ≤ n) : w.there b (s * 4) (m * 4) := by
  intro j hj
  have := (h (s + j / 4) (by omega)).2 (j % 4) (by omega)
  rwa [show (s + j / 4) * 4 + j % 4 = s * 4 + j by omega] at this

/-- Cells are written, one behind the other. -/
theorem Pix.copy {w : World} {b n : Nat} {f : Nat → Cl} (h : Pix w b n f) (k m : Nat) (g : Nat → Cl) (hm : k + m ≤ n) : Pix (w.setCells b (k * 4) (seg m g)) b n (fun i => if k ≤ i ∧ i < k + m then g (i - k) else f i) := by
  intro i hi
  have hl := seg_length g m
  by_cases hk : k ≤ i ∧ i < k + m
  · simp only [if_pos hk]
    refine ⟨fun j v hv => ?_, World.there_setCells (h i hi).2 _ _ _⟩
    have hj : j < 4 := (List.getElem?_eq_some_iff.1 hv).1
    have e : i * 4 + j = k * 4 + ((i - k) * 4 + j) := by omega
    have ht := h.there k m hm
    have hlt : (i - k) * 4 + j < (seg m g).length := by rw [hl]; omega
    rw [e, World.cell?_setCells_in b (seg m g) (k * 4) w (fun j hj => (ht j (by rwa [hl] at hj)).1) _ hlt]
    have := seg_get g (i - k) j hj m (by omega)
    rw [List.getElem?_eq_getElem hlt, hv] at this
    exact this
  · simp only [if_neg hk]
    refine ⟨World.rangeAt_setCells_apart (h i hi).1 b (k * 4) _ (.inr ?_), World.there_setCells (h i hi).2 _ _ _⟩
    have : (f i).parts.length = 4 := rfl
    rw [hl]
    omega

/-- An own row's cells. -/
theorem Pix.of_owns {w : World} {base e n g cap : Nat} {f : Nat → Cl} (h : w.ownsRow base e 4 (.slice (some ⟨g, 0, none⟩) n cap) n (seg n f)) : Pix w g n f := by
  intro i hi
  have c : ∀ j, j < 4 → w.cell? ⟨g, i * 4 + j, none⟩ = (f i).parts[j]? := fun j hj => by rw [h.cellAt (i * 4 + j) (by omega), seg_get f i j hj n hi]
  refine ⟨fun j v hv => ?_, fun j hj => ⟨?_, h.frozenAt _⟩⟩
  · rw [c j (List.getElem?_eq_some_iff.1 hv).1, hv]
  · rw [c j hj]
    match j, hj with
    | 0, _ => rfl
    | 1, _ => rfl
    | 2, _ => rfl
    | 3, _ => rfl

theorem Pix.row {w : World} {b n : Nat} {f : Nat → Cl} (h : Pix w b n f) (s m c : Nat) (hm : s + m ≤ n) : IsRowS w 4 (.slice (some ⟨b, s * 4, none⟩) m c) m (seg m (fun i => f (s + i))) :=
  .inr ⟨_, c, rfl, seg_length _ _, fun j u hu => by rw [addr_add]; exact h.src s m hm j u hu⟩

theorem made_seg (n : Nat) : (madeCells (Cl.zero.parts.toArray) (n * 4)).toList = seg n (fun _ => Cl.zero) := by
  apply List.ext_getElem?
  intro k
  by_cases hk : k < n * 4
  · have e := seg_get (fun _ => Cl.zero) (k / 4) (k % 4) (by omega) n (by omega)
    rw [show k / 4 * 4 + k % 4 = k by omega] at e
    rw [e]
    simp [madeCells, hk, Cl.parts]
    have : k % 4 < 4 := by omega
    match k % 4, this with
    | 0, _ => rfl
    | 1, _ => rfl
    | 2, _ => rfl
    | 3, _ => rfl
  · have hl := seg_length (fun _ => Cl.zero) n
    rw [List.getElem?_eq_none (by simp [madeCells]; omega), List.getElem?_eq_none (by omega)]

theorem Pix.made (w : World) (n : Nat) (hm : n ≤ maxLen) : Pix (w.alloc (.cells (madeCells (Cl.zero.parts.toArray) (n * 4)) 34)) w.heap.size n (fun _ => Cl.zero) := by
  have h := owns_newS w (madeCells (Cl.zero.parts.toArray) (n * 4)) 34 4 n (by simp [madeCells]) hm
  rw [made_seg] at h
  exact Pix.of_owns h

end Go.Proofs.Ytcealbdinbfegaa
