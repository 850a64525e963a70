/-
  Rows of slots in memory, by an index function. No conditions.
-/
import Derived.Test.YtlhfpnfiamgmlaaB0
import Derived.Deep.MidRow
import Derived.Laws.OwnMore
namespace Go.Proofs.Ytlhfpnfiamgmlaa
open Go.RowKit

/-- A slot's parts. -/
def Sl.parts (c : Sl) : List Value := [.int .i64 c.gen, .int .i64 c.env, .int .i64 c.kind, .int .i64 c.obj, .int .i64 c.rights, .int .i64 c.of]

theorem Sl.parts_one (c : Sl) : ∀ v ∈ c.parts, v.oneCell' = true := by
  intro v hv
  simp only [Sl.parts, List.mem_cons, List.not_mem_nil, or_false] at hv
  rcases hv with rfl | rfl | rfl | rfl | rfl | rfl <;> rfl

theorem Sl.all_one (c : Sl) : (#[Value.int .i64 c.gen, .int .i64 c.env, .int .i64 c.kind, .int .i64 c.obj, .int .i64 c.rights, .int .i64 c.of] : Array Value).all (fun x => x.oneCell') = true := by simp [Value.oneCell']

/-- A cell that lies in a block, and may be written. -/
def SAt (w : World) (b o : Nat) (c : Sl) : Prop := w.rangeAt b o c.parts ∧ w.there b o 6

/-- The first n cells of a block. -/
def Tab (w : World) (b n : Nat) (f : Nat → Sl) : Prop := ∀ i, i < n → SAt w b (i * 6) (f i)

theorem SAt.lt {w : World} {b o : Nat} {c : Sl} (h : SAt w b o c) : b < w.heap.size := World.block_lt_of_cell? _ _ (h.1 0 _ rfl)

theorem SAt.stay {T : Nat → Prop} {w w1 : World} {b o : Nat} {c : Sl} (h : SAt w b o c) (hs : Stay T w w1) (hn : ¬ T b) : SAt w1 b o c :=
  ⟨fun j v hv => (hs.cell (p := ⟨b, o + j, none⟩) h.lt hn).trans (h.1 j v hv), fun j hj => by
    rw [hs.cell (p := ⟨b, o + j, none⟩) h.lt hn, hs.frozen (p := ⟨b, o + j, none⟩) h.lt hn]; exact h.2 j hj⟩

theorem Tab.stay {T : Nat → Prop} {w w1 : World} {b n : Nat} {f : Nat → Sl} (h : Tab w b n f) (hs : Stay T w w1) (hn : ¬ T b) : Tab w1 b n f := fun i hi => (h i hi).stay hs hn

theorem Tab.keep {w w1 : World} {b n : Nat} {f : Nat → Sl} (h : Tab w b n f) (hs : Stay (fun _ => False) w w1) : Tab w1 b n f := h.stay hs (fun h => h)

theorem Tab.congr {w : World} {b n : Nat} {f g : Nat → Sl} (h : Tab w b n f) (e : ∀ i, i < n → f i = g i) : Tab w b n g := fun i hi => by rw [← e i hi]; exact h i hi

theorem Tab.lt {w : World} {b n : Nat} {f : Nat → Sl} (h : Tab w b n f) (hn : 0 < n) : b < w.heap.size := (h 0 hn).lt

theorem Stay.setCells {S : Nat → Prop} (b : Nat) : ∀ (vs : List Value) (o : Nat) {w w1 : World}, Stay S w w1 → S b → Stay S w (w1.setCells b o vs)
  | [], _, _, _, h, _ => h
  | v :: r, o, _, _, h, hb => Stay.setCells b r (o + 1) (h.setCell (p := ⟨b, o, none⟩) hb v) hb

theorem Stay.setCellsNew {S : Nat → Prop} (b : Nat) : ∀ (vs : List Value) (o : Nat) {w w1 : World}, Stay S w w1 → w.heap.size ≤ b → Stay S w (w1.setCells b o vs)
  | [], _, _, _, h, _ => h
  | v :: r, o, _, _, h, hb => Stay.setCellsNew b r (o + 1) (h.setNew (p := ⟨b, o, none⟩) hb v) hb

/-- One cell is set. -/
theorem Tab.set {w : World} {b n : Nat} {f : Nat → Sl} (h : Tab w b n f) (k : Nat) (c : Sl) : Tab (w.setCells b (k * 6) c.parts) b n (fun i => if i = k then c else f i) := by
  intro i hi
  have hl : c.parts.length = 6 := rfl
  by_cases hk : i = k
  · subst hk
    simp only [if_pos]
    exact ⟨World.rangeAt_setCells_same w b (i * 6) c.parts (h i hi).2, World.there_setCells (h i hi).2 _ _ _⟩
  · simp only [if_neg hk]
    refine ⟨World.rangeAt_setCells_apart (h i hi).1 b (k * 6) c.parts (.inr ?_), World.there_setCells (h i hi).2 _ _ _⟩
    have : (f i).parts.length = 6 := rfl
    omega

/-- The parts of cells, one behind the other. -/
def seg (n : Nat) (f : Nat → Sl) : List Value := (List.range n).flatMap (fun i => (f i).parts)

theorem seg_succ (n : Nat) (f : Nat → Sl) : seg (n + 1) f = seg n f ++ (f n).parts := by
  unfold seg
  rw [List.range_succ, List.flatMap_append]
  simp

theorem seg_length (f : Nat → Sl) : ∀ n, (seg n f).length = n * 6
  | 0 => rfl
  | n + 1 => by rw [seg_succ, List.length_append, seg_length f n]; show _ + 6 = _; omega

theorem seg_get (f : Nat → Sl) (i j : Nat) (hj : j < 6) : ∀ n, i < n → (seg n f)[i * 6 + j]? = (f i).parts[j]?
  | 0, h => absurd h (Nat.not_lt_zero _)
  | n + 1, h => by
    rw [seg_succ]
    by_cases hi : i < n
    · rw [List.getElem?_append_left (by rw [seg_length]; omega)]
      exact seg_get f i j hj n hi
    · obtain rfl : i = n := by omega
      rw [List.getElem?_append_right (by rw [seg_length]; omega), seg_length]
      congr 1
      omega

theorem seg_at (f : Nat → Sl) (n k : Nat) (v : Value) (h : (seg n f)[k]? = some v) : ∃ i j, k = i * 6 + j ∧ i < n ∧ j < 6 ∧ (f i).parts[j]? = some v := by
  have hk : k < n * 6 := by
    have := (List.getElem?_eq_some_iff.1 h).1
    rwa [seg_length] at this
  refine ⟨k / 6, k % 6, by omega, by omega, by omega, ?_⟩
  rw [← seg_get f (k / 6) (k % 6) (by omega) n (by omega), ← h]
  congr 1
  omega

theorem seg_one (n : Nat) (f : Nat → Sl) : ∀ v ∈ seg n f, v.oneCell' = true := by
  intro v hv
  obtain ⟨i, _, h⟩ := List.mem_flatMap.1 hv
  exact Sl.parts_one _ v h

theorem seg_congr {f g : Nat → Sl} : ∀ {n : Nat}, (∀ i, i < n → f i = g i) → seg n f = seg n g
  | 0, _ => rfl
  | n + 1, h => by rw [seg_succ, seg_succ, seg_congr (fun i hi => h i (by omega)), h n (by omega)]

/-- What a copy reads. -/
theorem Tab.src {w : World} {b n : Nat} {f : Nat → Sl} (h : Tab w b n f) (s m : Nat) (hm : s + m ≤ n) : ∀ j v, (seg m (fun i => f (s + i)))[j]? = some v → w.cell? ⟨b, s * 6 + j, none⟩ = some v := by
  intro j v hv
  obtain ⟨i, k, rfl, hi, hk, hp⟩ := seg_at _ _ _ _ hv
  have := (h (s + i) (by omega)).1 k v hp
  rwa [show (s + i) * 6 + k = s * 6 + (i * 6 + k) by omega] at this

theorem Tab.there {w : World} {b n : Nat} {f : Nat → Sl} (h : Tab w b n f) (s m : Nat) (hm : s + m ≤ n) : w.there b (s * 6) (m * 6) := by
  intro j hj
  have := (h (s + j / 6) (by omega)).2 (j % 6) (by omega)
  rwa [show (s + j / 6) * 6 + j % 6 = s * 6 + j by omega] at this

/-- Cells are written, one behind the other. -/
theorem Tab.copy {w : World} {b n : Nat} {f : Nat → Sl} (h : Tab w b n f) (k m : Nat) (g : Nat → Sl) (hm : k + m ≤ n) : Tab (w.setCells b (k * 6) (seg m g)) b n (fun i => if k ≤ i ∧ i < k + m then g (i - k) else f i) := by
  intro i hi
  have hl := seg_length g m
  by_cases hk : k ≤ i ∧ i < k + m
  · simp only [if_pos hk]
    refine ⟨fun j v hv => ?_, World.there_setCells (h i hi).2 _ _ _⟩
    have hj : j < 6 := (List.getElem?_eq_some_iff.1 hv).1
    have e : i * 6 + j = k * 6 + ((i - k) * 6 + j) := by omega
    have ht := h.there k m hm
    have hlt : (i - k) * 6 + j < (seg m g).length := by rw [hl]; omega
    rw [e, World.cell?_setCells_in b (seg m g) (k * 6) w (fun j hj => (ht j (by rwa [hl] at hj)).1) _ hlt]
    have := seg_get g (i - k) j hj m (by omega)
    rw [List.getElem?_eq_getElem hlt, hv] at this
    exact this
  · simp only [if_neg hk]
    refine ⟨World.rangeAt_setCells_apart (h i hi).1 b (k * 6) _ (.inr ?_), World.there_setCells (h i hi).2 _ _ _⟩
    have : (f i).parts.length = 6 := rfl
    rw [hl]
    omega

/-- An own row's cells. -/
theorem Tab.of_owns {w : World} {base e n g cap : Nat} {f : Nat → Sl} (h : w.ownsRow base e 6 (.slice (some ⟨g, 0, none⟩) n cap) n (seg n f)) : Tab w g n f := by
  intro i hi
  have c : ∀ j, j < 6 → w.cell? ⟨g, i * 6 + j, none⟩ = (f i).parts[j]? := fun j hj => by rw [h.cellAt (i * 6 + j) (by omega), seg_get f i j hj n hi]
  refine ⟨fun j v hv => ?_, fun j hj => ⟨?_, h.frozenAt _⟩⟩
  · rw [c j (List.getElem?_eq_some_iff.1 hv).1, hv]
  · rw [c j hj]
    match j, hj with
    | 0, _ => rfl
    | 1, _ => rfl
    | 2, _ => rfl
    | 3, _ => rfl
    | 4, _ => rfl
    | 5, _ => rfl

theorem Tab.row {w : World} {b n : Nat} {f : Nat → Sl} (h : Tab w b n f) (s m c : Nat) (hm : s + m ≤ n) : IsRowS w 6 (.slice (some ⟨b, s * 6, none⟩) m c) m (seg m (fun i => f (s + i))) :=
  .inr ⟨_, c, rfl, seg_length _ _, fun j u hu => by rw [addr_add]; exact h.src s m hm j u hu⟩

theorem made_seg (n : Nat) : (madeCells (Sl.zero.parts.toArray) (n * 6)).toList = seg n (fun _ => Sl.zero) := by
  apply List.ext_getElem?
  intro k
  by_cases hk : k < n * 6
  · have e := seg_get (fun _ => Sl.zero) (k / 6) (k % 6) (by omega) n (by omega)
    rw [show k / 6 * 6 + k % 6 = k by omega] at e
    rw [e]
    simp [madeCells, hk, Sl.parts]
    have : k % 6 < 6 := by omega
    match k % 6, this with
    | 0, _ => rfl
    | 1, _ => rfl
    | 2, _ => rfl
    | 3, _ => rfl
    | 4, _ => rfl
    | 5, _ => rfl
  · have hl := seg_length (fun _ => Sl.zero) n
    rw [List.getElem?_eq_none (by simp [madeCells]; omega), List.getElem?_eq_none (by omega)]

theorem Tab.made (w : World) (n : Nat) (hm : n ≤ maxLen) : Tab (w.alloc (.cells (madeCells (Sl.zero.parts.toArray) (n * 6)) 70)) w.heap.size n (fun _ => Sl.zero) := by
  have h := owns_newS w (madeCells (Sl.zero.parts.toArray) (n * 6)) 70 6 n (by simp [madeCells]) hm
  rw [made_seg] at h
  exact Tab.of_owns h

end Go.Proofs.Ytlhfpnfiamgmlaa
