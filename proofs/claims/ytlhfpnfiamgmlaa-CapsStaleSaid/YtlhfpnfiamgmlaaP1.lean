/-
  The program's slots in memory, by an index function. No conditions.
-/
import Derived.Test.YtlhfpnfiamgmlaaP0
import Derived.Deep.MidRow
import Derived.Laws.OwnMore
namespace Go.Proofs.Ytlhfpnfiamgmlaa
open Go.RowKit

/-- A slot's parts. -/
def Pl.parts (c : Pl) : List Value := [.int .i64 c.gen, .int .i64 c.env, .int .i64 c.kind, .int .i64 c.obj, .int .i64 c.rights, c.of]

/-- A cell that lies in a block, and may be written. -/
def PAt (w : World) (b o : Nat) (c : Pl) : Prop := w.rangeAt b o c.parts ∧ w.there b o 6

/-- The first n cells of a block. -/
def PTab (w : World) (b n : Nat) (f : Nat → Pl) : Prop := ∀ i, i < n → PAt w b (i * 6) (f i)

theorem PAt.lt {w : World} {b o : Nat} {c : Pl} (h : PAt w b o c) : b < w.heap.size := World.block_lt_of_cell? _ _ (h.1 0 _ rfl)

theorem PAt.stay {T : Nat → Prop} {w w1 : World} {b o : Nat} {c : Pl} (h : PAt w b o c) (hs : Stay T w w1) (hn : ¬ T b) : PAt w1 b o c :=
  ⟨fun j v hv => (hs.cell (p := ⟨b, o + j, none⟩) h.lt hn).trans (h.1 j v hv), fun j hj => by
    rw [hs.cell (p := ⟨b, o + j, none⟩) h.lt hn, hs.frozen (p := ⟨b, o + j, none⟩) h.lt hn]; exact h.2 j hj⟩

theorem PTab.stay {T : Nat → Prop} {w w1 : World} {b n : Nat} {f : Nat → Pl} (h : PTab w b n f) (hs : Stay T w w1) (hn : ¬ T b) : PTab w1 b n f := fun i hi => (h i hi).stay hs hn

theorem PTab.keep {w w1 : World} {b n : Nat} {f : Nat → Pl} (h : PTab w b n f) (hs : Stay (fun _ => False) w w1) : PTab w1 b n f := h.stay hs (fun h => h)

theorem PTab.congr {w : World} {b n : Nat} {f g : Nat → Pl} (h : PTab w b n f) (e : ∀ i, i < n → f i = g i) : PTab w b n g := fun i hi => by rw [← e i hi]; exact h i hi

theorem PTab.lt {w : World} {b n : Nat} {f : Nat → Pl} (h : PTab w b n f) (hn : 0 < n) : b < w.heap.size := (h 0 hn).lt

/-- One cell is set. -/
theorem PTab.set {w : World} {b n : Nat} {f : Nat → Pl} (h : PTab w b n f) (k : Nat) (c : Pl) : PTab (w.setCells b (k * 6) c.parts) b n (fun i => if i = k then c else f i) := by
  intro i hi
  have hl : c.parts.length = 6 := rfl
  by_cases hk : i = k
  · subst hk
    simp only [if_pos]
    exact ⟨World.rangeAt_setCells_same w b (i * 6) c.parts (h i hi).2, World.there_setCells (h i hi).2 _ _ _⟩
  · simp only [if_neg hk]
    refine ⟨World.rangeAt_setCells_apart (h i hi).1 b (k * 6) c.parts (.inr ?_), World.there_setCells (h i hi).2 _ _ _⟩
    have : (f i).parts.length = 6 := rfl
    omega

/-- The parts of cells, one behind the other. -/
def pseg (n : Nat) (f : Nat → Pl) : List Value := (List.range n).flatMap (fun i => (f i).parts)

theorem pseg_succ (n : Nat) (f : Nat → Pl) : pseg (n + 1) f = pseg n f ++ (f n).parts := by
  unfold pseg
  rw [List.range_succ, List.flatMap_append]
  simp

theorem pseg_length (f : Nat → Pl) : ∀ n, (pseg n f).length = n * 6
  | 0 => rfl
  | n + 1 => by rw [pseg_succ, List.length_append, pseg_length f n]; show _ + 6 = _; omega

theorem pseg_get (f : Nat → Pl) (i j : Nat) (hj : j < 6) : ∀ n, i < n → (pseg n f)[i * 6 + j]? = (f i).parts[j]?
  | 0, h => absurd h (Nat.not_lt_zero _)
  | n + 1, h => by
    rw [pseg_succ]
    by_cases hi : i < n
    · rw [List.getElem?_append_left (by rw [pseg_length]; omega)]
      exact pseg_get f i j hj n hi
    · obtain rfl : i = n := by omega
      rw [List.getElem?_append_right (by rw [pseg_length]; omega), pseg_length]
      congr 1
      omega

theorem pseg_at (f : Nat → Pl) (n k : Nat) (v : Value) (h : (pseg n f)[k]? = some v) : ∃ i j, k = i * 6 + j ∧ i < n ∧ j < 6 ∧ (f i).parts[j]? = some v := by
  have hk : k < n * 6 := by
    have := (List.getElem?_eq_some_iff.1 h).1
    rwa [pseg_length] at this
  refine ⟨k / 6, k % 6, by omega, by omega, by omega, ?_⟩
  rw [← pseg_get f (k / 6) (k % 6) (by omega) n (by omega), ← h]
  congr 1
  omega

theorem pseg_congr {f g : Nat → Pl} : ∀ {n : Nat}, (∀ i, i < n → f i = g i) → pseg n f = pseg n g
  | 0, _ => rfl
  | n + 1, h => by rw [pseg_succ, pseg_succ, pseg_congr (fun i hi => h i (by omega)), h n (by omega)]

/-- What a copy reads. -/
theorem PTab.src {w : World} {b n : Nat} {f : Nat → Pl} (h : PTab w b n f) (s m : Nat) (hm : s + m ≤ n) : ∀ j v, (pseg m (fun i => f (s + i)))[j]? = some v → w.cell? ⟨b, s * 6 + j, none⟩ = some v := by
  intro j v hv
  obtain ⟨i, k, rfl, hi, hk, hp⟩ := pseg_at _ _ _ _ hv
  have := (h (s + i) (by omega)).1 k v hp
  rwa [show (s + i) * 6 + k = s * 6 + (i * 6 + k) by omega] at this

theorem PTab.there {w : World} {b n : Nat} {f : Nat → Pl} (h : PTab w b n f) (s m : Nat) (hm : s + m ≤ n) : w.there b (s * 6) (m * 6) := by
  intro j hj
  have := (h (s + j / 6) (by omega)).2 (j % 6) (by omega)
  rwa [show (s + j / 6) * 6 + j % 6 = s * 6 + j by omega] at this

/-- Cells are written, one behind the other. -/
theorem PTab.copy {w : World} {b n : Nat} {f : Nat → Pl} (h : PTab w b n f) (k m : Nat) (g : Nat → Pl) (hm : k + m ≤ n) : PTab (w.setCells b (k * 6) (pseg m g)) b n (fun i => if k ≤ i ∧ i < k + m then g (i - k) else f i) := by
  intro i hi
  have hl := pseg_length g m
  by_cases hk : k ≤ i ∧ i < k + m
  · simp only [if_pos hk]
    refine ⟨fun j v hv => ?_, World.there_setCells (h i hi).2 _ _ _⟩
    have hj : j < 6 := (List.getElem?_eq_some_iff.1 hv).1
    have e : i * 6 + j = k * 6 + ((i - k) * 6 + j) := by omega
    have ht := h.there k m hm
    have hlt : (i - k) * 6 + j < (pseg m g).length := by rw [hl]; omega
    rw [e, World.cell?_setCells_in b (pseg m g) (k * 6) w (fun j hj => (ht j (by rwa [hl] at hj)).1) _ hlt]
    have := pseg_get g (i - k) j hj m (by omega)
    rw [List.getElem?_eq_getElem hlt, hv] at this
    exact this
  · simp only [if_neg hk]
    refine ⟨World.rangeAt_setCells_apart (h i hi).1 b (k * 6) _ (.inr ?_), World.there_setCells (h i hi).2 _ _ _⟩
    have : (f i).parts.length = 6 := rfl
    rw [hl]
    omega

/-- The program's pointer to a slot. -/
def ptrOf (B : Nat) (j : Int) : Value := if j < 0 then .pointer none else .pointer (some ⟨B, j.toNat * 6, none⟩)

/-- The program's slot for the document's one. -/
def pl (B : Nat) (s : Sl) : Pl := ⟨s.gen, if s.env < 0 then 0 else s.env, s.kind, s.obj, s.rights, ptrOf B s.of⟩

/-- A slot's numbers are right. -/
def OkS (n : Nat) (s : Sl) : Prop := (s.env = -1 ∧ s.kind = 0 ∧ s.obj = 0 ∧ s.rights = 0 ∧ s.of = -1) ∨ (0 ≤ s.env ∧ 1 ≤ s.kind ∧ s.kind ≤ 3 ∧ 0 ≤ s.obj ∧ 1 ≤ s.rights ∧ s.rights ≤ 7 ∧ -1 ≤ s.of ∧ s.of < (n : Nat))

/-- All slots are right, and nobody stands below itself. -/
def Okf (n : Nat) (f : Nat → Sl) : Prop := (∀ i, i < n → OkS n (f i)) ∧ ∃ rk : Nat → Nat, ∀ i, i < n → ∀ j : Nat, (f i).of = (j : Nat) → j < n ∧ 0 ≤ (f j).env ∧ rk j < rk i

theorem Okf.fresh (n : Nat) : Okf n (fun _ => Sl.fresh) := ⟨fun _ _ => .inl ⟨rfl, rfl, rfl, rfl, rfl⟩, fun _ => 0, fun i _ j h => by have h1 : (-1 : Int) = (j : Nat) := h; omega⟩

theorem Okf.put {n i : Nat} {f : Nat → Sl} {s : Sl} (h : Okf n f) (hi : i < n) (hf : (f i).env < 0) (hs : OkS n s) (hof : ∀ j : Nat, s.of = (j : Nat) → j < n ∧ 0 ≤ (f j).env) : Okf n (putF f i s) := by
  obtain ⟨h1, rk, h2⟩ := h
  refine ⟨fun k hk => ?_, fun k => if k = i then rk s.of.toNat + 1 else rk k, fun k hk j hj => ?_⟩
  · unfold putF
    by_cases e : k = i
    · rw [if_pos e]; exact hs
    · rw [if_neg e]; exact h1 k hk
  · unfold putF at hj ⊢
    by_cases e : k = i
    · rw [if_pos e] at hj
      obtain ⟨a, b⟩ := hof j hj
      have hji : j ≠ i := fun x => by subst x; omega
      refine ⟨a, by rw [if_neg hji]; exact b, ?_⟩
      show (if j = i then _ else rk j) < (if k = i then _ else rk k)
      rw [if_neg hji, if_pos e, hj, Int.toNat_natCast]
      exact Nat.lt_succ_self _
    · rw [if_neg e] at hj
      obtain ⟨a, b, c⟩ := h2 k hk j hj
      have hji : j ≠ i := fun x => by subst x; omega
      refine ⟨a, by rw [if_neg hji]; exact b, ?_⟩
      show (if j = i then _ else rk j) < (if k = i then _ else rk k)
      rw [if_neg hji, if_neg e]
      exact c

theorem Okf.add {n : Nat} {q : Int} {f : Nat → Sl} {s : Sl} (h : Okf n f) (hs : OkS n s) (hof : ∀ j : Nat, s.of = (j : Nat) → j < n ∧ 0 ≤ (f j).env) : Okf n (addS n q f s).1 := by
  unfold addS
  split
  · exact h
  · split
    · rename_i hlt
      exact h.put hlt ((freeIx_spec f n).2.2 hlt) hs hof
    · exact h

theorem Okf.mint {n : Nat} {q : Int} {f : Nat → Sl} {env kind obj rights : Int} (h : Okf n f) : Okf n (mintS n q f env kind obj rights).1 := by
  unfold mintS
  split
  · exact h
  · rename_i hb
    unfold badArgs at hb
    refine h.add (.inr ⟨?_, ?_, ?_, ?_, ?_, ?_, ?_, ?_⟩) (fun j hj => ?_)
    · show 0 ≤ env; omega
    · show 1 ≤ kind; omega
    · show kind ≤ 3; omega
    · show 0 ≤ obj; omega
    · show 1 ≤ rights; omega
    · show rights ≤ 7; omega
    · show (-1 : Int) ≤ -1; omega
    · show (-1 : Int) < (n : Nat); omega
    · have hj' : (-1 : Int) = (j : Nat) := hj
      omega

theorem Okf.share {n : Nat} {q : Int} {f : Nat → Sl} {env sl gn tw rights : Int} (h : Okf n f) : Okf n (shareS n q f env sl gn tw rights).1 := by
  unfold shareS
  split
  · rename_i h0
    obtain ⟨k, rfl, hk, h1, _⟩ := ownE_zero h0
    split
    · exact h
    · rename_i hb
      split
      · have hok := h.1 k hk
        rw [Int.toNat_natCast]
        rcases hok with e | e
        · omega
        · refine h.add (.inr ⟨?_, e.2.1, e.2.2.1, e.2.2.2.1, ?_, ?_, ?_, ?_⟩) (fun j hj => ?_)
          · show 0 ≤ tw; omega
          · show 1 ≤ rights; omega
          · show rights ≤ 7; omega
          · show (-1 : Int) ≤ (k : Nat); omega
          · show ((k : Nat) : Int) < (n : Nat); omega
          · have hj' : ((k : Nat) : Int) = (j : Nat) := hj
            have hjk : k = j := by omega
            subst hjk
            exact ⟨hk, h1⟩
      · exact h
  · exact h

theorem Okf.gone {n : Nat} {f : Nat → Sl} {m0 M : Nat → Bool} (h : Okf n f) (hM : ∀ i, M i = true ↔ Bel n f m0 i) : Okf n (goneF M f) := by
  obtain ⟨h1, rk, h2⟩ := h
  refine ⟨fun i hi => ?_, rk, fun i hi j hj => ?_⟩
  · unfold goneF
    split
    · exact .inl ⟨rfl, rfl, rfl, rfl, rfl⟩
    · exact h1 i hi
  · unfold goneF at hj ⊢
    by_cases e : M i = true ∧ 0 ≤ (f i).env
    · rw [if_pos e] at hj
      have hj' : (-1 : Int) = (j : Nat) := hj
      omega
    · rw [if_neg e] at hj
      obtain ⟨a, b, c⟩ := h2 i hi j hj
      have hu : 0 ≤ (f i).env := by
        rcases h1 i hi with x | x
        · omega
        · exact x.1
      have hj2 : ¬ (M j = true ∧ 0 ≤ (f j).env) := fun x => e ⟨(hM i).2 (.step hi hu hj ((hM j).1 x.1)), hu⟩
      exact ⟨a, by rw [if_neg hj2]; exact b, c⟩

/-- A table in memory: its box, its slots. -/
structure TAt (w : World) (T B n : Nat) (q : Int) (f : Nat → Sl) : Prop where
  c0 : w.cell? ⟨T, 0, none⟩ = some (.slice (some ⟨B, 0, none⟩) n 4096)
  c1 : w.cell? ⟨T, 1, none⟩ = some (.int .i64 q)
  tab : PTab w B n (fun i => pl B (f i))
  ne : T ≠ B
  n0 : 0 < n
  n1 : n ≤ 20
  ok : Okf n f

theorem TAt.lt {w : World} {T B n : Nat} {q : Int} {f : Nat → Sl} (h : TAt w T B n q f) : T < w.heap.size := World.block_lt_of_cell? _ _ h.c0
theorem TAt.ltB {w : World} {T B n : Nat} {q : Int} {f : Nat → Sl} (h : TAt w T B n q f) : B < w.heap.size := h.tab.lt h.n0

theorem TAt.stay {S : Nat → Prop} {w w1 : World} {T B n : Nat} {q : Int} {f : Nat → Sl} (h : TAt w T B n q f) (hs : Stay S w w1) (h1 : ¬ S T) (h2 : ¬ S B) : TAt w1 T B n q f :=
  ⟨(hs.cell (p := ⟨T, 0, none⟩) h.lt h1).trans h.c0, (hs.cell (p := ⟨T, 1, none⟩) h.lt h1).trans h.c1, h.tab.stay hs h2, h.ne, h.n0, h.n1, h.ok⟩

theorem TAt.keep {w w1 : World} {T B n : Nat} {q : Int} {f : Nat → Sl} (h : TAt w T B n q f) (hs : Stay (fun _ => False) w w1) : TAt w1 T B n q f := h.stay hs (fun h => h) (fun h => h)

theorem TAt.new_f {w w1 : World} {T B n : Nat} {q : Int} {f f' : Nat → Sl} (h : TAt w T B n q f) (hs : Stay (fun j => j = B) w w1) (ht : PTab w1 B n (fun i => pl B (f' i))) (ok : Okf n f') : TAt w1 T B n q f' :=
  ⟨(hs.cell (p := ⟨T, 0, none⟩) h.lt h.ne).trans h.c0, (hs.cell (p := ⟨T, 1, none⟩) h.lt h.ne).trans h.c1, ht, h.ne, h.n0, h.n1, ok⟩

/-- A slot that can be read. -/
theorem PAt.box {w : World} {b o : Nat} {c : Pl} (h : PAt w b o c) : PBoxAt w b o c := ⟨h.1 0 _ rfl, h.1 1 _ rfl, h.1 2 _ rfl, h.1 3 _ rfl, h.1 4 _ rfl, h.1 5 _ rfl⟩

theorem TAt.at {w : World} {T B n : Nat} {q : Int} {f : Nat → Sl} (h : TAt w T B n q f) {i : Nat} (hi : i < n) : PBoxAt w B (i * 6) (pl B (f i)) := (h.tab i hi).box

end Go.Proofs.Ytlhfpnfiamgmlaa
