/-
  Processes, one behind the other: as cells, in memory. No conditions.
  Maps of integers: what stands at each key. No conditions.
  Numbers compared, and what is asked of one process: walked. No conditions.
  The first process of which a test is true: walked. No conditions.
  A place is looked for by halves: walked. No conditions.
-/
import Derived.Test.YtefpifnfinkbaaaG0
import Derived.Lib.SliceRun
import Derived.Maps.OwnSet
import Derived.Deep.DeepCutAuto
import Derived.BigQuiet
namespace Go.Proofs.Ytefpifnfinkbaaa
open Go.RowKit

/-- A process's parts. -/
def Pr.parts (p : Pr) : List Value := [.int .i64 p.pid, .int .i64 p.par, .int .i64 p.grp, .int .i64 p.ses, .int .i64 p.tty, .bool p.df]

theorem Pr.parts_one (p : Pr) : ∀ v ∈ p.parts, v.oneCell' = true := by
  intro v hv
  simp only [Pr.parts, List.mem_cons, List.not_mem_nil, or_false] at hv
  rcases hv with rfl | rfl | rfl | rfl | rfl | rfl <;> rfl

/-- The cells of processes. -/
def wc (L : List Pr) : List Value := L.flatMap Pr.parts

theorem wc_nil : wc [] = [] := rfl

theorem wc_cons (p : Pr) (L : List Pr) : wc (p :: L) = p.parts ++ wc L := rfl

theorem wc_append (A B : List Pr) : wc (A ++ B) = wc A ++ wc B := List.flatMap_append

theorem wc_length : ∀ L : List Pr, (wc L).length = L.length * 6
  | [] => rfl
  | p :: L => by
    rw [wc_cons, List.length_append, wc_length L, List.length_cons]
    show 6 + _ = _
    omega

theorem wc_one (L : List Pr) : ∀ v ∈ wc L, v.oneCell' = true := by
  intro v hv
  obtain ⟨p, _, h⟩ := List.mem_flatMap.1 hv
  exact p.parts_one v h

theorem wc_take : ∀ (L : List Pr) (i : Nat), wc (L.take i) = (wc L).take (i * 6)
  | [], i => by simp [wc]
  | p :: L, 0 => by simp [wc]
  | p :: L, i + 1 => by
    have hl : p.parts.length = 6 := rfl
    rw [List.take_succ_cons, wc_cons, wc_cons, wc_take L i, List.take_append, hl, List.take_of_length_le (l := p.parts) (by omega), show (i + 1) * 6 - 6 = i * 6 by omega]

theorem wc_drop : ∀ (L : List Pr) (i : Nat), wc (L.drop i) = (wc L).drop (i * 6)
  | [], i => by simp [wc]
  | p :: L, 0 => by simp [wc]
  | p :: L, i + 1 => by
    have hl : p.parts.length = 6 := rfl
    rw [List.drop_succ_cons, wc_cons, wc_drop L i, List.drop_append, hl, List.drop_of_length_le (l := p.parts) (by omega), show (i + 1) * 6 - 6 = i * 6 by omega, List.nil_append]

theorem wc_get {L : List Pr} {i : Nat} {p : Pr} (h : L[i]? = some p) (j : Nat) (hj : j < 6) : (wc L)[i * 6 + j]? = p.parts[j]? := by
  have hi : i < L.length := (List.getElem?_eq_some_iff.1 h).1
  have e : L = L.take i ++ p :: L.drop (i + 1) := by
    rw [← (List.getElem?_eq_some_iff.1 h).2, List.getElem_cons_drop]
    exact (List.take_append_drop i L).symm
  have hl : p.parts.length = 6 := rfl
  rw [e, wc_append, wc_cons, List.getElem?_append_right (by rw [wc_length, List.length_take]; omega), List.getElem?_append_left (by rw [wc_length, List.length_take]; omega)]
  congr 1
  rw [wc_length, List.length_take]
  omega

/-- Processes that can be read. -/
def Rds (w : World) (a : Option Addr) (L : List Pr) : Prop := ∀ i p, L[i]? = some p → ∃ g, a = some ⟨g, 0, none⟩ ∧ PBoxAt w g (i * 6) p

theorem PBoxAt.stay {T : Nat → Prop} {w w1 : World} {g o : Nat} {c : Pr} (h : PBoxAt w g o c) (hs : Stay T w w1) (hn : ¬ T g) : PBoxAt w1 g o c := by
  have hb : g < w.heap.size := World.block_lt_of_cell? _ _ h.c0
  have c' : ∀ o, w1.cell? ⟨g, o, none⟩ = w.cell? ⟨g, o, none⟩ := fun o => hs.cell (p := ⟨g, o, none⟩) hb hn
  exact ⟨(c' _).trans h.c0, (c' _).trans h.c1, (c' _).trans h.c2, (c' _).trans h.c3, (c' _).trans h.c4, (c' _).trans h.c5⟩

theorem Rds.stay {T : Nat → Prop} {w w1 : World} {a : Option Addr} {L : List Pr} (h : Rds w a L) (hs : Stay T w w1) (hn : ∀ k, a.map Addr.block = some k → ¬ T k) : Rds w1 a L := fun i p hp => by
  obtain ⟨g, rfl, hb⟩ := h i p hp
  exact ⟨g, rfl, hb.stay hs (hn g rfl)⟩

theorem Rds.keep {w w1 : World} {a : Option Addr} {L : List Pr} (h : Rds w a L) (hs : Stay (fun _ => False) w w1) : Rds w1 a L := h.stay hs (fun _ _ h => h)

/-- Processes in a row of their own, and room behind them. -/
def Ws (w : World) (a : Option Addr) (n cap : Nat) (L : List Pr) : Prop :=
  L.length = n ∧ n ≤ cap ∧ cap ≤ maxLen ∧ ((a = none ∧ cap = 0) ∨ ∃ g, a = some ⟨g, 0, none⟩ ∧ g < w.heap.size ∧ w.rangeAt g 0 (wc L) ∧ w.there g 0 (cap * 6))

variable {w w1 W : World} {a : Option Addr} {n cap g i : Nat} {L : List Pr} {T : Nat → Prop}

theorem Ws.empty (w : World) : Ws w none 0 0 [] := ⟨rfl, Nat.le_refl _, by unfold maxLen; omega, .inl ⟨rfl, rfl⟩⟩

theorem Ws.lt (h : Ws w a n cap L) : ∀ k, a.map Addr.block = some k → k < w.heap.size := by
  intro k hk
  rcases h.2.2.2 with ⟨rfl, _⟩ | ⟨g, rfl, hg, _⟩
  · cases hk
  · cases hk; exact hg

theorem Ws.stay (h : Ws w a n cap L) (hs : Stay T w w1) (hn : ∀ k, a.map Addr.block = some k → ¬ T k) : Ws w1 a n cap L := by
  refine ⟨h.1, h.2.1, h.2.2.1, ?_⟩
  rcases h.2.2.2 with h0 | ⟨g, rfl, hg, hr, ht⟩
  · exact .inl h0
  · have hc : ∀ o, w1.cell? ⟨g, o, none⟩ = w.cell? ⟨g, o, none⟩ := fun o => hs.cell (p := ⟨g, o, none⟩) hg (hn g rfl)
    have hf : ∀ o, w1.frozen? ⟨g, o, none⟩ = w.frozen? ⟨g, o, none⟩ := fun o => hs.frozen (p := ⟨g, o, none⟩) hg (hn g rfl)
    exact .inr ⟨g, rfl, Nat.lt_of_lt_of_le hg hs.size, fun j u hu => (hc _).trans (hr j u hu), fun j hj => ⟨by rw [hc]; exact (ht j hj).1, by rw [hf]; exact (ht j hj).2⟩⟩

theorem Ws.keep (h : Ws w a n cap L) (hs : Stay (fun _ => False) w w1) : Ws w1 a n cap L := h.stay hs (fun _ _ h => h)

theorem Ws.at (h : Ws w a n cap L) {p : Pr} (hp : L[i]? = some p) : ∃ g, a = some ⟨g, 0, none⟩ ∧ PBoxAt w g (i * 6) p := by
  have hi : i < L.length := (List.getElem?_eq_some_iff.1 hp).1
  rcases h.2.2.2 with ⟨_, h0⟩ | ⟨g, rfl, _, hr, _⟩
  · have := h.1; have := h.2.1; omega
  · have c : ∀ j, j < 6 → ∀ v, p.parts[j]? = some v → w.cell? ⟨g, i * 6 + j, none⟩ = some v := fun j hj v hv => by
      have := hr (i * 6 + j) v (by rw [wc_get hp j hj]; exact hv)
      rwa [Nat.zero_add] at this
    exact ⟨g, rfl, c 0 (by decide) _ rfl, c 1 (by decide) _ rfl, c 2 (by decide) _ rfl, c 3 (by decide) _ rfl, c 4 (by decide) _ rfl, c 5 (by decide) _ rfl⟩

theorem Ws.rds (h : Ws w a n cap L) : Rds w a L := fun _ _ hp => h.at hp

/-- Processes to be read one behind the other. -/
theorem Ws.row (h : Ws w a n cap L) : IsRowS w 6 (.slice a n cap) n (wc L) := by
  rcases h.2.2.2 with ⟨rfl, h0⟩ | ⟨g, rfl, _, hr, _⟩
  · have h1 := h.1; have h2 := h.2.1
    obtain rfl : n = 0 := by omega
    obtain rfl : L = [] := List.eq_nil_of_length_eq_zero h1
    subst h0
    exact .inl ⟨rfl, rfl, rfl⟩
  · refine .inr ⟨_, _, rfl, by rw [wc_length, h.1], fun j u hu => ?_⟩
    rw [addr_add]
    exact hr j u hu

theorem Ws.of_owns {base e : Nat} {v : Value} (h : w.ownsRow base e 6 v n (wc L)) : ∃ a cap, v = .slice a n cap ∧ Ws w a n cap L ∧ ∀ k, a.map Addr.block = some k → base ≤ k := by
  have hl : L.length = n := by have := h.1; rw [wc_length] at this; omega
  rcases h.2 with ⟨rfl, h0⟩ | ⟨g, cap, cur, rfl, hb, hg, h1, h2, h3, h4⟩
  · subst h0
    exact ⟨_, _, rfl, ⟨hl, Nat.le_refl _, by unfold maxLen; omega, .inl ⟨rfl, rfl⟩⟩, fun k hk => by cases hk⟩
  · have hlt : g < w.heap.size := (Array.getElem?_eq_some_iff.1 hg).1
    refine ⟨_, _, rfl, ⟨hl, h1, h2, .inr ⟨g, rfl, hlt, fun j u hu => ?_, fun j hj => ?_⟩⟩, fun k hk => by cases hk; exact hb⟩
    · have := h.cells (g := g) rfl j u hu
      rwa [addr_add] at this
    · have hj' : j < cur.size := by omega
      constructor
      · rw [cell_of_row w g _ cur e (0, 0) hg, Nat.zero_add, Array.getElem?_eq_getElem hj']; rfl
      · simp [World.frozen?, hg]

/-- What stands in a block's cells where some were written. -/
theorem range_patch {xs ys : List Value} {k : Nat} (h : w.rangeAt g 0 xs) (hk : k ≤ xs.length) (ht : w.there g k ys.length) : (w.setCells g k ys).rangeAt g 0 (xs.take k ++ ys ++ xs.drop (k + ys.length)) := by
  intro j v hj
  rw [Nat.zero_add]
  have hlt : (xs.take k).length = k := by rw [List.length_take]; omega
  by_cases h1 : j < k
  · rw [List.append_assoc, List.getElem?_append_left (by omega), List.getElem?_take, if_pos h1] at hj
    rw [World.cell?_setCells_out g ys k w ⟨g, j, none⟩ (fun _ _ => by show j < k ∨ k + ys.length ≤ j; omega)]
    have := h j v hj
    rwa [Nat.zero_add] at this
  · by_cases h2 : j < k + ys.length
    · rw [List.append_assoc, List.getElem?_append_right (by omega), hlt, List.getElem?_append_left (by omega)] at hj
      have := World.rangeAt_setCells_same w g k ys ht (j - k) v hj
      rwa [show k + (j - k) = j by omega] at this
    · rw [List.getElem?_append_right (by rw [List.length_append]; omega), List.getElem?_drop, List.length_append, hlt] at hj
      rw [World.cell?_setCells_out g ys k w ⟨g, j, none⟩ (fun _ _ => by show j < k ∨ k + ys.length ≤ j; omega)]
      have := h j v (by rw [← hj]; congr 1; omega)
      rwa [Nat.zero_add] at this

theorem range_front {xs ys : List Value} (h : w.rangeAt g 0 (xs ++ ys)) : w.rangeAt g 0 xs := fun j v hj =>
  h j v (by rw [List.getElem?_append_left (List.getElem?_eq_some_iff.1 hj).1]; exact hj)

theorem there_part {m o k : Nat} (h : w.there g 0 m) (hk : o + k ≤ m) : w.there g o k := fun j hj => by
  have := h (o + j) (by omega)
  rwa [Nat.zero_add] at this

theorem split_at {p : Pr} (h : L[i]? = some p) : L = L.take i ++ p :: L.drop (i + 1) := by
  rw [← (List.getElem?_eq_some_iff.1 h).2, List.getElem_cons_drop]
  exact (List.take_append_drop i L).symm

theorem set_split {p q : Pr} (h : L[i]? = some p) : L.set i q = L.take i ++ q :: L.drop (i + 1) := by
  have hi : i < L.length := (List.getElem?_eq_some_iff.1 h).1
  rw [List.set_eq_take_append_cons_drop, if_pos hi]

/-- Some parts of one process are written: it is another one. -/
theorem Ws.part (h : Ws w (some ⟨g, 0, none⟩) n cap L) {p q : Pr} (hp : L[i]? = some p) {k : Nat} {vs : List Value} (hk : k + vs.length ≤ 6) (e : q.parts = p.parts.take k ++ vs ++ p.parts.drop (k + vs.length)) :
    Ws (w.setCells g (i * 6 + k) vs) (some ⟨g, 0, none⟩) n cap (L.set i q) := by
  have hi : i < L.length := (List.getElem?_eq_some_iff.1 hp).1
  refine ⟨by rw [List.length_set]; exact h.1, h.2.1, h.2.2.1, ?_⟩
  have h1 := h.1
  have h2 := h.2.1
  rcases h.2.2.2 with ⟨h0, _⟩ | ⟨g', h0, hg, hr, ht⟩
  · cases h0
  · cases h0
    have hst : Stay (fun j => j = g) w (w.setCells g (i * 6 + k) vs) := (Stay.refl (fun j => j = g) w).setCells g _ _ rfl
    refine .inr ⟨g, rfl, Nat.lt_of_lt_of_le hg hst.size, ?_, World.there_setCells ht _ _ _⟩
    have hx := range_patch (k := i * 6 + k) (ys := vs) hr (by rw [wc_length]; omega) (there_part ht (by omega))
    have e2 : (wc L).take (i * 6 + k) ++ vs ++ (wc L).drop (i * 6 + k + vs.length) = wc (L.set i q) := by
      have hl : p.parts.length = 6 := rfl
      have hll : (L.take i).length = i := by rw [List.length_take]; omega
      have hw : (wc (L.take i)).length = i * 6 := by rw [wc_length, hll]
      have ew : wc L = wc (L.take i) ++ (p.parts ++ wc (L.drop (i + 1))) := by
        conv => lhs; rw [split_at hp]
        rw [wc_append, wc_cons]
      rw [set_split hp, wc_append, wc_cons, e, ew, List.take_append, List.drop_append, hw, List.take_of_length_le (l := wc (L.take i)) (by rw [hw]; omega), List.drop_of_length_le (l := wc (L.take i)) (by rw [hw]; omega), show i * 6 + k - i * 6 = k by omega,
        show i * 6 + k + vs.length - i * 6 = k + vs.length by omega, List.take_append, List.drop_append, hl, show k - 6 = 0 by omega, show k + vs.length - 6 = 0 by omega]
      simp
    rwa [e2] at hx

/-- What lies behind all is written. -/
theorem Ws.behind (h : Ws w (some ⟨g, 0, none⟩) n cap L) (vs : List Value) {k : Nat} (hk : n * 6 ≤ k) : Ws (w.setCells g k vs) (some ⟨g, 0, none⟩) n cap L := by
  refine ⟨h.1, h.2.1, h.2.2.1, ?_⟩
  rcases h.2.2.2 with ⟨h0, _⟩ | ⟨g', h0, hg, hr, ht⟩
  · cases h0
  · cases h0
    have hst : Stay (fun j => j = g) w (w.setCells g k vs) := (Stay.refl (fun j => j = g) w).setCells g _ _ rfl
    exact .inr ⟨g, rfl, Nat.lt_of_lt_of_le hg hst.size, World.rangeAt_setCells_apart hr g k vs (.inr (.inl (by rw [wc_length, h.1]; omega))), World.there_setCells ht _ _ _⟩


/-- The first ones alone. -/
theorem Ws.take (h : Ws w a n cap L) {k : Nat} (hk : k ≤ n) : Ws w a k cap (L.take k) := by
  have h1 := h.1
  have h2 := h.2.1
  refine ⟨by rw [List.length_take]; omega, by omega, h.2.2.1, ?_⟩
  rcases h.2.2.2 with h0 | ⟨g, rfl, hg, hr, ht⟩
  · exact .inl h0
  · refine .inr ⟨g, rfl, hg, ?_, ht⟩
    rw [wc_take]
    refine range_front (ys := (wc L).drop (k * 6)) ?_
    rwa [List.take_append_drop]

/-- One is another one. -/
theorem Ws.set (h : Ws w (some ⟨g, 0, none⟩) n cap L) {p : Pr} (hp : L[i]? = some p) (q : Pr) : Ws (w.setCells g (i * 6) q.parts) (some ⟨g, 0, none⟩) n cap (L.set i q) :=
  h.part (k := 0) (vs := q.parts) hp (by show 0 + 6 ≤ 6; omega) (by simp [Pr.parts])

/-- The last ones come to the front. -/
theorem Ws.front (h : Ws w (some ⟨g, 0, none⟩) n cap L) {k : Nat} (hk : k ≤ n) : Ws (w.setCells g 0 (wc (L.drop k))) (some ⟨g, 0, none⟩) (n - k) cap (L.drop k) := by
  have h1 := h.1
  have h2 := h.2.1
  refine ⟨by rw [List.length_drop, h1], by omega, h.2.2.1, ?_⟩
  rcases h.2.2.2 with ⟨h0, _⟩ | ⟨g', h0, hg, hr, ht⟩
  · cases h0
  · cases h0
    have hst : Stay (fun j => j = g) w (w.setCells g 0 (wc (L.drop k))) := (Stay.refl (fun j => j = g) w).setCells g _ _ rfl
    refine .inr ⟨g, rfl, Nat.lt_of_lt_of_le hg hst.size, ?_, World.there_setCells ht _ _ _⟩
    have hx := range_patch (k := 0) (ys := wc (L.drop k)) hr (by omega) (there_part ht (by rw [wc_length, List.length_drop]; omega))
    rw [List.take_zero, List.nil_append] at hx
    exact range_front hx

/-- A slice of processes of one's own. -/
def Wv (w : World) (v : Value) (L : List Pr) : Prop := ∃ a cap, v = .slice a L.length cap ∧ Ws w a L.length cap L ∧ (cap = 0 → a = none)

theorem Wv.lt {v : Value} (h : Wv w v L) : ∀ k, v.ownBlock = some k → k < w.heap.size := by
  obtain ⟨a, cap, rfl, hw, _⟩ := h
  intro k hk
  refine hw.lt k ?_
  cases a with
  | none => cases hk
  | some ad => exact hk

theorem Wv.stay {v : Value} (h : Wv w v L) (hs : Stay T w w1) (hn : ∀ k, v.ownBlock = some k → ¬ T k) : Wv w1 v L := by
  obtain ⟨a, cap, rfl, hw, h0⟩ := h
  refine ⟨a, cap, rfl, hw.stay hs (fun k hk => hn k ?_), h0⟩
  cases a with
  | none => cases hk
  | some ad => exact hk

theorem Wv.keep {v : Value} (h : Wv w v L) (hs : Stay (fun _ => False) w w1) : Wv w1 v L := h.stay hs (fun _ _ h => h)

/-- Processes that can be read, wherever they lie. -/
def Rd (w : World) (a : Option Addr) (L : List Pr) : Prop := ∀ i p, L[i]? = some p → ∃ g o, a = some ⟨g, o, none⟩ ∧ PBoxAt w g (o + i * 6) p

theorem Rd.stay (h : Rd w a L) (hs : Stay T w w1) (hn : ∀ k, a.map Addr.block = some k → ¬ T k) : Rd w1 a L := fun i p hp => by
  obtain ⟨g, o, rfl, hb⟩ := h i p hp
  exact ⟨g, o, rfl, hb.stay hs (hn g rfl)⟩

theorem Rd.keep (h : Rd w a L) (hs : Stay (fun _ => False) w w1) : Rd w1 a L := h.stay hs (fun _ _ h => h)

theorem Rd.nil (w : World) (a : Option Addr) : Rd w a [] := fun i p hp => by simp at hp

theorem Ws.rd (h : Ws w a n cap L) : Rd w a L := fun i p hp => by
  obtain ⟨g, e, hb⟩ := h.at hp
  exact ⟨g, 0, e, by rwa [Nat.zero_add]⟩

theorem Rd.take (h : Rd w a L) (k : Nat) : Rd w a (L.take k) := fun i p hp => by
  rw [List.getElem?_take] at hp
  split at hp
  · exact h i p hp
  · cases hp

theorem Rd.drop (h : Rd w a L) {k cap : Nat} (hc : L.length ≤ cap) : Rd w (if cap = k then a else a.map (·.add (k * 6))) (L.drop k) := fun i p hp => by
  rw [List.getElem?_drop] at hp
  have hlt := (List.getElem?_eq_some_iff.1 hp).1
  obtain ⟨g, o, rfl, hb⟩ := h _ p hp
  rw [if_neg (by omega)]
  refine ⟨g, o + k * 6, by simp [addr_add], ?_⟩
  rwa [show o + k * 6 + i * 6 = o + (k + i) * 6 by omega]

theorem Rd.drop_block {k cap : Nat} : ∀ j, (if cap = k then a else a.map (·.add (k * 6))).map Addr.block = some j → a.map Addr.block = some j := by
  intro j hj
  cases a with
  | none => split at hj <;> cases hj
  | some ad =>
    split at hj
    · exact hj
    · rw [← hj]
      show some ad.block = some (ad.add (k * 6)).block
      rw [show (ad.add (k * 6)).block = ad.block by unfold Addr.add; split <;> rfl]

end Go.Proofs.Ytefpifnfinkbaaa

namespace Go.Proofs.Ytefpifnfinkbaaa
open Go.RowKit

theorem wf64 {x : Int} (h : W64 x) : (Lit.int .i64 x).wf = true := w64_wf h

/-- A map of integers in a block: what stands at each key, and which keys are there. -/
def MAt (w : World) (m n : Nat) (f : Int → Int) (h : Int → Bool) : Prop :=
  ∃ D : DataW Unit, w.ownsMap Try.prog 3 (plainElem Try.prog 3) m n D ∧ (∀ t, D.atKey (.int .i64 t) (.lit (.int .i64 0)) = .lit (.int .i64 (f t))) ∧ ∀ t, Maps.has D (.int .i64 t) = h t

/-- Whether a key is there, when one more is. -/
def updB (h : Int → Bool) (t : Int) (v : Bool) : Int → Bool := fun x => if x = t then v else h x

variable {w w1 : World} {m n : Nat} {f : Int → Int} {h : Int → Bool}

theorem key_ne {a b : Int} (h : ¬ a = b) : Lit.int .i64 a ≠ Lit.int .i64 b := fun e => h (by cases e; rfl)

theorem MAt.lt (hm : MAt w m n f h) : m < w.heap.size := by
  obtain ⟨D, h1, _⟩ := hm
  exact h1.lt

theorem MAt.mono (hm : MAt w m n f h) {n' : Nat} (hn : n ≤ n') : MAt w m n' f h := by
  obtain ⟨D, h1, h2, h3⟩ := hm
  exact ⟨D, h1.mono hn, h2, h3⟩

theorem MAt.stay {T : Nat → Prop} (hm : MAt w m n f h) (hs : Stay T w w1) (hn : ¬ T m) : MAt w1 m n f h := by
  obtain ⟨D, h1, h2, h3⟩ := hm
  have hlt := h1.lt
  obtain ⟨es, clock, hb, r⟩ := h1
  exact ⟨D, ⟨es, clock, (hs.block m hlt hn).trans hb, r⟩, h2, h3⟩

theorem MAt.keep (hm : MAt w m n f h) (hs : Stay (fun _ => False) w w1) : MAt w1 m n f h := hm.stay hs (fun h => h)

theorem MAt.made (w : World) : MAt (w.alloc (.map #[] 0)) w.heap.size 0 (fun _ => 0) (fun _ => false) :=
  ⟨.map [], World.ownsMap_made _ _ _ _, fun _ => rfl, fun _ => rfl⟩

theorem zero3 (w : World) : (zeroValue 3).run Try.prog w = .ok (.int .i64 0) w := by kernel_rfl

theorem keyed3 : Maps.Keyed Try.prog 3 := Maps.int_keyed Try.underlying3

theorem MAt.look (hm : MAt w m n f h) {t : Int} (ht : W64 t) : (Instr.lookup 62 (.map (some m)) (.int .i64 t) false).run Try.prog w = .ok (.int .i64 (f t)) w := by
  obtain ⟨D, h1, h2, h3⟩ := hm
  obtain ⟨c, hrun, hat, _⟩ := h1.lookup_int keyed3 Try.underlying62 Try.underlying3 (zero3 w) (Maps.keyOf_int_mk Try.underlying3 (wf64 ht))
  rw [h2 t] at hat
  cases hat
  exact hrun

theorem MAt.look_ok (hm : MAt w m n f h) {t : Int} (ht : W64 t) : (Instr.lookup 62 (.map (some m)) (.int .i64 t) true).run Try.prog w = .ok (.tuple #[.int .i64 (f t), .bool (h t)]) w := by
  obtain ⟨D, h1, h2, h3⟩ := hm
  obtain ⟨v, ps, hrun, hv⟩ := h1.look_ok keyed3 Try.underlying62 (zero3 w) (plainElem_int Try.underlying3 (by decide)) (Maps.keyOf_int_mk Try.underlying3 (wf64 ht))
  obtain ⟨c, rfl, hc, _⟩ := plainElem_int_inv Try.underlying3 hv
  have hc1 := congrArg Prod.fst hc
  rw [h2 t] at hc1
  cases hc1
  rw [hrun, h3 t]

theorem MAt.put (hm : MAt w m n f h) {t v : Int} (ht : W64 t) (hv : W64 v) (hn : n ≤ 4096) : ∃ w', (Instr.mapUpdate 62 (.map (some m)) (.int .i64 t) (.int .i64 v)).run Try.prog w = .ok () w' ∧ MAt w' m (n + 1) (upd f t v) (updB h t true) ∧ Stay (fun j => j = m) w w' := by
  obtain ⟨D, h1, h2, h3⟩ := hm
  have hi := h1.isMap
  obtain ⟨w', hrun, r1, r2⟩ := h1.update keyed3 Try.underlying62 (by unfold maxLen; omega) (Maps.keyOf_int_mk Try.underlying3 (wf64 ht)) (plainElem_int Try.underlying3 (wf64 hv))
  refine ⟨w', hrun, ⟨_, r1, fun x => ?_, fun x => ?_⟩, (Stay.refl _ w).grown r2 (fun k hk _ => (Option.some.inj hk).symm)⟩
  · by_cases e : x = t
    · subst e
      rw [Maps.atKey_put_same hi (show WideAt.IsKeyLit (.int .i64 _) from trivial), upd_same]
    · rw [Maps.atKey_put_other (key_ne e), h2 x, upd_other _ _ e]
  · by_cases e : x = t
    · subst e
      rw [Maps.has_put_same hi (show WideAt.IsKeyLit (.int .i64 _) from trivial)]
      exact (if_pos rfl).symm
    · rw [Maps.has_put_other (key_ne e), h3 x]
      exact (if_neg e).symm

theorem MAt.drop (hm : MAt w m n f h) {t : Int} (ht : W64 t) (ty : TypeId) : ∃ w', (Builtin.delete_ #[62, 3] ty #[.map (some m), .int .i64 t]).run Try.prog w = .ok (.tuple #[]) w' ∧ MAt w' m n (upd f t 0) (updB h t false) ∧ Stay (fun j => j = m) w w' := by
  obtain ⟨D, h1, h2, h3⟩ := hm
  obtain ⟨w', hrun, r1, r2⟩ := h1.drop keyed3 Try.underlying62 (Maps.keyOf_int_mk Try.underlying3 (wf64 ht)) ty
  refine ⟨w', hrun, ⟨_, r1, fun x => ?_, fun x => ?_⟩, (Stay.refl _ w).grown r2.grown (fun k hk _ => (Option.some.inj hk).symm)⟩
  · by_cases e : x = t
    · subst e
      rw [Maps.atKey_del_same, upd_same]
    · rw [Maps.atKey_del_other (key_ne e), h2 x, upd_other _ _ e]
  · by_cases e : x = t
    · subst e
      rw [Maps.has_del_same]
      exact (if_pos rfl).symm
    · rw [Maps.has_del_other (key_ne e), h3 x]
      exact (if_neg e).symm

end Go.Proofs.Ytefpifnfinkbaaa

namespace Go.Proofs.Ytefpifnfinkbaaa
open Go.RowKit

/-- How two numbers are ordered. -/
def cI (x y : Int) : Int := if x < y then -1 else if y < x then 1 else 0

theorem cI_cases (x y : Int) : (x < y ∧ cI x y = -1) ∨ (y < x ∧ cI x y = 1) ∨ (x = y ∧ cI x y = 0) := by
  unfold cI
  split
  · exact .inl ⟨‹_›, rfl⟩
  · split
    · exact .inr (.inl ⟨‹_›, rfl⟩)
    · exact .inr (.inr ⟨by omega, rfl⟩)

theorem nan72 (x : Int) (w : World) : Calls Try.prog 72 #[.int .i64 x] w (Gives (.bool false) w) := by
  have HS := hide' (Stay.refl (fun _ => False) w)
  go_enter Try.func72, Try.ntmps72
  go_wp2
  go_ret
  exact ⟨by simp, HS.out⟩

theorem compare65 (x y : Int) (w : World) : Calls Try.prog 65 #[.int .i64 x, .int .i64 y] w (Gives (.int .i64 (cI x y)) w) := by
  obtain ⟨c, hc⟩ : ∃ c, c = cI x y := ⟨_, rfl⟩
  have hx := cI_cases x y
  rw [← hc] at hx
  rw [← hc]
  have HX := hide' hx
  have HA := hide' (nan72 x)
  have HB := hide' (nan72 y)
  clear hc hx
  go_enter Try.func65, Try.ntmps65
  go_wp2_with fail
  refine (HA.out _).mono ?_
  rintro e w1 ⟨rfl, hs⟩
  have HS1 := hide' hs
  clear hs
  go_wp2_with fail
  refine (HB.out _).mono ?_
  rintro e w2 ⟨rfl, hs⟩
  have HS2 := hide' (HS1.out.trans hs)
  clear hs HS1
  by_cases h1 : x < y
  · have e : c = -1 := by have := HX.out; omega
    subst e
    go_wp2
    go_ret
    exact ⟨rfl, HS2.out⟩
  · by_cases h2 : y < x
    · have e : c = 1 := by have := HX.out; omega
      subst e
      go_wp2
      go_ret
      exact ⟨rfl, HS2.out⟩
    · have e : c = 0 := by have := HX.out; omega
      subst e
      go_wp2
      go_ret
      exact ⟨rfl, HS2.out⟩

/-- A process's number against another one. -/
theorem order64 (t : Pr) (x : Int) (w : World) : Calls Try.prog 64 #[.agg #[.int .i64 t.pid, .int .i64 t.par, .int .i64 t.grp, .int .i64 t.ses, .int .i64 t.tty, .bool t.df], .int .i64 x] w (Gives (.int .i64 (cI t.pid x)) w) := by
  obtain ⟨bt, hbt⟩ : ∃ b, b = w.heap.size := ⟨_, rfl⟩
  obtain ⟨W0, hW0⟩ : ∃ W, W = w.alloc (.cells #[.int .i64 t.pid, .int .i64 t.par, .int .i64 t.grp, .int .i64 t.ses, .int .i64 t.tty, .bool t.df] 40) := ⟨_, rfl⟩
  have hs : Stay (fun _ => False) w W0 := by rw [hW0]; exact (Stay.refl _ _).alloc _
  have hb : PBox W0 bt t := by rw [hW0]; exact PBox.new t hbt.symm
  have HS := hide' hs
  have HC := hide' (fun w => compare65 t.pid x w)
  obtain ⟨c0, c1, c2, c3, c4, c5, _⟩ := hb
  clear hs c1 c2 c3 c4 c5
  go_enter Try.func64, Try.ntmps64
  go_upto_region 1 with fail
  rw [← hW0, ← hbt]
  clear hW0 hbt
  go_wp2_with fail
  refine (HC.out _).mono ?_
  rintro _ w1 ⟨rfl, hs⟩
  have HS1 := hide' (HS.out.trans hs)
  clear hs HC
  go_wp2
  go_ret
  exact ⟨rfl, HS1.out⟩

theorem any61 (t : Pr) (bx : Nat) (g : Int) (w : World) (h0 : w.cell? ⟨bx, 0, none⟩ = some (.int .i64 g)) : Calls Try.prog 61 #[.agg #[.int .i64 t.pid, .int .i64 t.par, .int .i64 t.grp, .int .i64 t.ses, .int .i64 t.tty, .bool t.df], .pointer (some ⟨bx, 0, none⟩)] w (Gives (.bool (t.grp == g)) w) := by
  obtain ⟨bt, hbt⟩ : ∃ b, b = w.heap.size := ⟨_, rfl⟩
  obtain ⟨W0, hW0⟩ : ∃ W, W = w.alloc (.cells #[.int .i64 t.pid, .int .i64 t.par, .int .i64 t.grp, .int .i64 t.ses, .int .i64 t.tty, .bool t.df] 40) := ⟨_, rfl⟩
  have hs : Stay (fun _ => False) w W0 := by rw [hW0]; exact (Stay.refl _ _).alloc _
  have hb : PBox W0 bt t := by rw [hW0]; exact PBox.new t hbt.symm
  have k0 := keep_cell hs h0
  have HS := hide' hs
  obtain ⟨c0, c1, c2, c3, c4, c5, _⟩ := hb
  clear hs h0 c0 c1 c3 c4 c5
  go_enter Try.func61, Try.ntmps61
  go_upto_region 1 with fail
  rw [← hW0, ← hbt]
  clear hW0 hbt
  go_wp2
  go_ret
  exact ⟨rfl, HS.out⟩

theorem in62 (t : Pr) (bx bz : Nat) (g z : Int) (w : World) (h0 : w.cell? ⟨bx, 0, none⟩ = some (.int .i64 g)) (h1 : w.cell? ⟨bz, 0, none⟩ = some (.int .i64 z)) : Calls Try.prog 62 #[.agg #[.int .i64 t.pid, .int .i64 t.par, .int .i64 t.grp, .int .i64 t.ses, .int .i64 t.tty, .bool t.df], .pointer (some ⟨bx, 0, none⟩), .pointer (some ⟨bz, 0, none⟩)] w (Gives (.bool (t.grp == g && t.ses == z)) w) := by
  obtain ⟨bt, hbt⟩ : ∃ b, b = w.heap.size := ⟨_, rfl⟩
  obtain ⟨W0, hW0⟩ : ∃ W, W = w.alloc (.cells #[.int .i64 t.pid, .int .i64 t.par, .int .i64 t.grp, .int .i64 t.ses, .int .i64 t.tty, .bool t.df] 40) := ⟨_, rfl⟩
  have hs : Stay (fun _ => False) w W0 := by rw [hW0]; exact (Stay.refl _ _).alloc _
  have hb : PBox W0 bt t := by rw [hW0]; exact PBox.new t hbt.symm
  have k0 := keep_cell hs h0
  have k1 := keep_cell hs h1
  have HS := hide' hs
  obtain ⟨c0, c1, c2, c3, c4, c5, _⟩ := hb
  clear hs h0 h1 c0 c1 c4 c5
  go_enter Try.func62, Try.ntmps62
  go_upto_region 1 with fail
  rw [← hW0, ← hbt]
  clear hW0 hbt
  by_cases he : t.grp = g
  · have d0 : (t.grp == g) = true := beq_iff_eq.2 he
    rw [d0]
    go_wp2
    go_ret
    exact ⟨by simp [he], HS.out⟩
  · have d0 : (t.grp == g) = false := beq_eq_false_iff_ne.2 he
    rw [d0]
    go_wp2
    go_ret
    exact ⟨by simp [he], HS.out⟩

/-- Whether one leads its session. -/
def leadB (t : Pr) : Bool := t.ses == t.pid

theorem leads44 (g o : Nat) (t : Pr) (w : World) (h : PBoxAt w g o t) : Calls Try.prog 44 #[.pointer (some ⟨g, o, none⟩)] w (Gives (.bool (leadB t)) w) := by
  have HS := hide' (Stay.refl (fun _ => False) w)
  obtain ⟨c0, c1, c2, c3, c4, c5⟩ := h
  unfold leadB
  clear c1 c2 c4 c5
  go_enter Try.func44, Try.ntmps44
  go_wp2_with fail
  go_quiet (fail)
  go_wp2
  go_ret
  exact ⟨rfl, HS.out.drewN _⟩

/-- Whether a terminal is one's. -/
def onB (t : Pr) (x : Int) : Bool := x != 0 && t.tty == x

theorem on38 (g o : Nat) (t : Pr) (x : Int) (w : World) (h : PBoxAt w g o t) : Calls Try.prog 38 #[.pointer (some ⟨g, o, none⟩), .int .i64 x] w (Gives (.bool (onB t x)) w) := by
  have HS := hide' (Stay.refl (fun _ => False) w)
  obtain ⟨c0, c1, c2, c3, c4, c5⟩ := h
  unfold onB
  clear c0 c1 c2 c3 c5
  by_cases he : x = 0
  · have d0 : (x != 0) = false := by simpa using he
    rw [d0]
    go_enter Try.func38, Try.ntmps38
    go_wp2
    go_ret
    exact ⟨by simp, HS.out⟩
  · have d0 : (x != 0) = true := by simpa using he
    rw [d0]
    go_enter Try.func38, Try.ntmps38
    go_wp2
    go_ret
    exact ⟨by simp, HS.out⟩

end Go.Proofs.Ytefpifnfinkbaaa

namespace Go.Proofs.Ytefpifnfinkbaaa
open Go.RowKit

/-- The number of the first of which a test is true. -/
def fi (p : Pr → Bool) : List Pr → Nat
  | [] => 0
  | a :: L => if p a = true then 0 else fi p L + 1

theorem fi_le (p : Pr → Bool) : ∀ L : List Pr, fi p L ≤ L.length
  | [] => Nat.le_refl _
  | a :: L => by
    unfold fi
    have := fi_le p L
    split
    · exact Nat.zero_le _
    · rw [List.length_cons]; omega

theorem fi_eq {p : Pr → Bool} : ∀ {L : List Pr} {i : Nat}, i ≤ L.length → (∀ k a, k < i → L[k]? = some a → p a = false) → (∀ a, L[i]? = some a → p a = true) → fi p L = i
  | [], i, h, _, _ => by simp at h; subst h; rfl
  | a :: L, 0, _, _, h => by unfold fi; rw [if_pos (h a rfl)]
  | a :: L, i + 1, hi, h1, h2 => by
    unfold fi
    rw [if_neg (by rw [h1 0 a (by omega) rfl]; decide), fi_eq (L := L) (i := i) (by simpa using hi) (fun k b hk hb => h1 (k + 1) b (by omega) (by simpa using hb)) (fun b hb => h2 b (by simpa using hb))]

theorem fi_lt {p : Pr → Bool} : ∀ {L : List Pr} {k : Nat} {a : Pr}, k < fi p L → L[k]? = some a → p a = false
  | [], k, a, h, _ => by unfold fi at h; omega
  | b :: L, k, a, h, ha => by
    unfold fi at h
    split at h
    · omega
    · rename_i hb
      cases k with
      | zero => cases ha; simpa using hb
      | succ k => exact fi_lt (L := L) (k := k) (by omega) (by simpa using ha)

theorem fi_at {p : Pr → Bool} : ∀ {L : List Pr} {a : Pr}, L[fi p L]? = some a → p a = true
  | [], a, h => by simp at h
  | b :: L, a, h => by
    unfold fi at h
    split at h
    · rename_i hb
      cases h
      exact hb
    · exact fi_at (L := L) (by simpa using h)

/-- What tells the first, or that there is none. -/
def fiI (p : Pr → Bool) (L : List Pr) : Int := if fi p L < L.length then (fi p L : Nat) else -1

theorem fi_any (p : Pr → Bool) : ∀ L : List Pr, L.any p = decide (fi p L < L.length)
  | [] => rfl
  | a :: L => by
    have e : fi p (a :: L) = if p a = true then 0 else fi p L + 1 := rfl
    rw [List.any_cons, fi_any p L, e]
    by_cases h : p a = true
    · rw [if_pos h, h]; simp
    · rw [if_neg h]; simp [h]

theorem fiI_any (p : Pr → Bool) (L : List Pr) : decide (0 ≤ fiI p L) = L.any p := by
  rw [fi_any]
  unfold fiI
  split
  · rename_i h
    rw [decide_eq_true h]
    exact decide_eq_true (by omega)
  · rename_i h
    rw [decide_eq_false h]
    rfl

theorem index71_62 (a : Option Addr) (n cap : Nat) (L : List Pr) (p : Pr → Bool) (bx bz : Nat) (w : World) (hr : Rd w a L) (hn : L.length = n) (hm : n ≤ 2048)
    (hcl : ∀ w', Stay (fun _ => False) w w' → ∀ t : Pr, Calls Try.prog 62 #[.agg #[.int .i64 t.pid, .int .i64 t.par, .int .i64 t.grp, .int .i64 t.ses, .int .i64 t.tty, .bool t.df], .pointer (some ⟨bx, 0, none⟩), .pointer (some ⟨bz, 0, none⟩)] w' (Gives (.bool (p t)) w')) : Calls Try.prog 71 #[.slice a n cap, .func (.func 62) #[] #[.pointer (some ⟨bx, 0, none⟩), .pointer (some ⟨bz, 0, none⟩)]] w (Gives (.int .i64 (fiI p L)) w) := by
  have HR := hide' hr
  have HCL := hide' hcl
  have HN := hide' hn
  have hm1 : (n : Int) ≤ 2048 := by omega
  have HL0 : Hid (Stay (fun _ => False) w w ∧ ∀ k t, k < 0 → L[k]? = some t → p t = false) := ⟨Stay.refl _ _, fun k t h => by omega⟩
  clear hr hcl hn hm
  go_enter Try.func71, Try.ntmps71
  go_wp2
  go_loopg [8] n (fun gg v8 wr => ∃ k : Nat, k ≤ n ∧ gg = n - k ∧ v8 = .int .i64 (k : Int) ∧ Hid (Stay (fun _ => False) w wr ∧ ∀ j t, j < k → L[j]? = some t → p t = false))
  case atStart => exact ⟨0, Nat.zero_le _, rfl, rfl, HL0⟩
  case round =>
    clear HL0
    obtain ⟨k, hk, rfl, rfl, HL⟩ := hrel
    by_cases hlt : k < n
    · have kn : (k : Int) < (n : Nat) := by omega
      obtain ⟨t, ht⟩ : ∃ t, L[k]? = some t := ⟨_, List.getElem?_eq_getElem (by rw [HN.out]; exact hlt)⟩
      obtain ⟨g, o, rfl, hb⟩ := HR.out k t ht
      obtain ⟨c0, c1, c2, c3, c4, c5⟩ := hb.keep HL.out.1
      have HT := hide' ht
      obtain ⟨x, hx⟩ : ∃ x, x = p t := ⟨_, rfl⟩
      have HC := hide' (HCL.out wr HL.out.1 t)
      rw [← hx] at HC
      have HX := hide' hx
      clear hb ht hx
      cases x
      · go_wp2_with fail
        refine HC.out.mono ?_
        rintro _ w1 ⟨rfl, hs⟩
        have HN1 : Hid (Stay (fun _ => False) w w1 ∧ ∀ j t, j < k + 1 → L[j]? = some t → p t = false) := by
          refine ⟨HL.out.1.trans hs, fun j u hj hu => ?_⟩
          by_cases e : j = k
          · subst e
            rw [HT.out] at hu
            cases hu
            exact HX.out.symm
          · exact HL.out.2 j u (by omega) hu
        clear hs HL c0 c1 c2 c3 c4 c5 HC
        go_wp2
        go_roundg (n - (k + 1))
        case measure => omega
        case rel => exact ⟨k + 1, by omega, rfl, by go_num, HN1⟩
      · have HE : Hid (fiI p L = ((k : Nat) : Int)) := by
          have e := fi_eq (p := p) (L := L) (i := k) (by rw [HN.out]; omega) HL.out.2 (fun u hu => by rw [HT.out] at hu; cases hu; exact HX.out.symm)
          show fiI p L = _
          unfold fiI
          rw [e, if_pos (by rw [HN.out]; exact hlt)]
        go_wp2_with fail
        refine HC.out.mono ?_
        rintro _ w1 ⟨rfl, hs⟩
        have HS1 := hide' (HL.out.1.trans hs)
        clear hs HL c0 c1 c2 c3 c4 c5 HC
        go_wp2
        go_ret
        exact ⟨by rw [HE.out]; rfl, HS1.out⟩
    · have e : k = n := by omega
      subst e
      have HE : Hid (fiI p L = -1) := by
        have e := fi_eq (p := p) (L := L) (i := k) (by rw [HN.out]; omega) HL.out.2 (fun u hu => by rw [List.getElem?_eq_none (by rw [HN.out]; omega)] at hu; cases hu)
        show fiI p L = _
        unfold fiI
        rw [e, if_neg (by rw [HN.out]; omega)]
      go_wp2
      go_ret
      exact ⟨by rw [HE.out]; rfl, HL.out.1⟩

theorem index71_61 (a : Option Addr) (n cap : Nat) (L : List Pr) (p : Pr → Bool) (bx : Nat) (w : World) (hr : Rd w a L) (hn : L.length = n) (hm : n ≤ 2048)
    (hcl : ∀ w', Stay (fun _ => False) w w' → ∀ t : Pr, Calls Try.prog 61 #[.agg #[.int .i64 t.pid, .int .i64 t.par, .int .i64 t.grp, .int .i64 t.ses, .int .i64 t.tty, .bool t.df], .pointer (some ⟨bx, 0, none⟩)] w' (Gives (.bool (p t)) w')) : Calls Try.prog 71 #[.slice a n cap, .func (.func 61) #[] #[.pointer (some ⟨bx, 0, none⟩)]] w (Gives (.int .i64 (fiI p L)) w) := by
  have HR := hide' hr
  have HCL := hide' hcl
  have HN := hide' hn
  have hm1 : (n : Int) ≤ 2048 := by omega
  have HL0 : Hid (Stay (fun _ => False) w w ∧ ∀ k t, k < 0 → L[k]? = some t → p t = false) := ⟨Stay.refl _ _, fun k t h => by omega⟩
  clear hr hcl hn hm
  go_enter Try.func71, Try.ntmps71
  go_wp2
  go_loopg [8] n (fun gg v8 wr => ∃ k : Nat, k ≤ n ∧ gg = n - k ∧ v8 = .int .i64 (k : Int) ∧ Hid (Stay (fun _ => False) w wr ∧ ∀ j t, j < k → L[j]? = some t → p t = false))
  case atStart => exact ⟨0, Nat.zero_le _, rfl, rfl, HL0⟩
  case round =>
    clear HL0
    obtain ⟨k, hk, rfl, rfl, HL⟩ := hrel
    by_cases hlt : k < n
    · have kn : (k : Int) < (n : Nat) := by omega
      obtain ⟨t, ht⟩ : ∃ t, L[k]? = some t := ⟨_, List.getElem?_eq_getElem (by rw [HN.out]; exact hlt)⟩
      obtain ⟨g, o, rfl, hb⟩ := HR.out k t ht
      obtain ⟨c0, c1, c2, c3, c4, c5⟩ := hb.keep HL.out.1
      have HT := hide' ht
      obtain ⟨x, hx⟩ : ∃ x, x = p t := ⟨_, rfl⟩
      have HC := hide' (HCL.out wr HL.out.1 t)
      rw [← hx] at HC
      have HX := hide' hx
      clear hb ht hx
      cases x
      · go_wp2_with fail
        refine HC.out.mono ?_
        rintro _ w1 ⟨rfl, hs⟩
        have HN1 : Hid (Stay (fun _ => False) w w1 ∧ ∀ j t, j < k + 1 → L[j]? = some t → p t = false) := by
          refine ⟨HL.out.1.trans hs, fun j u hj hu => ?_⟩
          by_cases e : j = k
          · subst e
            rw [HT.out] at hu
            cases hu
            exact HX.out.symm
          · exact HL.out.2 j u (by omega) hu
        clear hs HL c0 c1 c2 c3 c4 c5 HC
        go_wp2
        go_roundg (n - (k + 1))
        case measure => omega
        case rel => exact ⟨k + 1, by omega, rfl, by go_num, HN1⟩
      · have HE : Hid (fiI p L = ((k : Nat) : Int)) := by
          have e := fi_eq (p := p) (L := L) (i := k) (by rw [HN.out]; omega) HL.out.2 (fun u hu => by rw [HT.out] at hu; cases hu; exact HX.out.symm)
          show fiI p L = _
          unfold fiI
          rw [e, if_pos (by rw [HN.out]; exact hlt)]
        go_wp2_with fail
        refine HC.out.mono ?_
        rintro _ w1 ⟨rfl, hs⟩
        have HS1 := hide' (HL.out.1.trans hs)
        clear hs HL c0 c1 c2 c3 c4 c5 HC
        go_wp2
        go_ret
        exact ⟨by rw [HE.out]; rfl, HS1.out⟩
    · have e : k = n := by omega
      subst e
      have HE : Hid (fiI p L = -1) := by
        have e := fi_eq (p := p) (L := L) (i := k) (by rw [HN.out]; omega) HL.out.2 (fun u hu => by rw [List.getElem?_eq_none (by rw [HN.out]; omega)] at hu; cases hu)
        show fiI p L = _
        unfold fiI
        rw [e, if_neg (by rw [HN.out]; omega)]
      go_wp2
      go_ret
      exact ⟨by rw [HE.out]; rfl, HL.out.1⟩

theorem contains60_62 (a : Option Addr) (n cap : Nat) (L : List Pr) (p : Pr → Bool) (bx bz : Nat) (w : World) (hr : Rd w a L) (hn : L.length = n) (hm : n ≤ 2048)
    (hcl : ∀ w', Stay (fun _ => False) w w' → ∀ t : Pr, Calls Try.prog 62 #[.agg #[.int .i64 t.pid, .int .i64 t.par, .int .i64 t.grp, .int .i64 t.ses, .int .i64 t.tty, .bool t.df], .pointer (some ⟨bx, 0, none⟩), .pointer (some ⟨bz, 0, none⟩)] w' (Gives (.bool (p t)) w')) : Calls Try.prog 60 #[.slice a n cap, .func (.func 62) #[] #[.pointer (some ⟨bx, 0, none⟩), .pointer (some ⟨bz, 0, none⟩)]] w (Gives (.bool (L.any p)) w) := by
  have HI := hide' (index71_62 a n cap L p bx bz w hr hn hm hcl)
  rw [← fiI_any]
  clear hr hcl
  go_enter Try.func60, Try.ntmps60
  go_wp2_with fail
  refine HI.out.mono ?_
  rintro _ w1 ⟨rfl, hs⟩
  have HS := hide' hs
  clear hs HI
  go_wp2
  go_ret
  exact ⟨rfl, HS.out⟩

theorem contains60_61 (a : Option Addr) (n cap : Nat) (L : List Pr) (p : Pr → Bool) (bx : Nat) (w : World) (hr : Rd w a L) (hn : L.length = n) (hm : n ≤ 2048)
    (hcl : ∀ w', Stay (fun _ => False) w w' → ∀ t : Pr, Calls Try.prog 61 #[.agg #[.int .i64 t.pid, .int .i64 t.par, .int .i64 t.grp, .int .i64 t.ses, .int .i64 t.tty, .bool t.df], .pointer (some ⟨bx, 0, none⟩)] w' (Gives (.bool (p t)) w')) : Calls Try.prog 60 #[.slice a n cap, .func (.func 61) #[] #[.pointer (some ⟨bx, 0, none⟩)]] w (Gives (.bool (L.any p)) w) := by
  have HI := hide' (index71_61 a n cap L p bx w hr hn hm hcl)
  rw [← fiI_any]
  clear hr hcl
  go_enter Try.func60, Try.ntmps60
  go_wp2_with fail
  refine HI.out.mono ?_
  rintro _ w1 ⟨rfl, hs⟩
  have HS := hide' hs
  clear hs HI
  go_wp2
  go_ret
  exact ⟨rfl, HS.out⟩

end Go.Proofs.Ytefpifnfinkbaaa

namespace Go.Proofs.Ytefpifnfinkbaaa
open Go.RowKit

/-- Those ahead of a place have a lesser number, the others don't. -/
def Spl (x : Int) (L : List Pr) (lo hi : Nat) : Prop := (∀ (k : Nat) a, k < lo → L[k]? = some a → a.pid < x) ∧ (∀ (k : Nat) a, hi ≤ k → L[k]? = some a → x ≤ a.pid)

theorem Spl.up {x : Int} {t : Pr} {L : List Pr} {lo hi m : Nat} (h : Spl x L lo hi) (hs : Up L) (hx : L[m]? = some t) (ht : t.pid < x) : Spl x L (m + 1) hi :=
  ⟨fun k a hk ha => by
    by_cases e : k = m
    · subst e; rw [hx] at ha; cases ha; exact ht
    · have := hs.get (by omega) ha hx; omega, h.2⟩

theorem Spl.down {x : Int} {t : Pr} {L : List Pr} {lo hi m : Nat} (h : Spl x L lo hi) (hs : Up L) (hx : L[m]? = some t) (ht : ¬ t.pid < x) : Spl x L lo m :=
  ⟨h.1, fun k a hk ha => by
    by_cases e : k = m
    · subst e; rw [hx] at ha; cases ha; omega
    · have := hs.get (by omega) hx ha; omega⟩

/-- What the search hands back. -/
def FoundP (x : Int) (L : List Pr) (w : World) (e : Ending) (w' : World) : Prop := ∃ (i : Nat) (f : Bool), e = .returned (.tuple #[.int .i64 (i : Nat), .bool f]) ∧ i ≤ L.length ∧ (f = true → ∃ p, L[i]? = some p ∧ p.pid = x) ∧ (f = false → ∀ p ∈ L, p.pid ≠ x) ∧ Stay (fun _ => False) w w'

theorem Spl.none {x : Int} {L : List Pr} {i : Nat} (h : Spl x L i i) (hn : ∀ p, L[i]? = some p → p.pid ≠ x) (hs : Up L) : ∀ p ∈ L, p.pid ≠ x := by
  intro p hp e
  obtain ⟨k, hk⟩ := List.getElem?_of_mem hp
  rcases Nat.lt_trichotomy k i with h1 | h1 | h1
  · have := h.1 k p h1 hk; omega
  · subst h1; exact hn p hk e
  · have hi : i < L.length := by have := (List.getElem?_eq_some_iff.1 hk).1; omega
    have h2 := h.2 i _ (Nat.le_refl i) (List.getElem?_eq_getElem hi)
    have h3 := hs.get h1 (List.getElem?_eq_getElem hi) hk
    omega

theorem cI_neg (x y : Int) : decide (cI x y < 0) = decide (x < y) := by
  rcases cI_cases x y with ⟨h, e⟩ | ⟨h, e⟩ | ⟨h, e⟩ <;> rw [e] <;> simp <;> omega

theorem cI_zero (x y : Int) : (cI x y == 0) = (x == y) := by
  rcases cI_cases x y with ⟨h, e⟩ | ⟨h, e⟩ | ⟨h, e⟩ <;> rw [e]
  · rw [beq_eq_false_iff_ne.2 (by omega : x ≠ y)]; rfl
  · rw [beq_eq_false_iff_ne.2 (by omega : x ≠ y)]; rfl
  · rw [beq_iff_eq.2 h]; rfl

set_option maxHeartbeats 2000000 in
theorem search63 (a : Option Addr) (n cap : Nat) (L : List Pr) (x : Int) (w : World) (hr : Rd w a L) (hn : L.length = n) (hm : n ≤ 2048) (hs : Up L) :
    Calls Try.prog 63 #[.slice a n cap, .int .i64 x, .func (.func 64) #[] #[]] w (FoundP x L w) := by
  have HS0 := hide' (Stay.refl (fun _ => False) w)
  have HR := hide' hr
  have HN := hide' hn
  have HSR := hide' hs
  have n2 : (n : Int) ≤ 2048 := by omega
  have HP0 : Hid (Spl x L 0 n) := ⟨fun k a hk => by omega, fun k a hk ha => by rw [List.getElem?_eq_none (by omega)] at ha; cases ha⟩
  clear hr hn hs hm
  go_enter Try.func63, Try.ntmps63
  go_wp2
  go_loopg [9, 10] n (fun gg v9 v10 wr => ∃ lo hi : Nat, v9 = .int .i64 (lo : Int) ∧ v10 = .int .i64 (hi : Int) ∧ lo ≤ hi ∧ hi ≤ n ∧ gg = hi - lo ∧ Hid (Stay (fun _ => False) w wr) ∧ Hid (Spl x L lo hi))
  case atStart => exact ⟨0, n, rfl, rfl, Nat.zero_le _, Nat.le_refl _, by omega, HS0, HP0⟩
  case round =>
    clear HS0 HP0
    obtain ⟨lo, hi, rfl, rfl, hlh, hhn, rfl, HS, HP⟩ := hrel
    by_cases hlt : lo < hi
    · have l1 : (lo : Int) < (hi : Nat) := by omega
      obtain ⟨m, hm⟩ : ∃ m, m = (lo + hi) / 2 := ⟨_, rfl⟩
      have em : ((lo : Int) + (hi : Int)) / 2 = ((m : Nat) : Int) := by omega
      have mn : m < n := by omega
      have mi : (m : Int) < (n : Nat) := by omega
      have HML : Hid (lo ≤ m ∧ m < hi) := by show _ ∧ _; omega
      obtain ⟨t, hx⟩ : ∃ t, L[m]? = some t := ⟨_, List.getElem?_eq_getElem (by rw [HN.out]; exact mn)⟩
      obtain ⟨g, o, rfl, hb⟩ := HR.out m t hx
      obtain ⟨c0, c1, c2, c3, c4, c5⟩ := hb.keep HS.out
      have HX := hide' hx
      obtain ⟨c, hc⟩ : ∃ c, c = cI t.pid x := ⟨_, rfl⟩
      have HO := hide' (fun w => order64 t x w)
      rw [← hc] at HO
      have HC : Hid (decide (c < 0) = decide (t.pid < x)) := by rw [hc]; exact cI_neg t.pid x
      clear hm hx hb hc
      go_wp2_with fail
      refine (HO.out _).mono ?_
      rintro _ w1 ⟨rfl, hs1⟩
      have HS2 := hide' (HS.out.trans hs1)
      clear hs1 HS HO c0 c1 c2 c3 c4 c5
      by_cases hc0 : c < 0
      · have HP2 := hide' (HP.out.up HSR.out HX.out (by have h := HC.out; rw [decide_eq_true hc0] at h; exact of_decide_eq_true h.symm))
        clear HP HC em
        go_wp2
        go_roundg (hi - (m + 1))
        case measure => have := HML.out; omega
        case rel => exact ⟨m + 1, hi, by go_num, rfl, by have := HML.out; omega, hhn, rfl, HS2, HP2⟩
      · have HP2 := hide' (HP.out.down HSR.out HX.out (by have h := HC.out; rw [decide_eq_false hc0] at h; exact of_decide_eq_false h.symm))
        clear HP HC em
        go_wp2
        go_roundg (m - lo)
        case measure => have := HML.out; omega
        case rel => exact ⟨lo, m, rfl, rfl, by have := HML.out; omega, by omega, rfl, HS2, HP2⟩
    · obtain rfl : hi = lo := by omega
      by_cases hin : hi < n
      · have i1 : (hi : Int) < (n : Nat) := by omega
        obtain ⟨t, hx⟩ : ∃ t, L[hi]? = some t := ⟨_, List.getElem?_eq_getElem (by rw [HN.out]; exact hin)⟩
        obtain ⟨g, o, rfl, hb⟩ := HR.out hi t hx
        obtain ⟨c0, c1, c2, c3, c4, c5⟩ := hb.keep HS.out
        have HO := hide' (fun w => order64 t x w)
        obtain ⟨c, hc⟩ : ∃ c, c = cI t.pid x := ⟨_, rfl⟩
        have HC : Hid ((c == 0) = (t.pid == x)) := by rw [hc]; exact cI_zero t.pid x
        rw [← hc] at HO
        have HX := hide' hx
        clear hx hb hc
        go_wp2_with fail
        refine (HO.out _).mono ?_
        rintro _ w1 ⟨rfl, hs1⟩
        have HS2 := hide' (HS.out.trans hs1)
        clear hs1 HS HO c0 c1 c2 c3 c4 c5
        go_wp2
        go_returns
        refine ⟨hi, _, rfl, by rw [HN.out]; exact hhn, fun h => ⟨t, HX.out, ?_⟩, fun h => HP.out.none (fun p hp => ?_) HSR.out, HS2.out⟩
        · rw [HC.out] at h; exact beq_iff_eq.1 h
        · rw [HX.out] at hp; cases hp
          rw [HC.out] at h; exact beq_eq_false_iff_ne.1 h
      · have i1 : ¬ (hi : Int) < (n : Nat) := by omega
        go_wp2
        go_returns
        refine ⟨hi, _, rfl, by rw [HN.out]; exact hhn, fun h => by simp at h, fun _ => HP.out.none (fun p hp => ?_) HSR.out, HS.out⟩
        rw [List.getElem?_eq_none (by rw [HN.out]; omega)] at hp
        cases hp

end Go.Proofs.Ytefpifnfinkbaaa
