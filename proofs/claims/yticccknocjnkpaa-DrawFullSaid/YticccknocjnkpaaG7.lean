/-
  Windows, one behind the other: as cells, in memory. No conditions.
  Where a window stands: walked. No conditions.
  A stack is made; what fits: walked. No conditions.
-/
import Derived.Test.YticccknocjnkpaaG2
import Derived.Test.YticccknocjnkpaaG6
import Derived.Lib.SliceRun
namespace Go.Proofs.Yticccknocjnkpaa
open Go.RowKit

/-- A window's parts. -/
def Wn.parts (p : Wn) : List Value := [.int .i64 p.id, .int .i64 p.env, .int .i64 p.x, .int .i64 p.y, .int .i64 p.w, .int .i64 p.h, .bool p.hid]

/-- What a window has. -/
def Wn.r (p : Wn) : R := ⟨p.x, p.y, p.w, p.h⟩

theorem Wn.parts_one (p : Wn) : ∀ v ∈ p.parts, v.oneCell' = true := by
  intro v hv
  simp only [Wn.parts, List.mem_cons, List.not_mem_nil, or_false] at hv
  rcases hv with rfl | rfl | rfl | rfl | rfl | rfl | rfl <;> rfl

/-- The cells of windows. -/
def wc (L : List Wn) : List Value := L.flatMap Wn.parts

theorem wc_nil : wc [] = [] := rfl

theorem wc_cons (p : Wn) (L : List Wn) : wc (p :: L) = p.parts ++ wc L := rfl

theorem wc_append (A B : List Wn) : wc (A ++ B) = wc A ++ wc B := List.flatMap_append

theorem wc_length : ∀ L : List Wn, (wc L).length = L.length * 7
  | [] => rfl
  | p :: L => by
    rw [wc_cons, List.length_append, wc_length L, List.length_cons]
    show 7 + _ = _
    omega

theorem wc_one (L : List Wn) : ∀ v ∈ wc L, v.oneCell' = true := by
  intro v hv
  obtain ⟨p, _, h⟩ := List.mem_flatMap.1 hv
  exact p.parts_one v h

theorem wc_take : ∀ (L : List Wn) (i : Nat), wc (L.take i) = (wc L).take (i * 7)
  | [], i => by simp [wc]
  | p :: L, 0 => by simp [wc]
  | p :: L, i + 1 => by
    have hl : p.parts.length = 7 := rfl
    rw [List.take_succ_cons, wc_cons, wc_cons, wc_take L i, List.take_append, hl, List.take_of_length_le (l := p.parts) (by omega), show (i + 1) * 7 - 7 = i * 7 by omega]

theorem wc_drop : ∀ (L : List Wn) (i : Nat), wc (L.drop i) = (wc L).drop (i * 7)
  | [], i => by simp [wc]
  | p :: L, 0 => by simp [wc]
  | p :: L, i + 1 => by
    have hl : p.parts.length = 7 := rfl
    rw [List.drop_succ_cons, wc_cons, wc_drop L i, List.drop_append, hl, List.drop_of_length_le (l := p.parts) (by omega), show (i + 1) * 7 - 7 = i * 7 by omega, List.nil_append]

theorem wc_get {L : List Wn} {i : Nat} {p : Wn} (h : L[i]? = some p) (j : Nat) (hj : j < 7) : (wc L)[i * 7 + j]? = p.parts[j]? := by
  have hi : i < L.length := (List.getElem?_eq_some_iff.1 h).1
  have e : L = L.take i ++ p :: L.drop (i + 1) := by
    rw [← (List.getElem?_eq_some_iff.1 h).2, List.getElem_cons_drop]
    exact (List.take_append_drop i L).symm
  have hl : p.parts.length = 7 := rfl
  rw [e, wc_append, wc_cons, List.getElem?_append_right (by rw [wc_length, List.length_take]; omega), List.getElem?_append_left (by rw [wc_length, List.length_take]; omega)]
  congr 1
  rw [wc_length, List.length_take]
  omega

/-- Windows that can be read. -/
def Rds (w : World) (a : Option Addr) (L : List Wn) : Prop := ∀ i p, L[i]? = some p → ∃ g, a = some ⟨g, 0, none⟩ ∧ NBoxAt w g (i * 7) p

theorem NBoxAt.stay {T : Nat → Prop} {w w1 : World} {g o : Nat} {c : Wn} (h : NBoxAt w g o c) (hs : Stay T w w1) (hn : ¬ T g) : NBoxAt w1 g o c := by
  have hb : g < w.heap.size := World.block_lt_of_cell? _ _ h.c0
  have c' : ∀ o, w1.cell? ⟨g, o, none⟩ = w.cell? ⟨g, o, none⟩ := fun o => hs.cell (p := ⟨g, o, none⟩) hb hn
  exact ⟨(c' _).trans h.c0, (c' _).trans h.c1, (c' _).trans h.c2, (c' _).trans h.c3, (c' _).trans h.c4, (c' _).trans h.c5, (c' _).trans h.c6⟩

theorem Rds.stay {T : Nat → Prop} {w w1 : World} {a : Option Addr} {L : List Wn} (h : Rds w a L) (hs : Stay T w w1) (hn : ∀ k, a.map Addr.block = some k → ¬ T k) : Rds w1 a L := fun i p hp => by
  obtain ⟨g, rfl, hb⟩ := h i p hp
  exact ⟨g, rfl, hb.stay hs (hn g rfl)⟩

theorem Rds.keep {w w1 : World} {a : Option Addr} {L : List Wn} (h : Rds w a L) (hs : Stay (fun _ => False) w w1) : Rds w1 a L := h.stay hs (fun _ _ h => h)

/-- Windows in a row of their own, and room behind them. -/
def Ws (w : World) (a : Option Addr) (n cap : Nat) (L : List Wn) : Prop :=
  L.length = n ∧ n ≤ cap ∧ cap ≤ maxLen ∧ ((a = none ∧ cap = 0) ∨ ∃ g, a = some ⟨g, 0, none⟩ ∧ g < w.heap.size ∧ w.rangeAt g 0 (wc L) ∧ w.there g 0 (cap * 7))

variable {w w1 W : World} {a : Option Addr} {n cap g i : Nat} {L : List Wn} {T : Nat → Prop}

theorem Ws.empty (w : World) : Ws w none 0 0 [] := ⟨rfl, Nat.le_refl _, by unfold maxLen; omega, .inl ⟨rfl, rfl⟩⟩

theorem Ws.lt (h : Ws w a n cap L) : ∀ k, a.map Addr.block = some k → k < w.heap.size := by
  intro k hk
  rcases h.2.2.2 with ⟨rfl, _⟩ | ⟨g, rfl, hg, _⟩
  · cases hk
  · cases hk; exact hg

theorem Ws.stay (h : Ws w a n cap L) (hs : Stay T w w1) (hn : ∀ k, a.map Addr.block = some k → ¬ T k) : Ws w1 a n cap L := by
  refine ⟨h.1, h.2.1, h.2.2.1, ?_⟩
  rcases h.2.2.2 with h0 | ⟨g, rfl, hg, hr, ht⟩
  · exact .inl h0
  · have hc : ∀ o, w1.cell? ⟨g, o, none⟩ = w.cell? ⟨g, o, none⟩ := fun o => hs.cell (p := ⟨g, o, none⟩) hg (hn g rfl)
    have hf : ∀ o, w1.frozen? ⟨g, o, none⟩ = w.frozen? ⟨g, o, none⟩ := fun o => hs.frozen (p := ⟨g, o, none⟩) hg (hn g rfl)
    exact .inr ⟨g, rfl, Nat.lt_of_lt_of_le hg hs.size, fun j u hu => (hc _).trans (hr j u hu), fun j hj => ⟨by rw [hc]; exact (ht j hj).1, by rw [hf]; exact (ht j hj).2⟩⟩

theorem Ws.keep (h : Ws w a n cap L) (hs : Stay (fun _ => False) w w1) : Ws w1 a n cap L := h.stay hs (fun _ _ h => h)

theorem Ws.at (h : Ws w a n cap L) {p : Wn} (hp : L[i]? = some p) : ∃ g, a = some ⟨g, 0, none⟩ ∧ NBoxAt w g (i * 7) p := by
  have hi : i < L.length := (List.getElem?_eq_some_iff.1 hp).1
  rcases h.2.2.2 with ⟨_, h0⟩ | ⟨g, rfl, _, hr, _⟩
  · have := h.1; have := h.2.1; omega
  · have c : ∀ j, j < 7 → ∀ v, p.parts[j]? = some v → w.cell? ⟨g, i * 7 + j, none⟩ = some v := fun j hj v hv => by
      have := hr (i * 7 + j) v (by rw [wc_get hp j hj]; exact hv)
      rwa [Nat.zero_add] at this
    exact ⟨g, rfl, c 0 (by decide) _ rfl, c 1 (by decide) _ rfl, c 2 (by decide) _ rfl, c 3 (by decide) _ rfl, c 4 (by decide) _ rfl, c 5 (by decide) _ rfl, c 6 (by decide) _ rfl⟩

theorem Ws.rds (h : Ws w a n cap L) : Rds w a L := fun _ _ hp => h.at hp

/-- Windows to be read one behind the other. -/
theorem Ws.row (h : Ws w a n cap L) : IsRowS w 7 (.slice a n cap) n (wc L) := by
  rcases h.2.2.2 with ⟨rfl, h0⟩ | ⟨g, rfl, _, hr, _⟩
  · have h1 := h.1; have h2 := h.2.1
    obtain rfl : n = 0 := by omega
    obtain rfl : L = [] := List.eq_nil_of_length_eq_zero h1
    subst h0
    exact .inl ⟨rfl, rfl, rfl⟩
  · refine .inr ⟨_, _, rfl, by rw [wc_length, h.1], fun j u hu => ?_⟩
    rw [addr_add]
    exact hr j u hu

theorem Ws.of_owns {base e : Nat} {v : Value} (h : w.ownsRow base e 7 v n (wc L)) : ∃ a cap, v = .slice a n cap ∧ Ws w a n cap L ∧ ∀ k, a.map Addr.block = some k → base ≤ k := by
  have hl : L.length = n := by have := h.1; rw [wc_length] at this; omega
  rcases h.2 with ⟨rfl, h0⟩ | ⟨g, cap, cur, rfl, hb, hg, h1, h2, h3, h4⟩
  · subst h0
    exact ⟨_, _, rfl, ⟨hl, Nat.le_refl _, by unfold maxLen; omega, .inl ⟨rfl, rfl⟩⟩, fun k hk => by cases hk⟩
  · have hlt : g < w.heap.size := (Array.getElem?_eq_some_iff.1 hg).1
    refine ⟨_, _, rfl, ⟨hl, h1, h2, .inr ⟨g, rfl, hlt, fun j u hu => ?_, fun j hj => ?_⟩⟩, fun k hk => by cases hk; exact hb⟩
    · have := h.cells (g := g) rfl j u hu
      rwa [addr_add] at this
    · have hj' : j < cur.size := by omega
      constructor
      · rw [cell_of_row w g _ cur e (0, 0) hg, Nat.zero_add, Array.getElem?_eq_getElem hj']; rfl
      · simp [World.frozen?, hg]

/-- What stands in a block's cells where some were written. -/
theorem range_patch {xs ys : List Value} {k : Nat} (h : w.rangeAt g 0 xs) (hk : k ≤ xs.length) (ht : w.there g k ys.length) : (w.setCells g k ys).rangeAt g 0 (xs.take k ++ ys ++ xs.drop (k + ys.length)) := by
  intro j v hj
  rw [Nat.zero_add]
  have hlt : (xs.take k).length = k := by rw [List.length_take]; omega
  by_cases h1 : j < k
  · rw [List.append_assoc, List.getElem?_append_left (by omega), List.getElem?_take, if_pos h1] at hj
    rw [World.cell?_setCells_out g ys k w ⟨g, j, none⟩ (fun _ _ => by show j < k ∨ k + ys.length ≤ j; omega)]
    have := h j v hj
    rwa [Nat.zero_add] at this
  · by_cases h2 : j < k + ys.length
    · rw [List.append_assoc, List.getElem?_append_right (by omega), hlt, List.getElem?_append_left (by omega)] at hj
      have := World.rangeAt_setCells_same w g k ys ht (j - k) v hj
      rwa [show k + (j - k) = j by omega] at this
    · rw [List.getElem?_append_right (by rw [List.length_append]; omega), List.getElem?_drop, List.length_append, hlt] at hj
      rw [World.cell?_setCells_out g ys k w ⟨g, j, none⟩ (fun _ _ => by show j < k ∨ k + ys.length ≤ j; omega)]
      have := h j v (by rw [← hj]; congr 1; omega)
      rwa [Nat.zero_add] at this

theorem range_front {xs ys : List Value} (h : w.rangeAt g 0 (xs ++ ys)) : w.rangeAt g 0 xs := fun j v hj =>
  h j v (by rw [List.getElem?_append_left (List.getElem?_eq_some_iff.1 hj).1]; exact hj)

theorem there_part {m o k : Nat} (h : w.there g 0 m) (hk : o + k ≤ m) : w.there g o k := fun j hj => by
  have := h (o + j) (by omega)
  rwa [Nat.zero_add] at this

theorem split_at {p : Wn} (h : L[i]? = some p) : L = L.take i ++ p :: L.drop (i + 1) := by
  rw [← (List.getElem?_eq_some_iff.1 h).2, List.getElem_cons_drop]
  exact (List.take_append_drop i L).symm

theorem set_split {p q : Wn} (h : L[i]? = some p) : L.set i q = L.take i ++ q :: L.drop (i + 1) := by
  have hi : i < L.length := (List.getElem?_eq_some_iff.1 h).1
  rw [List.set_eq_take_append_cons_drop, if_pos hi]

/-- Some parts of one window are written: it is another one. -/
theorem Ws.part (h : Ws w (some ⟨g, 0, none⟩) n cap L) {p q : Wn} (hp : L[i]? = some p) {k : Nat} {vs : List Value} (hk : k + vs.length ≤ 7) (e : q.parts = p.parts.take k ++ vs ++ p.parts.drop (k + vs.length)) :
    Ws (w.setCells g (i * 7 + k) vs) (some ⟨g, 0, none⟩) n cap (L.set i q) := by
  have hi : i < L.length := (List.getElem?_eq_some_iff.1 hp).1
  refine ⟨by rw [List.length_set]; exact h.1, h.2.1, h.2.2.1, ?_⟩
  have h1 := h.1
  have h2 := h.2.1
  rcases h.2.2.2 with ⟨h0, _⟩ | ⟨g', h0, hg, hr, ht⟩
  · cases h0
  · cases h0
    have hst : Stay (fun j => j = g) w (w.setCells g (i * 7 + k) vs) := (Stay.refl (fun j => j = g) w).setCells g _ _ rfl
    refine .inr ⟨g, rfl, Nat.lt_of_lt_of_le hg hst.size, ?_, World.there_setCells ht _ _ _⟩
    have hx := range_patch (k := i * 7 + k) (ys := vs) hr (by rw [wc_length]; omega) (there_part ht (by omega))
    have e2 : (wc L).take (i * 7 + k) ++ vs ++ (wc L).drop (i * 7 + k + vs.length) = wc (L.set i q) := by
      have hl : p.parts.length = 7 := rfl
      have hll : (L.take i).length = i := by rw [List.length_take]; omega
      have hw : (wc (L.take i)).length = i * 7 := by rw [wc_length, hll]
      have ew : wc L = wc (L.take i) ++ (p.parts ++ wc (L.drop (i + 1))) := by
        conv => lhs; rw [split_at hp]
        rw [wc_append, wc_cons]
      rw [set_split hp, wc_append, wc_cons, e, ew, List.take_append, List.drop_append, hw, List.take_of_length_le (l := wc (L.take i)) (by rw [hw]; omega), List.drop_of_length_le (l := wc (L.take i)) (by rw [hw]; omega), show i * 7 + k - i * 7 = k by omega,
        show i * 7 + k + vs.length - i * 7 = k + vs.length by omega, List.take_append, List.drop_append, hl, show k - 7 = 0 by omega, show k + vs.length - 7 = 0 by omega]
      simp
    rwa [e2] at hx

/-- One goes out: those behind it come up; what lies behind all may be written. -/
theorem Ws.out (h : Ws w (some ⟨g, 0, none⟩) n cap L) (hi : i < n) : Ws (w.setCells g (i * 7) (wc (L.drop (i + 1)))) (some ⟨g, 0, none⟩) (n - 1) cap (L.eraseIdx i) := by
  have h1 := h.1
  have h2 := h.2.1
  have hld : (wc (L.drop (i + 1))).length = (n - (i + 1)) * 7 := by rw [wc_length, List.length_drop, h1]
  refine ⟨by rw [List.length_eraseIdx, if_pos (by omega), h1], by omega, h.2.2.1, ?_⟩
  rcases h.2.2.2 with ⟨h0, _⟩ | ⟨g', h0, hg, hr, ht⟩
  · cases h0
  · cases h0
    have hst : Stay (fun j => j = g) w (w.setCells g (i * 7) (wc (L.drop (i + 1)))) := (Stay.refl (fun j => j = g) w).setCells g _ _ rfl
    refine .inr ⟨g, rfl, Nat.lt_of_lt_of_le hg hst.size, ?_, World.there_setCells ht _ _ _⟩
    have hx := range_patch (k := i * 7) (ys := wc (L.drop (i + 1))) hr (by rw [wc_length]; omega) (there_part ht (by omega))
    rw [← wc_take, ← wc_append, ← List.eraseIdx_eq_take_drop_succ] at hx
    exact range_front hx

/-- What lies behind all is written. -/
theorem Ws.behind (h : Ws w (some ⟨g, 0, none⟩) n cap L) (vs : List Value) {k : Nat} (hk : n * 7 ≤ k) : Ws (w.setCells g k vs) (some ⟨g, 0, none⟩) n cap L := by
  refine ⟨h.1, h.2.1, h.2.2.1, ?_⟩
  rcases h.2.2.2 with ⟨h0, _⟩ | ⟨g', h0, hg, hr, ht⟩
  · cases h0
  · cases h0
    have hst : Stay (fun j => j = g) w (w.setCells g k vs) := (Stay.refl (fun j => j = g) w).setCells g _ _ rfl
    exact .inr ⟨g, rfl, Nat.lt_of_lt_of_le hg hst.size, World.rangeAt_setCells_apart hr g k vs (.inr (.inl (by rw [wc_length, h.1]; omega))), World.there_setCells ht _ _ _⟩

/-- The first ones go on by one; one comes ahead of all. -/
theorem Ws.first (h : Ws w (some ⟨g, 0, none⟩) n cap L) (q : Wn) (hi : i ≤ n) (hc : i + 1 ≤ cap) : Ws ((w.setCells g 7 (wc (L.take i))).setCells g 0 q.parts) (some ⟨g, 0, none⟩) (max n (i + 1)) cap (q :: (L.take i ++ L.drop (i + 1))) := by
  have h1 := h.1
  have h2 := h.2.1
  have hl : q.parts.length = 7 := rfl
  have hll : (wc (L.take i)).length = i * 7 := by rw [wc_length, List.length_take]; omega
  refine ⟨by rw [List.length_cons, List.length_append, List.length_take, List.length_drop]; omega, by omega, h.2.2.1, ?_⟩
  rcases h.2.2.2 with ⟨h0, _⟩ | ⟨g', h0, hg, hr, ht⟩
  · cases h0
  · cases h0
    have hst : Stay (fun j => j = g) w ((w.setCells g 7 (wc (L.take i))).setCells g 0 q.parts) := ((Stay.refl (fun j => j = g) w).setCells g _ _ rfl).setCells g _ _ rfl
    refine .inr ⟨g, rfl, Nat.lt_of_lt_of_le hg hst.size, ?_, World.there_setCells (World.there_setCells ht _ _ _) _ _ _⟩
    intro j v hj
    rw [Nat.zero_add]
    rw [wc_cons, wc_append] at hj
    have ht1 : (w.setCells g 7 (wc (L.take i))).there g 0 q.parts.length := there_part (World.there_setCells ht _ _ _) (by omega)
    have ht2 : w.there g 7 (wc (L.take i)).length := there_part ht (by omega)
    by_cases hj1 : j < 7
    · rw [List.getElem?_append_left (by omega)] at hj
      have := World.rangeAt_setCells_same (w.setCells g 7 (wc (L.take i))) g 0 q.parts ht1 j v hj
      rwa [Nat.zero_add] at this
    · rw [List.getElem?_append_right (by omega), hl] at hj
      rw [World.cell?_setCells_out g q.parts 0 _ ⟨g, j, none⟩ (fun _ _ => by show j < 0 ∨ 0 + q.parts.length ≤ j; omega)]
      by_cases hj2 : j - 7 < i * 7
      · rw [List.getElem?_append_left (by omega)] at hj
        have := World.rangeAt_setCells_same w g 7 (wc (L.take i)) ht2 (j - 7) v hj
        rwa [show 7 + (j - 7) = j by omega] at this
      · rw [List.getElem?_append_right (by omega), hll, wc_drop, List.getElem?_drop] at hj
        rw [World.cell?_setCells_out g (wc (L.take i)) 7 w ⟨g, j, none⟩ (fun _ _ => by show j < 7 ∨ 7 + (wc (L.take i)).length ≤ j; omega)]
        have := hr j v (by rw [← hj]; congr 1; omega)
        rwa [Nat.zero_add] at this

end Go.Proofs.Yticccknocjnkpaa

namespace Go.Proofs.Yticccknocjnkpaa
open Go.RowKit

/-- Where a window of that number stands; how many there are, if none has it. -/
def plN : List Wn → Int → Nat
  | [], _ => 0
  | p :: r, id => if p.id == id then 0 else plN r id + 1

/-- Where a window of that number stands; -1: nowhere. -/
def plI (L : List Wn) (id : Int) : Int := if plN L id < L.length then (plN L id : Nat) else -1

theorem plN_le : ∀ (L : List Wn) (id : Int), plN L id ≤ L.length
  | [], _ => Nat.le_refl _
  | p :: r, id => by
    show (if p.id == id then 0 else plN r id + 1) ≤ r.length + 1
    have := plN_le r id
    split <;> omega

theorem plN_hit : ∀ (L : List Wn) (id : Int), plN L id < L.length → ∃ p, L[plN L id]? = some p ∧ p.id = id
  | [], _, h => absurd h (Nat.lt_irrefl _)
  | p :: r, id, h => by
    by_cases hp : (p.id == id) = true
    · have e : plN (p :: r) id = 0 := if_pos hp
      rw [e]
      exact ⟨p, rfl, by simpa using hp⟩
    · have e : plN (p :: r) id = plN r id + 1 := if_neg hp
      rw [e] at h ⊢
      obtain ⟨q, h1, h2⟩ := plN_hit r id (by rw [List.length_cons] at h; omega)
      exact ⟨q, by simpa using h1, h2⟩

theorem plN_miss : ∀ (L : List Wn) (id : Int) (i : Nat) (p : Wn), L[i]? = some p → i < plN L id → (p.id == id) = false
  | [], _, _, _, h, _ => by simp at h
  | q :: r, id, i, p, h, hi => by
    by_cases hq : (q.id == id) = true
    · have e : plN (q :: r) id = 0 := if_pos hq
      omega
    · have e : plN (q :: r) id = plN r id + 1 := if_neg hq
      cases i with
      | zero =>
        have h' : q = p := by simpa using h
        subst h'
        simpa using hq
      | succ i => exact plN_miss r id i p (by simpa using h) (by omega)

theorem closure76 (p : Wn) (id : Int) (bi : Nat) (w : World) (hc : w.cell? ⟨bi, 0, none⟩ = some (.int .i64 id)) : Calls Try.prog 76 #[.agg #[.int .i64 p.id, .int .i64 p.env, .int .i64 p.x, .int .i64 p.y, .int .i64 p.w, .int .i64 p.h, .bool p.hid], .pointer (some ⟨bi, 0, none⟩)] w (Gives (.bool (p.id == id)) w) := by
  obtain ⟨W0, hW0⟩ : ∃ W, W = w.alloc (.cells #[.int .i64 p.id, .int .i64 p.env, .int .i64 p.x, .int .i64 p.y, .int .i64 p.w, .int .i64 p.h, .bool p.hid] 78) := ⟨_, rfl⟩
  obtain ⟨bs, hbs⟩ : ∃ b, b = w.heap.size := ⟨_, rfl⟩
  have hst : Stay (fun _ => False) w W0 := by rw [hW0]; exact (Stay.refl _ _).alloc _
  have HS0 := hide' hst
  have hb : NBox W0 bs p := by rw [hW0]; exact NBox.new p hbs.symm
  have hc0 := keep_cell hst hc
  obtain ⟨q0, _⟩ := hb
  clear hst hc
  go_enter Try.func76, Try.ntmps76
  go_upto_region 1 with fail
  rw [← hW0, ← hbs]
  clear hW0 hbs
  go_wp2
  go_ret
  exact ⟨rfl, HS0.out⟩

theorem index75 (a : Option Addr) (n cap : Nat) (L : List Wn) (id : Int) (bi : Nat) (w : World) (hr : Rds w a L) (hn : L.length = n) (hm : n ≤ 1000) (hc : w.cell? ⟨bi, 0, none⟩ = some (.int .i64 id)) :
    Calls Try.prog 75 #[.slice a n cap, .func (.func 76) #[] #[.pointer (some ⟨bi, 0, none⟩)]] w (Gives (.int .i64 (plI L id)) w) := by
  have HR := hide' hr
  have HC := hide' hc
  have HN := hide' hn
  obtain ⟨i, hi⟩ : ∃ i, i = plN L id := ⟨_, rfl⟩
  have HI : Hid (plI L id = if i < n then ((i : Nat) : Int) else -1) := by show plI L id = _; rw [hi, ← hn]; rfl
  have HLE : Hid (i ≤ n) := by show i ≤ n; rw [hi, ← hn]; exact plN_le L id
  have HH := hide' (plN_hit L id)
  have HMI := hide' (plN_miss L id)
  rw [← hi] at HH HMI
  have hn1 : (n : Int) ≤ 1000 := by omega
  have HL0 := hide' (Stay.refl (fun _ => False) w)
  clear hr hn hi hm hc
  go_enter Try.func75, Try.ntmps75
  go_wp2
  go_loopg [8] n (fun gg v8 wr => ∃ k : Nat, k ≤ i ∧ k ≤ n ∧ gg = n - k ∧ v8 = .int .i64 (k : Int) ∧ Hid (Stay (fun _ => False) w wr))
  case atStart => exact ⟨0, Nat.zero_le _, Nat.zero_le _, rfl, rfl, HL0⟩
  case round =>
    clear HL0
    obtain ⟨k, hk, hkn, rfl, rfl, HL⟩ := hrel
    by_cases hlt : k < n
    · have kn : (k : Int) < (n : Nat) := by omega
      obtain ⟨p, hp⟩ : ∃ p, L[k]? = some p := ⟨_, List.getElem?_eq_getElem (by have := HN.out; omega)⟩
      obtain ⟨g, rfl, hb⟩ := HR.out k p hp
      have HC1 := hide' (keep_cell HL.out HC.out)
      obtain ⟨r0, r1, r2, r3, r4, r5, r6⟩ := hb.keep HL.out
      have HP := hide' hp
      clear hb hp
      by_cases hki : k < i
      · have HD : Hid ((p.id == id) = false) := HMI.out k p HP.out hki
        go_wp2_with fail
        refine (closure76 p id bi _ HC1.out).mono ?_
        rintro _ w1 ⟨rfl, hs⟩
        rw [HD.out]
        have HS1 := hide' (HL.out.trans hs)
        clear hs HL HC1 r0 r1 r2 r3 r4 r5 r6
        go_wp2
        go_roundg (n - (k + 1))
        case measure => omega
        case rel => exact ⟨k + 1, by omega, by omega, rfl, by go_num, HS1⟩
      · have hki' : k = i := by have := HLE.out; omega
        subst hki'
        have HD : Hid ((p.id == id) = true) := by
          obtain ⟨q, h1, h2⟩ := HH.out (by have := HN.out; omega)
          rw [HP.out] at h1
          cases h1
          exact beq_t h2
        have HI2 : Hid (plI L id = ((k : Nat) : Int)) := by rw [HI.out, if_pos hlt]; exact rfl
        clear HI
        go_wp2_with fail
        refine (closure76 p id bi _ HC1.out).mono ?_
        rintro _ w1 ⟨rfl, hs⟩
        rw [HD.out]
        have HS1 := hide' (HL.out.trans hs)
        clear hs HL HC1 r0 r1 r2 r3 r4 r5 r6
        go_wp2
        go_ret
        exact ⟨by rw [HI2.out]; rfl, HS1.out⟩
    · have hkn' : k = n := by omega
      subst hkn'
      have hik : i = k := by have := HLE.out; omega
      subst hik
      have HI2 : Hid (plI L id = -1) := by rw [HI.out, if_neg hlt]; exact rfl
      clear HI
      go_wp2
      go_ret
      exact ⟨by rw [HI2.out]; rfl, HL.out⟩

/-- Where a stack lies: its block, its windows. -/
structure Sm where
  b : Nat
  v : Value

/-- The blocks that are a stack's. -/
def Sm.own (q : Sm) (j : Nat) : Prop := j = q.b ∨ q.v.ownBlock = some j

/-- Windows in a row, as a slice. -/
def Wv (w : World) (v : Value) (L : List Wn) : Prop := ∃ a cap, v = .slice a L.length cap ∧ Ws w a L.length cap L ∧ (cap = 0 → a = none)

/-- A stack that lies in memory: its screen, how many windows were made, its windows. -/
structure SAt (W : World) (q : Sm) (sw sh m : Int) (L : List Wn) : Prop where
  box : KBox W q.b ⟨0, 0, sw, sh, q.v, m⟩
  row : Wv W q.v L
  vb : ∀ j, q.v.ownBlock = some j → j ≠ q.b
  n1 : L.length ≤ 256

variable {w W W1 : World} {q q2 : Sm} {sw sh m : Int} {L : List Wn} {v : Value}

theorem ownBlock_slice {a : Option Addr} {n c : Nat} : (Value.slice a n c).ownBlock = a.map Addr.block := by cases a <;> rfl

theorem Wv.lt (h : Wv W v L) : ∀ j, v.ownBlock = some j → j < W.heap.size := by
  obtain ⟨a, cap, rfl, hw, _⟩ := h
  rw [ownBlock_slice]
  exact hw.lt

theorem Wv.stay {T : Nat → Prop} (h : Wv W v L) (hs : Stay T W W1) (hn : ∀ j, v.ownBlock = some j → ¬ T j) : Wv W1 v L := by
  obtain ⟨a, cap, rfl, hw, h0⟩ := h
  rw [ownBlock_slice] at hn
  exact ⟨a, cap, rfl, hw.stay hs hn, h0⟩

theorem SAt.lt (h : SAt W q sw sh m L) : ∀ j, q.own j → j < W.heap.size := by
  intro j hj
  rcases hj with rfl | hj
  · exact h.box.lt
  · exact h.row.lt j hj

theorem SAt.stay {T : Nat → Prop} (h : SAt W q sw sh m L) (hs : Stay T W W1) (hn : ∀ j, q.own j → ¬ T j) : SAt W1 q sw sh m L :=
  ⟨h.box.stay hs (hn _ (.inl rfl)), h.row.stay hs (fun j hj => hn j (.inr hj)), h.vb, h.n1⟩

theorem SAt.keep (h : SAt W q sw sh m L) (hs : Stay (fun _ => False) W W1) : SAt W1 q sw sh m L := h.stay hs (fun _ _ h => h)

theorem place53 (q : Sm) (sw sh m : Int) (L : List Wn) (id : Int) (w : World) (h : SAt w q sw sh m L) : Calls Try.prog 53 #[.pointer (some ⟨q.b, 0, none⟩), .int .i64 id] w (Gives (.int .i64 (plI L id)) w) := by
  obtain ⟨b, v⟩ := q
  obtain ⟨W0, hW0⟩ : ∃ W, W = w.alloc (.cells #[.int .i64 id] 3) := ⟨_, rfl⟩
  obtain ⟨bs, hbs⟩ : ∃ b, b = w.heap.size := ⟨_, rfl⟩
  have hst : Stay (fun _ => False) w W0 := by rw [hW0]; exact (Stay.refl _ _).alloc _
  have HS0 := hide' hst
  have HC : Hid (W0.cell? ⟨bs, 0, none⟩ = some (.int .i64 id)) := hide' (by rw [hW0, hbs]; simp)
  have hS := h.keep hst
  obtain ⟨a, cap, hv, hw, _⟩ := hS.row
  simp only at hv
  subst hv
  have hb := hS.box
  obtain ⟨_, _, _, _, b4, _⟩ := hb
  simp only at b4
  obtain ⟨n, hn⟩ : ∃ n, L.length = n := ⟨_, rfl⟩
  have hn1 := h.n1
  rw [hn] at hn1 b4 hw
  have HIX := hide' (fun W (hs : Stay (fun _ => False) W0 W) => index75 a n cap L id bs W (hw.rds.keep hs) hn (by omega) (keep_cell hs HC.out))
  clear hst h hS hw hn hn1
  go_enter Try.func53, Try.ntmps53
  go_upto_region 1 with fail
  rw [← hW0, ← hbs]
  clear hW0 hbs
  go_wp2_with fail
  refine (HIX.out _ (Stay.refl _ _)).mono ?_
  rintro _ w1 ⟨rfl, hs⟩
  have HS1 := hide' (HS0.out.trans hs)
  clear hs HS0 HIX
  go_wp2
  go_ret
  exact ⟨rfl, HS1.out⟩

end Go.Proofs.Yticccknocjnkpaa

namespace Go.Proofs.Yticccknocjnkpaa
open Go.RowKit

/-- What stands of two boxes while a statement is worked out. -/
def Two (w : World) (a b : R) (w' : World) : Prop := Stay (fun _ => False) w w' ∧ Box w' w.heap.size a ∧ Box w' (w.heap.size + 1) b

theorem Two.keep {w W w1 : World} {a b : R} (h : Two w a b W) (hs : Stay (fun _ => False) W w1) : Two w a b w1 := ⟨h.1.trans hs, h.2.1.keep hs, h.2.2.keep hs⟩

theorem two_new (a b : R) (w : World) : Two w a b ((w.alloc (.cells #[.int .i64 a.x, .int .i64 a.y, .int .i64 a.w, .int .i64 a.h] 41)).alloc (.cells #[.int .i64 b.x, .int .i64 b.y, .int .i64 b.w, .int .i64 b.h] 41)) :=
  ⟨((Stay.refl _ w).alloc _).alloc _, (Box.new a rfl).alloc _, Box.new b (by simp)⟩

theorem run_load_box {a : Act} {o : Oper} {x : Operand} {w : World} {b : Nat} {r : R} (ho : o.op = .load 41 x) (hx : a.eval x = .pointer (some ⟨b, 0, none⟩)) (hb : Box w b r) :
    (execOp a.eval o).run Try.prog w = .ok (.value (.agg #[.int .i64 r.x, .int .i64 r.y, .int .i64 r.w, .int .i64 r.h])) w := by
  unfold execOp
  simp only [ho, hx, Instr.loadAt, Instr.sureAddr, Sem.run_bind, Sem.run_pure, Result.andThen_ok]
  rw [run_loadVar_cells w b 0 41 _ _ hb.cells Try.underlying41 rfl (by kernel_rfl)]
  rfl

theorem eql_op {a : Act} {x y : Operand} {w : World} {d : Option Tmp} {ty : TypeId} (p q : R) (hx : a.eval x = .agg #[.int .i64 p.x, .int .i64 p.y, .int .i64 p.w, .int .i64 p.h]) (hy : a.eval y = .agg #[.int .i64 q.x, .int .i64 q.y, .int .i64 q.w, .int .i64 q.h]) :
    (execOp a.eval (opr d (.binOp .eql 41 x y 41) ty)).run Try.prog w = .ok (.value (.bool (decide (p = q)))) w := by
  obtain ⟨p0, p1, p2, p3⟩ := p
  obtain ⟨q0, q1, q2, q3⟩ := q
  simp only [opr, execOp, hx, hy]
  by_cases h0 : p0 = q0 <;> by_cases h1 : p1 = q1 <;> by_cases h2 : p2 = q2 <;> by_cases h3 : p3 = q3 <;> (go_simp; try simp [h0, h1, h2, h3])

def hasB (a b : R) : Bool := (rightB a && rightB b) && (emptyB b || decide (bothR a b = b))

set_option maxHeartbeats 1000000 in
theorem has72 (a b : R) (w : World) : Calls Try.prog 72 #[.agg #[.int .i64 a.x, .int .i64 a.y, .int .i64 a.w, .int .i64 a.h], .agg #[.int .i64 b.x, .int .i64 b.y, .int .i64 b.w, .int .i64 b.h]] w (Gives (.bool (hasB a b)) w) := by
  have HS := hide' (two_new a b w)
  have HR := hide' (right81 a b)
  have HE := hide' (empty69 b)
  have HX := hide' (both65 a b)
  unfold hasB
  obtain ⟨c, hc⟩ : ∃ c, c = (rightB a && rightB b) := ⟨_, rfl⟩
  obtain ⟨ce, hce⟩ : ∃ c, c = emptyB b := ⟨_, rfl⟩
  obtain ⟨q, hq⟩ : ∃ q, q = bothR a b := ⟨_, rfl⟩
  rw [← hc] at HR
  rw [← hce] at HE
  rw [← hq] at HX
  rw [← hc, ← hce, ← hq]
  clear hc hce hq
  cases c
  · clear HE HX
    go_enter Try.func72, Try.ntmps72
    go_wp2_with fail
    have hS := HS.out.keep ((Stay.refl _ _).drew)
    refine wp_region_mix (Two w a b) [(0, true), (1, true), (2, false), (3, true), (4, true), (5, false), (6, true), (7, true), (8, true), (10, true), (9, false), (11, true), (12, true), (13, true), (14, true)] (by kernel_rfl) (by kernel_rfl) (fun _ d _ _ _ h => by cases d <;> exact h) hS ?_
    refine mix_begin (fun K0 hK0 => ?_)
    refine mix_take hK0 (some 5) (.load 41 (.tmp 2)) 41 _ (by kernel_rfl) (by kernel_rfl) (fun w' hS' => by first | exact run_load_box rfl rfl hS'.2.1 | exact run_load_box rfl rfl hS'.2.2) (fun K1 hK1 => ?_)
    clear hK0 K0
    simp only [Act.put, List.setIfInBounds_toArray, List.set_cons_zero, List.set_cons_succ]
    refine mix_take hK1 (some 6) (.load 41 (.tmp 3)) 41 _ (by kernel_rfl) (by kernel_rfl) (fun w' hS' => by first | exact run_load_box rfl rfl hS'.2.1 | exact run_load_box rfl rfl hS'.2.2) (fun K2 hK2 => ?_)
    clear hK1 K1
    simp only [Act.put, List.setIfInBounds_toArray, List.set_cons_zero, List.set_cons_succ]
    refine mix_call hK2 (some 7) 81 #[.tmp 5, .tmp 6] #[41, 41] 4 _ (by kernel_rfl) (by kernel_rfl) (enters Try.func81 (by kernel_rfl) (by kernel_rfl)) (by go_simp; try with_reducible rfl) (fun K3 hK3 => ?_)
    clear hK2 K2
    refine (HR.out _).mono ?_
    rintro e wm1 ⟨rfl, hs1⟩
    have hS1 : _ := hS.keep hs1
    refine ⟨_, rfl, hS1, ?_⟩
    clear hs1
    simp only [Act.put, List.setIfInBounds_toArray, List.set_cons_zero, List.set_cons_succ]
    refine mix_take hK3 (some 8) (.move (.tmp 7)) 4 _ (by kernel_rfl) (by kernel_rfl) (fun w' hS' => by simp only [opr]; go_simp; try with_reducible rfl) (fun K4 hK4 => ?_)
    clear hK3 K3
    simp only [Act.put, List.setIfInBounds_toArray, List.set_cons_zero, List.set_cons_succ]
    refine mix_skip hK4 (some 9) (by kernel_rfl) (by kernel_rfl) hS1 (fun K5 hK5 => ?_)
    clear hK4 K4
    simp only [Act.put, List.setIfInBounds_toArray, List.set_cons_zero, List.set_cons_succ]
    refine mix_skip hK5 (some 10) (by kernel_rfl) (by kernel_rfl) hS1 (fun K6 hK6 => ?_)
    clear hK5 K5
    simp only [Act.put, List.setIfInBounds_toArray, List.set_cons_zero, List.set_cons_succ]
    refine mix_skip hK6 (some 11) (by kernel_rfl) (by kernel_rfl) hS1 (fun K7 hK7 => ?_)
    clear hK6 K6
    simp only [Act.put, List.setIfInBounds_toArray, List.set_cons_zero, List.set_cons_succ]
    refine mix_skip hK7 (some 12) (by kernel_rfl) (by kernel_rfl) hS1 (fun K8 hK8 => ?_)
    clear hK7 K7
    simp only [Act.put, List.setIfInBounds_toArray, List.set_cons_zero, List.set_cons_succ]
    refine mix_skip hK8 (some 13) (by kernel_rfl) (by kernel_rfl) hS1 (fun K9 hK9 => ?_)
    clear hK8 K8
    simp only [Act.put, List.setIfInBounds_toArray, List.set_cons_zero, List.set_cons_succ]
    refine mix_skip hK9 (some 15) (by kernel_rfl) (by kernel_rfl) hS1 (fun K10 hK10 => ?_)
    clear hK9 K9
    simp only [Act.put, List.setIfInBounds_toArray, List.set_cons_zero, List.set_cons_succ]
    refine mix_skip hK10 (some 14) (by kernel_rfl) (by kernel_rfl) hS1 (fun K11 hK11 => ?_)
    clear hK10 K10
    simp only [Act.put, List.setIfInBounds_toArray, List.set_cons_zero, List.set_cons_succ]
    refine mix_skip hK11 (some 16) (by kernel_rfl) (by kernel_rfl) hS1 (fun K12 hK12 => ?_)
    clear hK11 K11
    simp only [Act.put, List.setIfInBounds_toArray, List.set_cons_zero, List.set_cons_succ]
    refine mix_skip hK12 (some 17) (by kernel_rfl) (by kernel_rfl) hS1 (fun K13 hK13 => ?_)
    clear hK12 K12
    simp only [Act.put, List.setIfInBounds_toArray, List.set_cons_zero, List.set_cons_succ]
    refine mix_take hK13 (some 18) (.pick (.tmp 8) (.tmp 17) (.const (Value.bool false))) 4 _ (by kernel_rfl) (by kernel_rfl) (fun w' hS' => by simp only [opr]; go_simp; try with_reducible rfl) (fun K14 hK14 => ?_)
    clear hK13 K13
    simp only [Act.put, List.setIfInBounds_toArray, List.set_cons_zero, List.set_cons_succ]
    refine mix_take hK14 (some 4) (.assign (.tmp 18)) 4 _ (by kernel_rfl) (by kernel_rfl) (fun w' hS' => by simp only [opr]; go_simp; try with_reducible rfl) (fun K15 hK15 => ?_)
    clear hK14 K14
    simp only [Act.put, List.setIfInBounds_toArray, List.set_cons_zero, List.set_cons_succ]
    refine hK15 _ _ (mix_nil ?_)
    clear hK15 K15
    go_wp2
    go_ret
    exact ⟨ret_bool (by simp), hS1.1⟩
  cases ce
  · have HQ : Hid True := trivial
    go_enter Try.func72, Try.ntmps72
    go_wp2_with fail
    have hS := HS.out.keep ((Stay.refl _ _).drew)
    refine wp_region_mix (Two w a b) [(0, true), (1, true), (2, false), (3, true), (4, true), (5, false), (6, true), (7, true), (8, true), (10, true), (9, false), (11, true), (12, true), (13, true), (14, true)] (by kernel_rfl) (by kernel_rfl) (fun _ d _ _ _ h => by cases d <;> exact h) hS ?_
    refine mix_begin (fun K0 hK0 => ?_)
    refine mix_take hK0 (some 5) (.load 41 (.tmp 2)) 41 _ (by kernel_rfl) (by kernel_rfl) (fun w' hS' => by first | exact run_load_box rfl rfl hS'.2.1 | exact run_load_box rfl rfl hS'.2.2) (fun K1 hK1 => ?_)
    clear hK0 K0
    simp only [Act.put, List.setIfInBounds_toArray, List.set_cons_zero, List.set_cons_succ]
    refine mix_take hK1 (some 6) (.load 41 (.tmp 3)) 41 _ (by kernel_rfl) (by kernel_rfl) (fun w' hS' => by first | exact run_load_box rfl rfl hS'.2.1 | exact run_load_box rfl rfl hS'.2.2) (fun K2 hK2 => ?_)
    clear hK1 K1
    simp only [Act.put, List.setIfInBounds_toArray, List.set_cons_zero, List.set_cons_succ]
    refine mix_call hK2 (some 7) 81 #[.tmp 5, .tmp 6] #[41, 41] 4 _ (by kernel_rfl) (by kernel_rfl) (enters Try.func81 (by kernel_rfl) (by kernel_rfl)) (by go_simp; try with_reducible rfl) (fun K3 hK3 => ?_)
    clear hK2 K2
    refine (HR.out _).mono ?_
    rintro e wm1 ⟨rfl, hs1⟩
    have hS1 : _ := hS.keep hs1
    refine ⟨_, rfl, hS1, ?_⟩
    clear hs1
    simp only [Act.put, List.setIfInBounds_toArray, List.set_cons_zero, List.set_cons_succ]
    refine mix_take hK3 (some 8) (.move (.tmp 7)) 4 _ (by kernel_rfl) (by kernel_rfl) (fun w' hS' => by simp only [opr]; go_simp; try with_reducible rfl) (fun K4 hK4 => ?_)
    clear hK3 K3
    simp only [Act.put, List.setIfInBounds_toArray, List.set_cons_zero, List.set_cons_succ]
    refine mix_take hK4 (some 9) (.load 41 (.tmp 3)) 41 _ (by kernel_rfl) (by kernel_rfl) (fun w' hS' => by first | exact run_load_box rfl rfl hS'.2.1 | exact run_load_box rfl rfl hS'.2.2) (fun K5 hK5 => ?_)
    clear hK4 K4
    simp only [Act.put, List.setIfInBounds_toArray, List.set_cons_zero, List.set_cons_succ]
    refine mix_call hK5 (some 10) 69 #[.tmp 9] #[41] 4 _ (by kernel_rfl) (by kernel_rfl) (enters Try.func69 (by kernel_rfl) (by kernel_rfl)) (by go_simp; try with_reducible rfl) (fun K6 hK6 => ?_)
    clear hK5 K5
    refine (HE.out _).mono ?_
    rintro e wm2 ⟨rfl, hs2⟩
    have hS2 : _ := hS1.keep hs2
    refine ⟨_, rfl, hS2, ?_⟩
    clear hs2
    simp only [Act.put, List.setIfInBounds_toArray, List.set_cons_zero, List.set_cons_succ]
    refine mix_take hK6 (some 11) (.move (.tmp 10)) 4 _ (by kernel_rfl) (by kernel_rfl) (fun w' hS' => by simp only [opr]; go_simp; try with_reducible rfl) (fun K7 hK7 => ?_)
    clear hK6 K6
    simp only [Act.put, List.setIfInBounds_toArray, List.set_cons_zero, List.set_cons_succ]
    refine mix_take hK7 (some 12) (.load 41 (.tmp 2)) 41 _ (by kernel_rfl) (by kernel_rfl) (fun w' hS' => by first | exact run_load_box rfl rfl hS'.2.1 | exact run_load_box rfl rfl hS'.2.2) (fun K8 hK8 => ?_)
    clear hK7 K7
    simp only [Act.put, List.setIfInBounds_toArray, List.set_cons_zero, List.set_cons_succ]
    refine mix_take hK8 (some 13) (.load 41 (.tmp 3)) 41 _ (by kernel_rfl) (by kernel_rfl) (fun w' hS' => by first | exact run_load_box rfl rfl hS'.2.1 | exact run_load_box rfl rfl hS'.2.2) (fun K9 hK9 => ?_)
    clear hK8 K8
    simp only [Act.put, List.setIfInBounds_toArray, List.set_cons_zero, List.set_cons_succ]
    refine mix_take hK9 (some 15) (.load 41 (.tmp 3)) 41 _ (by kernel_rfl) (by kernel_rfl) (fun w' hS' => by first | exact run_load_box rfl rfl hS'.2.1 | exact run_load_box rfl rfl hS'.2.2) (fun K10 hK10 => ?_)
    clear hK9 K9
    simp only [Act.put, List.setIfInBounds_toArray, List.set_cons_zero, List.set_cons_succ]
    refine mix_call hK10 (some 14) 65 #[.tmp 12, .tmp 13] #[41, 41] 41 _ (by kernel_rfl) (by kernel_rfl) (enters Try.func65 (by kernel_rfl) (by kernel_rfl)) (by go_simp; try with_reducible rfl) (fun K11 hK11 => ?_)
    clear hK10 K10
    refine (HX.out _).mono ?_
    rintro e wm3 ⟨rfl, hs3⟩
    have hS3 : _ := hS2.keep hs3
    refine ⟨_, rfl, hS3, ?_⟩
    clear hs3
    simp only [Act.put, List.setIfInBounds_toArray, List.set_cons_zero, List.set_cons_succ]
    refine mix_take hK11 (some 16) (.binOp BinOp.eql 41 (.tmp 14) (.tmp 15) 41) 4 _ (by kernel_rfl) (by kernel_rfl) (fun w' hS' => by exact eql_op _ _ rfl rfl) (fun K12 hK12 => ?_)
    clear hK11 K11
    simp only [Act.put, List.setIfInBounds_toArray, List.set_cons_zero, List.set_cons_succ]
    refine mix_take hK12 (some 17) (.pick (.tmp 11) (.const (Value.bool true)) (.tmp 16)) 4 _ (by kernel_rfl) (by kernel_rfl) (fun w' hS' => by simp only [opr]; go_simp; try with_reducible rfl) (fun K13 hK13 => ?_)
    clear hK12 K12
    simp only [Act.put, List.setIfInBounds_toArray, List.set_cons_zero, List.set_cons_succ]
    refine mix_take hK13 (some 18) (.pick (.tmp 8) (.tmp 17) (.const (Value.bool false))) 4 _ (by kernel_rfl) (by kernel_rfl) (fun w' hS' => by simp only [opr]; go_simp; try with_reducible rfl) (fun K14 hK14 => ?_)
    clear hK13 K13
    simp only [Act.put, List.setIfInBounds_toArray, List.set_cons_zero, List.set_cons_succ]
    refine mix_take hK14 (some 4) (.assign (.tmp 18)) 4 _ (by kernel_rfl) (by kernel_rfl) (fun w' hS' => by simp only [opr]; go_simp; try with_reducible rfl) (fun K15 hK15 => ?_)
    clear hK14 K14
    simp only [Act.put, List.setIfInBounds_toArray, List.set_cons_zero, List.set_cons_succ]
    refine hK15 _ _ (mix_nil ?_)
    clear hK15 K15
    go_wp2
    go_ret
    exact ⟨ret_bool (by simp), hS3.1⟩
  · clear HX
    go_enter Try.func72, Try.ntmps72
    go_wp2_with fail
    have hS := HS.out.keep ((Stay.refl _ _).drew)
    refine wp_region_mix (Two w a b) [(0, true), (1, true), (2, false), (3, true), (4, true), (5, false), (6, true), (7, true), (8, true), (10, true), (9, false), (11, true), (12, true), (13, true), (14, true)] (by kernel_rfl) (by kernel_rfl) (fun _ d _ _ _ h => by cases d <;> exact h) hS ?_
    refine mix_begin (fun K0 hK0 => ?_)
    refine mix_take hK0 (some 5) (.load 41 (.tmp 2)) 41 _ (by kernel_rfl) (by kernel_rfl) (fun w' hS' => by first | exact run_load_box rfl rfl hS'.2.1 | exact run_load_box rfl rfl hS'.2.2) (fun K1 hK1 => ?_)
    clear hK0 K0
    simp only [Act.put, List.setIfInBounds_toArray, List.set_cons_zero, List.set_cons_succ]
    refine mix_take hK1 (some 6) (.load 41 (.tmp 3)) 41 _ (by kernel_rfl) (by kernel_rfl) (fun w' hS' => by first | exact run_load_box rfl rfl hS'.2.1 | exact run_load_box rfl rfl hS'.2.2) (fun K2 hK2 => ?_)
    clear hK1 K1
    simp only [Act.put, List.setIfInBounds_toArray, List.set_cons_zero, List.set_cons_succ]
    refine mix_call hK2 (some 7) 81 #[.tmp 5, .tmp 6] #[41, 41] 4 _ (by kernel_rfl) (by kernel_rfl) (enters Try.func81 (by kernel_rfl) (by kernel_rfl)) (by go_simp; try with_reducible rfl) (fun K3 hK3 => ?_)
    clear hK2 K2
    refine (HR.out _).mono ?_
    rintro e wm1 ⟨rfl, hs1⟩
    have hS1 : _ := hS.keep hs1
    refine ⟨_, rfl, hS1, ?_⟩
    clear hs1
    simp only [Act.put, List.setIfInBounds_toArray, List.set_cons_zero, List.set_cons_succ]
    refine mix_take hK3 (some 8) (.move (.tmp 7)) 4 _ (by kernel_rfl) (by kernel_rfl) (fun w' hS' => by simp only [opr]; go_simp; try with_reducible rfl) (fun K4 hK4 => ?_)
    clear hK3 K3
    simp only [Act.put, List.setIfInBounds_toArray, List.set_cons_zero, List.set_cons_succ]
    refine mix_take hK4 (some 9) (.load 41 (.tmp 3)) 41 _ (by kernel_rfl) (by kernel_rfl) (fun w' hS' => by first | exact run_load_box rfl rfl hS'.2.1 | exact run_load_box rfl rfl hS'.2.2) (fun K5 hK5 => ?_)
    clear hK4 K4
    simp only [Act.put, List.setIfInBounds_toArray, List.set_cons_zero, List.set_cons_succ]
    refine mix_call hK5 (some 10) 69 #[.tmp 9] #[41] 4 _ (by kernel_rfl) (by kernel_rfl) (enters Try.func69 (by kernel_rfl) (by kernel_rfl)) (by go_simp; try with_reducible rfl) (fun K6 hK6 => ?_)
    clear hK5 K5
    refine (HE.out _).mono ?_
    rintro e wm2 ⟨rfl, hs2⟩
    have hS2 : _ := hS1.keep hs2
    refine ⟨_, rfl, hS2, ?_⟩
    clear hs2
    simp only [Act.put, List.setIfInBounds_toArray, List.set_cons_zero, List.set_cons_succ]
    refine mix_take hK6 (some 11) (.move (.tmp 10)) 4 _ (by kernel_rfl) (by kernel_rfl) (fun w' hS' => by simp only [opr]; go_simp; try with_reducible rfl) (fun K7 hK7 => ?_)
    clear hK6 K6
    simp only [Act.put, List.setIfInBounds_toArray, List.set_cons_zero, List.set_cons_succ]
    refine mix_skip hK7 (some 12) (by kernel_rfl) (by kernel_rfl) hS2 (fun K8 hK8 => ?_)
    clear hK7 K7
    simp only [Act.put, List.setIfInBounds_toArray, List.set_cons_zero, List.set_cons_succ]
    refine mix_skip hK8 (some 13) (by kernel_rfl) (by kernel_rfl) hS2 (fun K9 hK9 => ?_)
    clear hK8 K8
    simp only [Act.put, List.setIfInBounds_toArray, List.set_cons_zero, List.set_cons_succ]
    refine mix_skip hK9 (some 15) (by kernel_rfl) (by kernel_rfl) hS2 (fun K10 hK10 => ?_)
    clear hK9 K9
    simp only [Act.put, List.setIfInBounds_toArray, List.set_cons_zero, List.set_cons_succ]
    refine mix_skip hK10 (some 14) (by kernel_rfl) (by kernel_rfl) hS2 (fun K11 hK11 => ?_)
    clear hK10 K10
    simp only [Act.put, List.setIfInBounds_toArray, List.set_cons_zero, List.set_cons_succ]
    refine mix_skip hK11 (some 16) (by kernel_rfl) (by kernel_rfl) hS2 (fun K12 hK12 => ?_)
    clear hK11 K11
    simp only [Act.put, List.setIfInBounds_toArray, List.set_cons_zero, List.set_cons_succ]
    refine mix_take hK12 (some 17) (.pick (.tmp 11) (.const (Value.bool true)) (.tmp 16)) 4 _ (by kernel_rfl) (by kernel_rfl) (fun w' hS' => by simp only [opr]; go_simp; try with_reducible rfl) (fun K13 hK13 => ?_)
    clear hK12 K12
    simp only [Act.put, List.setIfInBounds_toArray, List.set_cons_zero, List.set_cons_succ]
    refine mix_take hK13 (some 18) (.pick (.tmp 8) (.tmp 17) (.const (Value.bool false))) 4 _ (by kernel_rfl) (by kernel_rfl) (fun w' hS' => by simp only [opr]; go_simp; try with_reducible rfl) (fun K14 hK14 => ?_)
    clear hK13 K13
    simp only [Act.put, List.setIfInBounds_toArray, List.set_cons_zero, List.set_cons_succ]
    refine mix_take hK14 (some 4) (.assign (.tmp 18)) 4 _ (by kernel_rfl) (by kernel_rfl) (fun w' hS' => by simp only [opr]; go_simp; try with_reducible rfl) (fun K15 hK15 => ?_)
    clear hK14 K14
    simp only [Act.put, List.setIfInBounds_toArray, List.set_cons_zero, List.set_cons_succ]
    refine hK15 _ _ (mix_nil ?_)
    clear hK15 K15
    go_wp2
    go_ret
    exact ⟨ret_bool (by simp), hS2.1⟩

/-- May a window have a rectangle, on a screen of that size? -/
def fitB (sw sh : Int) (r : R) : Bool := rightB r && decide (0 < r.w) && decide (0 < r.h) && decide (0 ≤ r.x) && decide (0 ≤ r.y) && decide (r.x + r.w ≤ sw) && decide (r.y + r.h ≤ sh)

theorem fit_bd {sw sh : Int} {r : R} (h : fitB sw sh r = true) : rightB r = true ∧ 0 < r.w ∧ 0 < r.h ∧ 0 ≤ r.x ∧ 0 ≤ r.y ∧ r.x + r.w ≤ sw ∧ r.y + r.h ≤ sh := by
  unfold fitB at h
  simp only [Bool.and_eq_true, decide_eq_true_eq] at h
  obtain ⟨⟨⟨⟨⟨⟨h1, h2⟩, h3⟩, h4⟩, h5⟩, h6⟩, h7⟩ := h
  exact ⟨h1, h2, h3, h4, h5, h6, h7⟩

theorem screen_right {sw sh : Int} (h1 : 1 ≤ sw) (h2 : sw ≤ 512) (h3 : 1 ≤ sh) (h4 : sh ≤ 512) : rightB ⟨0, 0, sw, sh⟩ = true := by
  unfold rightB nearB
  simp
  omega

theorem fit_has {sw sh : Int} (r : R) (h1 : 1 ≤ sw) (h2 : sw ≤ 512) (h3 : 1 ≤ sh) (h4 : sh ≤ 512) : (!emptyB r && hasB ⟨0, 0, sw, sh⟩ r) = fitB sw sh r := by
  unfold hasB fitB
  rw [screen_right h1 h2 h3 h4, Bool.true_and]
  by_cases hr : rightB r = true
  · have hb := right_bd hr
    rw [hr, Bool.true_and, Bool.true_and]
    by_cases he : emptyB r = true
    · rw [he]
      unfold emptyB at he
      simp only [Bool.or_eq_true, decide_eq_true_eq] at he
      simp
      omega
    · have he' : emptyB r = false := by simpa using he
      rw [he']
      unfold emptyB at he'
      simp only [Bool.or_eq_false_iff, decide_eq_false_iff_not] at he'
      unfold bothR
      rw [screen_right h1 h2 h3 h4, hr]
      obtain ⟨x, y, a, b⟩ := r
      simp only at he' hb
      simp only [Bool.and_self, if_pos, Bool.not_false, Bool.true_and, Bool.false_or]
      unfold orNoneR emptyB interR
      simp only
      by_cases hc : 0 ≤ x ∧ 0 ≤ y ∧ x + a ≤ sw ∧ y + b ≤ sh
      · rw [show max 0 x = x by omega, show max 0 y = y by omega, show min (0 + sw) (x + a) - x = a by omega, show min (0 + sh) (y + b) - y = b by omega]
        rw [if_neg (by simp; omega)]
        simp
        omega
      · have hne : ¬ (if (decide (min (0 + sw) (x + a) - max 0 x < 1) || decide (min (0 + sh) (y + b) - max 0 y < 1)) = true then (⟨0, 0, 0, 0⟩ : R) else ⟨max 0 x, max 0 y, min (0 + sw) (x + a) - max 0 x, min (0 + sh) (y + b) - max 0 y⟩) = ⟨x, y, a, b⟩ := by
          intro h
          split at h
          · have h5 := congrArg R.w h
            simp only at h5
            omega
          · have h5 := congrArg R.x h
            have h6 := congrArg R.y h
            have h7 := congrArg R.w h
            have h8 := congrArg R.h h
            simp only at h5 h6 h7 h8
            omega
        rw [decide_eq_false hne]
        symm
        simp only [Bool.and_eq_false_iff, decide_eq_false_iff_not]
        omega
  · have hr' : rightB r = false := by simpa using hr
    rw [hr']
    simp

/-- May a screen be so wide, or so high? -/
def scrB (n : Int) : Bool := decide (1 ≤ n) && decide (n ≤ 512)

theorem isSize25 (n : Int) (w : World) : Calls Try.prog 25 #[.int .i64 n] w (Gives (.bool (scrB n)) w) := by
  have HS := hide' (Stay.refl (fun _ => False) w)
  unfold scrB
  go_enter Try.func25, Try.ntmps25
  by_cases h1 : 1 ≤ n
  · have d1 : decide (1 ≤ n) = true := decide_eq_true h1
    go_wp2
    go_ret
    exact ⟨ret_bool (by first | rfl | rw [d1, Bool.true_and] | simp [d1]), HS.out⟩
  · have d1 : decide (1 ≤ n) = false := decide_eq_false h1
    go_wp2
    go_ret
    exact ⟨ret_bool (by first | rfl | rw [d1, Bool.false_and] | simp [d1]), HS.out⟩

/-- A new stack. -/
def NewS (sw sh : Int) (w : World) (e : Ending) (w' : World) : Prop := ∃ q : Sm, e = .returned (.pointer (some ⟨q.b, 0, none⟩)) ∧ Stay (fun _ => False) w w' ∧ SAt w' q sw sh 0 [] ∧ ∀ j, q.own j → w.heap.size ≤ j

theorem news9 (sw sh : Int) (w : World) (h1 : scrB sw = true) (h2 : scrB sh = true) : Calls Try.prog 9 #[.int .i64 sw, .int .i64 sh] w (NewS sw sh w) := by
  have HA := hide' (isSize25 sw)
  have HB := hide' (isSize25 sh)
  rw [h1] at HA
  rw [h2] at HB
  have HS := hide' (Stay.refl (fun _ => False) w)
  clear h1 h2
  go_enter Try.func9, Try.ntmps9
  go_wp2_with fail
  refine (HA.out _).mono ?_
  rintro _ w1 ⟨rfl, hs⟩
  have HS1 := hide' (HS.out.trans hs)
  clear hs HS HA
  go_wp2_with fail
  refine (HB.out _).mono ?_
  rintro _ w2 ⟨rfl, hs⟩
  have HS2 := hide' (HS1.out.trans hs)
  clear hs HS1 HB
  go_wp2
  go_ret
  refine ⟨⟨w2.heap.size, .slice none 0 0⟩, rfl, HS2.out.alloc _, ⟨KBox.new ⟨0, 0, sw, sh, .slice none 0 0, 0⟩ rfl, ⟨none, 0, rfl, Ws.empty _, fun _ => rfl⟩, fun j hj => (by cases hj), by decide⟩, fun j hj => ?_⟩
  rcases hj with rfl | hj
  · exact HS2.out.size
  · cases hj

set_option maxHeartbeats 1000000 in
theorem fits49 (q : Sm) (sw sh m : Int) (L : List Wn) (r : R) (w : World) (h : SAt w q sw sh m L) (h1 : scrB sw = true) (h2 : scrB sh = true) : Calls Try.prog 49 #[.pointer (some ⟨q.b, 0, none⟩), .agg #[.int .i64 r.x, .int .i64 r.y, .int .i64 r.w, .int .i64 r.h]] w (Gives (.bool (fitB sw sh r)) w) := by
  unfold scrB at h1 h2
  simp only [Bool.and_eq_true, decide_eq_true_eq] at h1 h2
  have HF0 := fit_has r h1.1 h1.2 h2.1 h2.2
  obtain ⟨W0, hW0⟩ : ∃ W, W = w.alloc (.cells #[.int .i64 r.x, .int .i64 r.y, .int .i64 r.w, .int .i64 r.h] 41) := ⟨_, rfl⟩
  obtain ⟨bs, hbs⟩ : ∃ b, b = w.heap.size := ⟨_, rfl⟩
  have hst : Stay (fun _ => False) w W0 := by rw [hW0]; exact (Stay.refl _ _).alloc _
  have HS0 := hide' hst
  have HR : Hid (Box W0 bs r) := by rw [hW0]; exact Box.new r hbs.symm
  have HK := hide' (h.box.keep hst)
  obtain ⟨y, hy⟩ : ∃ y, y = fitB sw sh r := ⟨_, rfl⟩
  rw [← hy] at HF0 ⊢
  have HE := hide' (empty69 r)
  have HH := hide' (fun w => has72 ⟨0, 0, sw, sh⟩ r w)
  obtain ⟨ce, hce⟩ : ∃ c, c = emptyB r := ⟨_, rfl⟩
  obtain ⟨ch, hch⟩ : ∃ c, c = hasB ⟨0, 0, sw, sh⟩ r := ⟨_, rfl⟩
  rw [← hce] at HE
  rw [← hch] at HH
  rw [← hce, ← hch] at HF0
  have HF := hide' HF0
  clear hst hy hce hch HF0 h h1 h2
  go_enter Try.func49, Try.ntmps49
  go_upto_region 1 with fail
  rw [← hW0, ← hbs]
  clear hW0 hbs
  have hS : Stay (fun _ => False) W0 W0.drew := (Stay.refl _ _).drew
  simp only at HH
  cases ce
  · have HQ : Hid True := trivial
    refine wp_region_mix (fun w' => Stay (fun _ => False) W0 w') [(0, true), (1, true), (2, true), (3, true), (4, false), (5, true), (6, true), (7, true), (8, true), (9, true), (10, true), (11, true), (12, true), (13, false), (14, true), (15, true)] (by kernel_rfl) (by kernel_rfl) (fun _ d _ _ _ h => by cases d <;> exact h) hS ?_
    refine mix_begin (fun K0 hK0 => ?_)
    refine mix_take hK0 (some 5) (.move (.tmp 0)) 28 _ (by kernel_rfl) (by kernel_rfl) (fun w' hS' => by (have hr := HR.out.keep hS'; obtain ⟨b0, b1, b2, b3, _⟩ := HK.out.keep hS'; simp only at b0 b1 b2 b3; simp only [opr]; go_simp; try with_reducible rfl)) (fun K1 hK1 => ?_)
    clear hK0 K0
    simp only [Act.put, List.setIfInBounds_toArray, List.set_cons_zero, List.set_cons_succ]
    refine mix_take hK1 (some 6) (.binOp BinOp.neq 28 (.tmp 5) (.const (Value.pointer none)) 28) 4 _ (by kernel_rfl) (by kernel_rfl) (fun w' hS' => by (have hr := HR.out.keep hS'; obtain ⟨b0, b1, b2, b3, _⟩ := HK.out.keep hS'; simp only at b0 b1 b2 b3; simp only [opr]; go_simp; try with_reducible rfl)) (fun K2 hK2 => ?_)
    clear hK1 K1
    simp only [Act.put, List.setIfInBounds_toArray, List.set_cons_zero, List.set_cons_succ]
    refine mix_take hK2 (some 7) (.move (.tmp 6)) 4 _ (by kernel_rfl) (by kernel_rfl) (fun w' hS' => by (have hr := HR.out.keep hS'; obtain ⟨b0, b1, b2, b3, _⟩ := HK.out.keep hS'; simp only at b0 b1 b2 b3; simp only [opr]; go_simp; try with_reducible rfl)) (fun K3 hK3 => ?_)
    clear hK2 K2
    simp only [Act.put, List.setIfInBounds_toArray, List.set_cons_zero, List.set_cons_succ]
    refine mix_take hK3 (some 8) (.load 41 (.tmp 3)) 41 _ (by kernel_rfl) (by kernel_rfl) (fun w' hS' => by exact run_load_box rfl rfl (HR.out.keep hS')) (fun K4 hK4 => ?_)
    clear hK3 K3
    simp only [Act.put, List.setIfInBounds_toArray, List.set_cons_zero, List.set_cons_succ]
    refine mix_call hK4 (some 9) 69 #[.tmp 8] #[41] 4 _ (by kernel_rfl) (by kernel_rfl) (enters Try.func69 (by kernel_rfl) (by kernel_rfl)) (by go_simp; try with_reducible rfl) (fun K5 hK5 => ?_)
    clear hK4 K4
    refine (HE.out _).mono ?_
    rintro e wm1 ⟨rfl, hs1⟩
    have hS1 : _ := hS.trans hs1
    refine ⟨_, rfl, hS1, ?_⟩
    clear hs1
    simp only [Act.put, List.setIfInBounds_toArray, List.set_cons_zero, List.set_cons_succ]
    refine mix_take hK5 (some 10) (.unOp UnOp.not 4 (.tmp 9)) 4 _ (by kernel_rfl) (by kernel_rfl) (fun w' hS' => by (have hr := HR.out.keep hS'; obtain ⟨b0, b1, b2, b3, _⟩ := HK.out.keep hS'; simp only at b0 b1 b2 b3; simp only [opr]; go_simp; try with_reducible rfl)) (fun K6 hK6 => ?_)
    clear hK5 K5
    simp only [Act.put, List.setIfInBounds_toArray, List.set_cons_zero, List.set_cons_succ]
    refine mix_take hK6 (some 11) (.pick (.tmp 7) (.tmp 10) (.const (Value.bool false))) 4 _ (by kernel_rfl) (by kernel_rfl) (fun w' hS' => by (have hr := HR.out.keep hS'; obtain ⟨b0, b1, b2, b3, _⟩ := HK.out.keep hS'; simp only at b0 b1 b2 b3; simp only [opr]; go_simp; try with_reducible rfl)) (fun K7 hK7 => ?_)
    clear hK6 K6
    simp only [Act.put, List.setIfInBounds_toArray, List.set_cons_zero, List.set_cons_succ]
    refine mix_take hK7 (some 12) (.move (.tmp 11)) 4 _ (by kernel_rfl) (by kernel_rfl) (fun w' hS' => by (have hr := HR.out.keep hS'; obtain ⟨b0, b1, b2, b3, _⟩ := HK.out.keep hS'; simp only at b0 b1 b2 b3; simp only [opr]; go_simp; try with_reducible rfl)) (fun K8 hK8 => ?_)
    clear hK7 K7
    simp only [Act.put, List.setIfInBounds_toArray, List.set_cons_zero, List.set_cons_succ]
    refine mix_take hK8 (some 13) (.move (.tmp 0)) 28 _ (by kernel_rfl) (by kernel_rfl) (fun w' hS' => by (have hr := HR.out.keep hS'; obtain ⟨b0, b1, b2, b3, _⟩ := HK.out.keep hS'; simp only at b0 b1 b2 b3; simp only [opr]; go_simp; try with_reducible rfl)) (fun K9 hK9 => ?_)
    clear hK8 K8
    simp only [Act.put, List.setIfInBounds_toArray, List.set_cons_zero, List.set_cons_succ]
    refine mix_take hK9 (some 14) (.nilCheck (.tmp 13)) 0 _ (by kernel_rfl) (by kernel_rfl) (fun w' hS' => by (have hr := HR.out.keep hS'; obtain ⟨b0, b1, b2, b3, _⟩ := HK.out.keep hS'; simp only at b0 b1 b2 b3; simp only [opr]; go_simp; try with_reducible rfl)) (fun K10 hK10 => ?_)
    clear hK9 K9
    simp only [Act.put, List.setIfInBounds_toArray, List.set_cons_zero, List.set_cons_succ]
    refine mix_take hK10 (some 15) (.fieldAddr 72 (.tmp 14) 0) 0 _ (by kernel_rfl) (by kernel_rfl) (fun w' hS' => by (have hr := HR.out.keep hS'; obtain ⟨b0, b1, b2, b3, _⟩ := HK.out.keep hS'; simp only at b0 b1 b2 b3; simp only [opr]; go_simp; try with_reducible rfl)) (fun K11 hK11 => ?_)
    clear hK10 K10
    simp only [Act.put, List.setIfInBounds_toArray, List.set_cons_zero, List.set_cons_succ]
    refine mix_take hK11 (some 16) (.load 41 (.tmp 15)) 41 _ (by kernel_rfl) (by kernel_rfl) (fun w' hS' => by (have hr := HR.out.keep hS'; obtain ⟨b0, b1, b2, b3, _⟩ := HK.out.keep hS'; simp only at b0 b1 b2 b3; simp only [opr]; go_simp; try with_reducible rfl)) (fun K12 hK12 => ?_)
    clear hK11 K11
    simp only [Act.put, List.setIfInBounds_toArray, List.set_cons_zero, List.set_cons_succ]
    refine mix_take hK12 (some 17) (.load 41 (.tmp 3)) 41 _ (by kernel_rfl) (by kernel_rfl) (fun w' hS' => by exact run_load_box rfl rfl (HR.out.keep hS')) (fun K13 hK13 => ?_)
    clear hK12 K12
    simp only [Act.put, List.setIfInBounds_toArray, List.set_cons_zero, List.set_cons_succ]
    refine mix_call hK13 (some 18) 72 #[.tmp 16, .tmp 17] #[41, 41] 4 _ (by kernel_rfl) (by kernel_rfl) (enters Try.func72 (by kernel_rfl) (by kernel_rfl)) (by go_simp; try with_reducible rfl) (fun K14 hK14 => ?_)
    clear hK13 K13
    refine (HH.out _).mono ?_
    rintro e wm2 ⟨rfl, hs2⟩
    have hS2 : _ := hS1.trans hs2
    refine ⟨_, rfl, hS2, ?_⟩
    clear hs2
    simp only [Act.put, List.setIfInBounds_toArray, List.set_cons_zero, List.set_cons_succ]
    refine mix_take hK14 (some 19) (.pick (.tmp 12) (.tmp 18) (.const (Value.bool false))) 4 _ (by kernel_rfl) (by kernel_rfl) (fun w' hS' => by (have hr := HR.out.keep hS'; obtain ⟨b0, b1, b2, b3, _⟩ := HK.out.keep hS'; simp only at b0 b1 b2 b3; simp only [opr]; go_simp; try with_reducible rfl)) (fun K15 hK15 => ?_)
    clear hK14 K14
    simp only [Act.put, List.setIfInBounds_toArray, List.set_cons_zero, List.set_cons_succ]
    refine mix_take hK15 (some 4) (.assign (.tmp 19)) 4 _ (by kernel_rfl) (by kernel_rfl) (fun w' hS' => by (have hr := HR.out.keep hS'; obtain ⟨b0, b1, b2, b3, _⟩ := HK.out.keep hS'; simp only at b0 b1 b2 b3; simp only [opr]; go_simp; try with_reducible rfl)) (fun K16 hK16 => ?_)
    clear hK15 K15
    simp only [Act.put, List.setIfInBounds_toArray, List.set_cons_zero, List.set_cons_succ]
    refine hK16 _ _ (mix_nil ?_)
    clear hK16 K16
    go_wp2
    go_ret
    exact ⟨ret_bool (by rw [← HF.out]; rfl), HS0.out.trans hS2⟩
  · clear HH
    refine wp_region_mix (fun w' => Stay (fun _ => False) W0 w') [(0, true), (1, true), (2, true), (3, true), (4, false), (5, true), (6, true), (7, true), (8, true), (9, true), (10, true), (11, true), (12, true), (13, false), (14, true), (15, true)] (by kernel_rfl) (by kernel_rfl) (fun _ d _ _ _ h => by cases d <;> exact h) hS ?_
    refine mix_begin (fun K0 hK0 => ?_)
    refine mix_take hK0 (some 5) (.move (.tmp 0)) 28 _ (by kernel_rfl) (by kernel_rfl) (fun w' hS' => by (have hr := HR.out.keep hS'; obtain ⟨b0, b1, b2, b3, _⟩ := HK.out.keep hS'; simp only at b0 b1 b2 b3; simp only [opr]; go_simp; try with_reducible rfl)) (fun K1 hK1 => ?_)
    clear hK0 K0
    simp only [Act.put, List.setIfInBounds_toArray, List.set_cons_zero, List.set_cons_succ]
    refine mix_take hK1 (some 6) (.binOp BinOp.neq 28 (.tmp 5) (.const (Value.pointer none)) 28) 4 _ (by kernel_rfl) (by kernel_rfl) (fun w' hS' => by (have hr := HR.out.keep hS'; obtain ⟨b0, b1, b2, b3, _⟩ := HK.out.keep hS'; simp only at b0 b1 b2 b3; simp only [opr]; go_simp; try with_reducible rfl)) (fun K2 hK2 => ?_)
    clear hK1 K1
    simp only [Act.put, List.setIfInBounds_toArray, List.set_cons_zero, List.set_cons_succ]
    refine mix_take hK2 (some 7) (.move (.tmp 6)) 4 _ (by kernel_rfl) (by kernel_rfl) (fun w' hS' => by (have hr := HR.out.keep hS'; obtain ⟨b0, b1, b2, b3, _⟩ := HK.out.keep hS'; simp only at b0 b1 b2 b3; simp only [opr]; go_simp; try with_reducible rfl)) (fun K3 hK3 => ?_)
    clear hK2 K2
    simp only [Act.put, List.setIfInBounds_toArray, List.set_cons_zero, List.set_cons_succ]
    refine mix_take hK3 (some 8) (.load 41 (.tmp 3)) 41 _ (by kernel_rfl) (by kernel_rfl) (fun w' hS' => by exact run_load_box rfl rfl (HR.out.keep hS')) (fun K4 hK4 => ?_)
    clear hK3 K3
    simp only [Act.put, List.setIfInBounds_toArray, List.set_cons_zero, List.set_cons_succ]
    refine mix_call hK4 (some 9) 69 #[.tmp 8] #[41] 4 _ (by kernel_rfl) (by kernel_rfl) (enters Try.func69 (by kernel_rfl) (by kernel_rfl)) (by go_simp; try with_reducible rfl) (fun K5 hK5 => ?_)
    clear hK4 K4
    refine (HE.out _).mono ?_
    rintro e wm1 ⟨rfl, hs1⟩
    have hS1 : _ := hS.trans hs1
    refine ⟨_, rfl, hS1, ?_⟩
    clear hs1
    simp only [Act.put, List.setIfInBounds_toArray, List.set_cons_zero, List.set_cons_succ]
    refine mix_take hK5 (some 10) (.unOp UnOp.not 4 (.tmp 9)) 4 _ (by kernel_rfl) (by kernel_rfl) (fun w' hS' => by (have hr := HR.out.keep hS'; obtain ⟨b0, b1, b2, b3, _⟩ := HK.out.keep hS'; simp only at b0 b1 b2 b3; simp only [opr]; go_simp; try with_reducible rfl)) (fun K6 hK6 => ?_)
    clear hK5 K5
    simp only [Act.put, List.setIfInBounds_toArray, List.set_cons_zero, List.set_cons_succ]
    refine mix_take hK6 (some 11) (.pick (.tmp 7) (.tmp 10) (.const (Value.bool false))) 4 _ (by kernel_rfl) (by kernel_rfl) (fun w' hS' => by (have hr := HR.out.keep hS'; obtain ⟨b0, b1, b2, b3, _⟩ := HK.out.keep hS'; simp only at b0 b1 b2 b3; simp only [opr]; go_simp; try with_reducible rfl)) (fun K7 hK7 => ?_)
    clear hK6 K6
    simp only [Act.put, List.setIfInBounds_toArray, List.set_cons_zero, List.set_cons_succ]
    refine mix_take hK7 (some 12) (.move (.tmp 11)) 4 _ (by kernel_rfl) (by kernel_rfl) (fun w' hS' => by (have hr := HR.out.keep hS'; obtain ⟨b0, b1, b2, b3, _⟩ := HK.out.keep hS'; simp only at b0 b1 b2 b3; simp only [opr]; go_simp; try with_reducible rfl)) (fun K8 hK8 => ?_)
    clear hK7 K7
    simp only [Act.put, List.setIfInBounds_toArray, List.set_cons_zero, List.set_cons_succ]
    refine mix_skip hK8 (some 13) (by kernel_rfl) (by kernel_rfl) hS1 (fun K9 hK9 => ?_)
    clear hK8 K8
    simp only [Act.put, List.setIfInBounds_toArray, List.set_cons_zero, List.set_cons_succ]
    refine mix_skip hK9 (some 14) (by kernel_rfl) (by kernel_rfl) hS1 (fun K10 hK10 => ?_)
    clear hK9 K9
    simp only [Act.put, List.setIfInBounds_toArray, List.set_cons_zero, List.set_cons_succ]
    refine mix_skip hK10 (some 15) (by kernel_rfl) (by kernel_rfl) hS1 (fun K11 hK11 => ?_)
    clear hK10 K10
    simp only [Act.put, List.setIfInBounds_toArray, List.set_cons_zero, List.set_cons_succ]
    refine mix_skip hK11 (some 16) (by kernel_rfl) (by kernel_rfl) hS1 (fun K12 hK12 => ?_)
    clear hK11 K11
    simp only [Act.put, List.setIfInBounds_toArray, List.set_cons_zero, List.set_cons_succ]
    refine mix_skip hK12 (some 17) (by kernel_rfl) (by kernel_rfl) hS1 (fun K13 hK13 => ?_)
    clear hK12 K12
    simp only [Act.put, List.setIfInBounds_toArray, List.set_cons_zero, List.set_cons_succ]
    refine mix_skip hK13 (some 18) (by kernel_rfl) (by kernel_rfl) hS1 (fun K14 hK14 => ?_)
    clear hK13 K13
    simp only [Act.put, List.setIfInBounds_toArray, List.set_cons_zero, List.set_cons_succ]
    refine mix_take hK14 (some 19) (.pick (.tmp 12) (.tmp 18) (.const (Value.bool false))) 4 _ (by kernel_rfl) (by kernel_rfl) (fun w' hS' => by (have hr := HR.out.keep hS'; obtain ⟨b0, b1, b2, b3, _⟩ := HK.out.keep hS'; simp only at b0 b1 b2 b3; simp only [opr]; go_simp; try with_reducible rfl)) (fun K15 hK15 => ?_)
    clear hK14 K14
    simp only [Act.put, List.setIfInBounds_toArray, List.set_cons_zero, List.set_cons_succ]
    refine mix_take hK15 (some 4) (.assign (.tmp 19)) 4 _ (by kernel_rfl) (by kernel_rfl) (fun w' hS' => by (have hr := HR.out.keep hS'; obtain ⟨b0, b1, b2, b3, _⟩ := HK.out.keep hS'; simp only at b0 b1 b2 b3; simp only [opr]; go_simp; try with_reducible rfl)) (fun K16 hK16 => ?_)
    clear hK15 K15
    simp only [Act.put, List.setIfInBounds_toArray, List.set_cons_zero, List.set_cons_succ]
    refine hK16 _ _ (mix_nil ?_)
    clear hK16 K16
    go_wp2
    go_ret
    exact ⟨ret_bool (by rw [← HF.out]; rfl), HS0.out.trans hS1⟩

end Go.Proofs.Yticccknocjnkpaa
