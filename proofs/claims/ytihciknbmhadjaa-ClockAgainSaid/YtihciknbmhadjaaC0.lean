/-
  Timers, one behind the other: as cells, in memory. No conditions.
-/
import Derived.Test.YtihciknbmhadjaaB0
import Derived.Lib.SliceRun
namespace Go.Proofs.Ytihciknbmhadjaa
open Go.RowKit

/-- A timer's parts. -/
def Tm.parts (p : Tm) : List Value := [.int .i64 p.en, .int .i64 p.nr, .int .i64 p.du]

theorem Tm.parts_one (p : Tm) : ∀ v ∈ p.parts, v.oneCell' = true := by
  intro v hv
  simp only [Tm.parts, List.mem_cons, List.not_mem_nil, or_false] at hv
  rcases hv with rfl | rfl | rfl <;> rfl

/-- The cells of timers. -/
def wc (L : List Tm) : List Value := L.flatMap Tm.parts

theorem wc_nil : wc [] = [] := rfl

theorem wc_cons (p : Tm) (L : List Tm) : wc (p :: L) = p.parts ++ wc L := rfl

theorem wc_append (A B : List Tm) : wc (A ++ B) = wc A ++ wc B := List.flatMap_append

theorem wc_length : ∀ L : List Tm, (wc L).length = L.length * 3
  | [] => rfl
  | p :: L => by
    rw [wc_cons, List.length_append, wc_length L, List.length_cons]
    show 3 + _ = _
    omega

theorem wc_one (L : List Tm) : ∀ v ∈ wc L, v.oneCell' = true := by
  intro v hv
  obtain ⟨p, _, h⟩ := List.mem_flatMap.1 hv
  exact p.parts_one v h

theorem wc_take : ∀ (L : List Tm) (i : Nat), wc (L.take i) = (wc L).take (i * 3)
  | [], i => by simp [wc]
  | p :: L, 0 => by simp [wc]
  | p :: L, i + 1 => by
    have hl : p.parts.length = 3 := rfl
    rw [List.take_succ_cons, wc_cons, wc_cons, wc_take L i, List.take_append, hl, List.take_of_length_le (l := p.parts) (by omega), show (i + 1) * 3 - 3 = i * 3 by omega]

theorem wc_drop : ∀ (L : List Tm) (i : Nat), wc (L.drop i) = (wc L).drop (i * 3)
  | [], i => by simp [wc]
  | p :: L, 0 => by simp [wc]
  | p :: L, i + 1 => by
    have hl : p.parts.length = 3 := rfl
    rw [List.drop_succ_cons, wc_cons, wc_drop L i, List.drop_append, hl, List.drop_of_length_le (l := p.parts) (by omega), show (i + 1) * 3 - 3 = i * 3 by omega, List.nil_append]

theorem wc_get {L : List Tm} {i : Nat} {p : Tm} (h : L[i]? = some p) (j : Nat) (hj : j < 3) : (wc L)[i * 3 + j]? = p.parts[j]? := by
  have hi : i < L.length := (List.getElem?_eq_some_iff.1 h).1
  have e : L = L.take i ++ p :: L.drop (i + 1) := by
    rw [← (List.getElem?_eq_some_iff.1 h).2, List.getElem_cons_drop]
    exact (List.take_append_drop i L).symm
  have hl : p.parts.length = 3 := rfl
  rw [e, wc_append, wc_cons, List.getElem?_append_right (by rw [wc_length, List.length_take]; omega), List.getElem?_append_left (by rw [wc_length, List.length_take]; omega)]
  congr 1
  rw [wc_length, List.length_take]
  omega

/-- Timers that can be read. -/
def Rds (w : World) (a : Option Addr) (L : List Tm) : Prop := ∀ i p, L[i]? = some p → ∃ g, a = some ⟨g, 0, none⟩ ∧ TBoxAt w g (i * 3) p

theorem TBoxAt.stay {T : Nat → Prop} {w w1 : World} {g o : Nat} {c : Tm} (h : TBoxAt w g o c) (hs : Stay T w w1) (hn : ¬ T g) : TBoxAt w1 g o c := by
  have hb : g < w.heap.size := World.block_lt_of_cell? _ _ h.c0
  have c' : ∀ o, w1.cell? ⟨g, o, none⟩ = w.cell? ⟨g, o, none⟩ := fun o => hs.cell (p := ⟨g, o, none⟩) hb hn
  exact ⟨(c' _).trans h.c0, (c' _).trans h.c1, (c' _).trans h.c2⟩

theorem Rds.stay {T : Nat → Prop} {w w1 : World} {a : Option Addr} {L : List Tm} (h : Rds w a L) (hs : Stay T w w1) (hn : ∀ k, a.map Addr.block = some k → ¬ T k) : Rds w1 a L := fun i p hp => by
  obtain ⟨g, rfl, hb⟩ := h i p hp
  exact ⟨g, rfl, hb.stay hs (hn g rfl)⟩

theorem Rds.keep {w w1 : World} {a : Option Addr} {L : List Tm} (h : Rds w a L) (hs : Stay (fun _ => False) w w1) : Rds w1 a L := h.stay hs (fun _ _ h => h)

/-- Timers in a row of their own, and room behind them. -/
def Ws (w : World) (a : Option Addr) (n cap : Nat) (L : List Tm) : Prop :=
  L.length = n ∧ n ≤ cap ∧ cap ≤ maxLen ∧ ((a = none ∧ cap = 0) ∨ ∃ g, a = some ⟨g, 0, none⟩ ∧ g < w.heap.size ∧ w.rangeAt g 0 (wc L) ∧ w.there g 0 (cap * 3))

variable {w w1 W : World} {a : Option Addr} {n cap g i : Nat} {L : List Tm} {T : Nat → Prop}

theorem Ws.empty (w : World) : Ws w none 0 0 [] := ⟨rfl, Nat.le_refl _, by unfold maxLen; omega, .inl ⟨rfl, rfl⟩⟩

theorem Ws.lt (h : Ws w a n cap L) : ∀ k, a.map Addr.block = some k → k < w.heap.size := by
  intro k hk
  rcases h.2.2.2 with ⟨rfl, _⟩ | ⟨g, rfl, hg, _⟩
  · cases hk
  · cases hk; exact hg

theorem Ws.stay (h : Ws w a n cap L) (hs : Stay T w w1) (hn : ∀ k, a.map Addr.block = some k → ¬ T k) : Ws w1 a n cap L := by
  refine ⟨h.1, h.2.1, h.2.2.1, ?_⟩
  rcases h.2.2.2 with h0 | ⟨g, rfl, hg, hr, ht⟩
  · exact .inl h0
  · have hc : ∀ o, w1.cell? ⟨g, o, none⟩ = w.cell? ⟨g, o, none⟩ := fun o => hs.cell (p := ⟨g, o, none⟩) hg (hn g rfl)
    have hf : ∀ o, w1.frozen? ⟨g, o, none⟩ = w.frozen? ⟨g, o, none⟩ := fun o => hs.frozen (p := ⟨g, o, none⟩) hg (hn g rfl)
    exact .inr ⟨g, rfl, Nat.lt_of_lt_of_le hg hs.size, fun j u hu => (hc _).trans (hr j u hu), fun j hj => ⟨by rw [hc]; exact (ht j hj).1, by rw [hf]; exact (ht j hj).2⟩⟩

theorem Ws.keep (h : Ws w a n cap L) (hs : Stay (fun _ => False) w w1) : Ws w1 a n cap L := h.stay hs (fun _ _ h => h)

theorem Ws.at (h : Ws w a n cap L) {p : Tm} (hp : L[i]? = some p) : ∃ g, a = some ⟨g, 0, none⟩ ∧ TBoxAt w g (i * 3) p := by
  have hi : i < L.length := (List.getElem?_eq_some_iff.1 hp).1
  rcases h.2.2.2 with ⟨_, h0⟩ | ⟨g, rfl, _, hr, _⟩
  · have := h.1; have := h.2.1; omega
  · have c : ∀ j, j < 3 → ∀ v, p.parts[j]? = some v → w.cell? ⟨g, i * 3 + j, none⟩ = some v := fun j hj v hv => by
      have := hr (i * 3 + j) v (by rw [wc_get hp j hj]; exact hv)
      rwa [Nat.zero_add] at this
    exact ⟨g, rfl, c 0 (by decide) _ rfl, c 1 (by decide) _ rfl, c 2 (by decide) _ rfl⟩

theorem Ws.rds (h : Ws w a n cap L) : Rds w a L := fun _ _ hp => h.at hp

/-- Timers to be read one behind the other. -/
theorem Ws.row (h : Ws w a n cap L) : IsRowS w 3 (.slice a n cap) n (wc L) := by
  rcases h.2.2.2 with ⟨rfl, h0⟩ | ⟨g, rfl, _, hr, _⟩
  · have h1 := h.1; have h2 := h.2.1
    obtain rfl : n = 0 := by omega
    obtain rfl : L = [] := List.eq_nil_of_length_eq_zero h1
    subst h0
    exact .inl ⟨rfl, rfl, rfl⟩
  · refine .inr ⟨_, _, rfl, by rw [wc_length, h.1], fun j u hu => ?_⟩
    rw [addr_add]
    exact hr j u hu

theorem Ws.of_owns {base e : Nat} {v : Value} (h : w.ownsRow base e 3 v n (wc L)) : ∃ a cap, v = .slice a n cap ∧ Ws w a n cap L ∧ ∀ k, a.map Addr.block = some k → base ≤ k := by
  have hl : L.length = n := by have := h.1; rw [wc_length] at this; omega
  rcases h.2 with ⟨rfl, h0⟩ | ⟨g, cap, cur, rfl, hb, hg, h1, h2, h3, h4⟩
  · subst h0
    exact ⟨_, _, rfl, ⟨hl, Nat.le_refl _, by unfold maxLen; omega, .inl ⟨rfl, rfl⟩⟩, fun k hk => by cases hk⟩
  · have hlt : g < w.heap.size := (Array.getElem?_eq_some_iff.1 hg).1
    refine ⟨_, _, rfl, ⟨hl, h1, h2, .inr ⟨g, rfl, hlt, fun j u hu => ?_, fun j hj => ?_⟩⟩, fun k hk => by cases hk; exact hb⟩
    · have := h.cells (g := g) rfl j u hu
      rwa [addr_add] at this
    · have hj' : j < cur.size := by omega
      constructor
      · rw [cell_of_row w g _ cur e (0, 0) hg, Nat.zero_add, Array.getElem?_eq_getElem hj']; rfl
      · simp [World.frozen?, hg]

/-- What stands in a block's cells where some were written. -/
theorem range_patch {xs ys : List Value} {k : Nat} (h : w.rangeAt g 0 xs) (hk : k ≤ xs.length) (ht : w.there g k ys.length) : (w.setCells g k ys).rangeAt g 0 (xs.take k ++ ys ++ xs.drop (k + ys.length)) := by
  intro j v hj
  rw [Nat.zero_add]
  have hlt : (xs.take k).length = k := by rw [List.length_take]; omega
  by_cases h1 : j < k
  · rw [List.append_assoc, List.getElem?_append_left (by omega), List.getElem?_take, if_pos h1] at hj
    rw [World.cell?_setCells_out g ys k w ⟨g, j, none⟩ (fun _ _ => by show j < k ∨ k + ys.length ≤ j; omega)]
    have := h j v hj
    rwa [Nat.zero_add] at this
  · by_cases h2 : j < k + ys.length
    · rw [List.append_assoc, List.getElem?_append_right (by omega), hlt, List.getElem?_append_left (by omega)] at hj
      have := World.rangeAt_setCells_same w g k ys ht (j - k) v hj
      rwa [show k + (j - k) = j by omega] at this
    · rw [List.getElem?_append_right (by rw [List.length_append]; omega), List.getElem?_drop, List.length_append, hlt] at hj
      rw [World.cell?_setCells_out g ys k w ⟨g, j, none⟩ (fun _ _ => by show j < k ∨ k + ys.length ≤ j; omega)]
      have := h j v (by rw [← hj]; congr 1; omega)
      rwa [Nat.zero_add] at this

theorem range_front {xs ys : List Value} (h : w.rangeAt g 0 (xs ++ ys)) : w.rangeAt g 0 xs := fun j v hj =>
  h j v (by rw [List.getElem?_append_left (List.getElem?_eq_some_iff.1 hj).1]; exact hj)

theorem there_part {m o k : Nat} (h : w.there g 0 m) (hk : o + k ≤ m) : w.there g o k := fun j hj => by
  have := h (o + j) (by omega)
  rwa [Nat.zero_add] at this

theorem split_at {p : Tm} (h : L[i]? = some p) : L = L.take i ++ p :: L.drop (i + 1) := by
  rw [← (List.getElem?_eq_some_iff.1 h).2, List.getElem_cons_drop]
  exact (List.take_append_drop i L).symm

theorem set_split {p q : Tm} (h : L[i]? = some p) : L.set i q = L.take i ++ q :: L.drop (i + 1) := by
  have hi : i < L.length := (List.getElem?_eq_some_iff.1 h).1
  rw [List.set_eq_take_append_cons_drop, if_pos hi]

/-- Some parts of one timer are written: it is another one. -/
theorem Ws.part (h : Ws w (some ⟨g, 0, none⟩) n cap L) {p q : Tm} (hp : L[i]? = some p) {k : Nat} {vs : List Value} (hk : k + vs.length ≤ 3) (e : q.parts = p.parts.take k ++ vs ++ p.parts.drop (k + vs.length)) :
    Ws (w.setCells g (i * 3 + k) vs) (some ⟨g, 0, none⟩) n cap (L.set i q) := by
  have hi : i < L.length := (List.getElem?_eq_some_iff.1 hp).1
  refine ⟨by rw [List.length_set]; exact h.1, h.2.1, h.2.2.1, ?_⟩
  have h1 := h.1
  have h2 := h.2.1
  rcases h.2.2.2 with ⟨h0, _⟩ | ⟨g', h0, hg, hr, ht⟩
  · cases h0
  · cases h0
    have hst : Stay (fun j => j = g) w (w.setCells g (i * 3 + k) vs) := (Stay.refl (fun j => j = g) w).setCells g _ _ rfl
    refine .inr ⟨g, rfl, Nat.lt_of_lt_of_le hg hst.size, ?_, World.there_setCells ht _ _ _⟩
    have hx := range_patch (k := i * 3 + k) (ys := vs) hr (by rw [wc_length]; omega) (there_part ht (by omega))
    have e2 : (wc L).take (i * 3 + k) ++ vs ++ (wc L).drop (i * 3 + k + vs.length) = wc (L.set i q) := by
      have hl : p.parts.length = 3 := rfl
      have hll : (L.take i).length = i := by rw [List.length_take]; omega
      have hw : (wc (L.take i)).length = i * 3 := by rw [wc_length, hll]
      have ew : wc L = wc (L.take i) ++ (p.parts ++ wc (L.drop (i + 1))) := by
        conv => lhs; rw [split_at hp]
        rw [wc_append, wc_cons]
      rw [set_split hp, wc_append, wc_cons, e, ew, List.take_append, List.drop_append, hw, List.take_of_length_le (l := wc (L.take i)) (by rw [hw]; omega), List.drop_of_length_le (l := wc (L.take i)) (by rw [hw]; omega), show i * 3 + k - i * 3 = k by omega,
        show i * 3 + k + vs.length - i * 3 = k + vs.length by omega, List.take_append, List.drop_append, hl, show k - 3 = 0 by omega, show k + vs.length - 3 = 0 by omega]
      simp
    rwa [e2] at hx

/-- What lies behind all is written. -/
theorem Ws.behind (h : Ws w (some ⟨g, 0, none⟩) n cap L) (vs : List Value) {k : Nat} (hk : n * 3 ≤ k) : Ws (w.setCells g k vs) (some ⟨g, 0, none⟩) n cap L := by
  refine ⟨h.1, h.2.1, h.2.2.1, ?_⟩
  rcases h.2.2.2 with ⟨h0, _⟩ | ⟨g', h0, hg, hr, ht⟩
  · cases h0
  · cases h0
    have hst : Stay (fun j => j = g) w (w.setCells g k vs) := (Stay.refl (fun j => j = g) w).setCells g _ _ rfl
    exact .inr ⟨g, rfl, Nat.lt_of_lt_of_le hg hst.size, World.rangeAt_setCells_apart hr g k vs (.inr (.inl (by rw [wc_length, h.1]; omega))), World.there_setCells ht _ _ _⟩


/-- The first ones alone. -/
theorem Ws.take (h : Ws w a n cap L) {k : Nat} (hk : k ≤ n) : Ws w a k cap (L.take k) := by
  have h1 := h.1
  have h2 := h.2.1
  refine ⟨by rw [List.length_take]; omega, by omega, h.2.2.1, ?_⟩
  rcases h.2.2.2 with h0 | ⟨g, rfl, hg, hr, ht⟩
  · exact .inl h0
  · refine .inr ⟨g, rfl, hg, ?_, ht⟩
    rw [wc_take]
    refine range_front (ys := (wc L).drop (k * 3)) ?_
    rwa [List.take_append_drop]

/-- One is another one. -/
theorem Ws.set (h : Ws w (some ⟨g, 0, none⟩) n cap L) {p : Tm} (hp : L[i]? = some p) (q : Tm) : Ws (w.setCells g (i * 3) q.parts) (some ⟨g, 0, none⟩) n cap (L.set i q) :=
  h.part (k := 0) (vs := q.parts) hp (by show 0 + 3 ≤ 3; omega) (by simp [Tm.parts])

/-- The last ones come to the front. -/
theorem Ws.front (h : Ws w (some ⟨g, 0, none⟩) n cap L) {k : Nat} (hk : k ≤ n) : Ws (w.setCells g 0 (wc (L.drop k))) (some ⟨g, 0, none⟩) (n - k) cap (L.drop k) := by
  have h1 := h.1
  have h2 := h.2.1
  refine ⟨by rw [List.length_drop, h1], by omega, h.2.2.1, ?_⟩
  rcases h.2.2.2 with ⟨h0, _⟩ | ⟨g', h0, hg, hr, ht⟩
  · cases h0
  · cases h0
    have hst : Stay (fun j => j = g) w (w.setCells g 0 (wc (L.drop k))) := (Stay.refl (fun j => j = g) w).setCells g _ _ rfl
    refine .inr ⟨g, rfl, Nat.lt_of_lt_of_le hg hst.size, ?_, World.there_setCells ht _ _ _⟩
    have hx := range_patch (k := 0) (ys := wc (L.drop k)) hr (by omega) (there_part ht (by rw [wc_length, List.length_drop]; omega))
    rw [List.take_zero, List.nil_append] at hx
    exact range_front hx

/-- What stands where others have gone on by one, and one has come. -/
theorem ins_cells (L : List Tm) (p : Tm) (i : Nat) (hi : i < L.length) : ((wc L).take ((i + 1) * 3) ++ wc (L.drop i) ++ (wc L).drop ((i + 1) * 3 + (wc (L.drop i)).length)).take (i * 3) ++ p.parts ++ ((wc L).take ((i + 1) * 3) ++ wc (L.drop i) ++ (wc L).drop ((i + 1) * 3 + (wc (L.drop i)).length)).drop (i * 3 + p.parts.length) = wc (L.take i ++ p :: L.drop i) := by
  have hl : (wc L).length = L.length * 3 := wc_length L
  have hd : (wc (L.drop i)).length = (L.length - i) * 3 := by rw [wc_length, List.length_drop]
  have hp : p.parts.length = 3 := rfl
  have e0 : (wc L).drop ((i + 1) * 3 + (wc (L.drop i)).length) = [] := List.drop_of_length_le (by omega)
  have ht : ((wc L).take ((i + 1) * 3)).length = (i + 1) * 3 := by rw [List.length_take]; omega
  rw [e0, List.append_nil, wc_append, wc_cons, hp, wc_take]
  have e1 : ((wc L).take ((i + 1) * 3) ++ wc (L.drop i)).take (i * 3) = (wc L).take (i * 3) := by
    rw [List.take_append_of_le_length (by omega), List.take_take, Nat.min_eq_left (by omega)]
  have e2 : ((wc L).take ((i + 1) * 3) ++ wc (L.drop i)).drop (i * 3 + 3) = wc (L.drop i) := by
    rw [show i * 3 + 3 = ((wc L).take ((i + 1) * 3)).length by omega]
    exact List.drop_left
  rw [e1, e2, List.append_assoc]

/-- One comes among them. -/
theorem Ws.ins (h : Ws w (some ⟨g, 0, none⟩) n cap L) (p : Tm) (hi : i < n) (hc : n + 1 ≤ cap) : Ws ((w.setCells g ((i + 1) * 3) (wc (L.drop i))).setCells g (i * 3) p.parts) (some ⟨g, 0, none⟩) (n + 1) cap (L.take i ++ p :: L.drop i) := by
  have h1 := h.1
  have h2 := h.2.1
  refine ⟨by rw [List.length_append, List.length_cons, List.length_take, List.length_drop]; omega, by omega, h.2.2.1, ?_⟩
  rcases h.2.2.2 with ⟨h0, _⟩ | ⟨g', h0, hg, hr, ht⟩
  · cases h0
  · cases h0
    have hd : (wc (L.drop i)).length = (n - i) * 3 := by rw [wc_length, List.length_drop, h1]
    have hst : Stay (fun j => j = g) w ((w.setCells g ((i + 1) * 3) (wc (L.drop i))).setCells g (i * 3) p.parts) := ((Stay.refl (fun j => j = g) w).setCells g _ _ rfl).setCells g _ _ rfl
    refine .inr ⟨g, rfl, Nat.lt_of_lt_of_le hg hst.size, ?_, World.there_setCells (World.there_setCells ht _ _ _) _ _ _⟩
    have hx := range_patch (k := (i + 1) * 3) (ys := wc (L.drop i)) hr (by rw [wc_length]; omega) (there_part ht (by omega))
    have hl2 : i * 3 ≤ ((wc L).take ((i + 1) * 3) ++ wc (L.drop i) ++ (wc L).drop ((i + 1) * 3 + (wc (L.drop i)).length)).length := by
      rw [List.length_append, List.length_append, List.length_take, wc_length]; omega
    have hy := range_patch (k := i * 3) (ys := p.parts) hx hl2 (there_part (World.there_setCells ht _ _ _) (by show i * 3 + 3 ≤ cap * 3; omega))
    rwa [ins_cells L p i (by omega)] at hy

/-- One is built among them in a block that has room. -/
theorem Ws.build {B gc : Nat} {p : Tm} {xs : List Value} (hB : B < w.heap.size) (hr : w.rangeAt B 0 xs) (ht : w.there B 0 (gc * 3)) (hx : xs.take (i * 3) = wc (L.take i)) (hxl : (i + 1) * 3 ≤ xs.length) (hn : L.length = n) (hi : i ≤ n) (hc : n + 1 ≤ gc) (hm : gc ≤ maxLen) :
    Ws ((w.setCells B (i * 3) p.parts).drew.setCells B ((i + 1) * 3) (wc (L.drop i))) (some ⟨B, 0, none⟩) (n + 1) gc (L.take i ++ p :: L.drop i) := by
  refine ⟨by rw [List.length_append, List.length_cons, List.length_take, List.length_drop]; omega, hc, hm, ?_⟩
  obtain ⟨w1, hw1⟩ : ∃ W, W = (w.setCells B (i * 3) p.parts).drew := ⟨_, rfl⟩
  have hp : p.parts.length = 3 := rfl
  have hd : (wc (L.drop i)).length = (n - i) * 3 := by rw [wc_length, List.length_drop, hn]
  have ht0 : (w.setCells B (i * 3) p.parts).there B 0 (gc * 3) := World.there_setCells ht _ _ _
  have ht1 : w1.there B 0 (gc * 3) := by rw [hw1]; exact fun j hj => ht0 j hj
  have h1 := range_patch (w := w) (g := B) (ys := p.parts) (k := i * 3) hr (by omega) (there_part ht (by omega))
  have h2 : w1.rangeAt B 0 (xs.take (i * 3) ++ p.parts ++ xs.drop (i * 3 + p.parts.length)) := by rw [hw1]; exact fun j v hj => h1 j v hj
  have hs1 : Stay (fun j => j = B) w w1 := by rw [hw1]; exact ((Stay.refl (fun j => j = B) w).setCells B p.parts _ rfl).drew
  rw [← hw1]
  clear hw1 ht0 h1
  have hlt : (xs.take (i * 3)).length = i * 3 := by rw [List.length_take]; omega
  have hle : (xs.take (i * 3) ++ p.parts).length = (i + 1) * 3 := by rw [List.length_append, hlt, hp]; omega
  have h3 := range_patch (k := (i + 1) * 3) (ys := wc (L.drop i)) h2 (by rw [List.length_append, hle]; omega) (there_part ht1 (by omega))
  have e1 : (xs.take (i * 3) ++ p.parts ++ xs.drop (i * 3 + p.parts.length)).take ((i + 1) * 3) = wc (L.take i) ++ p.parts := by
    rw [← hle, List.take_left, hx]
  rw [e1] at h3
  have h4 := range_front h3
  rw [List.append_assoc, ← wc_cons, ← wc_append] at h4
  exact .inr ⟨B, rfl, Nat.lt_of_lt_of_le hB (hs1.setCells B (wc (L.drop i)) ((i + 1) * 3) rfl).size, h4, World.there_setCells ht1 B _ _⟩

/-- A slice of timers of one's own. -/
def Wv (w : World) (v : Value) (L : List Tm) : Prop := ∃ a cap, v = .slice a L.length cap ∧ Ws w a L.length cap L ∧ (cap = 0 → a = none)

theorem Wv.lt {v : Value} (h : Wv w v L) : ∀ k, v.ownBlock = some k → k < w.heap.size := by
  obtain ⟨a, cap, rfl, hw, _⟩ := h
  intro k hk
  refine hw.lt k ?_
  cases a with
  | none => cases hk
  | some ad => exact hk

theorem Wv.stay {v : Value} (h : Wv w v L) (hs : Stay T w w1) (hn : ∀ k, v.ownBlock = some k → ¬ T k) : Wv w1 v L := by
  obtain ⟨a, cap, rfl, hw, h0⟩ := h
  refine ⟨a, cap, rfl, hw.stay hs (fun k hk => hn k ?_), h0⟩
  cases a with
  | none => cases hk
  | some ad => exact hk

theorem Wv.keep {v : Value} (h : Wv w v L) (hs : Stay (fun _ => False) w w1) : Wv w1 v L := h.stay hs (fun _ _ h => h)

/-- Timers that can be read, wherever they lie. -/
def Rd (w : World) (a : Option Addr) (L : List Tm) : Prop := ∀ i p, L[i]? = some p → ∃ g o, a = some ⟨g, o, none⟩ ∧ TBoxAt w g (o + i * 3) p

theorem Rd.stay (h : Rd w a L) (hs : Stay T w w1) (hn : ∀ k, a.map Addr.block = some k → ¬ T k) : Rd w1 a L := fun i p hp => by
  obtain ⟨g, o, rfl, hb⟩ := h i p hp
  exact ⟨g, o, rfl, hb.stay hs (hn g rfl)⟩

theorem Rd.keep (h : Rd w a L) (hs : Stay (fun _ => False) w w1) : Rd w1 a L := h.stay hs (fun _ _ h => h)

theorem Rd.nil (w : World) (a : Option Addr) : Rd w a [] := fun i p hp => by simp at hp

theorem Ws.rd (h : Ws w a n cap L) : Rd w a L := fun i p hp => by
  obtain ⟨g, e, hb⟩ := h.at hp
  exact ⟨g, 0, e, by rwa [Nat.zero_add]⟩

theorem Rd.take (h : Rd w a L) (k : Nat) : Rd w a (L.take k) := fun i p hp => by
  rw [List.getElem?_take] at hp
  split at hp
  · exact h i p hp
  · cases hp

theorem Rd.drop (h : Rd w a L) {k cap : Nat} (hc : L.length ≤ cap) : Rd w (if cap = k then a else a.map (·.add (k * 3))) (L.drop k) := fun i p hp => by
  rw [List.getElem?_drop] at hp
  have hlt := (List.getElem?_eq_some_iff.1 hp).1
  obtain ⟨g, o, rfl, hb⟩ := h _ p hp
  rw [if_neg (by omega)]
  refine ⟨g, o + k * 3, by simp [addr_add], ?_⟩
  rwa [show o + k * 3 + i * 3 = o + (k + i) * 3 by omega]

theorem Rd.drop_block {k cap : Nat} : ∀ j, (if cap = k then a else a.map (·.add (k * 3))).map Addr.block = some j → a.map Addr.block = some j := by
  intro j hj
  cases a with
  | none => split at hj <;> cases hj
  | some ad =>
    split at hj
    · exact hj
    · rw [← hj]
      show some ad.block = some (ad.add (k * 3)).block
      rw [show (ad.add (k * 3)).block = ad.block by unfold Addr.add; split <;> rfl]

end Go.Proofs.Ytihciknbmhadjaa
