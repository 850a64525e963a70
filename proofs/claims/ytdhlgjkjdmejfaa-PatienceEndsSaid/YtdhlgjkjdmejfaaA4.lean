/-
  Windows of own rows: what is cut off, what is appended. No conditions.
-/
import Derived.Test.YtdhlgjkjdmejfaaA3
import Derived.ArgAppend
import Derived.Deep.MidRow
import Derived.Maps.AppendAt
namespace Go.Proofs.Ytdhlgjkjdmejfaa
open Go.RowKit

theorem Stay.setCells {S : Nat → Prop} (b : Nat) : ∀ (vs : List Value) (o : Nat) {w w1 : World}, Stay S w w1 → S b → Stay S w (w1.setCells b o vs)
  | [], _, _, _, h, _ => h
  | _ :: r, o, _, _, h, hb => Stay.setCells b r (o + 1) (h.setCell (p := ⟨b, o, none⟩) hb _) hb

theorem Stay.trans2 {S T : Nat → Prop} {w w1 w2 : World} (h : Stay S w w1) (k : Stay T w1 w2) (e : ∀ j, j < w.heap.size → T j → S j) : Stay S w w2 :=
  ⟨k.os.trans h.os, k.tape.trans h.tape, k.output.trans h.output, Nat.le_trans h.size k.size, fun i hi hs => (k.block i (Nat.lt_of_lt_of_le hi h.size) (fun t => hs (e i hi t))).trans (h.block i hi hs)⟩

/-- A window of a block: elements of a size, room behind them. -/
def Win (w : World) (size : Nat) (v : Value) (n : Nat) (xs : List Value) : Prop :=
  xs.length = n * size ∧ ((v = .slice none 0 0 ∧ n = 0) ∨ ∃ g o cap, v = .slice (some ⟨g, o, none⟩) n cap ∧ n ≤ cap ∧ cap ≤ maxLen ∧ g < w.heap.size ∧ w.rangeAt g o xs ∧ w.there g o (cap * size))

theorem Win.nil (w : World) (size : Nat) : Win w size (.slice none 0 0) 0 [] := ⟨by simp, .inl ⟨rfl, rfl⟩⟩

theorem Win.lt {w : World} {size n : Nat} {v : Value} {xs : List Value} (h : Win w size v n xs) : ∀ j, v.ownBlock = some j → j < w.heap.size := by
  intro j hj
  rcases h.2 with ⟨rfl, _⟩ | ⟨g, o, cap, rfl, _, _, hg, _⟩
  · cases hj
  · cases hj; exact hg

theorem Win.stay {T : Nat → Prop} {w w1 : World} {size n : Nat} {v : Value} {xs : List Value} (h : Win w size v n xs) (hs : Stay T w w1) (hn : ∀ j, v.ownBlock = some j → ¬ T j) : Win w1 size v n xs := by
  refine ⟨h.1, ?_⟩
  rcases h.2 with h0 | ⟨g, o, cap, rfl, h1, h2, hg, h3, h4⟩
  · exact .inl h0
  · have hc : ∀ o, w1.cell? ⟨g, o, none⟩ = w.cell? ⟨g, o, none⟩ := fun o => hs.cell (p := ⟨g, o, none⟩) hg (hn g rfl)
    have hf : ∀ o, w1.frozen? ⟨g, o, none⟩ = w.frozen? ⟨g, o, none⟩ := fun o => hs.frozen (p := ⟨g, o, none⟩) hg (hn g rfl)
    exact .inr ⟨g, o, cap, rfl, h1, h2, Nat.lt_of_lt_of_le hg hs.size, fun j u hu => (hc _).trans (h3 j u hu), fun j hj => ⟨by rw [hc]; exact (h4 j hj).1, by rw [hf]; exact (h4 j hj).2⟩⟩

theorem Win.of_owns {w : World} {base e size n : Nat} {v : Value} {xs : List Value} (h : w.ownsRow base e size v n xs) (_hw : n * size = xs.length) : Win w size v n xs := by
  refine ⟨h.1, ?_⟩
  rcases h.2 with h0 | ⟨g, cap, cur, rfl, _, hg, h1, h2, h3, h4⟩
  · exact .inl h0
  · have hlt : g < w.heap.size := (Array.getElem?_eq_some_iff.1 hg).1
    refine .inr ⟨g, 0, cap, rfl, h1, h2, hlt, fun j u hu => ?_, fun j hj => ?_⟩
    · have := h.cells (g := g) rfl j u hu
      rwa [addr_add] at this
    · have hj' : j < cur.size := by omega
      constructor
      · rw [cell_of_row w g _ cur e (0, 0) hg, Nat.zero_add, Array.getElem?_eq_getElem hj']; rfl
      · simp [World.frozen?, hg]

/-- A window is a slice. -/
theorem Win.shape {w : World} {size n : Nat} {v : Value} {xs : List Value} (h : Win w size v n xs) : ∃ a cap, v = .slice a n cap ∧ n ≤ cap ∧ (a = none → cap = 0) := by
  rcases h.2 with ⟨rfl, rfl⟩ | ⟨g, o, cap, rfl, h1, _⟩
  · exact ⟨none, 0, rfl, Nat.le_refl _, fun _ => rfl⟩
  · exact ⟨_, cap, rfl, h1, (fun h => by cases h)⟩

/-- The first elements, to be read. -/
theorem Win.front {w : World} {size n k cap : Nat} {a : Option Addr} {xs : List Value} (h : Win w size (.slice a n cap) n xs) (hk : k ≤ n) : IsRowS w size (.slice a k cap) k (xs.take (k * size)) := by
  have hl := h.1
  rcases h.2 with ⟨h0, rfl⟩ | ⟨g, o, cap', h0, h1, _, hg, h3, _⟩
  · cases h0
    obtain rfl : k = 0 := by omega
    exact .inl ⟨rfl, rfl, by simp⟩
  · cases h0
    refine .inr ⟨_, _, rfl, ?_, fun j u hu => ?_⟩
    · rw [List.length_take, hl]
      exact Nat.min_eq_left (Nat.mul_le_mul_right _ hk)
    · rw [addr_add]
      rw [List.getElem?_take] at hu
      split at hu
      · exact h3 j u hu
      · cases hu

/-- What is left behind the first elements. -/
theorem Win.drop {w : World} {size n k cap : Nat} {a : Option Addr} {xs : List Value} (h : Win w size (.slice a n cap) n xs) (hk : k ≤ n) : Win w size (.slice (if cap = k then a else a.map (·.add (k * size))) (n - k) (cap - k)) (n - k) (xs.drop (k * size)) := by
  have hl := h.1
  refine ⟨by rw [List.length_drop, hl, Nat.sub_mul], ?_⟩
  rcases h.2 with ⟨h0, rfl⟩ | ⟨g, o, cap', h0, h1, h2, hg, h3, h4⟩
  · cases h0
    obtain rfl : k = 0 := by omega
    exact .inl ⟨rfl, rfl⟩
  · cases h0
    by_cases hc : cap = k
    · subst hc
      obtain rfl : n = cap := by omega
      rw [if_pos rfl]
      have hr : w.rangeAt g o (xs.drop (n * size)) := fun j u hu => by
        rw [List.getElem?_drop, List.getElem?_eq_none (by omega)] at hu
        cases hu
      have ht : w.there g o ((n - n) * size) := fun j hj => by
        rw [Nat.sub_self, Nat.zero_mul] at hj
        exact absurd hj (Nat.not_lt_zero j)
      exact .inr ⟨g, o, n - n, rfl, Nat.le_refl _, by omega, hg, hr, ht⟩
    · rw [if_neg hc]
      refine .inr ⟨g, o + k * size, cap - k, by simp [addr_add], by omega, by omega, hg, fun j u hu => ?_, fun j hj => ?_⟩
      · rw [List.getElem?_drop] at hu
        rw [Nat.add_assoc]
        exact h3 _ u hu
      · rw [Nat.sub_mul] at hj
        rw [Nat.add_assoc]
        exact h4 _ (by omega)

theorem Win.drop_block {n k cap size : Nat} {a : Option Addr} : ∀ j, (Value.slice (if cap = k then a else a.map (·.add (k * size))) (n - k) (cap - k)).ownBlock = some j → (Value.slice a n cap).ownBlock = some j := by
  intro j hj
  cases a with
  | none => split at hj <;> cases hj
  | some ad =>
    split at hj
    · exact hj
    · rw [← hj]
      show some ad.block = some (ad.add (k * size)).block
      rw [show (ad.add (k * size)).block = ad.block by unfold Addr.add; split <;> rfl]

section
variable {P : Program}

/-- Elements are appended to a window. -/
theorem run_append_win (w : World) (t ty e : TypeId) (size bytes : Nat) (z : Value) (ht : P.underlying t = some (.slice e)) (hinfo : (P.info? e).map (fun i => (i.zero, i.size, i.bytes)) = some (some z, size, bytes)) (hz : z.cells.size = size) (hs0 : 0 < size) (hby : bytes ≤ 1000)
    (v : Value) (n : Nat) (xs : List Value) (hwin : Win w size v n xs) (so : Option Addr) (m c : Nat) (news : List Value) (hl : news.length = m * size) (hsrc : ∀ ad, so = some ad → ∀ j u, news[j]? = some u → w.cell? (ad.add j) = some u) (h0 : so = none → m = 0) (h1 : ∀ u ∈ news, u.oneCell' = true) (hn : n + m ≤ 1000000) :
    ∃ v' w', (Builtin.append_ #[t, t] ty #[v, .slice so m c]).run P w = .ok v' w' ∧ Win w' size v' (n + m) (xs ++ news) ∧ Stay (fun j => v.ownBlock = some j) w w' ∧ (v'.ownBlock = v.ownBlock ∨ v'.ownBlock = some w.heap.size) := by
  obtain ⟨i, hi, hzz⟩ := Option.map_eq_some_iff.1 hinfo
  simp only [Prod.mk.injEq] at hzz
  obtain ⟨g1, rfl, rfl⟩ := hzz
  have hb : (n + m) * i.bytes ≤ 140737488355328 := Nat.le_trans (Nat.mul_le_mul hn hby) (by decide)
  have h63 : n + m ≤ maxLen := by unfold maxLen; omega
  have hlen : (xs ++ news).length = (n + m) * i.size := by rw [List.length_append, hwin.1, hl, Nat.add_mul]
  by_cases hm : m = 0
  · subst hm
    have : news = [] := List.eq_nil_of_length_eq_zero (by simpa using hl)
    subst this
    refine ⟨v, w, ?_, by simpa using hwin, Stay.refl _ _, .inl rfl⟩
    rcases hwin.2 with ⟨rfl, rfl⟩ | ⟨g, o, cap, rfl, hc, _⟩
    · cases so <;> simp [Builtin.append_, run_underlying ht, sizeOf, typeInfo, hi, Builtin.lenOf, Builtin.firstCells, loadCells, loadCellsFrom]
    · cases so <;> simp [Builtin.append_, run_underlying ht, sizeOf, typeInfo, hi, Builtin.lenOf, Builtin.firstCells, loadCells, loadCellsFrom, hc, storeCells]
  · obtain ⟨ad, rfl⟩ : ∃ ad, so = some ad := by
      cases so with
      | none => exact absurd (h0 rfl) hm
      | some ad => exact ⟨ad, rfl⟩
    have hnews := hsrc ad rfl
    rcases hwin.2 with ⟨rfl, rfl⟩ | ⟨g, o, cap, rfl, hc, hcm, hg, h3, h4⟩
    · obtain ⟨v', w', hr, h2, h3, _, h5⟩ := run_append_own_at (P := P) w w.heap.size t ty e i z i.size i.bytes ht hi g1 rfl rfl hz hs0 (.slice none 0 0) 0 [] (World.ownsRow_nil w _ e i.size) ad m c news hl hnews h1 h63 hb (Nat.le_refl _)
      have hx : xs = [] := List.eq_nil_of_length_eq_zero (by simpa using hwin.1)
      subst hx
      exact ⟨v', w', hr, Win.of_owns h2 h2.1.symm, (Stay.refl _ w).grown h3 (fun k hk _ => hk), h5⟩
    · by_cases hroom : n + m ≤ cap
      · have hth : w.there g (o + n * i.size) news.length := fun j hj => by
          have := h4 (n * i.size + j) (by
            have h6 := Nat.mul_le_mul_right i.size hroom
            rw [Nat.add_mul] at h6
            omega)
          rwa [← Nat.add_assoc] at this
        have hr := run_append_room_cells (P := P) w t ty e i ht hi g o n cap ad m c news hl hnews h1 hroom (fun j hj => (hth j hj).1) (fun j hj => (hth j hj).2)
        have hst : Stay (fun j => j = g) w (w.setCells g (o + n * i.size) news) := Stay.setCells g news _ (Stay.refl _ _) rfl
        refine ⟨_, _, hr, ⟨hlen, .inr ⟨g, o, cap, rfl, hroom, hcm, Nat.lt_of_lt_of_le hg hst.size, fun j u hu => ?_, World.there_setCells h4 _ _ _⟩⟩, hst.mono (fun j _ hj => by rw [hj]; rfl), .inl rfl⟩
        by_cases hj : j < xs.length
        · rw [List.getElem?_append_left hj] at hu
          exact World.rangeAt_setCells_apart h3 g _ news (.inr (.inl (by rw [hwin.1]; exact Nat.le_refl _))) j u hu
        · rw [List.getElem?_append_right (by omega)] at hu
          have := World.rangeAt_setCells_same w g (o + n * i.size) news hth (j - xs.length) u hu
          rwa [show o + n * i.size + (j - xs.length) = o + j by have := hwin.1; omega] at this
      · obtain ⟨v', w', hr, h2, h5⟩ := run_append_arg_grows (P := P) w t ty e i z i.size i.bytes ht hi g1 rfl rfl hz hs0 ⟨g, o, none⟩ n cap xs hwin.1 (fun j u hu => by rw [addr_add]; exact h3 j u hu) ad m c news hl hnews (by omega) h63 hb
        refine ⟨v', w', hr, Win.of_owns h2 h2.1.symm, (Stay.refl _ w).grown h5 (fun k hk _ => by cases hk), .inr ?_⟩
        obtain ⟨g', cap', hv', hb', _, hlt⟩ : ∃ g' cap', v' = .slice (some ⟨g', 0, none⟩) (n + m) cap' ∧ w.heap.size ≤ g' ∧ True ∧ g' = w.heap.size := by
          have hr2 := run_append_grow (P := P) w t ty e i z ht hi g1 ⟨g, o, none⟩ n cap xs hwin.1 (fun j u hu => by rw [addr_add]; exact h3 j u hu) ad m c news hl hnews (by omega) (by unfold maxLen at h63; omega) (growslice_fits (by omega) hb)
          rw [hr] at hr2
          simp only [Result.ok.injEq] at hr2
          exact ⟨w.heap.size, _, hr2.1, Nat.le_refl _, trivial, rfl⟩
        rw [hv', hlt]; rfl

theorem wpList_append_win {ops : Array Oper} {rest : List Oper} {o : Oper} {a : Act} {Q : Exit → Act → World → Prop} (hgd : o.guard = none) (s x : Operand) (t : TypeId)
    (ho : o.op = .call { callee := .builtin .append, args := #[s, x], argTypes := #[t, t] }) {w : World} {n m c size bytes : Nat} {e : TypeId} {z v : Value} {so : Option Addr} {xs news : List Value} (hu : P.underlying t = some (.slice e))
    (hinfo : (P.info? e).map (fun i => (i.zero, i.size, i.bytes)) = some (some z, size, bytes)) (hz : z.cells.size = size) (hs0 : 0 < size) (hby : bytes ≤ 1000)
    (hwin : Win w size v n xs) (hs : a.eval s = v) (hl : news.length = m * size) (hsrc : ∀ ad, so = some ad → ∀ j u, news[j]? = some u → w.cell? (ad.add j) = some u) (h0 : so = none → m = 0) (h1 : ∀ u ∈ news, u.oneCell' = true) (hn : n + m ≤ 1000000) (hx : a.eval x = .slice so m c)
    (h : ∀ v' w', Win w' size v' (n + m) (xs ++ news) → Stay (fun j => v.ownBlock = some j) w w' → (v'.ownBlock = v.ownBlock ∨ v'.ownBlock = some w.heap.size) → wpList P ops Q rest (a.put o.dst v') w') : wpList P ops Q (o :: rest) a w := by
  obtain ⟨v', w', hr, h2, h3, h4⟩ := run_append_win (P := P) w t o.type e size bytes z hu hinfo hz hs0 hby v n xs hwin so m c news hl hsrc h0 h1 hn
  refine wpList_plain hgd fun K hK => ?_
  unfold Oper.wp
  simp [execOp, ho, resolve, invoke, builtin, hs, hx, hr, Result.andThen]
  exact hK _ _ (h v' w' h2 h3 h4)

end

end Go.Proofs.Ytdhlgjkjdmejfaa
