/-
  A ring, its places and its messages. No conditions.
-/
import Derived.Test.YtabalnjbfhngnaaB0
import Derived.Deep.MidRow
namespace Go.Proofs.Ytabalnjbfhngnaa
open Go.RowKit

/-- Cells of bytes. -/
def bys (M : List Int) : List Value := M.map (Value.int .u8 ·)

theorem bys_len (M : List Int) : (bys M).length = M.length := by unfold bys; simp

theorem bys_one (L : List Int) : ∀ u ∈ bys L, u.oneCell' = true := one_ints _ _

theorem Stay.trans2 {S T : Nat → Prop} {w w1 w2 : World} (h : Stay S w w1) (k : Stay T w1 w2) (e : ∀ j, j < w.heap.size → T j → S j) : Stay S w w2 :=
  ⟨k.os.trans h.os, k.tape.trans h.tape, k.output.trans h.output, Nat.le_trans h.size k.size, fun i hi hs => (k.block i (Nat.lt_of_lt_of_le hi h.size) (fun t => hs (e i hi t))).trans (h.block i hi hs)⟩

theorem Stay.setCells {S : Nat → Prop} (b : Nat) : ∀ (vs : List Value) (o : Nat) {w w1 : World}, Stay S w w1 → S b → Stay S w (w1.setCells b o vs)
  | [], _, _, _, h, _ => h
  | _ :: r, o, _, _, h, hb => Stay.setCells b r (o + 1) (h.setCell (p := ⟨b, o, none⟩) hb _) hb

/-- A place's cells. -/
def pc (p : Int × Value) : List Value := [.int .i64 p.1, p.2]

/-- Places of messages. -/
structure Places (w : World) (rb c : Nat) (F : Nat → Int × Value) : Prop where
  at' : ∀ i, i < c → w.rangeAt rb (i * 2) (pc (F i))
  th : w.there rb 0 (c * 2)

theorem Places.lt {w : World} {rb c : Nat} {F : Nat → Int × Value} (h : Places w rb c F) (hc : 0 < c) : rb < w.heap.size := World.block_lt_of_cell? _ _ (h.at' 0 hc 0 _ rfl)

theorem Places.stay {T : Nat → Prop} {w w1 : World} {rb c : Nat} {F : Nat → Int × Value} (h : Places w rb c F) (hs : Stay T w w1) (hn : ¬ T rb) : Places w1 rb c F := by
  by_cases hc : 0 < c
  · have hb := h.lt hc
    have hcc : ∀ o, w1.cell? ⟨rb, o, none⟩ = w.cell? ⟨rb, o, none⟩ := fun o => hs.cell (p := ⟨rb, o, none⟩) hb hn
    have hff : ∀ o, w1.frozen? ⟨rb, o, none⟩ = w.frozen? ⟨rb, o, none⟩ := fun o => hs.frozen (p := ⟨rb, o, none⟩) hb hn
    exact ⟨fun i hi j u hu => (hcc _).trans (h.at' i hi j u hu), fun j hj => ⟨by rw [hcc]; exact (h.th j hj).1, by rw [hff]; exact (h.th j hj).2⟩⟩
  · exact ⟨fun i hi => by omega, fun j hj => by omega⟩

theorem Places.two {w : World} {rb c i : Nat} {F : Nat → Int × Value} (h : Places w rb c F) (hi : i < c) : w.cell? ⟨rb, i * 2, none⟩ = some (.int .i64 (F i).1) ∧ w.cell? ⟨rb, i * 2 + 1, none⟩ = some (F i).2 := ⟨h.at' i hi 0 _ rfl, h.at' i hi 1 _ rfl⟩

theorem Places.there {w : World} {rb c i : Nat} {F : Nat → Int × Value} (h : Places w rb c F) (hi : i < c) : w.there rb (i * 2) 2 := fun j hj => by
  have := h.th (i * 2 + j) (by omega)
  rwa [Nat.zero_add] at this

theorem Places.put {w : World} {rb c p : Nat} {F : Nat → Int × Value} (h : Places w rb c F) (hp : p < c) (x : Int × Value) : Places (w.setCells rb (p * 2) (pc x)) rb c (fun i => if i = p then x else F i) := by
  refine ⟨fun i hi => ?_, World.there_setCells h.th _ _ _⟩
  by_cases e : i = p
  · subst e
    simp only [if_pos]
    exact World.rangeAt_setCells_same w rb (i * 2) (pc x) (h.there hi)
  · simp only [if_neg e]
    refine World.rangeAt_setCells_apart (h.at' i hi) rb _ (pc x) ?_
    show _ ∨ i * 2 + 2 ≤ p * 2 ∨ p * 2 + 2 ≤ i * 2
    omega

/-- A ring: where it lies, where its places lie, how many there are, the first, how many messages there are, what the places hold. -/
structure Rg where
  b : Nat
  rb : Nat
  c : Nat
  f : Nat
  n : Nat
  F : Nat → Int × Value

def Rg.bx (q : Rg) : Rr := ⟨.slice (some ⟨q.rb, 0, none⟩) q.c q.c, (q.f : Nat), (q.n : Nat)⟩

/-- What the place of a message holds. -/
def Rg.has (q : Rg) (k : Nat) : Int × Value := q.F ((q.f + k) % q.c)

/-- A block of the ring's. -/
def Rg.own (q : Rg) (j : Nat) : Prop := j = q.b ∨ j = q.rb ∨ ∃ k, k < q.n ∧ (q.has k).2.ownBlock = some j

/-- A message's bytes lie in a row of its own. -/
def Holds (w : World) (v : Value) (l : List Int) : Prop := w.ownsRow 0 5 1 v l.length (bys l)

theorem Holds.lt {w : World} {v : Value} {l : List Int} (h : Holds w v l) : ∀ j, v.ownBlock = some j → j < w.heap.size := fun j hj => (World.ownsRow.lt h j hj).2

theorem Holds.stay {T : Nat → Prop} {w w1 : World} {v : Value} {l : List Int} (h : Holds w v l) (hs : Stay T w w1) (hn : ∀ j, v.ownBlock = some j → ¬ T j) : Holds w1 v l := hs.owns h hn

theorem Holds.keep {w w1 : World} {v : Value} {l : List Int} (h : Holds w v l) (hs : Stay (fun _ => False) w w1) : Holds w1 v l := h.stay hs (fun _ _ h => h)

/-- The ring and its messages. -/
structure RAt (w : World) (q : Rg) (L : List (Int × List Int)) : Prop where
  box : RBox w q.b q.bx
  pl : Places w q.rb q.c q.F
  len : L.length = q.n
  f1 : q.f < q.c
  n1 : q.n ≤ q.c
  c2 : q.c ≤ 4096
  ne : ¬ q.rb = q.b
  frm : ∀ k, k < q.n → (q.has k).1 = (L.getD k (0, [])).1
  byt : ∀ k, k < q.n → Holds w (q.has k).2 (L.getD k (0, [])).2
  bb : ∀ k, k < q.n → ∀ j, (q.has k).2.ownBlock = some j → ¬ j = q.b ∧ ¬ j = q.rb
  ap : ∀ k m, k < q.n → m < q.n → ¬ k = m → ∀ j, (q.has k).2.ownBlock = some j → ¬ (q.has m).2.ownBlock = some j

theorem RAt.stay {T : Nat → Prop} {w w1 : World} {q : Rg} {L : List (Int × List Int)} (h : RAt w q L) (hs : Stay T w w1) (hn : ∀ j, q.own j → ¬ T j) : RAt w1 q L :=
  ⟨h.box.stay hs (hn _ (.inl rfl)), h.pl.stay hs (hn _ (.inr (.inl rfl))), h.len, h.f1, h.n1, h.c2, h.ne, h.frm, fun k hk => (h.byt k hk).stay hs (fun j hj => hn j (.inr (.inr ⟨k, hk, hj⟩))), h.bb, h.ap⟩

theorem RAt.keep {w w1 : World} {q : Rg} {L : List (Int × List Int)} (h : RAt w q L) (hs : Stay (fun _ => False) w w1) : RAt w1 q L := h.stay hs (fun _ _ h => h)

theorem RAt.lt {w : World} {q : Rg} {L : List (Int × List Int)} (h : RAt w q L) : ∀ j, q.own j → j < w.heap.size := by
  intro j hj
  rcases hj with rfl | rfl | ⟨k, hk, hj⟩
  · exact h.box.lt
  · exact h.pl.lt (by have := h.f1; omega)
  · exact (h.byt k hk).lt j hj

theorem mod_ne {f c k m : Nat} (hk : k < m) (hm : m < c) : ¬ (f + k) % c = (f + m) % c := by
  intro e
  have h := Nat.sub_mod_eq_zero_of_mod_eq e.symm
  rw [show f + m - (f + k) = m - k by omega, Nat.mod_eq_of_lt (by omega)] at h
  omega

/-- The ring with a message more. -/
def Rg.sent (q : Rg) (x : Int × Value) : Rg := ⟨q.b, q.rb, q.c, q.f, q.n + 1, fun i => if i = (q.f + q.n) % q.c then x else q.F i⟩

theorem Rg.sent_old {q : Rg} {x : Int × Value} {k : Nat} (hk : k < q.n) (hn : q.n < q.c) : (q.sent x).has k = q.has k := by
  unfold Rg.has Rg.sent
  simp only [if_neg (mod_ne (f := q.f) hk hn)]

theorem Rg.sent_new {q : Rg} {x : Int × Value} : (q.sent x).has q.n = x := by
  unfold Rg.has Rg.sent
  simp only [if_pos]

theorem getD_append_old {α : Type} {L : List α} {x d : α} {k : Nat} (h : k < L.length) : (L ++ [x]).getD k d = L.getD k d := by
  rw [List.getD_eq_getElem?_getD, List.getElem?_append_left h, List.getD_eq_getElem?_getD]

theorem getD_append_new {α : Type} {L : List α} {x d : α} {n : Nat} (h : L.length = n) : (L ++ [x]).getD n d = x := by
  subst h
  rw [List.getD_eq_getElem?_getD, List.getElem?_append_right (Nat.le_refl _), Nat.sub_self]
  rfl

theorem RAt.sent {w w1 : World} {q : Rg} {L : List (Int × List Int)} {x : Int} {v : Value} {l : List Int} (h : RAt w q L) (hn : q.n < q.c) (hs : Stay (fun j => j = q.b ∨ j = q.rb) w w1) (hb : RBox w1 q.b (q.sent (x, v)).bx) (hp : Places w1 q.rb q.c (q.sent (x, v)).F) (hv : Holds w1 v l)
    (hnew : ∀ j, v.ownBlock = some j → w.heap.size ≤ j) : RAt w1 (q.sent (x, v)) (L ++ [(x, l)]) := by
  have hl := h.len
  have key : ∀ k, k < q.n + 1 → k < q.n ∨ k = q.n := fun k hk => by omega
  refine ⟨hb, hp, by rw [List.length_append, hl]; rfl, h.f1, hn, h.c2, h.ne, fun k hk => ?_, fun k hk => ?_, fun k hk => ?_, fun k m hk hm hkm => ?_⟩
  · rcases key k hk with hk | rfl
    · rw [Rg.sent_old hk hn, getD_append_old (by omega)]; exact h.frm k hk
    · rw [Rg.sent_new, getD_append_new hl]
  · rcases key k hk with hk | rfl
    · rw [Rg.sent_old hk hn, getD_append_old (by omega)]
      exact (h.byt k hk).stay hs (fun j hj => by have := h.bb k hk j hj; omega)
    · rw [Rg.sent_new, getD_append_new hl]; exact hv
  · rcases key k hk with hk | rfl
    · rw [Rg.sent_old hk hn]; exact h.bb k hk
    · rw [Rg.sent_new]
      intro j hj
      have h1 := hnew j hj
      have h2 := h.lt q.b (.inl rfl)
      have h3 := h.lt q.rb (.inr (.inl rfl))
      show ¬ j = q.b ∧ ¬ j = q.rb
      omega
  · rcases key k hk with hk | rfl <;> rcases key m hm with hm | rfl
    · rw [Rg.sent_old hk hn, Rg.sent_old hm hn]; exact h.ap k m hk hm hkm
    · rw [Rg.sent_old hk hn, Rg.sent_new]
      intro j hj hj2
      have h1 := hnew j hj2
      have h2 := (h.byt k hk).lt j hj
      omega
    · rw [Rg.sent_old hm hn, Rg.sent_new]
      intro j hj hj2
      have h1 := hnew j hj
      have h2 := (h.byt m hm).lt j hj2
      omega
    · exact absurd rfl hkm

theorem Rg.sent_own {q : Rg} {x : Int × Value} (hn : q.n < q.c) {m : Nat} (hnew : ∀ j, x.2.ownBlock = some j → m ≤ j) : ∀ j, (q.sent x).own j → q.own j ∨ m ≤ j := by
  intro j hj
  rcases hj with h | h | ⟨k, hk, hj⟩
  · exact .inl (.inl h)
  · exact .inl (.inr (.inl h))
  · have hk' : k < q.n + 1 := hk
    by_cases e : k = q.n
    · subst e
      rw [Rg.sent_new] at hj
      exact .inr (hnew j hj)
    · rw [Rg.sent_old (by omega) hn] at hj
      exact .inl (.inr (.inr ⟨k, by omega, hj⟩))

/-- The ring without its first message. -/
def Rg.took (q : Rg) : Rg := ⟨q.b, q.rb, q.c, (q.f + 1) % q.c, q.n - 1, fun i => if i = q.f then (0, .slice none 0 0) else q.F i⟩

theorem Rg.took_old {q : Rg} {k : Nat} (hk : k < q.n - 1) (hn : q.n ≤ q.c) (hf : q.f < q.c) : q.took.has k = q.has (k + 1) := by
  unfold Rg.has Rg.took
  have e : ((q.f + 1) % q.c + k) % q.c = (q.f + (k + 1)) % q.c := by rw [Nat.mod_add_mod]; congr 1; omega
  have hne : ¬ (q.f + (k + 1)) % q.c = q.f := by
    have h := mod_ne (f := q.f) (c := q.c) (k := 0) (m := k + 1) (by omega) (by omega)
    rw [Nat.add_zero, Nat.mod_eq_of_lt hf] at h
    exact fun e => h e.symm
  simp only [e, if_neg hne]

theorem Rg.has_first {q : Rg} (hf : q.f < q.c) : q.has 0 = q.F q.f := by
  unfold Rg.has
  rw [Nat.add_zero, Nat.mod_eq_of_lt hf]

theorem RAt.took {w w1 : World} {q : Rg} {x : Int × List Int} {L : List (Int × List Int)} (h : RAt w q (x :: L)) (hs : Stay (fun j => j = q.b ∨ j = q.rb) w w1) (hb : RBox w1 q.b q.took.bx) (hp : Places w1 q.rb q.c q.took.F) : RAt w1 q.took L := by
  have hl := h.len
  rw [List.length_cons] at hl
  have hf := h.f1
  have hn := h.n1
  have e : ∀ k, k < q.n - 1 → q.took.has k = q.has (k + 1) := fun k hk => Rg.took_old hk hn hf
  refine ⟨hb, hp, ?_, Nat.mod_lt _ (by omega), ?_, h.c2, h.ne, fun k hk => ?_, fun k hk => ?_, fun k hk => ?_, fun k m hk hm hkm => ?_⟩
  · show L.length = q.n - 1; omega
  · show q.n - 1 ≤ q.c; omega
  · have hk' : k < q.n - 1 := hk
    rw [e k hk', h.frm (k + 1) (by omega), List.getD_cons_succ]
  · have hk' : k < q.n - 1 := hk
    have := h.byt (k + 1) (by omega)
    rw [List.getD_cons_succ] at this
    rw [e k hk']
    exact this.stay hs (fun j hj => by have := h.bb (k + 1) (by omega) j hj; omega)
  · have hk' : k < q.n - 1 := hk
    rw [e k hk']
    exact h.bb (k + 1) (by omega)
  · have hk' : k < q.n - 1 := hk
    have hm' : m < q.n - 1 := hm
    rw [e k hk', e m hm']
    exact h.ap (k + 1) (m + 1) (by omega) (by omega) (by omega)

theorem Rg.took_own {q : Rg} (hn : q.n ≤ q.c) (hf : q.f < q.c) : ∀ j, q.took.own j → q.own j := by
  intro j hj
  rcases hj with h | h | ⟨k, hk, hj⟩
  · exact .inl h
  · exact .inr (.inl h)
  · have hk' : k < q.n - 1 := hk
    rw [Rg.took_old hk' hn hf] at hj
    exact .inr (.inr ⟨k + 1, by omega, hj⟩)

/-- What was taken is by itself. -/
theorem RAt.took_apart {w : World} {q : Rg} {x : Int × List Int} {L : List (Int × List Int)} (h : RAt w q (x :: L)) : ∀ j, (q.has 0).2.ownBlock = some j → q.own j ∧ ¬ q.took.own j := by
  intro j hj
  have hl := h.len
  rw [List.length_cons] at hl
  have hb := h.bb 0 (by omega) j hj
  refine ⟨.inr (.inr ⟨0, by omega, hj⟩), ?_⟩
  rintro (e | e | ⟨k, hk, hj2⟩)
  · exact hb.1 e
  · exact hb.2 e
  · have hk' : k < q.n - 1 := hk
    rw [Rg.took_old hk' h.n1 h.f1] at hj2
    exact h.ap 0 (k + 1) (by omega) (by omega) (by omega) j hj hj2

end Go.Proofs.Ytabalnjbfhngnaa
