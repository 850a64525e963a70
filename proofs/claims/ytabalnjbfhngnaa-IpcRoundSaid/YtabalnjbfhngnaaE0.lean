/-
  A ring within a call; the document's example, walked. No conditions.
-/
import Derived.Test.YtabalnjbfhngnaaD0
namespace Go.Proofs.Ytabalnjbfhngnaa
open Go.RowKit

/-- A ring that was made behind a world. -/
structure RIn (w0 w : World) (b c : Nat) (q : Rg) (L : List (Int × List Int)) : Prop where
  stay : Stay (fun _ => False) w0 w
  at' : RAt w q L
  new : ∀ j, q.own j → w0.heap.size ≤ j
  eb : q.b = b
  ec : q.c = c

theorem RIn.keep {w0 w w1 : World} {b c : Nat} {q : Rg} {L : List (Int × List Int)} (h : RIn w0 w b c q L) (hs : Stay (fun _ => False) w w1) : RIn w0 w1 b c q L := ⟨h.stay.trans hs, h.at'.keep hs, h.new, h.eb, h.ec⟩

theorem RIn.beside {T : Nat → Prop} {w0 w w1 : World} {b c : Nat} {q : Rg} {L : List (Int × List Int)} (h : RIn w0 w b c q L) (hs : Stay T w w1) (hT : ∀ j, T j → w0.heap.size ≤ j ∧ ¬ q.own j) : RIn w0 w1 b c q L :=
  ⟨h.stay.trans2 hs (fun j hj e => by have := (hT j e).1; omega), h.at'.stay hs (fun j hj e => (hT j e).2 hj), h.new, h.eb, h.ec⟩

/-- What turned is the ring's; what is new of it is new. -/
def Moved (q q' : Rg) (w w' : World) : Prop := Stay q.own w w' ∧ ∀ j, q'.own j → q.own j ∨ w.heap.size ≤ j

theorem RIn.moved {w0 w w1 : World} {b c : Nat} {q q' : Rg} {L L' : List (Int × List Int)} (h : RIn w0 w b c q L) (hm : Moved q q' w w1) (ha : RAt w1 q' L') (e1 : q'.b = b) (e2 : q'.c = c) : RIn w0 w1 b c q' L' :=
  ⟨h.stay.trans2 hm.1 (fun j hj e => by have := h.new j e; omega), ha, fun j hj => by
    rcases hm.2 j hj with h1 | h1
    · exact h.new j h1
    · exact Nat.le_trans h.stay.size h1, e1, e2⟩

/-- A block of no ring's stays so. -/
theorem Moved.not {q q' : Rg} {w w' : World} (hm : Moved q q' w w') {j : Nat} (h1 : ¬ q.own j) (h2 : j < w.heap.size) : ¬ q'.own j := fun e => by
  rcases hm.2 j e with h | h
  · exact h1 h
  · omega

theorem isRow_len {w : World} {a : Option Addr} {m c : Nat} {l : List Int} (h : IsRow w (.slice a m c) (bys l)) : m = l.length := by
  rcases h with ⟨h, h0⟩ | ⟨ad, k, d, h, h1, _⟩
  · cases h
    rw [← bys_len, h0]; rfl
  · cases h
    rw [← bys_len, h1]

theorem isRow_bytes {w : World} {v : Value} {l : List Int} {a : Option Addr} {cap : Nat} (h : IArg .u8 w v l a cap) : IsRow w v (bys l) := h.row

theorem Holds.row {w : World} {v : Value} {l : List Int} (h : Holds w v l) : IsRow w v (bys l) := isRow_of_owns h

theorem new_in {w0 w : World} (r : Nat) (h0 : Stay (fun _ => False) w0 w) (h1 : 1 ≤ r) (h2 : r ≤ 4096) : Calls Try.prog 8 #[.int .i64 (r : Nat)] w fun e w' => ∃ q : Rg, e = .returned (.pointer (some ⟨q.b, 0, none⟩)) ∧ RIn w0 w' q.b r q [] ∧ Stay (fun _ => False) w w' ∧ ∀ j, q.own j → w.heap.size ≤ j := by
  refine (new8 r w h1 h2).mono ?_
  rintro e w' ⟨q, he, hs, hq, hb, hr, hc, hn⟩
  have hown : ∀ j, q.own j → w.heap.size ≤ j := fun j hj => by
    rcases hj with hj | hj | ⟨k, hk, _⟩
    · rw [hj]; exact hb
    · rw [hj]; exact hr
    · omega
  exact ⟨q, he, ⟨h0.trans hs, hq, fun j hj => Nat.le_trans h0.size (hown j hj), rfl, hc⟩, hs, hown⟩

theorem send_in {w0 w : World} {b c : Nat} {q : Rg} {L : List (Int × List Int)} (x : Int) (sa : Option Addr) (m cap : Nat) (l : List Int) (h : RIn w0 w b c q L) (hr : IsRow w (.slice sa m cap) (bys l)) (hl : l.length ≤ 4096) (hn : L.length < c) : Calls Try.prog 12 #[.pointer (some ⟨b, 0, none⟩), .int .i64 x, .slice sa m cap] w fun e w' => ∃ q' : Rg, e = .returned (.int .i64 0) ∧ RIn w0 w' b c q' (L ++ [(x, l)]) ∧ Moved q q' w w' := by
  obtain ⟨e1, e2⟩ : q.b = b ∧ q.c = c := ⟨h.eb, h.ec⟩
  subst e1 e2
  have hlen := h.at'.len
  have hn' : q.n < q.c := by omega
  refine (send12 q L x sa m cap l w h.at' hr hl (by rw [isRow_len hr]; exact hl) hn').mono ?_
  rintro e w' ⟨v, he, hq, hs, hv⟩
  have hm : Moved q (q.sent (x, v)) w w' := ⟨hs.mono (fun j _ e => e.elim (fun e => .inl e) (fun e => .inr (.inl e))), Rg.sent_own hn' hv⟩
  exact ⟨_, he, h.moved hm hq rfl rfl, hm⟩

theorem send_full {w0 w : World} {b c : Nat} {q : Rg} {L : List (Int × List Int)} (x : Int) (sa : Option Addr) (m cap : Nat) (h : RIn w0 w b c q L) (hm : m ≤ 4096) (hn : c ≤ L.length) : Calls Try.prog 12 #[.pointer (some ⟨b, 0, none⟩), .int .i64 x, .slice sa m cap] w fun e w' => e = .returned (.int .i64 3) ∧ RIn w0 w' b c q L ∧ Stay (fun _ => False) w w' := by
  obtain ⟨e1, e2⟩ : q.b = b ∧ q.c = c := ⟨h.eb, h.ec⟩
  subst e1 e2
  have hlen := h.at'.len
  have hn1 := h.at'.n1
  refine (send12_full q L x sa m cap w h.at' hm (by omega)).mono ?_
  rintro e w' ⟨he, hs⟩
  exact ⟨he, h.keep hs, hs⟩

theorem send_long {w0 w : World} {b c : Nat} {q : Rg} {L : List (Int × List Int)} (x : Int) (sa : Option Addr) (m cap : Nat) (h : RIn w0 w b c q L) (hm : 4096 < m) : Calls Try.prog 12 #[.pointer (some ⟨b, 0, none⟩), .int .i64 x, .slice sa m cap] w fun e w' => e = .returned (.int .i64 10) ∧ RIn w0 w' b c q L ∧ Stay (fun _ => False) w w' := by
  refine (send12_long b x sa m cap w hm).mono ?_
  rintro e w' ⟨he, hs⟩
  exact ⟨he, h.keep hs, hs⟩

theorem take_none {w0 w : World} {b c : Nat} {q : Rg} (h : RIn w0 w b c q []) : Calls Try.prog 9 #[.pointer (some ⟨b, 0, none⟩)] w fun e w' => e = .returned (.tuple #[.agg #[.int .i64 0, .slice none 0 0], .bool false]) ∧ RIn w0 w' b c q [] ∧ Stay (fun _ => False) w w' := by
  have e1 : q.b = b := h.eb
  subst e1
  refine (take9_none q w h.at').mono ?_
  rintro e w' ⟨he, hs⟩
  exact ⟨he, h.keep hs, hs⟩

theorem take_in {w0 w : World} {b c : Nat} {q : Rg} {x : Int} {l : List Int} {L : List (Int × List Int)} (h : RIn w0 w b c q ((x, l) :: L)) : Calls Try.prog 9 #[.pointer (some ⟨b, 0, none⟩)] w fun e w' => ∃ (q' : Rg) (a : Option Addr) (k d : Nat), e = .returned (.tuple #[.agg #[.int .i64 x, .slice a k d], .bool true]) ∧ RIn w0 w' b c q' L ∧ Moved q q' w w' ∧ Holds w' (.slice a k d) l ∧ ∀ j, (Value.slice a k d).ownBlock = some j → w0.heap.size ≤ j ∧ ¬ q'.own j := by
  obtain ⟨e1, e2⟩ : q.b = b ∧ q.c = c := ⟨h.eb, h.ec⟩
  subst e1 e2
  refine (take9 q x l L w h.at').mono ?_
  rintro e w' ⟨a, k, d, he, hq, hh, hs, hap⟩
  have hm : Moved q q.took w w' := ⟨hs.mono (fun j _ e => e.elim (fun e => .inl e) (fun e => .inr (.inl e))), fun j hj => .inl (Rg.took_own h.at'.n1 h.at'.f1 j hj)⟩
  exact ⟨_, a, k, d, he, h.moved hm hq rfl rfl, hm, hh, fun j hj => ⟨h.new j (hap j hj).1, (hap j hj).2⟩⟩

theorem len_in {w0 w : World} {b c : Nat} {q : Rg} {L : List (Int × List Int)} (n : Nat) (h : RIn w0 w b c q L) (hn : L.length = n) : Calls Try.prog 13 #[.pointer (some ⟨b, 0, none⟩)] w fun e w' => e = .returned (.int .i64 (n : Nat)) ∧ RIn w0 w' b c q L ∧ Stay (fun _ => False) w w' := by
  have e1 := h.eb
  have e2 := h.at'.len
  subst e1 hn
  rw [e2]
  refine (len13 q w h.at'.box).mono ?_
  rintro e w' ⟨he, hs⟩
  exact ⟨he, h.keep hs, hs⟩

theorem bytes_new (w : World) (cs : Array Value) (l : List Int) (n : Nat) (hn : cs.size = n) (hc : cs.toList = bys l) (hm : n ≤ maxLen) : Holds (w.alloc (.cells cs 5)) (.slice (some ⟨w.heap.size, 0, none⟩) n n) l := by
  subst hn
  have h := owns_new w cs 5 hm
  have e : cs.size = l.length := by rw [← Array.length_toList, hc, bys_len]
  rw [hc, e] at h
  unfold Holds
  rw [e]
  exact ownsRow_base h (Nat.zero_le _)

set_option maxRecDepth 100000 in
theorem awake7 (w : World) : Calls Try.prog 7 #[] w (LawTrue w) := by
  have HN := hide' (new_in (w0 := w) 1 (Stay.refl _ w) (by decide) (by decide))
  go_enter Try.func7, Try.ntmps7
  go_wp2_with fail
  refine HN.out.mono ?_
  rintro e w0 ⟨q0, rfl, hi, _, hown⟩
  obtain ⟨b, hb⟩ : ∃ b, b = q0.b := ⟨_, rfl⟩
  rw [← hb] at hi
  rw [← hb]
  obtain ⟨W, hW⟩ : ∃ W, W = w0.alloc (.cells #[.int .u8 7] 5) := ⟨_, rfl⟩
  have hi1 : RIn w W b 1 q0 [] := by rw [hW]; exact hi.keep ((Stay.refl _ _).alloc _)
  have hrow : Holds W (.slice (some ⟨w0.heap.size, 0, none⟩) 1 1) [7] := by rw [hW]; exact bytes_new w0 #[.int .u8 7] [7] 1 rfl rfl (by unfold maxLen; decide)
  have HR1 := hide' (send_in 1 (some ⟨w0.heap.size, 0, none⟩) 1 1 [7] hi1 hrow.row (by decide) (by decide))
  have HW := hide' hW
  clear hi hb HN hown hi1 hrow hW
  go_wp2_with (rw [← HW.out])
  refine HR1.out.mono ?_
  rintro e w1 ⟨q1, rfl, hi, _⟩
  have HR2 := hide' (send_full 1 none 0 0 hi (by decide) (by decide))
  clear hi HR1
  go_wp2_with fail
  refine HR2.out.mono ?_
  rintro e w2 ⟨rfl, hi, _⟩
  have HR3 := hide' (len_in 1 hi rfl)
  clear hi HR2
  go_wp2_with fail
  refine HR3.out.mono ?_
  rintro e w3 ⟨rfl, hi, _⟩
  have HS3 := hide' hi.stay
  clear hi HR3
  go_wp2
  go_ret
  exact ⟨rfl, HS3.out⟩

end Go.Proofs.Ytabalnjbfhngnaa
