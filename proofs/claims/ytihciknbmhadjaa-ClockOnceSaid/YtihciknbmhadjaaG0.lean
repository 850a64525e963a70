/-
  A clock within a call; the document's example, walked. No conditions.
-/
import Derived.Test.YtihciknbmhadjaaF1
namespace Go.Proofs.Ytihciknbmhadjaa
open Go.RowKit

/-- A clock that was made behind a world. -/
structure CIn (w0 w : World) (b : Nat) (q : Cq) (now : Int) (L : List Tm) : Prop where
  stay : Stay (fun _ => False) w0 w
  at' : CAt w q now L
  new : ∀ j, q.own j → w0.heap.size ≤ j
  eb : q.b = b

theorem CIn.keep {w0 w w1 : World} {b : Nat} {q : Cq} {now : Int} {L : List Tm} (h : CIn w0 w b q now L) (hs : Stay (fun _ => False) w w1) : CIn w0 w1 b q now L := ⟨h.stay.trans hs, h.at'.keep hs, h.new, h.eb⟩

theorem CIn.moved {w0 w w1 : World} {b : Nat} {q q' : Cq} {now now' : Int} {L L' : List Tm} (h : CIn w0 w b q now L) (hm : Moved q q' w w1) (ha : CAt w1 q' now' L') (e1 : q'.b = b) : CIn w0 w1 b q' now' L' :=
  ⟨h.stay.trans2 hm.1 (fun j hj e => by have := h.new j e; omega), ha, fun j hj => by
    rcases hm.2 j hj with h1 | h1
    · exact h.new j h1
    · exact Nat.le_trans h.stay.size h1, e1⟩

theorem new_in {w0 w : World} (h0 : Stay (fun _ => False) w0 w) : Calls Try.prog 8 #[] w fun e w' => ∃ q : Cq, e = .returned (.pointer (some ⟨q.b, 0, none⟩)) ∧ CIn w0 w' q.b q 0 [] ∧ Stay (fun _ => False) w w' := by
  refine (new8 w).mono ?_
  rintro e w' ⟨q, he, hq, hs, hn⟩
  exact ⟨q, he, ⟨h0.trans hs, hq, fun j hj => Nat.le_trans h0.size (hn j hj), rfl⟩, hs⟩

/-- What a call that turns the clock gives. -/
def Gave (w0 : World) (b : Nat) (q : Cq) (now : Int) (L : List Tm) (x : Value) (w : World) (e : Ending) (w' : World) : Prop := ∃ q' : Cq, e = .returned x ∧ CIn w0 w' b q' now L ∧ Moved q q' w w'

/-- What a call that leaves the clock gives. -/
def Left (w0 : World) (b : Nat) (q : Cq) (now : Int) (L : List Tm) (x : Value) (w : World) (e : Ending) (w' : World) : Prop := e = .returned x ∧ CIn w0 w' b q now L ∧ Stay (fun _ => False) w w'

theorem set_in {w0 w : World} {b : Nat} {q : Cq} {now : Int} {L M : List Tm} (e k x : Int) (h : CIn w0 w b q now L) (h0 : 0 ≤ e) (h1 : 0 ≤ k) (h2 : 1 ≤ x) (h3 : x ≤ 1073741824) (hl : L.length < 1024 ∨ L.any (isB e k) = true) (hM : M = insT ⟨e, k, now + x⟩ (outL (isB e k) L)) : Calls Try.prog 10 #[.pointer (some ⟨b, 0, none⟩), .int .i64 e, .int .i64 k, .int .i64 x] w (Gave w0 b q now M (.int .i64 0) w) := by
  have e1 := h.eb
  subst e1 hM
  refine (set10 q now e k x L w h.at' h0 h1 h2 h3 hl).mono ?_
  rintro E w' ⟨v, he, hc, hm⟩
  exact ⟨_, he, h.moved hm hc rfl, hm⟩

theorem set_full {w0 w : World} {b : Nat} {q : Cq} {now : Int} {L : List Tm} (e k x : Int) (h : CIn w0 w b q now L) (h0 : 0 ≤ e) (h1 : 0 ≤ k) (h2 : 1 ≤ x) (h3 : x ≤ 1073741824) (hl : L.length = 1024) (ha : L.any (isB e k) = false) : Calls Try.prog 10 #[.pointer (some ⟨b, 0, none⟩), .int .i64 e, .int .i64 k, .int .i64 x] w (Left w0 b q now L (.int .i64 3) w) := by
  have e1 := h.eb
  subst e1
  refine (set10_full q now e k x L w h.at' h0 h1 h2 h3 hl ha).mono ?_
  rintro E w' ⟨he, hs⟩
  exact ⟨he, h.keep hs, hs⟩

theorem set_bad {w0 w : World} {b : Nat} {q : Cq} {now : Int} {L : List Tm} (e k x : Int) (h : CIn w0 w b q now L) (hb : setE e k x ≠ 0) : Calls Try.prog 10 #[.pointer (some ⟨b, 0, none⟩), .int .i64 e, .int .i64 k, .int .i64 x] w (Left w0 b q now L (.int .i64 (setE e k x)) w) := by
  have e1 := h.eb
  subst e1
  have key : Calls Try.prog 10 #[.pointer (some ⟨q.b, 0, none⟩), .int .i64 e, .int .i64 k, .int .i64 x] w (Gives (.int .i64 (setE e k x)) w) := by
    unfold setE at hb ⊢
    by_cases h0 : e < 0
    · rw [if_pos (.inl h0)]
      exact set10_env q e k x w h0
    · by_cases h1 : k < 0
      · rw [if_pos (.inr h1)]
        exact set10_id q e k x w (by omega) h1
      · rw [if_neg (by omega)] at hb ⊢
        by_cases h2 : x < 1
        · rw [if_pos (.inl h2)]
          exact set10_low q e k x w (by omega) (by omega) h2
        · by_cases h3 : 1073741824 < x
          · rw [if_pos (.inr h3)]
            exact set10_high q e k x w (by omega) (by omega) (by omega) h3
          · rw [if_neg (by omega)] at hb
            exact absurd rfl hb
  refine key.mono ?_
  rintro E w' ⟨he, hs⟩
  exact ⟨he, h.keep hs, hs⟩

theorem cancel_in {w0 w : World} {b : Nat} {q : Cq} {now : Int} {L M : List Tm} {z : Bool} (e k : Int) (h : CIn w0 w b q now L) (hM : M = outL (isB e k) L) (hz : z = decide (0 < goneI (isB e k) L)) : Calls Try.prog 13 #[.pointer (some ⟨b, 0, none⟩), .int .i64 e, .int .i64 k] w (Gave w0 b q now M (.bool z) w) := by
  have e1 := h.eb
  subst e1 hM hz
  refine (cancel13 q now e k L w h.at').mono ?_
  rintro E w' ⟨v, he, hc, hm⟩
  exact ⟨_, he, h.moved hm hc rfl, hm⟩

theorem kill_in {w0 w : World} {b : Nat} {q : Cq} {now : Int} {L M : List Tm} {z : Int} (e : Int) (h : CIn w0 w b q now L) (hM : M = outL (ofB e) L) (hz : z = goneI (ofB e) L) : Calls Try.prog 16 #[.pointer (some ⟨b, 0, none⟩), .int .i64 e] w (Gave w0 b q now M (.int .i64 z) w) := by
  have e1 := h.eb
  subst e1 hM hz
  refine (kill16 q now e L w h.at').mono ?_
  rintro E w' ⟨v, he, hc, hm⟩
  exact ⟨_, he, h.moved hm hc rfl, hm⟩

theorem now_in {w0 w : World} {b : Nat} {q : Cq} {now : Int} {L : List Tm} (h : CIn w0 w b q now L) : Calls Try.prog 17 #[.pointer (some ⟨b, 0, none⟩)] w (Left w0 b q now L (.int .i64 now) w) := by
  have e1 := h.eb
  subst e1
  refine (now17 q now L w h.at').mono ?_
  rintro E w' ⟨he, hs⟩
  exact ⟨he, h.keep hs, hs⟩

/-- Timers that were handed out, in a row of their own. -/
structure Out (w : World) (q : Cq) (lo : Nat) (a : Option Addr) (c : Nat) (D : List Tm) : Prop where
  rd : Rd w a D
  le : D.length ≤ c
  off : ∀ j, a.map Addr.block = some j → lo ≤ j ∧ ¬ q.own j

theorem Out.keep {w w1 : World} {q : Cq} {lo : Nat} {a : Option Addr} {c : Nat} {D : List Tm} (h : Out w q lo a c D) (hs : Stay (fun _ => False) w w1) : Out w1 q lo a c D := ⟨h.rd.keep hs, h.le, h.off⟩

/-- What a call that hands out timers gives. -/
def Hands (w0 : World) (b : Nat) (q : Cq) (now : Int) (L D : List Tm) (n : Nat) (w : World) (e : Ending) (w' : World) : Prop := ∃ (q' : Cq) (a : Option Addr) (c : Nat), e = .returned (.slice a n c) ∧ CIn w0 w' b q' now L ∧ Moved q q' w w' ∧ Out w' q' w.heap.size a c D

theorem all_in {w0 w : World} {b : Nat} {q : Cq} {now : Int} {L : List Tm} {n : Nat} (h : CIn w0 w b q now L) (hn : L.length = n) : Calls Try.prog 18 #[.pointer (some ⟨b, 0, none⟩)] w (Hands w0 b q now L L n w) := by
  have e1 := h.eb
  subst e1 hn
  refine (all18 q now L w h.at').mono ?_
  rintro E w' ⟨a, c, he, hs, hr, hl, hf⟩
  exact ⟨q, a, c, he, h.keep hs, Moved.of_stay hs, hr, hl, fun j hj => ⟨hf j hj, fun e => by have h1 := hf j hj; have h2 := h.at'.lt j e; omega⟩⟩

theorem tick_in {w0 w : World} {b : Nat} {q : Cq} {now x : Int} {L D R : List Tm} {n : Nat} (h : CIn w0 w b q now L) (hb : now < 1000000) (hx : now + 1 = x) (hn : dueN x L = n) (hD : L.take n = D) (hR : L.drop n = R) : Calls Try.prog 15 #[.pointer (some ⟨b, 0, none⟩)] w (Hands w0 b q x R D n w) := by
  have e1 := h.eb
  subst e1 hx hn hD hR
  refine (tick15 q now L w h.at' hb).mono ?_
  rintro E w' ⟨v, a, c, he, hc, hm, hr, hl, hf⟩
  exact ⟨_, a, c, he, h.moved hm hc rfl, hm, hr, by rw [List.length_take]; have := dueN_le (now + 1) L; omega, fun j hj => hf j hj⟩

theorem Rd.first {w : World} {a : Option Addr} {t : Tm} {D : List Tm} (h : Rd w a (t :: D)) : ∃ g o, a = some ⟨g, o, none⟩ ∧ TBoxAt w g o t := by
  obtain ⟨g, o, e, hb⟩ := h 0 t rfl
  exact ⟨g, o, e, by rwa [Nat.zero_mul, Nat.add_zero] at hb⟩

/-- The example's timer. -/
def t0 : Tm := ⟨1, 2, 2⟩

theorem awake7 (w : World) : Calls Try.prog 7 #[] w (Gives (.bool true) w) := by
  have HN := hide' (new_in (w0 := w) (Stay.refl _ w))
  go_enter Try.func7, Try.ntmps7
  go_wp2_with fail
  refine HN.out.mono ?_
  rintro e w1 ⟨q0, rfl, hi, _⟩
  obtain ⟨b, hb⟩ : ∃ b, b = q0.b := ⟨_, rfl⟩
  rw [← hb] at hi
  rw [← hb]
  have HS := hide' (set_in (M := [t0]) 1 2 2 hi (by decide) (by decide) (by decide) (by decide) (.inl (by decide)) rfl)
  clear hi hb HN
  go_wp2_with fail
  refine HS.out.mono ?_
  rintro e w2 ⟨q1, rfl, hi, _⟩
  have HT := hide' (tick_in (x := 1) (n := 0) (D := []) (R := [t0]) hi (by decide) (by decide) (by decide) rfl rfl)
  clear hi HS
  go_wp2_with fail
  refine HT.out.mono ?_
  rintro e w3 ⟨q2, a3, c3, rfl, hi, _, _⟩
  have HT2 := hide' (tick_in (x := 2) (n := 1) (D := [t0]) (R := []) hi (by decide) (by decide) (by decide) rfl rfl)
  clear hi HT
  go_wp2_with fail
  refine HT2.out.mono ?_
  rintro e w4 ⟨q3, a4, c4, rfl, hi, _, ho⟩
  obtain ⟨g, o, rfl, hb⟩ := ho.rd.first
  have HW := hide' (now_in hi)
  obtain ⟨k0, k1, k2⟩ := hb
  simp only [t0] at k0 k1 k2
  clear hi ho HT2
  go_wp2_with fail
  refine HW.out.mono ?_
  rintro e w5 ⟨rfl, hi, _⟩
  have HF := hide' hi.stay
  clear hi HW k0 k1 k2
  go_wp2
  go_ret
  exact ⟨rfl, HF.out⟩

end Go.Proofs.Ytihciknbmhadjaa
