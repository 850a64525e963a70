/-
  A line within a call; the document's example: walked. No conditions.
-/
import Derived.Test.YtffdkkbinkonbaaD0
namespace Go.Proofs.Ytffdkkbinkonbaa
open Go.RowKit

/-- A line that was made behind a world. -/
structure LIn (w0 w : World) (b r : Nat) (o : Bool) (q : Ln) (L : List (Int × Int)) (M : List Int) : Prop where
  stay : Stay (fun _ => False) w0 w
  at' : LAt w q L M
  new : ∀ j, q.own j → w0.heap.size ≤ j
  eb : q.b = b
  er : q.r = r
  eo : q.o = o

theorem LIn.keep {w0 w w1 : World} {b r : Nat} {o : Bool} {q : Ln} {L : List (Int × Int)} {M : List Int} (h : LIn w0 w b r o q L M) (hs : Stay (fun _ => False) w w1) : LIn w0 w1 b r o q L M :=
  ⟨h.stay.trans hs, h.at'.keep hs, h.new, h.eb, h.er, h.eo⟩

theorem LIn.other {w0 w w1 : World} {b r : Nat} {o : Bool} {q : Ln} {L : List (Int × Int)} {M : List Int} {T : Nat → Prop} (h : LIn w0 w b r o q L M) (hs : Stay T w w1) (hT : ∀ j, T j → w0.heap.size ≤ j ∧ ¬ q.own j) : LIn w0 w1 b r o q L M :=
  ⟨h.stay.trans2 hs (fun j hj e => by have := (hT j e).1; omega), h.at'.stay hs (fun j hj e => (hT j e).2 hj), h.new, h.eb, h.er, h.eo⟩

/-- What turned is the line's; what is new of it is new. -/
def Moved (q q' : Ln) (w w' : World) : Prop := Stay q.own w w' ∧ ∀ j, q'.own j → q.own j ∨ w.heap.size ≤ j

theorem LIn.moved {w0 w w1 : World} {b r b' r' : Nat} {o o' : Bool} {q q' : Ln} {L L' : List (Int × Int)} {M M' : List Int} (h : LIn w0 w b r o q L M) (hm : Moved q q' w w1) (ha : LAt w1 q' L' M') (e1 : q'.b = b') (e2 : q'.r = r') (e3 : q'.o = o') : LIn w0 w1 b' r' o' q' L' M' :=
  ⟨h.stay.trans2 hm.1 (fun j hj e => by have := h.new j e; omega), ha, fun j hj => by
    rcases hm.2 j hj with h1 | h1
    · exact h.new j h1
    · exact Nat.le_trans h.stay.size h1, e1, e2, e3⟩

theorem new_in {w0 w : World} (r : Nat) (h0 : Stay (fun _ => False) w0 w) (h1 : 1 ≤ r) (h2 : r ≤ 65536) : Calls Try.prog 7 #[.int .i64 (r : Nat)] w fun e w' => ∃ q : Ln, e = .returned (.pointer (some ⟨q.b, 0, none⟩)) ∧ LIn w0 w' q.b r false q [] [] ∧ Stay (fun _ => False) w w' := by
  refine (new7 r w h1 h2).mono ?_
  rintro e w' ⟨q, he, hs, hq, hb, hv, hu, hr, ho⟩
  refine ⟨q, he, ⟨h0.trans hs, hq, fun j hj => ?_, rfl, hr, ho⟩, hs⟩
  rcases hj with hj | hj | hj
  · rw [hj, hb]; exact h0.size
  · rw [hv] at hj; cases hj
  · rw [hu] at hj; cases hj

theorem receive_in {w0 w : World} {b r : Nat} {o : Bool} {q : Ln} {L : List (Int × Int)} {M : List Int} (x f : Int) (ok : Bool) (h : LIn w0 w b r o q L M) (hok : decide (L.length < r) = ok) : Calls Try.prog 9 #[.pointer (some ⟨b, 0, none⟩), .int .u8 x, .int .i64 f] w fun e w' => ∃ q' : Ln, e = .returned (.bool ok) ∧ LIn w0 w' b r (!ok) q' (if ok then L ++ [(x, flagB o f)] else L) M ∧ Moved q q' w w' := by
  obtain ⟨e1, e2, e3⟩ : q.b = b ∧ q.r = r ∧ q.o = o := ⟨h.eb, h.er, h.eo⟩
  subst e1 e2 e3 hok
  refine (receive9 q L M x f w h.at').mono ?_
  rintro e w' ⟨v, u, he, hl, hs, ho⟩
  refine ⟨_, he, h.moved ⟨hs, ho⟩ ?_ rfl rfl rfl, ⟨hs, ho⟩⟩
  by_cases hk : L.length < q.r
  · rw [if_pos hk] at hl
    rw [decide_eq_true hk] at hl ⊢
    exact hl
  · rw [if_neg hk] at hl
    rw [decide_eq_false hk] at hl ⊢
    exact hl

theorem moved_q {q : Ln} {v u : Value} {w w' : World} (hs : Stay (fun j => j = q.b) w w') (hv : ∀ j, v.ownBlock = some j → q.v.ownBlock = some j) (hu : ∀ j, u.ownBlock = some j → q.u.ownBlock = some j) : Moved q (q.with v u) w w' :=
  ⟨hs.mono (fun j _ e => .inl e), fun j hj => .inl (by
    rcases hj with hj | hj | hj
    · exact .inl hj
    · exact .inr (.inl (hv j hj))
    · exact .inr (.inr (hu j hj)))⟩

theorem read_no {w0 w : World} {b r : Nat} {o : Bool} {q : Ln} {M : List Int} (h : LIn w0 w b r o q [] M) : Calls Try.prog 10 #[.pointer (some ⟨b, 0, none⟩)] w fun e w' => ∃ q' : Ln, e = .returned (.tuple #[.agg #[.int .u8 0, .int .i64 0], .bool false]) ∧ LIn w0 w' b r o q' [] M ∧ Moved q q' w w' := by
  obtain ⟨e1, e2, e3⟩ : q.b = b ∧ q.r = r ∧ q.o = o := ⟨h.eb, h.er, h.eo⟩
  subst e1 e2 e3
  refine (read10_no q M w h.at').mono ?_
  rintro e w' ⟨v, he, hl, hs, ho⟩
  have hm := moved_q (u := q.u) hs ho (fun _ h => h)
  exact ⟨_, he, h.moved hm hl rfl rfl rfl, hm⟩

theorem read_in {w0 w : World} {b r : Nat} {o : Bool} {q : Ln} {x f : Int} {L : List (Int × Int)} {M : List Int} (h : LIn w0 w b r o q ((x, f) :: L) M) : Calls Try.prog 10 #[.pointer (some ⟨b, 0, none⟩)] w fun e w' => ∃ q' : Ln, e = .returned (.tuple #[.agg #[.int .u8 x, .int .i64 f], .bool true]) ∧ LIn w0 w' b r o q' L M ∧ Moved q q' w w' := by
  obtain ⟨e1, e2, e3⟩ : q.b = b ∧ q.r = r ∧ q.o = o := ⟨h.eb, h.er, h.eo⟩
  subst e1 e2 e3
  refine (read10 q x f L M w h.at').mono ?_
  rintro e w' ⟨v, he, hl, hs, ho⟩
  have hm := moved_q (u := q.u) hs ho (fun _ h => h)
  exact ⟨_, he, h.moved hm hl rfl rfl rfl, hm⟩

theorem send_in {w0 w : World} {b r : Nat} {o : Bool} {q : Ln} {L : List (Int × Int)} {M : List Int} (sa : Option Addr) (m cap k : Nat) (K : List Int) (h : LIn w0 w b r o q L M) (hs : Src w sa m (bys K)) (hm : K.length = m) (hmc : m ≤ cap) (hm1 : m ≤ 200000) (hk : k = min m (r - M.length)) : Calls Try.prog 11 #[.pointer (some ⟨b, 0, none⟩), .slice sa m cap] w fun e w' => ∃ q' : Ln, e = .returned (.int .i64 (k : Nat)) ∧ LIn w0 w' b r o q' L (M ++ K.take k) ∧ Moved q q' w w' := by
  obtain ⟨e1, e2, e3⟩ : q.b = b ∧ q.r = r ∧ q.o = o := ⟨h.eb, h.er, h.eo⟩
  subst e1 e2 e3
  refine (send11 q L M sa m cap k K w h.at' hs hm hmc hm1 hk).mono ?_
  rintro e w' ⟨v, u, he, hl, hs, ho⟩
  exact ⟨_, he, h.moved ⟨hs, ho⟩ hl rfl rfl rfl, ⟨hs, ho⟩⟩

theorem sent_in {w0 w : World} {b r : Nat} {o : Bool} {q : Ln} {L : List (Int × Int)} {M : List Int} (n : Int) (k : Nat) (h : LIn w0 w b r o q L M) (hk : (k : Int) = min (max n 0) (M.length : Nat)) : Calls Try.prog 13 #[.pointer (some ⟨b, 0, none⟩), .int .i64 n] w fun e w' => ∃ (q' : Ln) (t : Value), e = .returned t ∧ w'.ownsRow w.heap.size 5 1 t k (bys (M.take k)) ∧ LIn w0 w' b r o q' L (M.drop k) ∧ Moved q q' w w' := by
  obtain ⟨e1, e2, e3⟩ : q.b = b ∧ q.r = r ∧ q.o = o := ⟨h.eb, h.er, h.eo⟩
  subst e1 e2 e3
  refine (sent13 q L M n k w h.at' hk).mono ?_
  rintro e w' ⟨t, v, he, ht, hl, hs, ho⟩
  have hm := moved_q (v := q.v) hs (fun _ h => h) ho
  exact ⟨_, t, he, ht, h.moved hm hl rfl rfl rfl, hm⟩

theorem waits_in {w0 w : World} {b r : Nat} {o : Bool} {q : Ln} {L : List (Int × Int)} {M : List Int} (n m : Nat) (h : LIn w0 w b r o q L M) (hn : L.length = n) (hm : M.length = m) : Calls Try.prog 14 #[.pointer (some ⟨b, 0, none⟩)] w fun e w' => e = .returned (.tuple #[.int .i64 (n : Nat), .int .i64 (m : Nat)]) ∧ LIn w0 w' b r o q L M ∧ Stay (fun _ => False) w w' := by
  have e1 := h.eb
  subst e1 hn hm
  refine (waits14 q L M w h.at').mono ?_
  rintro e w' ⟨he, hs⟩
  exact ⟨he, h.keep hs, hs⟩

theorem extract0 (x y : Value) (w : World) : (Instr.extract (.tuple #[x, y]) 0).run Try.prog w = .ok x w := rfl
theorem extract1 (x y : Value) (w : World) : (Instr.extract (.tuple #[x, y]) 1).run Try.prog w = .ok y w := rfl

attribute [local go_sem] extract0 extract1

set_option maxRecDepth 100000 in
theorem awake6 (w : World) : Calls Try.prog 6 #[] w (LawTrue w) := by
  have HN := hide' (new_in (w0 := w) 1 (Stay.refl _ w) (by decide) (by decide))
  go_enter Try.func6, Try.ntmps6
  go_wp2_with fail
  refine HN.out.mono ?_
  rintro e w0 ⟨q0, rfl, hi, _⟩
  obtain ⟨b, hb⟩ : ∃ b, b = q0.b := ⟨_, rfl⟩
  rw [← hb] at hi
  rw [← hb]
  have HR1 := hide' (receive_in 97 0 true hi rfl)
  clear hi hb HN
  go_wp2_with fail
  refine HR1.out.mono ?_
  rintro e w1 ⟨q1, rfl, hi, _⟩
  have HR2 := hide' (receive_in 98 0 false hi rfl)
  clear hi HR1
  go_wp2_with fail
  refine HR2.out.mono ?_
  rintro e w2 ⟨q2, rfl, hi, _⟩
  have hi2 : LIn w w2 b 1 true q2 [(97, 0)] [] := by
    have := hi
    simpa [flagB, show bits .and .i64 0 6 = 0 by decide] using this
  have HR3 := hide' (read_in hi2)
  clear hi hi2 HR2
  go_wp2_with fail
  refine HR3.out.mono ?_
  rintro e w3 ⟨q3, rfl, hi, _⟩
  have HI3 := hide' hi
  clear hi HR3
  go_upto_region 5 with fail
  obtain ⟨B4, hB⟩ : ∃ B, B = w3.heap.size := ⟨_, rfl⟩
  obtain ⟨w4, hW⟩ : ∃ W, W = w3.alloc (.cells #[.int .u8 97, .int .i64 0] 36) := ⟨_, rfl⟩
  have HBX4 : Hid (IBox w4 B4 ⟨97, 0⟩) := by rw [hW]; exact IBox.new ⟨97, 0⟩ hB.symm
  have hi4 : LIn w w4 b 1 true q3 [] [] := by rw [hW]; exact HI3.out.keep ((Stay.refl _ _).alloc _)
  have HNO : Hid (¬ q3.own B4) := fun h => by have := HI3.out.at'.lt B4 h; omega
  have HBL : Hid (B4 < w4.heap.size) := HBX4.out.lt
  have HR5 := hide' (receive_in 99 0 true hi4 rfl)
  rw [← hW, ← hB]
  clear hW hB hi4 HI3
  go_wp2_with fail
  refine HR5.out.mono ?_
  rintro e w5 ⟨q4, rfl, hi, hm⟩
  have HBX5 := hide' (HBX4.out.stay hm.1 HNO.out)
  have HNO5 : Hid (¬ q4.own B4) := fun h => by
    rcases hm.2 B4 h with h | h
    · exact HNO.out h
    · have := HBL.out; omega
  have hi2 : LIn w w5 b 1 false q4 [(99, 1)] [] := by
    have := hi
    simpa [flagB, show bits .and .i64 0 6 = 0 by decide, show bits .or .i64 0 1 = 1 by decide] using this
  have HR6 := hide' (read_in hi2)
  clear hi hm hi2 HR5 HBX4 HNO HBL
  go_wp2_with fail
  refine HR6.out.mono ?_
  rintro e w6 ⟨q5, rfl, hi, hm⟩
  have hbx := HBX5.out.stay hm.1 HNO5.out
  have HS6 := hide' hi.stay
  have c0 : ∀ o : Obj, (w6.alloc o).cell? ⟨B4, 0, none⟩ = some (.int .u8 97) := fun o => (hbx.alloc o).c0
  have c1 : ∀ o : Obj, (w6.alloc o).cell? ⟨B4, 1, none⟩ = some (.int .i64 0) := fun o => (hbx.alloc o).c1
  clear hbx hi hm HBX5 HNO5 HR6
  go_wp2
  go_ret
  exact ⟨rfl, HS6.out.alloc _⟩

end Go.Proofs.Ytffdkkbinkonbaa
