/-
  A frame within a call; the document's example: walked. No conditions.
-/
import Derived.Test.YtcealbdinbfegaaF2
import Derived.Test.YtcealbdinbfegaaF3
namespace Go.Proofs.Ytcealbdinbfegaa
open Go.RowKit

/-- A frame that was made behind a world. -/
structure FIn (w0 w : World) (b a h : Nat) (q : Fm) (f : Nat → Cl) (L : List Wr) : Prop where
  stay : Stay (fun _ => False) w0 w
  at' : FAt w q f L
  new : ∀ j, q.own j → w0.heap.size ≤ j
  eb : q.b = b
  ew : q.G.w = a
  eh : q.G.h = h

theorem Stay.trans3 {T : Nat → Prop} {w w1 w2 : World} (h : Stay (fun _ => False) w w1) (k : Stay T w1 w2) (e : ∀ j, T j → w.heap.size ≤ j) : Stay (fun _ => False) w w2 :=
  h.trans2 k (fun j hj t => by have := e j t; omega)

variable {w0 w w1 : World} {b a h n : Nat} {q q' : Fm} {f f' : Nat → Cl} {L L' : List Wr}

theorem FIn.keep (i : FIn w0 w b a h q f L) (hs : Stay (fun _ => False) w w1) : FIn w0 w1 b a h q f L := ⟨i.stay.trans hs, i.at'.keep hs, i.new, i.eb, i.ew, i.eh⟩

theorem FIn.other {T : Nat → Prop} (i : FIn w0 w b a h q f L) (hs : Stay T w w1) (hT : ∀ j, T j → w0.heap.size ≤ j ∧ ¬ q.own j) : FIn w0 w1 b a h q f L :=
  ⟨i.stay.trans3 hs (fun j e => (hT j e).1), i.at'.stay hs (fun j hj e => (hT j e).2 hj), i.new, i.eb, i.ew, i.eh⟩

theorem FIn.moved (i : FIn w0 w b a h q f L) (hm : Moved q q' w w1) (ha : FAt w1 q' f' L') (e1 : q'.b = b) (e2 : q'.G.w = a) (e3 : q'.G.h = h) : FIn w0 w1 b a h q' f' L' :=
  ⟨i.stay.trans3 hm.1 i.new, ha, fun j hj => by
    rcases hm.2 j hj with h1 | h1
    · exact i.new j h1
    · exact Nat.le_trans i.stay.size h1, e1, e2, e3⟩

theorem new_in (h0 : Stay (fun _ => False) w0 w) (a1 : 1 ≤ a) (a2 : a ≤ 512) (b1 : 1 ≤ h) (b2 : h ≤ 512) : Calls Try.prog 6 #[.int .i64 (a : Nat), .int .i64 (h : Nat)] w fun e w' => ∃ q : Fm, e = .returned (.pointer (some ⟨q.b, 0, none⟩)) ∧ FIn w0 w' q.b a h q (fun _ => Cl.zero) [] ∧ Stay (fun _ => False) w w' := by
  refine (new6 a h w a1 a2 b1 b2).mono ?_
  rintro e w' ⟨q, he, hs, hq, hw, hh, hn⟩
  exact ⟨q, he, ⟨h0.trans hs, hq, fun j hj => Nat.le_trans h0.size (hn j hj), rfl, hw, hh⟩, hs⟩

theorem put_in (x y : Int) (c : Cl) (ok : Bool) (i : FIn w0 w b a h q f L) (hok : insB a h x y = ok) (hx : I64 x) (hy : I64 y) (hl : L.length ≤ 1000) : Calls Try.prog 9 #[.pointer (some ⟨b, 0, none⟩), .int .i64 x, .int .i64 y, .agg #[.int .i32 c.r, .int .i64 c.fg, .int .i64 c.bg, .int .i64 c.fl]] w fun e w' => ∃ q' : Fm, e = .returned (.bool ok) ∧ FIn w0 w' b a h q' (setF a h f x y c) (if ok then L ++ [Wr.of x y c] else L) ∧ Moved q q' w w' := by
  obtain ⟨e1, e2, e3⟩ : q.b = b ∧ q.G.w = a ∧ q.G.h = h := ⟨i.eb, i.ew, i.eh⟩
  subst e1 e2 e3 hok
  refine (put9 q f L x y c w i.at' hx hy hl).mono ?_
  rintro e w' ⟨v, he, hf, hm⟩
  refine ⟨_, he, i.moved hm ?_ rfl rfl rfl, hm⟩
  unfold noteL at hf
  exact hf

theorem take_in (i : FIn w0 w b a h q f L) (hn : L.length = n) : Calls Try.prog 12 #[.pointer (some ⟨b, 0, none⟩)] w fun e w' => ∃ (q' : Fm) (ad : Option Addr) (cap : Nat), e = .returned (.slice ad n cap) ∧ FIn w0 w' b a h q' f [] ∧ Win w' 6 (.slice ad n cap) n (wrs L) ∧ Moved q q' w w' ∧ ∀ j, (Value.slice ad n cap).ownBlock = some j → w0.heap.size ≤ j ∧ ¬ q'.own j := by
  obtain ⟨e1, e2, e3⟩ : q.b = b ∧ q.G.w = a ∧ q.G.h = h := ⟨i.eb, i.ew, i.eh⟩
  subst e1 e2 e3 hn
  obtain ⟨ad, cap, hv, _, _⟩ := i.at'.row.shape
  refine (notes12 q f L w i.at').mono ?_
  rintro e w' ⟨he, hf, hw, hs⟩
  have hm : Moved q (q.with (.slice none 0 0)) w w' := ⟨hs.mono (fun j _ e => .inl e), fun j hj => .inl (by
    rcases hj with hj | hj | hj
    · exact .inl hj
    · exact .inr (.inl hj)
    · cases hj)⟩
  refine ⟨_, ad, cap, by rw [he, hv], i.moved hm hf rfl rfl rfl, by rw [← hv]; exact hw, hm, fun j hj => ?_⟩
  rw [← hv] at hj
  refine ⟨i.new j (.inr (.inr hj)), fun h2 => ?_⟩
  have hb := i.at'.vb j hj
  rcases h2 with h2 | (h2 | h2 | h2) | h2
  · exact hb.1 h2
  · exact hb.2.1 h2.symm
  · exact hb.2.2.1 h2.symm
  · exact hb.2.2.2 h2.symm
  · cases h2

theorem at_in (x y : Int) (p : Cl) (i : FIn w0 w b a h q f L) (hp : atF a h f x y = p) (hx : I64 x) (hy : I64 y) : Calls Try.prog 13 #[.pointer (some ⟨b, 0, none⟩), .int .i64 x, .int .i64 y] w (Gives (.agg #[.int .i32 p.r, .int .i64 p.fg, .int .i64 p.bg, .int .i64 p.fl]) w) := by
  obtain ⟨e1, e2, e3⟩ : q.b = b ∧ q.G.w = a ∧ q.G.h = h := ⟨i.eb, i.ew, i.eh⟩
  subst e1 e2 e3 hp
  exact at13 q f L x y w i.at' hx hy

theorem size_in (i : FIn w0 w b a h q f L) : Calls Try.prog 15 #[.pointer (some ⟨b, 0, none⟩)] w (Gives (.tuple #[.int .i64 (a : Nat), .int .i64 (h : Nat)]) w) := by
  obtain ⟨e1, e2, e3⟩ : q.b = b ∧ q.G.w = a ∧ q.G.h = h := ⟨i.eb, i.ew, i.eh⟩
  subst e1 e2 e3
  exact size15 q f L w i.at'

/-- A grid by itself that shows cells. -/
def CopyIn (a h : Nat) (f : Nat → Cl) (w : World) (e : Ending) (w' : World) : Prop := ∃ G : Gr, e = .returned (.pointer (some ⟨G.g, 0, none⟩)) ∧ Stay (fun _ => False) w w' ∧ GridAt w' G f ∧ G.w = a ∧ G.h = h ∧ G.above w.heap.size

theorem grid_in (i : FIn w0 w b a h q f L) : Calls Try.prog 17 #[.pointer (some ⟨b, 0, none⟩)] w (CopyIn a h f w) := by
  obtain ⟨e1, e2, e3⟩ : q.b = b ∧ q.G.w = a ∧ q.G.h = h := ⟨i.eb, i.ew, i.eh⟩
  subst e1 e2 e3
  exact grid17 q f L w i.at'

theorem field34_0 (x0 x1 x2 x3 : Value) (W : World) : (Instr.field 34 (.agg #[x0, x1, x2, x3]) 0).run Try.prog W = .ok x0 W := by
  have hu := run_underlying Try.underlying34 W
  rfl

attribute [local go_sem] field34_0

set_option maxRecDepth 100000 in
theorem awake5 (w : World) : Calls Try.prog 5 #[] w (LawTrue w) := by
  have HN := hide' (new_in (w0 := w) (a := 2) (h := 1) (Stay.refl _ w) (by decide) (by decide) (by decide) (by decide))
  go_enter Try.func5, Try.ntmps5
  go_wp2_with fail
  refine HN.out.mono ?_
  rintro e w1 ⟨q0, rfl, hi, _⟩
  obtain ⟨b, hb⟩ : ∃ b, b = q0.b := ⟨_, rfl⟩
  rw [← hb] at hi
  rw [← hb]
  have HP1 := hide' (put_in 0 0 ⟨97, 0, 0, 0⟩ true hi (by decide) (by unfold I64; omega) (by unfold I64; omega) (by decide))
  clear hi hb HN
  go_wp2_with fail
  refine HP1.out.mono ?_
  rintro e w2 ⟨q2, rfl, hi, _⟩
  have HP2 := hide' (put_in 0 0 ⟨98, 0, 0, 0⟩ true hi (by decide) (by unfold I64; omega) (by unfold I64; omega) (by decide))
  clear hi HP1
  go_wp2_with fail
  refine HP2.out.mono ?_
  rintro e w3 ⟨q3, rfl, hi, _⟩
  have HT1 := hide' (take_in (n := 2) hi rfl)
  clear hi HP2
  go_wp2_with fail
  refine HT1.out.mono ?_
  rintro e w4 ⟨q4, ad4, cap4, rfl, hi, _, _, _⟩
  have HT2 := hide' (take_in (n := 0) hi rfl)
  clear hi HT1
  go_wp2_with fail
  refine HT2.out.mono ?_
  rintro e w5 ⟨q5, ad5, cap5, rfl, hi, _, _, _⟩
  have HA := hide' (at_in 0 0 ⟨98, 0, 0, 0⟩ hi (by
    unfold atF
    rw [if_pos (by decide)]
    unfold setF
    rw [if_pos ⟨by decide, rfl⟩]) (by unfold I64; omega) (by unfold I64; omega))
  have HS := hide' hi.stay
  clear hi HT2
  go_wp2_with fail
  refine HA.out.mono ?_
  rintro e w6 ⟨rfl, hs⟩
  have HS2 := hide' (HS.out.trans hs)
  clear hs HS HA
  go_wp2
  go_ret
  exact ⟨rfl, HS2.out⟩

end Go.Proofs.Ytcealbdinbfegaa
