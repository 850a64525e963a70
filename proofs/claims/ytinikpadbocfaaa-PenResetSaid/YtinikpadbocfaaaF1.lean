/-
  A pen's parameters: a colour is added; its flags one by one. No conditions.
-/
import Derived.Test.YtinikpadbocfaaaF0
namespace Go.Proofs.Ytinikpadbocfaaa
open Go.RowKit

theorem Try.info3 : (Try.prog.info? 3).map (fun i => (i.zero, i.size, i.bytes)) = some (some (.int .i64 0), 1, 8) := by kernel_rfl

/-- An own row of integers has grown. -/
def Grown (base : Nat) (xs : List Int) (w : World) (e : Ending) (w' : World) : Prop :=
  ∃ t, e = .returned t ∧ w'.ownsRow base 3 1 t xs.length (xs.map (.int .i64 ·)) ∧ Stay (fun k => base ≤ k) w w'

theorem grown_of {base : Nat} {xs ys : List Int} {w w' : World} {t : Value} {n : Nat} {vs : List Value} (h : w'.ownsRow base 3 1 t n vs) (hv : vs = (xs ++ ys).map (.int .i64 ·)) (hs : Stay (fun k => base ≤ k) w w') : Grown base (xs ++ ys) w (.returned t) w' := by
  have hn : n = (xs ++ ys).length := by have := h.1; rw [hv] at this; simpa using this.symm
  subst hn hv
  exact ⟨t, rfl, h, hs⟩

/-- The world behind a row that was made, and the own row in it. -/
theorem own_new {base n : Nat} {t : Value} {vs : List Value} {w : World} (h : w.ownsRow base 3 1 t n vs) (o : Obj) : (w.alloc o).ownsRow base 3 1 t n vs := ((Stay.refl (fun _ => False) w).alloc o).owns h (fun _ _ h => h)

theorem own_base {base n : Nat} {t : Value} {vs : List Value} {w : World} (h : w.ownsRow base 3 1 t n vs) : ∀ k, t.ownBlock = some k → base ≤ k := fun k hk => (h.lt k hk).1

theorem colL_len (first c : Int) : (colL first c).length ≤ 5 := by
  unfold colL
  split
  · simp
  · split <;> simp

set_option maxHeartbeats 1000000 in
theorem add29 (t : Value) (xs : List Int) (first c : Int) (base : Nat) (w : World) (hO : w.ownsRow base 3 1 t xs.length (xs.map (.int .i64 ·))) (hn : xs.length ≤ 900) (hb : base ≤ w.heap.size) (hc : colB c = true) :
    Calls Try.prog 29 #[t, .int .i64 first, .int .i64 c] w (Grown base (xs ++ colL first c) w) := by
  have HO := hide' hO
  have hcc := hc
  unfold colB at hcc
  simp only [Bool.or_eq_true, Bool.and_eq_true, decide_eq_true_eq] at hcc
  by_cases h0 : c = 0
  · have HL : Hid (colL first c = []) := by
      show _ = _
      unfold colL; rw [if_pos h0]
    subst h0
    clear hcc hO
    go_enter Try.func29, Try.ntmps29
    go_wp2
    go_ret
    exact ⟨_, rfl, by rw [HL.out, List.append_nil]; exact HO.out, Stay.refl _ _⟩
  have d0 : (c == 0) = false := by simpa using h0
  by_cases h1 : c ≤ 256
  · have HL : Hid (colL first c = [first, 5, c - 1]) := by
      show _ = _
      unfold colL; rw [if_neg h0, if_pos h1]
    have c0 : 0 ≤ c := by omega
    have HR := hide' (isRow_new w #[.int .i64 first, .int .i64 5, .int .i64 (c - 1)] 3)
    have HO2 := hide' (own_new hO (.cells #[.int .i64 first, .int .i64 5, .int .i64 (c - 1)] 3))
    have HNE := hide' (own_base hO)
    clear hcc hO
    go_enter Try.func29, Try.ntmps29
    go_wp2_with (at_builtin; refine appL (fun k => base ≤ k) rfl _ _ 24 rfl Try.underlying24 Try.info3 rfl (by decide) HO2.out rfl HR.out rfl (by intro u hu; simp at hu; rcases hu with rfl | rfl | rfl <;> rfl) (by simp; omega) (by simp; omega) HNE.out ?_; intro t2 w3 ho3 hs3; have HO3 := hide' ho3; have HS3 := hide' hs3; clear ho3 hs3)
    go_ret
    exact grown_of HO3.out (by rw [HL.out]; simp) (((Stay.refl _ w).alloc _).trans HS3.out)
  · have HL : Hid (colL first c = [first, 2, (c - 16777216) / 65536, c / 256 % 256, c % 256]) := by
      show _ = _
      unfold colL; rw [if_neg h0, if_neg h1]
    have c0 : 16777216 ≤ c := by omega
    have c9 : c ≤ 33554431 := by omega
    obtain ⟨r, hr⟩ : ∃ r, r = (c - 16777216) / 65536 := ⟨_, rfl⟩
    obtain ⟨g, hg⟩ : ∃ g, g = c / 256 % 256 := ⟨_, rfl⟩
    obtain ⟨b, hbb⟩ : ∃ b, b = c % 256 := ⟨_, rfl⟩
    have HP := hide' (fun w => parts18 c r g b w c0 c9 hr hg hbb)
    rw [← hr, ← hg, ← hbb] at HL
    have HR := hide' (isRow_new w #[.int .i64 first, .int .i64 2, .int .i64 r, .int .i64 g, .int .i64 b] 3)
    have HO2 := hide' (own_new hO (.cells #[.int .i64 first, .int .i64 2, .int .i64 r, .int .i64 g, .int .i64 b] 3))
    have HNE := hide' (own_base hO)
    clear hcc hO hr hg hbb
    go_enter Try.func29, Try.ntmps29
    go_wp2_with fail
    refine (HP.out _).mono ?_
    rintro e w' ⟨rfl, rfl⟩
    go_wp2_with (at_builtin; refine appL (fun k => base ≤ k) rfl _ _ 24 rfl Try.underlying24 Try.info3 rfl (by decide) HO2.out rfl HR.out rfl (by intro u hu; simp at hu; rcases hu with rfl | rfl | rfl | rfl | rfl <;> rfl) (by simp; omega) (by simp; omega) HNE.out ?_; intro t2 w3 ho3 hs3; have HO3 := hide' ho3; have HS3 := hide' hs3; clear ho3 hs3)
    go_ret
    exact grown_of HO3.out (by rw [HL.out]; simp) (((Stay.refl _ w).alloc _).trans HS3.out)

/-- The numbers of the first k numbers' flags. -/
def flagsUp (f : Int) (k : Nat) : List Int := ((List.range k).map fun i : Nat => (i : Int) + 1).filter fun n => decide (bits .and .i64 f (val n) ≠ 0)

theorem flagsUp_nine (f : Int) : flagsUp f 9 = flagsL f := by
  unfold flagsUp flagsL
  rw [show (List.range 9).map (fun i : Nat => (i : Int) + 1) = [1, 2, 3, 4, 5, 6, 7, 8, 9] by decide]

theorem flagsUp_yes {f : Int} {k : Nat} (h : bits .and .i64 f (val ((k : Int) + 1)) ≠ 0) : flagsUp f (k + 1) = flagsUp f k ++ [(k : Int) + 1] := by
  unfold flagsUp
  rw [List.range_succ, List.map_append, List.filter_append]
  simp [h]

theorem flagsUp_no {f : Int} {k : Nat} (h : bits .and .i64 f (val ((k : Int) + 1)) = 0) : flagsUp f (k + 1) = flagsUp f k := by
  unfold flagsUp
  rw [List.range_succ, List.map_append, List.filter_append]
  simp [h]

theorem flagsUp_len (f : Int) (k : Nat) : (flagsUp f k).length ≤ k := by
  unfold flagsUp
  exact Nat.le_trans (List.length_filter_le _ _) (by simp)

/-- What holds at the head of a round of Least. -/
structure LsIn (w wr : World) (p : Pn) (k : Nat) (t : Value) : Prop where
  own : wr.ownsRow (w.heap.size + 1) 3 1 t (0 :: flagsUp p.fl k).length ((0 :: flagsUp p.fl k).map (.int .i64 ·))
  box : Box wr w.heap.size p
  stay : Stay (fun _ => False) w wr
  size : w.heap.size + 1 ≤ wr.heap.size

theorem LsIn.moved {w wr w1 : World} {p : Pn} {k : Nat} {t : Value} (h : LsIn w wr p k t) (hs : Stay (fun _ => False) wr w1) : LsIn w w1 p k t :=
  ⟨hs.owns h.own (fun _ _ h => h), h.box.keep hs, h.stay.trans hs, Nat.le_trans h.size hs.size⟩

theorem LsIn.no {w wr : World} {p : Pn} {k : Nat} {t : Value} (h : LsIn w wr p k t) (hz : bits .and .i64 p.fl (val ((k : Int) + 1)) = 0) : LsIn w wr p (k + 1) t :=
  ⟨by rw [flagsUp_no hz]; exact h.own, h.box, h.stay, h.size⟩

theorem LsIn.grown {w wr w1 : World} {p : Pn} {k : Nat} {t t2 : Value} {xs : List Value} {n : Nat} (h : LsIn w wr p k t) (hz : bits .and .i64 p.fl (val ((k : Int) + 1)) ≠ 0) (ho : w1.ownsRow (w.heap.size + 1) 3 1 t2 n xs)
    (hx : xs = (0 :: flagsUp p.fl k).map (.int .i64 ·) ++ [.int .i64 ((k : Int) + 1)]) (hs : Stay (fun k => w.heap.size + 1 ≤ k) wr w1) : LsIn w w1 p (k + 1) t2 := by
  have e : (0 :: flagsUp p.fl (k + 1)).map (Value.int .i64 ·) = xs := by rw [hx, flagsUp_yes hz]; simp
  have hn : n = (0 :: flagsUp p.fl (k + 1)).length := by have := ho.1; rw [← e] at this; simpa using this.symm
  subst hn
  rw [← e] at ho
  exact ⟨ho, h.box.stay hs (by omega), ⟨hs.os.trans h.stay.os, hs.tape.trans h.stay.tape, hs.output.trans h.stay.output, Nat.le_trans h.stay.size hs.size, fun i hi _ => (hs.block i (Nat.lt_of_lt_of_le hi h.stay.size) (by omega)).trans (h.stay.block i hi (fun h => h))⟩, Nat.le_trans h.size hs.size⟩

theorem ls_start (w : World) (p : Pn) : LsIn w ((w.alloc (.cells #[.int .i64 p.fg, .int .i64 p.bg, .int .i64 p.fl] 23)).alloc (.cells #[.int .i64 0] 3)) p 0 (.slice (some ⟨w.heap.size + 1, 0, none⟩) 1 1) := by
  refine ⟨?_, (Box.new p rfl).alloc _, ((Stay.refl _ _).alloc _).alloc _, by simp⟩
  have := owns_new (w.alloc (.cells #[.int .i64 p.fg, .int .i64 p.bg, .int .i64 p.fl] 23)) #[.int .i64 0] 3 (by unfold maxLen; simp)
  simpa [show flagsUp p.fl 0 = [] from rfl] using this

end Go.Proofs.Ytinikpadbocfaaa
