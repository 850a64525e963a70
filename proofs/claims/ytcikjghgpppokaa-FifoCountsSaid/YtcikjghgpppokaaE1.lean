/-
  A queue within a call; the document's example, walked. No conditions.
-/
import Derived.Test.YtcikjghgpppokaaE0
namespace Go.Proofs.Ytcikjghgpppokaa
open Go.RowKit

/-- A queue that was made behind a world. -/
structure QIn (w0 w : World) (q : Qu) (L : List Int) : Prop where
  stay : Stay (fun _ => False) w0 w
  at' : QAt w q L
  new : ∀ j, q.own j → w0.heap.size ≤ j

theorem QIn.keep {w0 w w1 : World} {q : Qu} {L : List Int} (h : QIn w0 w q L) (hs : Stay (fun _ => False) w w1) : QIn w0 w1 q L := ⟨h.stay.trans hs, h.at'.keep hs, h.new⟩

theorem QIn.made {w0 w w1 : World} {q : Qu} (h0 : Stay (fun _ => False) w0 w) (hs : Stay (fun _ => False) w w1) (hq : QAt w1 q []) (hb : q.b = w.heap.size) (hv : q.v = .slice none 0 0) : QIn w0 w1 q [] :=
  ⟨h0.trans hs, hq, fun j hj => by
    rcases hj with rfl | hj
    · rw [hb]; exact h0.size
    · rw [hv] at hj; cases hj⟩

/-- A number that was brought, within a call. -/
def PutIn (w0 : World) (q : Qu) (L : List Int) (x : Int) (b : Bool) (w : World) (e : Ending) (w' : World) : Prop := ∃ (q' : Qu) (L' : List Int), e = .returned (.bool b) ∧ QIn w0 w' q' L' ∧ (q'.b = q.b ∧ q'.r = q.r ∧ q'.k = q.k) ∧ Stay q.own w w' ∧ (∀ j, q'.own j → q.own j ∨ w.heap.size ≤ j) ∧
  ((b = true ∧ L' = L ++ [x] ∧ q'.n = q.n + 1 ∧ q'.z = q.z ∧ q'.p = if q.cnt < q.r then q.p else q.n + 1) ∨ (b = false ∧ L' = L ∧ q'.n = q.n ∧ q'.z = q.z + 1 ∧ q'.p = q.p))

theorem put_in {w0 w : World} {q : Qu} {L : List Int} (x : Int) (b : Bool) (h : QIn w0 w q L) (hz : q.z < 1000000) (hb : q.okB x = b) : Calls Try.prog 7 #[.pointer (some ⟨q.b, 0, none⟩), .int .i64 x] w (PutIn w0 q L x b w) := by
  subst hb
  refine (put7 q L x w h.at' hz).mono ?_
  rintro e w' ⟨q', L', he, hq, hk, hs, ho, hc⟩
  exact ⟨q', L', he, ⟨h.stay.trans2 hs (fun j hj hj2 => by have := h.new j hj2; omega), hq, fun j hj => by
    rcases ho j hj with h1 | h1
    · exact h.new j h1
    · exact Nat.le_trans h.stay.size h1⟩, hk, hs, ho, hc⟩

theorem new_in {w0 w : World} (r : Nat) (k : Int) (h0 : Stay (fun _ => False) w0 w) (h1 : 1 ≤ r) (h2 : r ≤ 65536) : Calls Try.prog 6 #[.int .i64 (r : Nat), .int .i64 k] w fun e w' => ∃ q : Qu, e = .returned (.pointer (some ⟨q.b, 0, none⟩)) ∧ QIn w0 w' q [] ∧ Stay (fun _ => False) w w' ∧ (q.r = r ∧ q.k = k ∧ q.n = 0 ∧ q.p = 0 ∧ q.z = 0) := by
  refine (new6 r k w h1 h2).mono ?_
  rintro e w' ⟨q, he, hs, hq, hb, hv, hr, hk, hp, hz⟩
  exact ⟨q, he, QIn.made h0 hs hq hb hv, hs, hr, hk, by rw [← hq.len]; rfl, hp, hz⟩

set_option maxRecDepth 100000 in
theorem awake5 (w : World) : Calls Try.prog 5 #[] w (LawTrue w) := by
  have HN := hide' (new_in (w0 := w) 1 9 (Stay.refl _ w) (by decide) (by decide))
  have HN0 := hide' (fun w => new6_no 1 w)
  go_enter Try.func5, Try.ntmps5
  go_wp2_with fail
  refine HN.out.mono ?_
  rintro e w0 ⟨q0, rfl, hi, _, hf⟩
  have HI0 := hide' hi
  have HF0 := hide' hf
  clear hi hf HN
  obtain ⟨kr, kk, kn, kp, kz⟩ := HF0.out
  have HP := hide' (put_in (w0 := w) 1 true HI0.out (by rw [kz]; decide) (by unfold Qu.okB Qu.cnt; rw [kr, kk, kn, kp]; decide))
  clear kr kk kn kp kz
  go_wp2_with fail
  refine (HP.out).mono ?_
  rintro e w1 ⟨q1, L1, rfl, hi, ⟨k1, k2, k3⟩, _, _, hc⟩
  have HI1 := hide' hi
  obtain ⟨kr, kk, kn, kp, kz⟩ := HF0.out
  have HF1 : Hid (q1.r = 1 ∧ q1.k = 9 ∧ q1.n = 1 ∧ q1.p = 0 ∧ q1.z = 0) := by
    rcases hc with ⟨_, _, g1, g2, g3⟩ | ⟨h, _⟩
    · refine ⟨k2.trans kr, k3.trans kk, by rw [g1, kn], ?_, by rw [g2, kz]⟩
      rw [g3]
      unfold Qu.cnt
      rw [kn, kp, kr]
      decide
    · cases h
  have HB1 : Hid (q1.b = q0.b) := k1
  clear hi k1 k2 k3 hc HP kr kk kn kp kz
  obtain ⟨kr, kk, kn, kp, kz⟩ := HF1.out
  have HP := hide' (show Calls Try.prog 7 #[.pointer (some ⟨q0.b, 0, none⟩), .int .i64 2] w1 (PutIn w q1 L1 2 false w1) from by
    have h := put_in (w0 := w) 2 false HI1.out (by rw [kz]; decide) (by unfold Qu.okB Qu.cnt; rw [kr, kk, kn, kp]; decide)
    rwa [HB1.out] at h)
  clear kr kk kn kp kz
  go_wp2_with fail
  refine (HP.out).mono ?_
  rintro e w2 ⟨q2, L2, rfl, hi, ⟨k1, k2, k3⟩, _, _, hc⟩
  have HI2 := hide' hi
  obtain ⟨kr, kk, kn, kp, kz⟩ := HF1.out
  have HF2 : Hid (q2.r = 1 ∧ q2.k = 9 ∧ q2.n = 1 ∧ q2.p = 0 ∧ q2.z = 1) := by
    rcases hc with ⟨h, _⟩ | ⟨_, _, g1, g2, g3⟩
    · cases h
    · exact ⟨k2.trans kr, k3.trans kk, by rw [g1, kn], by rw [g3, kp], by rw [g2, kz]⟩
  have HB2 : Hid (q2.b = q0.b) := k1.trans HB1.out
  clear hi k1 k2 k3 hc HP kr kk kn kp kz
  obtain ⟨kr, kk, kn, kp, kz⟩ := HF2.out
  have HP := hide' (show Calls Try.prog 7 #[.pointer (some ⟨q0.b, 0, none⟩), .int .i64 9] w2 (PutIn w q2 L2 9 true w2) from by
    have h := put_in (w0 := w) 9 true HI2.out (by rw [kz]; decide) (by unfold Qu.okB Qu.cnt; rw [kr, kk, kn, kp]; decide)
    rwa [HB2.out] at h)
  clear kr kk kn kp kz
  go_wp2_with fail
  refine (HP.out).mono ?_
  rintro e w3 ⟨q3, L3, rfl, hi, ⟨k1, k2, k3⟩, _, _, hc⟩
  have HI3 := hide' hi
  obtain ⟨kr, kk, kn, kp, kz⟩ := HF2.out
  have HF3 : Hid (q3.r = 1 ∧ q3.k = 9 ∧ q3.n = 2 ∧ q3.p = 2 ∧ q3.z = 1) := by
    rcases hc with ⟨_, _, g1, g2, g3⟩ | ⟨h, _⟩
    · refine ⟨k2.trans kr, k3.trans kk, by rw [g1, kn], ?_, by rw [g2, kz]⟩
      rw [g3]
      unfold Qu.cnt
      rw [kn, kp, kr]
      decide
    · cases h
  have HB3 : Hid (q3.b = q0.b) := k1.trans HB2.out
  clear hi k1 k2 k3 hc HP kr kk kn kp kz
  obtain ⟨kr, kk, kn, kp, kz⟩ := HF3.out
  have HP := hide' (show Calls Try.prog 7 #[.pointer (some ⟨q0.b, 0, none⟩), .int .i64 9] w3 (PutIn w q3 L3 9 false w3) from by
    have h := put_in (w0 := w) 9 false HI3.out (by rw [kz]; decide) (by unfold Qu.okB Qu.cnt; rw [kr, kk, kn, kp]; decide)
    rwa [HB3.out] at h)
  clear kr kk kn kp kz
  go_wp2_with fail
  refine (HP.out).mono ?_
  rintro e w4 ⟨q4, L4, rfl, hi, ⟨k1, k2, k3⟩, _, _, hc⟩
  have HI4 := hide' hi
  obtain ⟨kr, kk, kn, kp, kz⟩ := HF3.out
  have HF4 : Hid (q4.r = 1 ∧ q4.k = 9 ∧ q4.n = 2 ∧ q4.p = 2 ∧ q4.z = 2) := by
    rcases hc with ⟨h, _⟩ | ⟨_, _, g1, g2, g3⟩
    · cases h
    · exact ⟨k2.trans kr, k3.trans kk, by rw [g1, kn], by rw [g3, kp], by rw [g2, kz]⟩
  have HB4 : Hid (q4.b = q0.b) := k1.trans HB3.out
  clear hi k1 k2 k3 hc HP kr kk kn kp kz
  have HL := hide' (lost11 q4 w4 HI4.out.at'.box)
  rw [HB4.out, HF4.out.2.2.2.2] at HL
  go_wp2_with fail
  refine HL.out.mono ?_
  rintro e w5 ⟨rfl, hs⟩
  have HS5 := hide' (HI4.out.stay.trans hs)
  clear hs HL
  go_wp2_with fail
  refine (HN0.out _).mono ?_
  rintro e w6 ⟨rfl, hs⟩
  have HS6 := hide' (HS5.out.trans hs)
  clear hs
  go_wp2
  go_ret
  exact ⟨rfl, HS6.out⟩

end Go.Proofs.Ytcikjghgpppokaa
