/-
  What is read of a queue: how many, how many were lost, how many take room, where a number stands. No conditions.
-/
import Derived.Test.YtcikjghgpppokaaB0
namespace Go.Proofs.Ytcikjghgpppokaa
open Go.RowKit

theorem len8 (q : Qu) (w : World) (hB : QBox w q.b q.bx) : Calls Try.prog 8 #[.pointer (some ⟨q.b, 0, none⟩)] w (Gives (.int .i64 (q.n : Nat)) w) := by
  obtain ⟨b0, b1, b2, b3, b4, b5, b6, f0, f1, f2, f3, f4, f5, f6⟩ := hB
  simp only [Qu.bx] at b0 b1 b2 b3 b4 b5 b6
  go_enter Try.func8, Try.ntmps8
  go_wp2
  go_ret
  exact ⟨rfl, Stay.refl _ _⟩

theorem lost11 (q : Qu) (w : World) (hB : QBox w q.b q.bx) : Calls Try.prog 11 #[.pointer (some ⟨q.b, 0, none⟩)] w (Gives (.int .i64 (q.z : Nat)) w) := by
  obtain ⟨b0, b1, b2, b3, b4, b5, b6, f0, f1, f2, f3, f4, f5, f6⟩ := hB
  simp only [Qu.bx] at b0 b1 b2 b3 b4 b5 b6
  go_enter Try.func11, Try.ntmps11
  go_wp2
  go_ret
  exact ⟨rfl, Stay.refl _ _⟩

theorem counted12 (q : Qu) (m : Nat) (w : World) (hB : QBox w q.b q.bx) (hp : q.p ≤ q.n) (hm : m = if 0 < q.p then q.n - 1 else q.n) (hn : q.n ≤ 65537) : Calls Try.prog 12 #[.pointer (some ⟨q.b, 0, none⟩)] w (Gives (.int .i64 (m : Nat)) w) := by
  obtain ⟨b0, b1, b2, b3, b4, b5, b6, f0, f1, f2, f3, f4, f5, f6⟩ := hB
  simp only [Qu.bx] at b0 b1 b2 b3 b4 b5 b6
  by_cases h : 0 < q.p
  · rw [if_pos h] at hm
    have hi : (0 : Int) < (q.p : Nat) := by omega
    have e : IntKind.i64.wrap ((q.n : Int) - 1) = (m : Nat) := by rw [IntKind.wrap_i64]; omega
    go_enter Try.func12, Try.ntmps12
    go_wp2
    go_ret
    exact ⟨by rw [hm]; rfl, Stay.refl _ _⟩
  · rw [if_neg h] at hm
    have hi : ¬ (0 : Int) < (q.p : Nat) := by omega
    subst hm
    go_enter Try.func12, Try.ntmps12
    go_wp2
    go_ret
    exact ⟨rfl, Stay.refl _ _⟩

theorem at14 (q : Qu) (i s cap : Nat) (ad : Option Addr) (w : World) (hB : QBox w q.b q.bx) (hv : q.v = .slice ad q.c cap) (hc : 0 < q.c) (hcm : q.c ≤ 65537) (hf : q.f ≤ 65537) (hi : i ≤ 65537) (hs : s = (q.f + i) % q.c) : Calls Try.prog 14 #[.pointer (some ⟨q.b, 0, none⟩), .int .i64 (i : Nat)] w (Gives (.int .i64 (s : Nat)) w) := by
  obtain ⟨b0, b1, b2, b3, b4, b5, b6, f0, f1, f2, f3, f4, f5, f6⟩ := hB
  simp only [Qu.bx] at b0 b1 b2 b3 b4 b5 b6
  rw [hv] at b0
  have e1 : IntKind.i64.wrap ((q.f : Int) + (i : Int)) = ((q.f + i : Nat) : Int) := by rw [IntKind.wrap_i64]; omega
  have e2 : ((q.f + i : Nat) : Int) % ((q.c : Nat) : Int) = (s : Nat) := by rw [hs]; rfl
  obtain ⟨t, ht⟩ : ∃ t, t = q.f + i := ⟨_, rfl⟩
  rw [← ht] at e1 e2
  have c0 : ¬ ((q.c : Nat) : Int) = 0 := by omega
  have HE := hide' e2
  clear hs ht hv e2
  go_enter Try.func14, Try.ntmps14
  go_wp2
  go_quiet (fail)
  go_wp2
  go_ret
  refine ⟨?_, (Stay.refl _ _).drewN _⟩
  show Ending.returned (.int .i64 ((t : Nat) % (q.c : Nat))) = _
  rw [HE.out]

end Go.Proofs.Ytcikjghgpppokaa
