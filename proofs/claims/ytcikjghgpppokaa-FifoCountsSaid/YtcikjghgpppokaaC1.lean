/-
  A queue is made; a queue is cleared: walked. No conditions.
-/
import Derived.Test.YtcikjghgpppokaaC0
namespace Go.Proofs.Ytcikjghgpppokaa
open Go.RowKit

/-- A queue that was made. -/
def Made (r : Nat) (k : Int) (w : World) (e : Ending) (w' : World) : Prop := ∃ q : Qu, e = .returned (.pointer (some ⟨q.b, 0, none⟩)) ∧ Stay (fun _ => False) w w' ∧ QAt w' q [] ∧ q.b = w.heap.size ∧ q.v = .slice none 0 0 ∧ q.r = r ∧ q.k = k ∧ q.p = 0 ∧ q.z = 0

theorem new6 (r : Nat) (k : Int) (w : World) (h1 : 1 ≤ r) (h2 : r ≤ 65536) : Calls Try.prog 6 #[.int .i64 (r : Nat), .int .i64 k] w (Made r k w) := by
  have i1 : ¬ ((r : Nat) : Int) < 1 := by omega
  have i2 : ¬ (65536 : Int) < (r : Nat) := by omega
  have d1 : decide (((r : Nat) : Int) < 1) = false := by simp; omega
  have d2 : decide ((65536 : Int) < (r : Nat)) = false := by simp; omega
  have hq : QAt (w.alloc (.cells #[.slice none 0 0, .int .i64 0, .int .i64 0, .int .i64 (r : Nat), .int .i64 k, .int .i64 0, .int .i64 0] 36)) ⟨w.heap.size, .slice none 0 0, 0, 0, 0, r, k, 0, 0⟩ [] :=
    ⟨QBox.new ⟨.slice none 0 0, 0, 0, (r : Nat), k, 0, 0⟩ rfl, ⟨fun _ => 0, .inl ⟨rfl, rfl⟩, fun i hi => absurd hi (Nat.not_lt_zero i)⟩, rfl, .inr ⟨rfl, rfl⟩, Nat.le_refl _, by show 0 ≤ r + 1; omega, h1, h2, Nat.le_refl _, .inl (by show 0 ≤ r; omega), by show 0 ≤ 1000000; omega⟩
  have HQ := hide' hq
  clear hq
  go_enter Try.func6, Try.ntmps6
  go_wp2
  go_ret
  exact ⟨⟨w.heap.size, .slice none 0 0, 0, 0, 0, r, k, 0, 0⟩, rfl, (Stay.refl _ _).alloc _, HQ.out, rfl, rfl, rfl, rfl, rfl, rfl⟩

theorem new6_no (k : Int) (w : World) : Calls Try.prog 6 #[.int .i64 0, .int .i64 k] w (Gives (.pointer none) w) := by
  go_enter Try.func6, Try.ntmps6
  go_wp2
  go_ret
  exact ⟨rfl, Stay.refl _ _⟩

end Go.Proofs.Ytcikjghgpppokaa
