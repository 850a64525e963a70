/-
  A line is made: walked. No conditions.
-/
import Derived.Test.YtffdkkbinkonbaaB2
namespace Go.Proofs.Ytffdkkbinkonbaa
open Go.RowKit

/-- A line that was made. -/
def Made (r : Nat) (w : World) (e : Ending) (w' : World) : Prop := ∃ q : Ln, e = .returned (.pointer (some ⟨q.b, 0, none⟩)) ∧ Stay (fun _ => False) w w' ∧ LAt w' q [] [] ∧ q.b = w.heap.size ∧ q.v = .slice none 0 0 ∧ q.u = .slice none 0 0 ∧ q.r = r ∧ q.o = false

set_option maxRecDepth 100000 in
theorem new7 (r : Nat) (w : World) (h1 : 1 ≤ r) (h2 : r ≤ 65536) : Calls Try.prog 7 #[.int .i64 (r : Nat)] w (Made r w) := by
  have i1 : ¬ ((r : Nat) : Int) < 1 := by omega
  have i2 : ¬ (65536 : Int) < (r : Nat) := by omega
  have hb : ∀ W, LBox W w.heap.size ⟨(r : Nat), .slice none 0 0, (r : Nat), .slice none 0 0, false⟩ → LAt W ⟨w.heap.size, r, .slice none 0 0, .slice none 0 0, false⟩ [] [] := fun W h =>
    ⟨h, Win.nil _ _, Win.nil _ _, (fun j hj => by cases hj), (fun j hj => by cases hj), (fun j hj => by cases hj), h1, h2, Nat.zero_le _, Nat.zero_le _⟩
  have HB := hide' hb
  have HN : Hid (LBox (w.alloc (.cells #[.int .i64 (r : Nat), .slice none 0 0, .int .i64 (r : Nat), .slice none 0 0, .bool false] 57)) w.heap.size ⟨(r : Nat), .slice none 0 0, (r : Nat), .slice none 0 0, false⟩) := LBox.new ⟨(r : Nat), .slice none 0 0, (r : Nat), .slice none 0 0, false⟩ rfl
  clear hb
  go_enter Try.func7, Try.ntmps7
  go_wp2
  go_ret
  exact ⟨⟨w.heap.size, r, .slice none 0 0, .slice none 0 0, false⟩, rfl, (Stay.refl _ _).alloc _, HB.out _ HN.out, rfl, rfl, rfl, rfl, rfl⟩

theorem new7_no (r : Int) (w : World) (h : r < 1) : Calls Try.prog 7 #[.int .i64 r] w (Gives (.pointer none) w) := by
  go_enter Try.func7, Try.ntmps7
  go_wp2
  go_ret
  exact ⟨rfl, Stay.refl _ _⟩

end Go.Proofs.Ytffdkkbinkonbaa
