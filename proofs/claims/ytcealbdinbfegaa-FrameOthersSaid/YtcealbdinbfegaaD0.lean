/-
  Sizes of grids, walked. No conditions.
-/
import Derived.Test.YtcealbdinbfegaaB2
import Derived.Test.YtcealbdinbfegaaC4
import Derived.BigQuiet
namespace Go.Proofs.Ytcealbdinbfegaa
open Go.RowKit

/-- Is there a grid of so many columns, or rows? -/
def sizeB (n : Int) : Bool := decide (1 ≤ n) && decide (n ≤ 512)

theorem isSize28 (n : Int) (w : World) : Calls Try.prog 28 #[.int .i64 n] w fun e w' => e = .returned (.bool (sizeB n)) ∧ w = w' := by
  unfold sizeB
  go_enter Try.func28, Try.ntmps28
  go_wp2
  all_goals
    go_ret
    exact ⟨by simp [*] <;> omega, rfl⟩

theorem GridAt.row0 {W : World} {G : Gr} {f : Nat → Cl} (h : GridAt W G f) : W.cell? ⟨G.br, 0, none⟩ = some (.slice (some ⟨G.bc, 0, none⟩) G.w (G.w * G.h)) := by
  have := h.rows 0 h.h1
  simpa using this

theorem size22 (G : Gr) (f : Nat → Cl) (w : World) (hG : GridAt w G f) : Calls Try.prog 22 #[.pointer (some ⟨G.g, 0, none⟩)] w (Gives (.tuple #[.int .i64 (G.w : Nat), .int .i64 (G.h : Nat)]) w) := by
  have c0 := hG.top
  have c1 := hG.row0
  have z : (((G.h : Nat) : Int) == 0) = false := by have := hG.h1; simp; omega
  have z2 : (0 : Int) < (G.h : Nat) := by have := hG.h1; omega
  have HS := hide' (Stay.refl (fun _ => False) w)
  obtain ⟨g, br, bc, a, b⟩ := G
  simp only at c0 c1 z z2 ⊢
  clear hG
  go_enter Try.func22, Try.ntmps22
  go_wp2_with fail
  go_quiet (fail)
  go_wp2
  go_ret2
  exact ⟨rfl, HS.out.drewN _⟩

theorem size22_nil (w : World) : Calls Try.prog 22 #[.pointer none] w (Gives (.tuple #[.int .i64 0, .int .i64 0]) w) := by
  go_enter Try.func22, Try.ntmps22
  go_wp2
  go_ret2
  exact ⟨rfl, Stay.refl _ _⟩

theorem whole27 (G : Gr) (f : Nat → Cl) (w : World) (hG : GridAt w G f) : Calls Try.prog 27 #[.pointer (some ⟨G.g, 0, none⟩)] w (Gives (.agg #[.int .i64 (⟨0, 0, (G.w : Nat), (G.h : Nat)⟩ : R).x, .int .i64 (⟨0, 0, (G.w : Nat), (G.h : Nat)⟩ : R).y, .int .i64 (⟨0, 0, (G.w : Nat), (G.h : Nat)⟩ : R).w, .int .i64 (⟨0, 0, (G.w : Nat), (G.h : Nat)⟩ : R).h]) w) := by
  have hG' := hG.keep ((Stay.refl _ _).alloc (.cells #[.int .i64 0, .int .i64 0, .int .i64 0, .int .i64 0] 58))
  have HC := hide' (size22 G f _ hG')
  have HS := hide' ((Stay.refl (fun _ => False) w).alloc (.cells #[.int .i64 0, .int .i64 0, .int .i64 0, .int .i64 0] 58))
  clear hG hG'
  go_enter Try.func27, Try.ntmps27
  go_wp2_with fail
  refine HC.out.mono ?_
  rintro e w1 ⟨rfl, hs⟩
  have HBz := hide' (Box.keep (Box.new (w := w) ⟨0, 0, 0, 0⟩ rfl) hs)
  obtain ⟨z0, z1, z2, z3, f0, f1, f2, f3⟩ := HBz.out
  have HS1 := hide' (HS.out.trans hs)
  clear hs
  go_wp2
  exact bodyPost_ret (results_box rfl _ _ _ ⟨0, 0, (G.w : Nat), (G.h : Nat)⟩ rfl (HBz.out.put ⟨0, 0, (G.w : Nat), (G.h : Nat)⟩)) rfl ⟨rfl, HS1.out.put (by omega) _ _ _ _⟩

theorem whole27_nil (w : World) : Calls Try.prog 27 #[.pointer none] w (Gives (.agg #[.int .i64 (⟨0, 0, 0, 0⟩ : R).x, .int .i64 (⟨0, 0, 0, 0⟩ : R).y, .int .i64 (⟨0, 0, 0, 0⟩ : R).w, .int .i64 (⟨0, 0, 0, 0⟩ : R).h]) w) := by
  have HC := hide' (size22_nil (w.alloc (.cells #[.int .i64 0, .int .i64 0, .int .i64 0, .int .i64 0] 58)))
  have HS := hide' ((Stay.refl (fun _ => False) w).alloc (.cells #[.int .i64 0, .int .i64 0, .int .i64 0, .int .i64 0] 58))
  go_enter Try.func27, Try.ntmps27
  go_wp2_with fail
  refine HC.out.mono ?_
  rintro e w1 ⟨rfl, hs⟩
  have HBz := hide' (Box.keep (Box.new (w := w) ⟨0, 0, 0, 0⟩ rfl) hs)
  obtain ⟨z0, z1, z2, z3, f0, f1, f2, f3⟩ := HBz.out
  have HS1 := hide' (HS.out.trans hs)
  clear hs
  go_wp2
  exact bodyPost_ret (results_box rfl _ _ _ ⟨0, 0, 0, 0⟩ rfl (HBz.out.put ⟨0, 0, 0, 0⟩)) rfl ⟨rfl, HS1.out.put (by omega) _ _ _ _⟩

end Go.Proofs.Ytcealbdinbfegaa
