/-
  What parameters make of a pen, walked: of any argument. No conditions.
-/
import Derived.Test.YtinikpadbocfaaaC5
namespace Go.Proofs.Ytinikpadbocfaaa
open Go.RowKit

theorem refStart (w : World) (p : Pn) : Stay (fun _ => False) w ((w.alloc (.cells #[.int .i64 p.fg, .int .i64 p.bg, .int .i64 p.fl] 23)).alloc (.cells #[.int .i64 0, .int .i64 0, .int .i64 0] 23)) ∧ Box ((w.alloc (.cells #[.int .i64 p.fg, .int .i64 p.bg, .int .i64 p.fl] 23)).alloc (.cells #[.int .i64 0, .int .i64 0, .int .i64 0] 23)) w.heap.size p ∧ Box ((w.alloc (.cells #[.int .i64 p.fg, .int .i64 p.bg, .int .i64 p.fl] 23)).alloc (.cells #[.int .i64 0, .int .i64 0, .int .i64 0] 23)) (w.heap.size + 1) ⟨0, 0, 0⟩ :=
  ⟨((Stay.refl _ _).alloc _).alloc _, (Box.new p rfl).alloc _, Box.new ⟨0, 0, 0⟩ (by simp)⟩

set_option maxRecDepth 100000 in
set_option maxHeartbeats 1000000 in
theorem apply11_nil (p : Pn) (a : Option Addr) (cap : Nat) (w : World) : Calls Try.prog 11 #[.agg #[.int .i64 p.fg, .int .i64 p.bg, .int .i64 p.fl], .slice a 0 cap] w (Gives (.agg #[.int .i64 0, .int .i64 0, .int .i64 0]) w) := by
  have HS0 := hide' (refStart w p)
  go_enter Try.func11, Try.ntmps11
  go_upto_region 1 with fail
  obtain ⟨W, hW⟩ : ∃ W, W = ((w.alloc (.cells #[.int .i64 p.fg, .int .i64 p.bg, .int .i64 p.fl] 23)).alloc (.cells #[.int .i64 0, .int .i64 0, .int .i64 0] 23)) := ⟨_, rfl⟩
  rw [← hW] at HS0
  rw [← hW]
  clear hW
  have HS := hide' HS0.out.1
  have HBz := hide' HS0.out.2.2
  clear HS0
  obtain ⟨z0, z1, z2, e0, e1, e2⟩ := HBz.out
  go_wp2
  exact one_ends (q := ⟨0, 0, 0⟩) rfl rfl (HBz.out.put ⟨0, 0, 0⟩) rfl (HS.out.put (by omega) _ _ _) rfl

/-- Parameters that came in, or were made. -/
theorem apply11 (p : Pn) (v : Value) (l : List Int) (a : Option Addr) (cap : Nat) (w : World) (hA : IArg .i64 w v l a cap) (hn : l.length ≤ 1000) : Calls Try.prog 11 #[.agg #[.int .i64 p.fg, .int .i64 p.bg, .int .i64 p.fl], v] w (Gives (.agg #[.int .i64 (applyL p l).fg, .int .i64 (applyL p l).bg, .int .i64 (applyL p l).fl]) w) := by
  obtain ⟨rfl, hC, _, hlc, hcm, hwf⟩ := hA
  by_cases h : l = []
  · subst h
    exact apply11_nil p a cap w
  · obtain ⟨b, off, rfl, hb, hB⟩ := hC h
    have hl : 0 < l.length := List.length_pos_iff.2 h
    exact apply11_some p l b off cap w hb hB hlc hcm hwf hl hn

end Go.Proofs.Ytinikpadbocfaaa
