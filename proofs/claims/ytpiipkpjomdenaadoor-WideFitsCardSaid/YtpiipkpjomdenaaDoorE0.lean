/-
  The document's example, walked. No conditions.
-/
import Derived.Test.YtpiipkpjomdenaaDoorC4
namespace Go.Proofs.YtpiipkpjomdenaaDoor
open Go.ChangeShapes Go.WideShapes Go.ChangeAt Go.RowKit

theorem Tryd.laidOut : laidOutB Tryd.prog = true := by kernel_rfl
theorem Tryd.own : ownKnob Tryd.prog.godebug = none := by kernel_rfl

theorem wid7 : wid 7 = -1 := by decide +kernel
theorem wid769 : wid 769 = 0 := by decide +kernel
theorem sum3 : sumC [97, 19968, 769] = 3 := by decide +kernel

theorem iarg_new (k : IntKind) (w : World) (l : List Int) (t : TypeId) (c : Array Value) (n : Nat) (hn : n = l.length) (hc : c.toList = l.map (Value.int k ·)) (hl : l.length ≤ 1000) (hw : ∀ x ∈ l, (Lit.int k x).wf = true) :
    IArg k (w.alloc (.cells c t)) (.slice (some ⟨w.heap.size, 0, none⟩) n n) l (some ⟨w.heap.size, 0, none⟩) n := by
  subst hn
  exact ⟨rfl, fun _ => ⟨_, _, rfl, by simp, ints_new k w l t c hc⟩, (fun h => by cases h), Nat.le_refl _, by unfold maxLen; omega, hw⟩

set_option maxHeartbeats 400000 in
theorem awake_any (w : World) (hT : Tbl w) : Calls Tryd.prog 8 #[] w (LawTrue w) := by
  have hs : Stay (fun _ => False) w (w.alloc (.cells #[.int .i32 97, .int .i32 19968, .int .i32 769] 21)) := (Stay.refl _ _).alloc _
  have hA := iarg_new .i32 w [97, 19968, 769] 21 #[.int .i32 97, .int .i32 19968, .int .i32 769] 3 rfl rfl (by decide) (by decide)
  have hX := text_arg hA (hT.stay hs) (by decide)
  rw [sum3] at hX
  have HX := hide' hX
  have HS := hide' hs
  have HT := hide' hT
  clear hX hA hs hT
  go_enter Tryd.func8, Tryd.ntmps8
  go_wp2_with fail
  refine HX.out.mono ?_
  rintro e w1 ⟨rfl, h1⟩
  have HS1 := hide' (HS.out.trans h1)
  have HC := hide' (width6 7 w1 (HT.out.stay HS1.out))
  rw [wid7] at HC
  clear h1
  go_wp2_with fail
  refine HC.out.mono ?_
  rintro e w2 ⟨rfl, h2⟩
  have HS2 := hide' (HS1.out.trans h2)
  have HD := hide' (width6 769 w2 (HT.out.stay HS2.out))
  rw [wid769] at HD
  clear h2
  go_wp2_with fail
  refine HD.out.mono ?_
  rintro e w3 ⟨rfl, h3⟩
  have HS3 := hide' (HS2.out.trans h3)
  clear h3
  go_wp2
  go_ret
  exact ⟨rfl, HS3.out⟩


end Go.Proofs.YtpiipkpjomdenaaDoor
