/-
  Of any arguments the law PenReset returns true, and they read as they did. No conditions.
-/
import Derived.Test.YtinikpadbocfaaaE5
import Derived.Test.YtinikpadbocfaaaE4
namespace Go.Proofs.Ytinikpadbocfaaa
open Go.ChangeShapes Go.WideShapes Go.ChangeAt Go.RowKit Go.Joins

theorem runs_reset (p : Pn) (v : Value) (l : List Int) (a : Option Addr) (cap : Nat) (w : World) (hA : IArg .i64 w v l a cap) : Calls Try.prog 6 #[.agg #[.int .i64 p.fg, .int .i64 p.bg, .int .i64 p.fl], v] w (LawTrue w) := by
  have m1 := max_small hA.lenLe hA.capLe
  have hs := hA.shape
  subst hs
  by_cases h1 : 30 < l.length
  · exact reset_long p a _ cap w m1 (by omega)
  cases h5 : rightB p with
  | false => exact reset_wrong p a _ cap w (by omega) h5
  | true => exact reset_go p a _ cap l w hA rfl (by omega) h5

theorem readable6 : ∀ t ∈ Try.f6.params.toList, Try.prog.readableRec t = true ∧ t < Try.prog.types.size := by
  rw [Try.params6]
  intro t ht
  have h : t = 23 ∨ t = 24 := by simpa using ht
  rcases h with rfl | rfl <;> exact ⟨by kernel_rfl, by decide +kernel⟩

set_option maxRecDepth 100000 in
theorem penReset_lifted (os : Os) (started : os.Started) (H : Type) (enc : TypeId × Value → H) :
    ReturnsInHanded {} Try.checked os 6 .any (Rows.penResetSpec.pre6 enc Try.prog Try.f6 Rows.penResetRow.domain false) (Rows.penResetSpec.post enc Try.prog Try.f6 false true false false) := by
  refine returnsInHanded_of_change (C := Try.checked) Try.own started (by kernel_rfl) Try.func6
    (ChangeSpec.witness6 (enc := enc) (C := Try.checked) false ⟨#[], #[.agg #[.int .i64 0, .int .i64 0, .int .i64 0], .slice none 0 0], []⟩ 8 (by kernel_rfl) (by kernel_rfl) (by kernel_rfl) (by kernel_rfl)) ?_
  intro W base args ds gs before hval0 hW hcnd _
  have hval : ∀ (j : Nat) t v, Try.f6.params[j]? = some t → args[j]? = some v → Value.okWide Try.prog W .any base t v := hval0
  have hW' := hW
  obtain ⟨p, q, hA0, hV, rfl, hfz, hnd⟩ := hW
  have hA : DataW.TrodAll enc Try.prog W 0 (fun _ => true) true Try.f6.params.toList args.toList ds p := hA0
  rw [Try.params6] at hA hval
  obtain ⟨v0, v1, d0, d1, p0, p1, rfl, rfl, rfl, h0, h1⟩ := trodAll_two hA
  obtain ⟨q, rfl, iq0, iq1, iq2⟩ := open_pen (hval 0 23 v0 rfl rfl) h0
  obtain ⟨l, al, cl, hl⟩ := open_arg Try.underlying24 Try.underlying3 (by kernel_rfl) (okWide_slice Try.underlying24 (hval 1 24 v1 rfl rfl)) h1
  have run : Calls Try.prog 6 #[.agg #[.int .i64 q.fg, .int .i64 q.bg, .int .i64 q.fl], v1] W (LawTrue W) := runs_reset q v1 l al cl W hl
  clear hA0 hval0 hval hA
  refine run.mono fun e W' hl => ?_
  have hb := hl.below
  obtain ⟨rfl, _⟩ := hl
  exact ⟨_, rfl, law_post Try.laidOut readable6 (by kernel_rfl) Try.underlying4 rfl hW' (fun _ => rfl) hb⟩

theorem penReset_said : Rows.PenResetSaid :=
  OpenClaim.holds_of_wide 6 Try.f6 rfl rfl rfl rfl rfl rfl rfl ⟨rfl, rfl, rfl, rfl, rfl⟩ rfl rfl rfl rfl rfl (by kernel_rfl) Try.func6 (by kernel_rfl)
    (of_decide_eq_true (by kernel_rfl)) (by unfold Func.isWrapper; first | (rw [if_pos (by decide +kernel)]; kernel_rfl) | (rw [if_neg (by decide +kernel)]; exact ⟨rfl, rfl⟩))
    (fun os started H enc _ => penReset_lifted os started H enc)

end Go.Proofs.Ytinikpadbocfaaa
