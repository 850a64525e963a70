/-
  Of any arguments the law ClockOnce returns true, and they read as they did. No conditions.
-/
import Derived.Test.YtihciknbmhadjaaG2
import Derived.Test.YtihciknbmhadjaaRows
namespace Go.Proofs.Ytihciknbmhadjaa
open Go.ChangeShapes Go.WideShapes Go.ChangeAt Go.RowKit Go.Joins

theorem runs_once (a : Option Addr) (cap : Nat) (l : List Int) (y : Int) (w : World) (hA : IArg .u8 w (.slice a l.length cap) l a cap) (hy : 0 ≤ y ∧ y < 256) : Calls Try.prog 5 #[.slice a l.length cap, .int .u8 y] w (LawTrue w) := by
  by_cases h1 : 40 < l.length
  · exact once_long a l.length cap y w (by have h2 := hA.lenLe; have h3 := hA.capLe; unfold maxLen at h3; omega) h1
  · obtain ⟨Y, rfl⟩ : ∃ Y : Nat, y = Y := ⟨y.toNat, by omega⟩
    exact once_go a l.length cap Y l w hA rfl (fun j hj => wf_u8 (hA.wf _ (getD_mem hj))) (by omega) (by omega)

theorem readable5 : ∀ t ∈ Try.f5.params.toList, Try.prog.readableRec t = true ∧ t < Try.prog.types.size := by
  rw [Try.params5]
  intro t ht
  have h : t = 43 ∨ t = 5 := by
    have h2 := ht
    simp at h2
    first | exact h2 | (rcases h2 with h2 | h2 | h2 <;> simp [h2])
  rcases h with rfl | rfl <;> exact ⟨by kernel_rfl, by decide +kernel⟩

set_option maxRecDepth 100000 in
theorem clockOnce_lifted (os : Os) (started : os.Started) (H : Type) (enc : TypeId × Value → H) :
    ReturnsInHanded {} Try.checked os 5 .any (Rows.clockOnceSpec.pre6 enc Try.prog Try.f5 Rows.clockOnceRow.domain false) (Rows.clockOnceSpec.post enc Try.prog Try.f5 false true false false) := by
  refine returnsInHanded_of_change (C := Try.checked) Try.own started (by kernel_rfl) Try.func5
    (ChangeSpec.witness6 (enc := enc) (C := Try.checked) false ⟨#[], #[.slice none 0 0, .int .u8 0], []⟩ 8 (by kernel_rfl) (by kernel_rfl) (by kernel_rfl) (by kernel_rfl)) ?_
  intro W base args ds gs before hval0 hW hcnd _
  have hval : ∀ (j : Nat) t v, Try.f5.params[j]? = some t → args[j]? = some v → Value.okWide Try.prog W .any base t v := hval0
  have hW' := hW
  obtain ⟨p, q, hA0, hV, rfl, hfz, hnd⟩ := hW
  have hA : DataW.TrodAll enc Try.prog W 0 (fun _ => true) true Try.f5.params.toList args.toList ds p := hA0
  rw [Try.params5] at hA hval
  obtain ⟨v0, v1, d0, d1, p0, p1, rfl, rfl, rfl, h0, h1⟩ := trodAll_two hA
  obtain ⟨l, a, cap, hl⟩ := open_arg Try.underlying43 Try.underlying5 (by kernel_rfl) (okWide_slice Try.underlying43 (hval 0 43 v0 rfl rfl)) h0
  obtain rfl := hl.shape
  obtain ⟨y, rfl, rfl, rfl, wy⟩ := open_int Try.underlying5 (hval 1 5 v1 rfl rfl) h1
  have run : Calls Try.prog 5 #[.slice a l.length cap, .int .u8 y] W (LawTrue W) := runs_once a cap l y W hl (wf_u8 wy)
  clear hA0 hval0 hval hA
  refine run.mono fun e W' hl => ?_
  have hb := hl.below
  obtain ⟨rfl, _⟩ := hl
  exact ⟨_, rfl, law_post Try.laidOut readable5 (by kernel_rfl) Try.underlying4 rfl hW' (fun _ => rfl) hb⟩

theorem clockOnce_said : Rows.ClockOnceSaid :=
  OpenClaim.holds_of_wide 5 Try.f5 rfl rfl rfl rfl rfl rfl rfl ⟨rfl, rfl, rfl, rfl, rfl⟩ rfl rfl rfl rfl rfl (by kernel_rfl) Try.func5 (by kernel_rfl)
    (of_decide_eq_true (by kernel_rfl)) (by unfold Func.isWrapper; first | (rw [if_pos (by decide +kernel)]; kernel_rfl) | (rw [if_neg (by decide +kernel)]; exact ⟨rfl, rfl⟩))
    (fun os started H enc _ => clockOnce_lifted os started H enc)

end Go.Proofs.Ytihciknbmhadjaa
