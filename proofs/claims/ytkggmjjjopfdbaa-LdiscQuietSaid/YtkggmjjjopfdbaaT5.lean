/-
  Of any arguments the law LdiscQuiet returns true, and they read as they did. No conditions.
-/
import Derived.Test.YtkggmjjjopfdbaaT0
import Derived.Test.YtkggmjjjopfdbaaP6
namespace Go.Proofs.Ytkggmjjjopfdbaa
open Go.ChangeShapes Go.WideShapes Go.ChangeAt Go.RowKit Go.Joins
open L17

theorem runs_quiet (A : List Int) (aa : Option Addr) (ca : Nat) (w : World) (hA : IArg .u8 w (.slice aa A.length ca) A aa ca) : Calls Try.prog 7 #[.slice aa A.length ca] w (LawTrue w) := by
  by_cases h : 200 < A.length
  · exact quiet_long impl aa A.length ca w (arg_long hA) h
  · exact quiet_walk impl A aa A.length ca w hA (by omega)

theorem readable7 : ∀ t ∈ Try.f7.params.toList, Try.prog.readableRec t = true ∧ t < Try.prog.types.size := by
  rw [Try.params7]
  intro t ht
  have h : t = 31 := by
    have h2 := ht
    simp at h2
    first | exact h2 | (rcases h2 with h2 | h2 | h2 <;> simp [h2])
  rcases h with rfl <;> exact ⟨by kernel_rfl, by decide +kernel⟩

set_option maxRecDepth 100000 in
theorem ldiscQuiet_lifted (os : Os) (started : os.Started) (H : Type) (enc : TypeId × Value → H) :
    ReturnsInHanded {} Try.checked os 7 .any (Rows.ldiscQuietSpec.pre6 enc Try.prog Try.f7 Rows.ldiscQuietRow.domain false) (Rows.ldiscQuietSpec.post enc Try.prog Try.f7 false true false false) := by
  refine returnsInHanded_of_change (C := Try.checked) Try.own started (by kernel_rfl) Try.func7
    (ChangeSpec.witness6 (enc := enc) (C := Try.checked) false ⟨#[], #[.slice none 0 0], []⟩ 8 (by kernel_rfl) (by kernel_rfl) (by kernel_rfl) (by kernel_rfl)) ?_
  intro W base args ds gs before hval0 hW hcnd _
  have hval : ∀ (j : Nat) t v, Try.f7.params[j]? = some t → args[j]? = some v → Value.okWide Try.prog W .any base t v := hval0
  have hW' := hW
  obtain ⟨p, q, hA0, hV, rfl, hfz, hnd⟩ := hW
  have hA : DataW.TrodAll enc Try.prog W 0 (fun _ => true) true Try.f7.params.toList args.toList ds p := hA0
  rw [Try.params7] at hA hval
  obtain ⟨v0, d0, rfl, rfl, h0⟩ := trodAll_one hA
  obtain ⟨K, a, ca, hK⟩ := open_arg Try.underlying31 Try.underlying5 (by kernel_rfl) (okWide_slice Try.underlying31 (hval 0 31 v0 rfl rfl)) h0
  obtain rfl := hK.shape
  have run : Calls Try.prog 7 #[.slice a K.length ca] W (LawTrue W) := runs_quiet K a ca W hK
  clear hA0 hval0 hval hA
  refine run.mono fun e W' hl => ?_
  have hb := hl.below
  obtain ⟨rfl, _⟩ := hl
  exact ⟨_, rfl, law_post Try.laidOut readable7 (by kernel_rfl) Try.underlying4 rfl hW' (fun _ => rfl) hb⟩

theorem ldiscQuiet_said : Rows.LdiscQuietSaid :=
  OpenClaim.holds_of_wide 7 Try.f7 rfl rfl rfl rfl rfl rfl rfl ⟨rfl, rfl, rfl, rfl, rfl⟩ rfl rfl rfl rfl rfl (by kernel_rfl) Try.func7 (by kernel_rfl)
    (of_decide_eq_true (by kernel_rfl)) (by unfold Func.isWrapper; first | (rw [if_pos (by decide +kernel)]; kernel_rfl) | (rw [if_neg (by decide +kernel)]; exact ⟨rfl, rfl⟩))
    (fun os started H enc _ => ldiscQuiet_lifted os started H enc)

end Go.Proofs.Ytkggmjjjopfdbaa
