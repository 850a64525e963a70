/-
  Of any arguments the law LdiscErase returns true, and they read as they did. No conditions.
-/
import Derived.Test.YtkggmjjjopfdbaaT0
import Derived.Test.YtkggmjjjopfdbaaP3
namespace Go.Proofs.Ytkggmjjjopfdbaa
open Go.ChangeShapes Go.WideShapes Go.ChangeAt Go.RowKit Go.Joins
open L17

theorem runs_erase (A B : List Int) (aa ab : Option Addr) (ca cb : Nat) (w : World) (hA : IArg .u8 w (.slice aa A.length ca) A aa ca) (hB : IArg .u8 w (.slice ab B.length cb) B ab cb) : Calls Try.prog 8 #[.slice aa A.length ca, .slice ab B.length cb] w (LawTrue w) := by
  by_cases h : 40 < A.length ∨ 40 < B.length
  · exact erase_long impl aa ab A.length B.length ca cb w (arg_long hA) (arg_long hB) h
  · exact erase_walk impl A B aa ab A.length B.length ca cb w hA hB (by omega) (by omega)

theorem readable8 : ∀ t ∈ Try.f8.params.toList, Try.prog.readableRec t = true ∧ t < Try.prog.types.size := by
  rw [Try.params8]
  intro t ht
  have h : t = 31 := by
    have h2 := ht
    simp at h2
    first | exact h2 | (rcases h2 with h2 | h2 | h2 <;> simp [h2])
  rcases h with rfl <;> exact ⟨by kernel_rfl, by decide +kernel⟩

set_option maxRecDepth 100000 in
theorem ldiscErase_lifted (os : Os) (started : os.Started) (H : Type) (enc : TypeId × Value → H) :
    ReturnsInHanded {} Try.checked os 8 .any (Rows.ldiscEraseSpec.pre6 enc Try.prog Try.f8 Rows.ldiscEraseRow.domain false) (Rows.ldiscEraseSpec.post enc Try.prog Try.f8 false true false false) := by
  refine returnsInHanded_of_change (C := Try.checked) Try.own started (by kernel_rfl) Try.func8
    (ChangeSpec.witness6 (enc := enc) (C := Try.checked) false ⟨#[], #[.slice none 0 0, .slice none 0 0], []⟩ 8 (by kernel_rfl) (by kernel_rfl) (by kernel_rfl) (by kernel_rfl)) ?_
  intro W base args ds gs before hval0 hW hcnd _
  have hval : ∀ (j : Nat) t v, Try.f8.params[j]? = some t → args[j]? = some v → Value.okWide Try.prog W .any base t v := hval0
  have hW' := hW
  obtain ⟨p, q, hA0, hV, rfl, hfz, hnd⟩ := hW
  have hA : DataW.TrodAll enc Try.prog W 0 (fun _ => true) true Try.f8.params.toList args.toList ds p := hA0
  rw [Try.params8] at hA hval
  obtain ⟨v0, v1, d0, d1, p0, p1, rfl, rfl, rfl, h0, h1⟩ := trodAll_two hA
  obtain ⟨K, a, ca, hK⟩ := open_arg Try.underlying31 Try.underlying5 (by kernel_rfl) (okWide_slice Try.underlying31 (hval 0 31 v0 rfl rfl)) h0
  obtain rfl := hK.shape
  obtain ⟨L, a2, cb, hL⟩ := open_arg Try.underlying31 Try.underlying5 (by kernel_rfl) (okWide_slice Try.underlying31 (hval 1 31 v1 rfl rfl)) h1
  obtain rfl := hL.shape
  have run : Calls Try.prog 8 #[.slice a K.length ca, .slice a2 L.length cb] W (LawTrue W) := runs_erase K L a a2 ca cb W hK hL
  clear hA0 hval0 hval hA
  refine run.mono fun e W' hl => ?_
  have hb := hl.below
  obtain ⟨rfl, _⟩ := hl
  exact ⟨_, rfl, law_post Try.laidOut readable8 (by kernel_rfl) Try.underlying4 rfl hW' (fun _ => rfl) hb⟩

theorem ldiscErase_said : Rows.LdiscEraseSaid :=
  OpenClaim.holds_of_wide 8 Try.f8 rfl rfl rfl rfl rfl rfl rfl ⟨rfl, rfl, rfl, rfl, rfl⟩ rfl rfl rfl rfl rfl (by kernel_rfl) Try.func8 (by kernel_rfl)
    (of_decide_eq_true (by kernel_rfl)) (by unfold Func.isWrapper; first | (rw [if_pos (by decide +kernel)]; kernel_rfl) | (rw [if_neg (by decide +kernel)]; exact ⟨rfl, rfl⟩))
    (fun os started H enc _ => ldiscErase_lifted os started H enc)

end Go.Proofs.Ytkggmjjjopfdbaa
