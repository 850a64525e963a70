/-
  Of any arguments the law OpostLines returns true, and they read as they did. No conditions.
-/
import Derived.Test.YtjpdlnifbinloaaE4
import Derived.Test.YtjpdlnifbinloaaS1
import Derived.Lib.SmallJoins
namespace Go.Proofs.Ytjpdlnifbinloaa
open Go.ChangeShapes Go.WideShapes Go.ChangeAt Go.RowKit Go.Joins

theorem readable6 : ∀ t ∈ Try.f6.params.toList, Try.prog.readableRec t = true ∧ t < Try.prog.types.size := by
  rw [Try.params6]
  intro t ht
  have h : t = 22 ∨ t = 5 := by
    have h2 := ht
    simp at h2
    first | exact h2 | (rcases h2 with h2 | h2 | h2 <;> simp [h2])
  rcases h with rfl | rfl <;> exact ⟨by kernel_rfl, by decide +kernel⟩

set_option maxRecDepth 100000 in
theorem opostLines_lifted (os : Os) (started : os.Started) (H : Type) (enc : TypeId × Value → H) :
    ReturnsInHanded {} Try.checked os 6 .any (Rows.opostLinesSpec.pre6 enc Try.prog Try.f6 Rows.opostLinesRow.domain false) (Rows.opostLinesSpec.post enc Try.prog Try.f6 false true false false) := by
  refine returnsInHanded_of_change (C := Try.checked) Try.own started (by kernel_rfl) Try.func6
    (ChangeSpec.witness6 (enc := enc) (C := Try.checked) false ⟨#[], #[.slice none 0 0, .slice none 0 0, .int .u8 0], []⟩ 8 (by kernel_rfl) (by kernel_rfl) (by kernel_rfl) (by kernel_rfl)) ?_
  intro W base args ds gs before hval0 hW hcnd _
  have hval : ∀ (j : Nat) t v, Try.f6.params[j]? = some t → args[j]? = some v → Value.okWide Try.prog W .any base t v := hval0
  have hW' := hW
  obtain ⟨p, q, hA0, hV, rfl, hfz, hnd⟩ := hW
  have hA : DataW.TrodAll enc Try.prog W 0 (fun _ => true) true Try.f6.params.toList args.toList ds p := hA0
  rw [Try.params6] at hA hval
  obtain ⟨v0, v1, v2, d0, d1, d2, p0, p1, p2, rfl, rfl, rfl, h0, h1, h2⟩ := trodAll_three hA
  obtain ⟨K, aK, cK, hK⟩ := open_arg Try.underlying22 Try.underlying5 (by kernel_rfl) (okWide_slice Try.underlying22 (hval 0 22 v0 rfl rfl)) h0
  obtain rfl := hK.shape
  obtain ⟨L, aL, cL, hL⟩ := open_arg Try.underlying22 Try.underlying5 (by kernel_rfl) (okWide_slice Try.underlying22 (hval 1 22 v1 rfl rfl)) h1
  obtain rfl := hL.shape
  obtain ⟨x, rfl, rfl, rfl, wx⟩ := open_int Try.underlying5 (hval 2 5 v2 rfl rfl) h2
  have run : Calls Try.prog 6 #[.slice aK K.length cK, .slice aL L.length cL, .int .u8 x] W (LawTrue W) := by
    by_cases h : 100 < K.length ∨ 100 < L.length
    · exact lines_out x aK aL K.length cK L.length cL W (arg_max hK) (arg_max hL) h
    · exact lines_go x (wf_u8 wx) aK aL K.length cK L.length cL K L W hK hL rfl rfl (by omega) (by omega)
  clear hA0 hval0 hval hA
  refine run.mono fun e W' hl => ?_
  have hb := hl.below
  obtain ⟨rfl, _⟩ := hl
  exact ⟨_, rfl, law_post Try.laidOut readable6 (by kernel_rfl) Try.underlying4 rfl hW' (fun _ => rfl) hb⟩

theorem opostLines_said : Rows.OpostLinesSaid :=
  OpenClaim.holds_of_wide 6 Try.f6 rfl rfl rfl rfl rfl rfl rfl ⟨rfl, rfl, rfl, rfl, rfl⟩ rfl rfl rfl rfl rfl (by kernel_rfl) Try.func6 (by kernel_rfl)
    (of_decide_eq_true (by kernel_rfl)) (by unfold Func.isWrapper; first | (rw [if_pos (by decide +kernel)]; kernel_rfl) | (rw [if_neg (by decide +kernel)]; exact ⟨rfl, rfl⟩))
    (fun os started H enc _ => opostLines_lifted os started H enc)

end Go.Proofs.Ytjpdlnifbinloaa
