/-
  Of any arguments the law LdiscSignals returns true, and they read as they did. No conditions.
-/
import Derived.Test.YtkggmjjjopfdbaaT0
import Derived.Test.YtkggmjjjopfdbaaP4
namespace Go.Proofs.Ytkggmjjjopfdbaa
open Go.ChangeShapes Go.WideShapes Go.ChangeAt Go.RowKit Go.Joins
open L17

theorem runs_signals (A : List Int) (aa : Option Addr) (ca : Nat) (x : Int) (keep next : Bool) (w : World) (hA : IArg .u8 w (.slice aa A.length ca) A aa ca) (hx : 0 ≤ x ∧ x < 256) : Calls Try.prog 6 #[.slice aa A.length ca, .int .u8 x, .bool keep, .bool next] w (LawTrue w) := by
  by_cases h : 40 < A.length
  · exact signals_long impl aa A.length ca x keep next w (arg_long hA) h
  · exact signals_walk impl A aa A.length ca x keep next w hA (by omega) hx.1 hx.2

theorem readable6 : ∀ t ∈ Try.f6.params.toList, Try.prog.readableRec t = true ∧ t < Try.prog.types.size := by
  rw [Try.params6]
  intro t ht
  have h : t = 31 ∨ t = 5 ∨ t = 4 := by
    have h2 := ht
    simp at h2
    first | exact h2 | (rcases h2 with h2 | h2 | h2 <;> simp [h2])
  rcases h with rfl | rfl | rfl <;> exact ⟨by kernel_rfl, by decide +kernel⟩

set_option maxRecDepth 100000 in
theorem ldiscSignals_lifted (os : Os) (started : os.Started) (H : Type) (enc : TypeId × Value → H) :
    ReturnsInHanded {} Try.checked os 6 .any (Rows.ldiscSignalsSpec.pre6 enc Try.prog Try.f6 Rows.ldiscSignalsRow.domain false) (Rows.ldiscSignalsSpec.post enc Try.prog Try.f6 false true false false) := by
  refine returnsInHanded_of_change (C := Try.checked) Try.own started (by kernel_rfl) Try.func6
    (ChangeSpec.witness6 (enc := enc) (C := Try.checked) false ⟨#[], #[.slice none 0 0, .int .u8 0, .bool false, .bool false], []⟩ 8 (by kernel_rfl) (by kernel_rfl) (by kernel_rfl) (by kernel_rfl)) ?_
  intro W base args ds gs before hval0 hW hcnd _
  have hval : ∀ (j : Nat) t v, Try.f6.params[j]? = some t → args[j]? = some v → Value.okWide Try.prog W .any base t v := hval0
  have hW' := hW
  obtain ⟨p, q, hA0, hV, rfl, hfz, hnd⟩ := hW
  have hA : DataW.TrodAll enc Try.prog W 0 (fun _ => true) true Try.f6.params.toList args.toList ds p := hA0
  rw [Try.params6] at hA hval
  obtain ⟨v0, v1, v2, v3, d0, d1, d2, d3, p0, p1, p2, p3, rfl, rfl, rfl, h0, h1, h2, h3⟩ := trodAll_four hA
  obtain ⟨K, a, ca, hK⟩ := open_arg Try.underlying31 Try.underlying5 (by kernel_rfl) (okWide_slice Try.underlying31 (hval 0 31 v0 rfl rfl)) h0
  obtain rfl := hK.shape
  obtain ⟨x, rfl, rfl, rfl, wx⟩ := open_int Try.underlying5 (hval 1 5 v1 rfl rfl) h1
  have bx := wf_u8 wx
  obtain ⟨kp, rfl, rfl, rfl⟩ := open_bool Try.underlying4 (hval 2 4 v2 rfl rfl) h2
  obtain ⟨nx, rfl, rfl, rfl⟩ := open_bool Try.underlying4 (hval 3 4 v3 rfl rfl) h3
  have run : Calls Try.prog 6 #[.slice a K.length ca, .int .u8 x, .bool kp, .bool nx] W (LawTrue W) := runs_signals K a ca x kp nx W hK ⟨bx.1, by have := bx.2; omega⟩
  clear hA0 hval0 hval hA
  refine run.mono fun e W' hl => ?_
  have hb := hl.below
  obtain ⟨rfl, _⟩ := hl
  exact ⟨_, rfl, law_post Try.laidOut readable6 (by kernel_rfl) Try.underlying4 rfl hW' (fun _ => rfl) hb⟩

theorem ldiscSignals_said : Rows.LdiscSignalsSaid :=
  OpenClaim.holds_of_wide 6 Try.f6 rfl rfl rfl rfl rfl rfl rfl ⟨rfl, rfl, rfl, rfl, rfl⟩ rfl rfl rfl rfl rfl (by kernel_rfl) Try.func6 (by kernel_rfl)
    (of_decide_eq_true (by kernel_rfl)) (by unfold Func.isWrapper; first | (rw [if_pos (by decide +kernel)]; kernel_rfl) | (rw [if_neg (by decide +kernel)]; exact ⟨rfl, rfl⟩))
    (fun os started H enc _ => ldiscSignals_lifted os started H enc)

end Go.Proofs.Ytkggmjjjopfdbaa
