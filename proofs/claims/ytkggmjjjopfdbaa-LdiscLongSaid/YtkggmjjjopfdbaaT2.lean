/-
  Of any arguments the law LdiscLong returns true, and they read as they did. No conditions.
-/
import Derived.Test.YtkggmjjjopfdbaaT0
import Derived.Test.YtkggmjjjopfdbaaP7
namespace Go.Proofs.Ytkggmjjjopfdbaa
open Go.ChangeShapes Go.WideShapes Go.ChangeAt Go.RowKit Go.Joins
open L17

theorem runs_long (c x : Int) (nl canon : Bool) (w : World) (hx : 0 ≤ x ∧ x < 256) : Calls Try.prog 4 #[.int .u8 c, .int .u8 x, .bool nl, .bool canon] w (LawTrue w) := by
  by_cases h1 : c < 97
  · exact long_other impl c x nl canon w (.inl h1)
  · by_cases h2 : 122 < c
    · exact long_other impl c x nl canon w (.inr h2)
    · exact long_walk impl c x nl canon w h1 h2 hx.1 hx.2

theorem readable4 : ∀ t ∈ Try.f4.params.toList, Try.prog.readableRec t = true ∧ t < Try.prog.types.size := by
  rw [Try.params4]
  intro t ht
  have h : t = 5 ∨ t = 4 := by
    have h2 := ht
    simp at h2
    first | exact h2 | (rcases h2 with h2 | h2 | h2 <;> simp [h2])
  rcases h with rfl | rfl <;> exact ⟨by kernel_rfl, by decide +kernel⟩

set_option maxRecDepth 100000 in
theorem ldiscLong_lifted (os : Os) (started : os.Started) (H : Type) (enc : TypeId × Value → H) :
    ReturnsInHanded {} Try.checked os 4 .any (Rows.ldiscLongSpec.pre6 enc Try.prog Try.f4 Rows.ldiscLongRow.domain false) (Rows.ldiscLongSpec.post enc Try.prog Try.f4 false true false false) := by
  refine returnsInHanded_of_change (C := Try.checked) Try.own started (by kernel_rfl) Try.func4
    (ChangeSpec.witness6 (enc := enc) (C := Try.checked) false ⟨#[], #[.int .u8 0, .int .u8 0, .bool false, .bool false], []⟩ 8 (by kernel_rfl) (by kernel_rfl) (by kernel_rfl) (by kernel_rfl)) ?_
  intro W base args ds gs before hval0 hW hcnd _
  have hval : ∀ (j : Nat) t v, Try.f4.params[j]? = some t → args[j]? = some v → Value.okWide Try.prog W .any base t v := hval0
  have hW' := hW
  obtain ⟨p, q, hA0, hV, rfl, hfz, hnd⟩ := hW
  have hA : DataW.TrodAll enc Try.prog W 0 (fun _ => true) true Try.f4.params.toList args.toList ds p := hA0
  rw [Try.params4] at hA hval
  obtain ⟨v0, v1, v2, v3, d0, d1, d2, d3, p0, p1, p2, p3, rfl, rfl, rfl, h0, h1, h2, h3⟩ := trodAll_four hA
  obtain ⟨c, rfl, rfl, rfl, wc⟩ := open_int Try.underlying5 (hval 0 5 v0 rfl rfl) h0
  have bc := wf_u8 wc
  obtain ⟨x, rfl, rfl, rfl, wx⟩ := open_int Try.underlying5 (hval 1 5 v1 rfl rfl) h1
  have bx := wf_u8 wx
  obtain ⟨nl, rfl, rfl, rfl⟩ := open_bool Try.underlying4 (hval 2 4 v2 rfl rfl) h2
  obtain ⟨cn, rfl, rfl, rfl⟩ := open_bool Try.underlying4 (hval 3 4 v3 rfl rfl) h3
  have run : Calls Try.prog 4 #[.int .u8 c, .int .u8 x, .bool nl, .bool cn] W (LawTrue W) := runs_long c x nl cn W ⟨bx.1, by have := bx.2; omega⟩
  clear hA0 hval0 hval hA
  refine run.mono fun e W' hl => ?_
  have hb := hl.below
  obtain ⟨rfl, _⟩ := hl
  exact ⟨_, rfl, law_post Try.laidOut readable4 (by kernel_rfl) Try.underlying4 rfl hW' (fun _ => rfl) hb⟩

theorem ldiscLong_said : Rows.LdiscLongSaid :=
  OpenClaim.holds_of_wide 4 Try.f4 rfl rfl rfl rfl rfl rfl rfl ⟨rfl, rfl, rfl, rfl, rfl⟩ rfl rfl rfl rfl rfl (by kernel_rfl) Try.func4 (by kernel_rfl)
    (of_decide_eq_true (by kernel_rfl)) (by unfold Func.isWrapper; first | (rw [if_pos (by decide +kernel)]; kernel_rfl) | (rw [if_neg (by decide +kernel)]; exact ⟨rfl, rfl⟩))
    (fun os started H enc _ => ldiscLong_lifted os started H enc)

end Go.Proofs.Ytkggmjjjopfdbaa
