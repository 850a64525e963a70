/-
  Of any arguments the law LdiscLines returns true, and they read as they did. No conditions.
-/
import Derived.Test.YtkggmjjjopfdbaaT0
import Derived.Test.YtkggmjjjopfdbaaP5
import Derived.Test.YtkggmjjjopfdbaaS0
namespace Go.Proofs.Ytkggmjjjopfdbaa
open Go.ChangeShapes Go.WideShapes Go.ChangeAt Go.RowKit Go.Joins
open L17

theorem runs_lines (ad : Option Addr) (n ca : Nat) (LS : List (List Int)) (x : Int) (w : World) (hn : (n : Int) ≤ 9223372036854775807) (hA : LArg w ad n LS) (hx : 0 ≤ x ∧ x < 256) : Calls Try.prog 5 #[.slice ad n ca, .int .u8 x] w (LawTrue w) := by
  by_cases h : 12 < n
  · exact lines_long impl ad n ca x w hn h
  · exact lines_walk impl LS ad n ca x w hA (by omega) hx.1 hx.2

theorem readable5 : ∀ t ∈ Try.f5.params.toList, Try.prog.readableRec t = true ∧ t < Try.prog.types.size := by
  rw [Try.params5]
  intro t ht
  have h : t = 32 ∨ t = 5 := by
    have h2 := ht
    simp at h2
    first | exact h2 | (rcases h2 with h2 | h2 | h2 <;> simp [h2])
  rcases h with rfl | rfl <;> exact ⟨by kernel_rfl, by decide +kernel⟩

set_option maxRecDepth 100000 in
theorem ldiscLines_lifted (os : Os) (started : os.Started) (H : Type) (enc : TypeId × Value → H) :
    ReturnsInHanded {} Try.checked os 5 .any (Rows.ldiscLinesSpec.pre6 enc Try.prog Try.f5 Rows.ldiscLinesRow.domain false) (Rows.ldiscLinesSpec.post enc Try.prog Try.f5 false true false false) := by
  refine returnsInHanded_of_change (C := Try.checked) Try.own started (by kernel_rfl) Try.func5
    (ChangeSpec.witness6 (enc := enc) (C := Try.checked) false ⟨#[], #[.slice none 0 0, .int .u8 0], []⟩ 8 (by kernel_rfl) (by kernel_rfl) (by kernel_rfl) (by kernel_rfl)) ?_
  intro W base args ds gs before hval0 hW hcnd _
  have hval : ∀ (j : Nat) t v, Try.f5.params[j]? = some t → args[j]? = some v → Value.okWide Try.prog W .any base t v := hval0
  have hW' := hW
  obtain ⟨p, q, hA0, hV, rfl, hfz, hnd⟩ := hW
  have hA : DataW.TrodAll enc Try.prog W 0 (fun _ => true) true Try.f5.params.toList args.toList ds p := hA0
  rw [Try.params5] at hA hval
  obtain ⟨v0, v1, d0, d1, p0, p1, rfl, rfl, rfl, h0, h1⟩ := trodAll_two hA
  obtain ⟨ad, n, ca, LS, rfl, hn, hLA⟩ := open_lines (hval 0 32 v0 rfl rfl) h0
  obtain ⟨x, rfl, rfl, rfl, wx⟩ := open_int Try.underlying5 (hval 1 5 v1 rfl rfl) h1
  have bx := wf_u8 wx
  have run : Calls Try.prog 5 #[.slice ad n ca, .int .u8 x] W (LawTrue W) := runs_lines ad n ca LS x W hn hLA ⟨bx.1, by have := bx.2; omega⟩
  clear hA0 hval0 hval hA
  refine run.mono fun e W' hl => ?_
  have hb := hl.below
  obtain ⟨rfl, _⟩ := hl
  exact ⟨_, rfl, law_post Try.laidOut readable5 (by kernel_rfl) Try.underlying4 rfl hW' (fun _ => rfl) hb⟩

theorem ldiscLines_said : Rows.LdiscLinesSaid :=
  OpenClaim.holds_of_wide 5 Try.f5 rfl rfl rfl rfl rfl rfl rfl ⟨rfl, rfl, rfl, rfl, rfl⟩ rfl rfl rfl rfl rfl (by kernel_rfl) Try.func5 (by kernel_rfl)
    (of_decide_eq_true (by kernel_rfl)) (by unfold Func.isWrapper; first | (rw [if_pos (by decide +kernel)]; kernel_rfl) | (rw [if_neg (by decide +kernel)]; exact ⟨rfl, rfl⟩))
    (fun os started H enc _ => ldiscLines_lifted os started H enc)

end Go.Proofs.Ytkggmjjjopfdbaa
