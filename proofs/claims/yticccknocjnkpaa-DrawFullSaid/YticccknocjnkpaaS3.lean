/-
  Of any arguments the law DrawFull returns true, and they read as they did. No conditions.
-/
import Derived.Test.YticccknocjnkpaaRB
import Derived.Test.YticccknocjnkpaaT0
namespace Go.Proofs.Yticccknocjnkpaa
open Go.ChangeShapes Go.WideShapes Go.ChangeAt Go.RowKit Go.Joins

theorem readable5 : ∀ t ∈ Try.f5.params.toList, Try.prog.readableRec t = true ∧ t < Try.prog.types.size := by
  rw [Try.params5]
  intro t ht
  have h : t = 41 ∨ t = 3 ∨ t = 33 := by
    have h2 := ht
    simp at h2
    first | exact h2 | (rcases h2 with h2 | h2 | h2 <;> simp [h2])
  rcases h with rfl | rfl | rfl <;> exact ⟨by kernel_rfl, by decide +kernel⟩

set_option maxRecDepth 100000 in
theorem drawFull_lifted (os : Os) (started : os.Started) (H : Type) (enc : TypeId × Value → H) :
    ReturnsInHanded {} Try.checked os 5 .any (Rows.drawFullSpec.pre6 enc Try.prog Try.f5 Rows.drawFullRow.domain false) (Rows.drawFullSpec.post enc Try.prog Try.f5 false true false false) := by
  refine returnsInHanded_of_change (C := Try.checked) Try.own started (by kernel_rfl) Try.func5
    (ChangeSpec.witness6 (enc := enc) (C := Try.checked) false ⟨#[], #[.agg #[.int .i64 0, .int .i64 0, .int .i64 0, .int .i64 0], .int .i64 0, .int .i64 0, .slice none 0 0], []⟩ 8 (by kernel_rfl) (by kernel_rfl) (by kernel_rfl) (by kernel_rfl)) ?_
  intro W base args ds gs before hval0 hW hcnd _
  have hval : ∀ (j : Nat) t v, Try.f5.params[j]? = some t → args[j]? = some v → Value.okWide Try.prog W .any base t v := hval0
  have hW' := hW
  obtain ⟨p, q, hA0, hV, rfl, hfz, hnd⟩ := hW
  have hA : DataW.TrodAll enc Try.prog W 0 (fun _ => true) true Try.f5.params.toList args.toList ds p := hA0
  rw [Try.params5] at hA hval
  obtain ⟨v0, v1, v2, v3, d0, d1, d2, d3, p0, p1, p2, p3, rfl, rfl, rfl, h0, h1, h2, h3⟩ := trodAll_four hA
  obtain ⟨r, rfl, hr⟩ := open_rect (hval 0 41 v0 rfl rfl) h0
  obtain ⟨x, rfl, rfl, rfl, wx⟩ := open_int Try.underlying3 (hval 1 3 v1 rfl rfl) h1
  obtain ⟨y, rfl, rfl, rfl, wy⟩ := open_int Try.underlying3 (hval 2 3 v2 rfl rfl) h2
  obtain ⟨la, n, lc, F, rfl, hrows⟩ := open_rows Try.underlying33 (by kernel_rfl) rfl k53 (hval 3 33 v3 rfl rfl) h3
  have hn := hrows.le
  have hcap : n ≤ lc := by
    obtain ⟨fuel, hf⟩ := h3
    exact slice_cap Try.underlying33 hf
  have run : Calls Try.prog 5 #[.agg #[.int .i64 r.x, .int .i64 r.y, .int .i64 r.w, .int .i64 r.h], .int .i64 x, .int .i64 y, .slice la n lc] W (LawTrue W) := drawFull5 drawC_holds r x y la n lc _ W (rows_cells hrows) (cells_lt (rows_cells hrows)) (by omega) hcap (wf_I64 wx) (wf_I64 wy) hr
  clear hA0 hval0 hval hA
  refine run.mono fun e W' hl => ?_
  have hb := hl.below
  obtain ⟨rfl, _⟩ := hl
  exact ⟨_, rfl, law_post Try.laidOut readable5 (by kernel_rfl) Try.underlying4 rfl hW' (fun _ => rfl) hb⟩

theorem drawFull_said : Rows.DrawFullSaid :=
  OpenClaim.holds_of_wide 5 Try.f5 rfl rfl rfl rfl rfl rfl rfl ⟨rfl, rfl, rfl, rfl, rfl⟩ rfl rfl rfl rfl rfl (by kernel_rfl) Try.func5 (by kernel_rfl)
    (of_decide_eq_true (by kernel_rfl)) (by unfold Func.isWrapper; first | (rw [if_pos (by decide +kernel)]; kernel_rfl) | (rw [if_neg (by decide +kernel)]; exact ⟨rfl, rfl⟩))
    (fun os started H enc _ => drawFull_lifted os started H enc)

end Go.Proofs.Yticccknocjnkpaa
