/-
  Of any arguments the law PatienceTells returns true, and they read as they did. No conditions.
-/
import Derived.Test.YtdhlgjkjdmejfaaE3
import Derived.Lib.SmallJoins
namespace Go.Proofs.Ytdhlgjkjdmejfaa
open Go.ChangeShapes Go.WideShapes Go.ChangeAt Go.RowKit Go.Joins

theorem wf_u16' {x : Int} (h : (Lit.int .u16 x).wf = true) : 0 ≤ x ∧ x < 65536 := by
  have z1 : IntKind.u16.min = 0 := by decide
  have z2 : IntKind.u16.max = 65535 := by decide
  simp only [Lit.wf, decide_eq_true_eq, Bool.and_eq_true] at h
  omega

theorem arg_max {k : IntKind} {W : World} {v : Value} {l : List Int} {a : Option Addr} {cap : Nat} (h : IArg k W v l a cap) : (l.length : Int) ≤ 9223372036854775807 := by
  have h1 := h.lenLe
  have h2 := h.capLe
  unfold maxLen at h2
  omega

theorem readable3 : ∀ t ∈ Try.f3.params.toList, Try.prog.readableRec t = true ∧ t < Try.prog.types.size := by
  rw [Try.params3]
  intro t ht
  have h : t = 3 ∨ t = 22 := by
    have h2 := ht
    simp at h2
    first | exact h2 | (rcases h2 with h2 | h2 | h2 <;> simp [h2])
  rcases h with rfl | rfl <;> exact ⟨by kernel_rfl, by decide +kernel⟩

set_option maxRecDepth 100000 in
theorem patienceTells_lifted (os : Os) (started : os.Started) (H : Type) (enc : TypeId × Value → H) :
    ReturnsInHanded {} Try.checked os 3 .any (Rows.patienceTellsSpec.pre6 enc Try.prog Try.f3 Rows.patienceTellsRow.domain false) (Rows.patienceTellsSpec.post enc Try.prog Try.f3 false true false false) := by
  refine returnsInHanded_of_change (C := Try.checked) Try.own started (by kernel_rfl) Try.func3
    (ChangeSpec.witness6 (enc := enc) (C := Try.checked) false ⟨#[], #[.int .i64 0, .int .i64 0, .int .i64 0, .int .i64 0, .slice none 0 0], []⟩ 8 (by kernel_rfl) (by kernel_rfl) (by kernel_rfl) (by kernel_rfl)) ?_
  intro W base args ds gs before hval0 hW hcnd _
  have hval : ∀ (j : Nat) t v, Try.f3.params[j]? = some t → args[j]? = some v → Value.okWide Try.prog W .any base t v := hval0
  have hW' := hW
  obtain ⟨p, q, hA0, hV, rfl, hfz, hnd⟩ := hW
  have hA : DataW.TrodAll enc Try.prog W 0 (fun _ => true) true Try.f3.params.toList args.toList ds p := hA0
  rw [Try.params3] at hA hval
  obtain ⟨v0, v1, v2, v3, v4, d0, d1, d2, d3, d4, p0, p1, p2, p3, p4, rfl, rfl, rfl, h0, h1, h2, h3, h4⟩ := trodAll_five hA
  obtain ⟨mi, rfl, rfl, rfl, wmi⟩ := open_int Try.underlying3 (hval 0 3 v0 rfl rfl) h0
  obtain ⟨ti, rfl, rfl, rfl, wti⟩ := open_int Try.underlying3 (hval 1 3 v1 rfl rfl) h1
  obtain ⟨wa, rfl, rfl, rfl, wwa⟩ := open_int Try.underlying3 (hval 2 3 v2 rfl rfl) h2
  obtain ⟨th, rfl, rfl, rfl, wth⟩ := open_int Try.underlying3 (hval 3 3 v3 rfl rfl) h3
  obtain ⟨K, aK, cK, hK⟩ := open_arg Try.underlying22 Try.underlying3 (by kernel_rfl) (okWide_slice Try.underlying22 (hval 4 22 v4 rfl rfl)) h4
  obtain rfl := hK.shape
  have run : Calls Try.prog 3 #[.int .i64 mi, .int .i64 ti, .int .i64 wa, .int .i64 th, .slice aK K.length cK] W (LawTrue W) := by
    by_cases h : 100 < K.length
    · exact tells_out mi ti wa th aK K.length cK W (arg_max hK) h
    · by_cases hr : rightW mi ti wa th
      · exact tells_go mi ti wa th aK K.length cK K W hK rfl (by omega) hr
      · exact tells_no mi ti wa th aK K.length cK W (by omega) hr
  clear hA0 hval0 hval hA
  refine run.mono fun e W' hl => ?_
  have hb := hl.below
  obtain ⟨rfl, _⟩ := hl
  exact ⟨_, rfl, law_post Try.laidOut readable3 (by kernel_rfl) Try.underlying4 rfl hW' (fun _ => rfl) hb⟩

theorem patienceTells_said : Rows.PatienceTellsSaid :=
  OpenClaim.holds_of_wide 3 Try.f3 rfl rfl rfl rfl rfl rfl rfl ⟨rfl, rfl, rfl, rfl, rfl⟩ rfl rfl rfl rfl rfl (by kernel_rfl) Try.func3 (by kernel_rfl)
    (of_decide_eq_true (by kernel_rfl)) (by unfold Func.isWrapper; first | (rw [if_pos (by decide +kernel)]; kernel_rfl) | (rw [if_neg (by decide +kernel)]; exact ⟨rfl, rfl⟩))
    (fun os started H enc _ => patienceTells_lifted os started H enc)

end Go.Proofs.Ytdhlgjkjdmejfaa
