/-
  Of any arguments the law PtyRaw returns true, and they read as they did. No conditions.
-/
import Derived.Test.YtjfhmpjpdcckhaaE3
import Derived.Lib.SmallJoins
import Derived.Deep.Grids
namespace Go.Proofs.Ytjfhmpjpdcckhaa
open Go.ChangeShapes Go.WideShapes Go.ChangeAt Go.RowKit Go.Joins
open L17 L18

theorem arg_max {k : IntKind} {W : World} {v : Value} {l : List Int} {a : Option Addr} {cap : Nat} (h : IArg k W v l a cap) : (l.length : Int) ≤ 9223372036854775807 := by
  have h1 := h.lenLe
  have h2 := h.capLe
  unfold maxLen at h2
  omega

theorem readable3 : ∀ t ∈ Try.f3.params.toList, Try.prog.readableRec t = true ∧ t < Try.prog.types.size := by
  rw [Try.params3]
  intro t ht
  have h : t = 22 ∨ t = 5 := by
    have h2 := ht
    simp at h2
    first | exact h2 | (rcases h2 with h2 | h2 | h2 <;> simp [h2])
  rcases h with rfl | rfl <;> exact ⟨by kernel_rfl, by decide +kernel⟩

set_option maxRecDepth 100000 in
theorem ptyRaw_lifted (os : Os) (started : os.Started) (H : Type) (enc : TypeId × Value → H) :
    ReturnsInHanded {} Try.checked os 3 .any (Rows.ptyRawSpec.pre6 enc Try.prog Try.f3 Rows.ptyRawRow.domain false) (Rows.ptyRawSpec.post enc Try.prog Try.f3 false true false false) := by
  refine returnsInHanded_of_change (C := Try.checked) Try.own started (by kernel_rfl) Try.func3
    (ChangeSpec.witness6 (enc := enc) (C := Try.checked) false ⟨#[], #[.slice none 0 0, .slice none 0 0, .int .u8 0], []⟩ 8 (by kernel_rfl) (by kernel_rfl) (by kernel_rfl) (by kernel_rfl)) ?_
  intro W base args ds gs before hval0 hW hcnd _
  have hval : ∀ (j : Nat) t v, Try.f3.params[j]? = some t → args[j]? = some v → Value.okWide Try.prog W .any base t v := hval0
  have hW' := hW
  obtain ⟨p, q, hA0, hV, rfl, hfz, hnd⟩ := hW
  have hA : DataW.TrodAll enc Try.prog W 0 (fun _ => true) true Try.f3.params.toList args.toList ds p := hA0
  rw [Try.params3] at hA hval
  obtain ⟨v0, v1, v2, d0, d1, d2, p0, p1, p2, rfl, rfl, rfl, h0, h1, h2⟩ := trodAll_three hA
  obtain ⟨D, aD, cD, hD⟩ := open_arg Try.underlying22 Try.underlying5 (by kernel_rfl) (okWide_slice Try.underlying22 (hval 0 22 v0 rfl rfl)) h0
  obtain rfl := hD.shape
  obtain ⟨P, aP, cP, hP⟩ := open_arg Try.underlying22 Try.underlying5 (by kernel_rfl) (okWide_slice Try.underlying22 (hval 1 22 v1 rfl rfl)) h1
  obtain rfl := hP.shape
  obtain ⟨z, rfl, rfl, rfl, wz⟩ := open_int Try.underlying5 (hval 2 5 v2 rfl rfl) h2
  have run : Calls Try.prog 3 #[.slice aD D.length cD, .slice aP P.length cP, .int .u8 z] W (LawTrue W) := by
    have b0 := wf_u8 wz
    by_cases h : 500 < D.length ∨ 500 < P.length
    · exact raw_long aD aP D.length cD P.length cP z W (arg_max hD) (arg_max hP) h
    · exact raw_walk D P aD aP D.length cD P.length cP z W hD hP rfl rfl (by omega) (by omega) (by omega) (by omega)
  clear hA0 hval0 hval hA
  refine run.mono fun e W' hl => ?_
  have hb := hl.below
  obtain ⟨rfl, _⟩ := hl
  exact ⟨_, rfl, law_post Try.laidOut readable3 (by kernel_rfl) Try.underlying4 rfl hW' (fun _ => rfl) hb⟩

theorem ptyRaw_said : Rows.PtyRawSaid :=
  OpenClaim.holds_of_wide 3 Try.f3 rfl rfl rfl rfl rfl rfl rfl ⟨rfl, rfl, rfl, rfl, rfl⟩ rfl rfl rfl rfl rfl (by kernel_rfl) Try.func3 (by kernel_rfl)
    (of_decide_eq_true (by kernel_rfl)) (by unfold Func.isWrapper; first | (rw [if_pos (by decide +kernel)]; kernel_rfl) | (rw [if_neg (by decide +kernel)]; exact ⟨rfl, rfl⟩))
    (fun os started H enc _ => ptyRaw_lifted os started H enc)

end Go.Proofs.Ytjfhmpjpdcckhaa
