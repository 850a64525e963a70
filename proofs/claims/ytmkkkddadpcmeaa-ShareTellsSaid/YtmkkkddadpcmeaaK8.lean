/-
  For every number and every list of floats the law ShareTells returns true, and the arguments read as they did; no conditions.
-/
import Derived.Test.YtmkkkddadpcmeaaK7
import Derived.Test.YtmkkkddadpcmeaaE2
namespace Go.Proofs.Ytmkkkddadpcmeaa
open Go.ChangeShapes Go.WideShapes Go.ChangeAt Go.RowKit

theorem readable4 : ∀ t ∈ Try.f4.params.toList, Try.prog.readableRec t = true ∧ t < Try.prog.types.size := by
  rw [Try.params4]
  intro t ht
  have h : t = 3 ∨ t = 27 := by simpa using ht
  rcases h with rfl | rfl
  · exact ⟨by kernel_rfl, by decide +kernel⟩
  · exact ⟨by kernel_rfl, by decide +kernel⟩

set_option maxRecDepth 100000 in
theorem tells_lifted (os : Os) (started : os.Started) (H : Type) (enc : TypeId × Value → H) :
    ReturnsInHanded {} Try.checked os 4 .any (Rows.shareTellsSpec.pre6 enc Try.prog Try.f4 Rows.shareTellsRow.domain false) (Rows.shareTellsSpec.post enc Try.prog Try.f4 false true false false) := by
  refine returnsInHanded_of_change (C := Try.checked) Try.own started (by kernel_rfl) Try.func4
    (ChangeSpec.witness6 (enc := enc) (C := Try.checked) false ⟨#[], #[.int .i64 0, .slice none 0 0], []⟩ 8 (by kernel_rfl) (by kernel_rfl) (by kernel_rfl) (by kernel_rfl)) ?_
  intro W base args ds gs before hval0 hW hcnd _
  have hval : ∀ (j : Nat) t v, Try.f4.params[j]? = some t → args[j]? = some v → Value.okWide Try.prog W .any base t v := hval0
  have hW' := hW
  obtain ⟨p, q, hA0, hV, rfl, hfz, hnd⟩ := hW
  have hA : DataW.TrodAll enc Try.prog W 0 (fun _ => true) true Try.f4.params.toList args.toList ds p := hA0
  rw [Try.params4] at hA hval
  obtain ⟨v0, v1, d0, d1, p0, p1, rfl, rfl, rfl, h0, h1⟩ := trodAll_two hA
  obtain ⟨a, rfl, rfl, rfl, wa⟩ := open_int Try.underlying3 (hval 0 3 v0 rfl rfl) h0
  have hs := open_fs (okWide_slice Try.underlying27 (hval 1 27 v1 rfl rfl)) h1
  clear hA0 hval0 hval hA h0 h1
  have run : Calls Try.prog 4 #[.int .i64 a, v1] W fun e W' => e = .returned (.bool true) ∧ Below W.heap.size W W' := by
    rcases hs with rfl | ⟨ad, len, cap, f, rfl, hl, hf, hc⟩
    · exact tells_none none 0 0 a W (Or.inl rfl) (by decide)
    · by_cases hn : len = 0 ∨ 64 < len
      · exact tells_none (some ad) len cap a W hn (by unfold maxLen at hl; omega)
      · obtain ⟨b, off, sp⟩ := ad
        have hsp : sp = none := by simpa [Addr.add] using World.cell?_spot (hc 0 (by omega))
        subst hsp
        exact tells_any f b off len cap a W (by omega) (by omega) hf (fun j hj => by rw [← add_plain]; exact hc j hj)
  refine run.mono fun e W' ⟨he, hb⟩ => ?_
  subst he
  exact ⟨_, rfl, law_post Try.laidOut readable4 (by kernel_rfl) Try.underlying4 rfl hW' (fun _ => rfl) hb⟩

theorem tells_holds : Rows.ShareTellsSaid :=
  OpenClaim.holds_of_wide 4 Try.f4 rfl rfl rfl rfl rfl rfl rfl ⟨rfl, rfl, rfl, rfl, rfl⟩ rfl rfl rfl rfl rfl (by kernel_rfl) Try.func4 (by kernel_rfl)
    (of_decide_eq_true (by kernel_rfl)) (by unfold Func.isWrapper; first | (rw [if_pos (by decide +kernel)]; kernel_rfl) | (rw [if_neg (by decide +kernel)]; exact ⟨rfl, rfl⟩))
    (fun os started H enc _ => tells_lifted os started H enc)

end Go.Proofs.Ytmkkkddadpcmeaa
