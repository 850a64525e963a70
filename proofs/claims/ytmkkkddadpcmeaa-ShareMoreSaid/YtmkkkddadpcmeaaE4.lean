/-
  For every number, every list of floats and every two places the law ShareMore returns true, and the arguments read as they did; no conditions.
-/
import Derived.Test.YtmkkkddadpcmeaaE3
import Derived.Test.YtmkkkddadpcmeaaE2
namespace Go.Proofs.Ytmkkkddadpcmeaa
open Go.ChangeShapes Go.WideShapes Go.ChangeAt Go.RowKit

theorem readable7 : ∀ t ∈ Try.f7.params.toList, Try.prog.readableRec t = true ∧ t < Try.prog.types.size := by
  rw [Try.params7]
  intro t ht
  have h : t = 33 ∨ t = 27 ∨ t = 3 := by simpa using ht
  rcases h with rfl | rfl | rfl
  · exact ⟨by kernel_rfl, by decide +kernel⟩
  · exact ⟨by kernel_rfl, by decide +kernel⟩
  · exact ⟨by kernel_rfl, by decide +kernel⟩

set_option maxRecDepth 100000 in
theorem more_lifted (os : Os) (started : os.Started) (H : Type) (enc : TypeId × Value → H) :
    ReturnsInHanded {} Try.checked os 7 .any (Rows.shareMoreSpec.pre6 enc Try.prog Try.f7 Rows.shareMoreRow.domain false) (Rows.shareMoreSpec.post enc Try.prog Try.f7 false true false false) := by
  refine returnsInHanded_of_change (C := Try.checked) Try.own started (by kernel_rfl) Try.func7
    (ChangeSpec.witness6 (enc := enc) (C := Try.checked) false ⟨#[], #[.int .u16 0, .slice none 0 0, .int .i64 0, .int .i64 0], []⟩ 8 (by kernel_rfl) (by kernel_rfl) (by kernel_rfl) (by kernel_rfl)) ?_
  intro W base args ds gs before hval0 hW hcnd _
  have hval : ∀ (j : Nat) t v, Try.f7.params[j]? = some t → args[j]? = some v → Value.okWide Try.prog W .any base t v := hval0
  have hW' := hW
  obtain ⟨p, q, hA0, hV, rfl, hfz, hnd⟩ := hW
  have hA : DataW.TrodAll enc Try.prog W 0 (fun _ => true) true Try.f7.params.toList args.toList ds p := hA0
  rw [Try.params7] at hA hval
  obtain ⟨v0, v1, v2, v3, d0, d1, d2, d3, p0, p1, p2, p3, rfl, rfl, rfl, h0, h1, h2, h3⟩ := trodAll_four hA
  obtain ⟨a, rfl, rfl, rfl, wa⟩ := open_int Try.underlying33 (hval 0 33 v0 rfl rfl) h0
  obtain ⟨x, rfl, rfl, rfl, wx⟩ := open_int Try.underlying3 (hval 2 3 v2 rfl rfl) h2
  obtain ⟨y, rfl, rfl, rfl, wy⟩ := open_int Try.underlying3 (hval 3 3 v3 rfl rfl) h3
  have hs := open_fs (okWide_slice Try.underlying27 (hval 1 27 v1 rfl rfl)) h1
  have hwa : 0 ≤ a ∧ a < 65536 := by
    have z1 : IntKind.u16.min = 0 := by decide
    have z2 : IntKind.u16.max = 65535 := by decide
    simp only [Lit.wf, decide_eq_true_eq, Bool.and_eq_true] at wa
    omega
  clear hA0 hval0 hval hA h0 h1 h2 h3
  have run : Calls Try.prog 7 #[.int .u16 a, v1, .int .i64 x, .int .i64 y] W fun e W' => e = .returned (.bool true) ∧ Below W.heap.size W W' := by
    rcases hs with rfl | ⟨ad, len, cap, f, rfl, hl, hf, hc⟩
    · exact more_short a x y none 0 0 W (Or.inl rfl) (by decide)
    · by_cases hn : len = 0 ∨ 64 < len
      · exact more_short a x y (some ad) len cap W hn (by unfold maxLen at hl; omega)
      · obtain ⟨b, off, sp⟩ := ad
        have hsp : sp = none := by simpa [Addr.add] using World.cell?_spot (hc 0 (by omega))
        subst hsp
        exact more_any f a x y b off len cap W hwa.1 hwa.2 (by omega) (by omega) hf (fun j hj => by rw [← add_plain]; exact hc j hj)
  refine run.mono fun e W' ⟨he, hb⟩ => ?_
  subst he
  exact ⟨_, rfl, law_post Try.laidOut readable7 (by kernel_rfl) Try.underlying4 rfl hW' (fun _ => rfl) hb⟩

theorem more_holds : Rows.ShareMoreSaid :=
  OpenClaim.holds_of_wide 7 Try.f7 rfl rfl rfl rfl rfl rfl rfl ⟨rfl, rfl, rfl, rfl, rfl⟩ rfl rfl rfl rfl rfl (by kernel_rfl) Try.func7 (by kernel_rfl)
    (of_decide_eq_true (by kernel_rfl)) (by unfold Func.isWrapper; first | (rw [if_pos (by decide +kernel)]; kernel_rfl) | (rw [if_neg (by decide +kernel)]; exact ⟨rfl, rfl⟩))
    (fun os started H enc _ => more_lifted os started H enc)

end Go.Proofs.Ytmkkkddadpcmeaa
