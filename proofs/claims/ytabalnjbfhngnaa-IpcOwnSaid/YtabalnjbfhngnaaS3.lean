/-
  Of any arguments the law IpcOwn returns true, and they read as they did. No conditions.
-/
import Derived.Test.YtabalnjbfhngnaaE2
namespace Go.Proofs.Ytabalnjbfhngnaa
open Go.ChangeShapes Go.WideShapes Go.ChangeAt Go.RowKit Go.Joins

theorem runs_own (aa ab : Option Addr) (c1 c2 : Nat) (K L : List Int) (w : World) (hA : IArg .u8 w (.slice aa K.length c1) K aa c1) (hB : IArg .u8 w (.slice ab L.length c2) L ab c2) : Calls Try.prog 5 #[.slice aa K.length c1, .slice ab L.length c2] w (LawTrue w) := by
  by_cases h1 : K.length ≤ 100
  · by_cases h2 : L.length ≤ 100
    · exact own_go aa ab K.length c1 L.length c2 K L w hA hB h1 h2 h1 h2
    · exact own_long2 aa ab K.length c1 L.length c2 w h1 (by omega)
  · exact own_long aa ab K.length c1 L.length c2 w (by omega)

theorem readable5 : ∀ t ∈ Try.f5.params.toList, Try.prog.readableRec t = true ∧ t < Try.prog.types.size := by
  rw [Try.params5]
  intro t ht
  have h : t = 26 := by
    have h2 := ht
    simp at h2
    first | exact h2 | (rcases h2 with h2 | h2 | h2 <;> simp [h2])
  rcases h with rfl <;> exact ⟨by kernel_rfl, by decide +kernel⟩

set_option maxRecDepth 100000 in
theorem ipcOwn_lifted (os : Os) (started : os.Started) (H : Type) (enc : TypeId × Value → H) :
    ReturnsInHanded {} Try.checked os 5 .any (Rows.ipcOwnSpec.pre6 enc Try.prog Try.f5 Rows.ipcOwnRow.domain false) (Rows.ipcOwnSpec.post enc Try.prog Try.f5 false true false false) := by
  refine returnsInHanded_of_change (C := Try.checked) Try.own started (by kernel_rfl) Try.func5
    (ChangeSpec.witness6 (enc := enc) (C := Try.checked) false ⟨#[], #[.slice none 0 0, .slice none 0 0], []⟩ 8 (by kernel_rfl) (by kernel_rfl) (by kernel_rfl) (by kernel_rfl)) ?_
  intro W base args ds gs before hval0 hW hcnd _
  have hval : ∀ (j : Nat) t v, Try.f5.params[j]? = some t → args[j]? = some v → Value.okWide Try.prog W .any base t v := hval0
  have hW' := hW
  obtain ⟨p, q, hA0, hV, rfl, hfz, hnd⟩ := hW
  have hA : DataW.TrodAll enc Try.prog W 0 (fun _ => true) true Try.f5.params.toList args.toList ds p := hA0
  rw [Try.params5] at hA hval
  obtain ⟨v0, v1, d0, d1, p0, p1, rfl, rfl, rfl, h0, h1⟩ := trodAll_two hA
  obtain ⟨K, a, c, hK⟩ := open_arg Try.underlying26 Try.underlying5 (by kernel_rfl) (okWide_slice Try.underlying26 (hval 0 26 v0 rfl rfl)) h0
  obtain rfl := hK.shape
  obtain ⟨L, a2, c2, hL⟩ := open_arg Try.underlying26 Try.underlying5 (by kernel_rfl) (okWide_slice Try.underlying26 (hval 1 26 v1 rfl rfl)) h1
  obtain rfl := hL.shape
  have run : Calls Try.prog 5 #[.slice a K.length c, .slice a2 L.length c2] W (LawTrue W) := runs_own a a2 c c2 K L W hK hL
  clear hA0 hval0 hval hA
  refine run.mono fun e W' hl => ?_
  have hb := hl.below
  obtain ⟨rfl, _⟩ := hl
  exact ⟨_, rfl, law_post Try.laidOut readable5 (by kernel_rfl) Try.underlying4 rfl hW' (fun _ => rfl) hb⟩

theorem ipcOwn_said : Rows.IpcOwnSaid :=
  OpenClaim.holds_of_wide 5 Try.f5 rfl rfl rfl rfl rfl rfl rfl ⟨rfl, rfl, rfl, rfl, rfl⟩ rfl rfl rfl rfl rfl (by kernel_rfl) Try.func5 (by kernel_rfl)
    (of_decide_eq_true (by kernel_rfl)) (by unfold Func.isWrapper; first | (rw [if_pos (by decide +kernel)]; kernel_rfl) | (rw [if_neg (by decide +kernel)]; exact ⟨rfl, rfl⟩))
    (fun os started H enc _ => ipcOwn_lifted os started H enc)

end Go.Proofs.Ytabalnjbfhngnaa
