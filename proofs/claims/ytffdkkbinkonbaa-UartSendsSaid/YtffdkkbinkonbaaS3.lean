/-
  Of any arguments the law UartSends returns true, and they read as they did. No conditions.
-/
import Derived.Test.YtffdkkbinkonbaaE1
namespace Go.Proofs.Ytffdkkbinkonbaa
open Go.ChangeShapes Go.WideShapes Go.ChangeAt Go.RowKit Go.Joins

theorem len_max {W : World} {v : Value} {l : List Int} {a : Option Addr} {cap : Nat} (h : IArg .u8 W v l a cap) : (l.length : Int) ≤ 9223372036854775807 := by
  have h1 := h.lenLe
  have h2 := h.capLe
  unfold maxLen at h2
  omega

theorem runs_sends (aa ab : Option Addr) (c1 c2 : Nat) (K L : List Int) (x : Int) (w : World) (hA : IArg .u8 w (.slice aa K.length c1) K aa c1) (hB : IArg .u8 w (.slice ab L.length c2) L ab c2) (hx : 0 ≤ x ∧ x < 256) : Calls Try.prog 5 #[.slice aa K.length c1, .slice ab L.length c2, .int .u8 x] w (LawTrue w) := by
  by_cases h1 : K.length ≤ 60
  · by_cases h2 : L.length ≤ 60
    · obtain ⟨X, rfl⟩ : ∃ X : Nat, x = X := ⟨x.toNat, by omega⟩
      exact sends_go aa ab K.length c1 L.length c2 K L X w hA hB rfl rfl h1 h2 (by omega)
    · exact sends_long2 aa ab K.length c1 L.length c2 x w (len_max hB) h1 (by omega)
  · exact sends_long1 aa ab K.length c1 L.length c2 x w (len_max hA) (by omega)

theorem readable5 : ∀ t ∈ Try.f5.params.toList, Try.prog.readableRec t = true ∧ t < Try.prog.types.size := by
  rw [Try.params5]
  intro t ht
  have h : t = 27 ∨ t = 5 := by simpa using ht
  rcases h with rfl | rfl <;> exact ⟨by kernel_rfl, by decide +kernel⟩

set_option maxRecDepth 100000 in
theorem uartSends_lifted (os : Os) (started : os.Started) (H : Type) (enc : TypeId × Value → H) :
    ReturnsInHanded {} Try.checked os 5 .any (Rows.uartSendsSpec.pre6 enc Try.prog Try.f5 Rows.uartSendsRow.domain false) (Rows.uartSendsSpec.post enc Try.prog Try.f5 false true false false) := by
  refine returnsInHanded_of_change (C := Try.checked) Try.own started (by kernel_rfl) Try.func5
    (ChangeSpec.witness6 (enc := enc) (C := Try.checked) false ⟨#[], #[.slice none 0 0, .slice none 0 0, .int .u8 0], []⟩ 8 (by kernel_rfl) (by kernel_rfl) (by kernel_rfl) (by kernel_rfl)) ?_
  intro W base args ds gs before hval0 hW hcnd _
  have hval : ∀ (j : Nat) t v, Try.f5.params[j]? = some t → args[j]? = some v → Value.okWide Try.prog W .any base t v := hval0
  have hW' := hW
  obtain ⟨p, q, hA0, hV, rfl, hfz, hnd⟩ := hW
  have hA : DataW.TrodAll enc Try.prog W 0 (fun _ => true) true Try.f5.params.toList args.toList ds p := hA0
  rw [Try.params5] at hA hval
  obtain ⟨v0, v1, v2, d0, d1, d2, p0, p1, p2, rfl, rfl, rfl, h0, h1, h2⟩ := trodAll_three hA
  obtain ⟨K, a, c, hK⟩ := open_arg Try.underlying27 Try.underlying5 (by kernel_rfl) (okWide_slice Try.underlying27 (hval 0 27 v0 rfl rfl)) h0
  obtain rfl := hK.shape
  obtain ⟨L, a2, c2, hL⟩ := open_arg Try.underlying27 Try.underlying5 (by kernel_rfl) (okWide_slice Try.underlying27 (hval 1 27 v1 rfl rfl)) h1
  obtain rfl := hL.shape
  obtain ⟨x, rfl, rfl, rfl, wx⟩ := open_int Try.underlying5 (hval 2 5 v2 rfl rfl) h2
  have run : Calls Try.prog 5 #[.slice a K.length c, .slice a2 L.length c2, .int .u8 x] W (LawTrue W) := runs_sends a a2 c c2 K L x W hK hL (wf_u8 wx)
  clear hA0 hval0 hval hA
  refine run.mono fun e W' hl => ?_
  have hb := hl.below
  obtain ⟨rfl, _⟩ := hl
  exact ⟨_, rfl, law_post Try.laidOut readable5 (by kernel_rfl) Try.underlying4 rfl hW' (fun _ => rfl) hb⟩

theorem uartSends_said : Rows.UartSendsSaid :=
  OpenClaim.holds_of_wide 5 Try.f5 rfl rfl rfl rfl rfl rfl rfl ⟨rfl, rfl, rfl, rfl, rfl⟩ rfl rfl rfl rfl rfl (by kernel_rfl) Try.func5 (by kernel_rfl)
    (of_decide_eq_true (by kernel_rfl)) (by unfold Func.isWrapper; first | (rw [if_pos (by decide +kernel)]; kernel_rfl) | (rw [if_neg (by decide +kernel)]; exact ⟨rfl, rfl⟩))
    (fun os started H enc _ => uartSends_lifted os started H enc)

end Go.Proofs.Ytffdkkbinkonbaa
