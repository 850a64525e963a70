/-
  Of any arguments the law UartOrder returns true, and they read as they did. No conditions.
-/
import Derived.Test.YtffdkkbinkonbaaE3
import Derived.Test.YtffdkkbinkonbaaF0
namespace Go.Proofs.Ytffdkkbinkonbaa
open Go.ChangeShapes Go.WideShapes Go.ChangeAt Go.RowKit Go.Joins

theorem len_max {W : World} {v : Value} {l : List Int} {a : Option Addr} {cap : Nat} (h : IArg .u8 W v l a cap) : (l.length : Int) ≤ 9223372036854775807 := by
  have h1 := h.lenLe
  have h2 := h.capLe
  unfold maxLen at h2
  omega

theorem runs_order (ab ar : Option Addr) (c1 n2 c2 : Nat) (K : List Int) (R : Nat → Bool) (x : Int) (w : World) (hA : IArg .u8 w (.slice ab K.length c1) K ab c1) (hm : (n2 : Int) ≤ 9223372036854775807) (hR : ∀ i, i < n2 → ∃ b o, ar = some ⟨b, o, none⟩ ∧ w.cell? ⟨b, o + i, none⟩ = some (.bool (R i))) (hx : 0 ≤ x ∧ x < 256) : Calls Try.prog 4 #[.int .u8 x, .slice ab K.length c1, .slice ar n2 c2] w (LawTrue w) := by
  by_cases h1 : K.length ≤ 60
  · by_cases h2 : n2 ≤ 60
    · obtain ⟨X, rfl⟩ : ∃ X : Nat, x = X := ⟨x.toNat, by omega⟩
      exact order_go ab ar K.length c1 n2 c2 K R X w hA rfl hR h1 h2 (by omega)
    · exact order_long2 ab ar K.length c1 n2 c2 x w hm h1 (by omega)
  · exact order_long1 ab ar K.length c1 n2 c2 x w (len_max hA) (by omega)

theorem readable4 : ∀ t ∈ Try.f4.params.toList, Try.prog.readableRec t = true ∧ t < Try.prog.types.size := by
  rw [Try.params4]
  intro t ht
  have h : t = 5 ∨ t = 27 ∨ t = 45 := by simpa using ht
  rcases h with rfl | rfl | rfl <;> exact ⟨by kernel_rfl, by decide +kernel⟩

set_option maxRecDepth 100000 in
theorem uartOrder_lifted (os : Os) (started : os.Started) (H : Type) (enc : TypeId × Value → H) :
    ReturnsInHanded {} Try.checked os 4 .any (Rows.uartOrderSpec.pre6 enc Try.prog Try.f4 Rows.uartOrderRow.domain false) (Rows.uartOrderSpec.post enc Try.prog Try.f4 false true false false) := by
  refine returnsInHanded_of_change (C := Try.checked) Try.own started (by kernel_rfl) Try.func4
    (ChangeSpec.witness6 (enc := enc) (C := Try.checked) false ⟨#[], #[.int .u8 0, .slice none 0 0, .slice none 0 0], []⟩ 8 (by kernel_rfl) (by kernel_rfl) (by kernel_rfl) (by kernel_rfl)) ?_
  intro W base args ds gs before hval0 hW hcnd _
  have hval : ∀ (j : Nat) t v, Try.f4.params[j]? = some t → args[j]? = some v → Value.okWide Try.prog W .any base t v := hval0
  have hW' := hW
  obtain ⟨p, q, hA0, hV, rfl, hfz, hnd⟩ := hW
  have hA : DataW.TrodAll enc Try.prog W 0 (fun _ => true) true Try.f4.params.toList args.toList ds p := hA0
  rw [Try.params4] at hA hval
  obtain ⟨v0, v1, v2, d0, d1, d2, p0, p1, p2, rfl, rfl, rfl, h0, h1, h2⟩ := trodAll_three hA
  obtain ⟨x, rfl, rfl, rfl, wx⟩ := open_int Try.underlying5 (hval 0 5 v0 rfl rfl) h0
  obtain ⟨K, a, c, hK⟩ := open_arg Try.underlying27 Try.underlying5 (by kernel_rfl) (okWide_slice Try.underlying27 (hval 1 27 v1 rfl rfl)) h1
  obtain rfl := hK.shape
  obtain ⟨ar, n2, c2, R, rfl, hmax, hR⟩ := open_bos Try.underlying45 Try.underlying4 (by kernel_rfl) (okWide_slice Try.underlying45 (hval 2 45 v2 rfl rfl)) h2
  have run : Calls Try.prog 4 #[.int .u8 x, .slice a K.length c, .slice ar n2 c2] W (LawTrue W) := runs_order a ar c n2 c2 K R x W hK hmax hR (wf_u8 wx)
  clear hA0 hval0 hval hA
  refine run.mono fun e W' hl => ?_
  have hb := hl.below
  obtain ⟨rfl, _⟩ := hl
  exact ⟨_, rfl, law_post Try.laidOut readable4 (by kernel_rfl) Try.underlying4 rfl hW' (fun _ => rfl) hb⟩

theorem uartOrder_said : Rows.UartOrderSaid :=
  OpenClaim.holds_of_wide 4 Try.f4 rfl rfl rfl rfl rfl rfl rfl ⟨rfl, rfl, rfl, rfl, rfl⟩ rfl rfl rfl rfl rfl (by kernel_rfl) Try.func4 (by kernel_rfl)
    (of_decide_eq_true (by kernel_rfl)) (by unfold Func.isWrapper; first | (rw [if_pos (by decide +kernel)]; kernel_rfl) | (rw [if_neg (by decide +kernel)]; exact ⟨rfl, rfl⟩))
    (fun os started H enc _ => uartOrder_lifted os started H enc)

end Go.Proofs.Ytffdkkbinkonbaa
