/-
  Of any arguments the law DrawPlays returns true, and they read as they did. No conditions.
-/
import Derived.Test.YticccknocjnkpaaRB
import Derived.Test.YticccknocjnkpaaT0
namespace Go.Proofs.Yticccknocjnkpaa
open Go.ChangeShapes Go.WideShapes Go.ChangeAt Go.RowKit Go.Joins

theorem runs_drawPlays (aa : Option Addr) (n acp : Nat) (F : Nat → Nat → Int) (da : Option Addr) (k dcp : Nat) (X : Nat → DrX) (w : World) (hA : Rows' (kindsOf 74) w aa n F) (hk : (k : Int) ≤ 9223372036854775807) (hX : ∀ i, i < k → ∃ g o, da = some ⟨g, o, none⟩ ∧ DrXAt w g (o + i * 9) (X i)) :
    Calls Try.prog 3 #[.slice aa n acp, .slice da k dcp] w (LawTrue w) := by
  have hD : DRd w da k (fun i => (X i).D) := fun i hi => by
    obtain ⟨g, o, e, h⟩ := hX i hi
    exact ⟨g, o, e, h.1⟩
  have hO : DrOk w k (fun i => (X i).D) (fun i => (X i).Q) (fun i => (X i).l) := ⟨fun i hi => by obtain ⟨g, o, _, h⟩ := hX i hi; exact h.2.1, fun i hi => by obtain ⟨g, o, _, h⟩ := hX i hi; exact h.2.2.1,
    fun i hi => by obtain ⟨g, o, _, h⟩ := hX i hi; exact cells_lt h.2.2.1, fun i hi => by obtain ⟨g, o, _, h⟩ := hX i hi; exact h.2.2.2.1.2, fun i hi => by obtain ⟨g, o, _, h⟩ := hX i hi; exact h.2.2.2.2⟩
  have hn := hA.le
  exact drawPlays3 drawC_holds aa n acp _ da k dcp _ _ _ w (rows_acts hA) hD hO (by omega) (by omega) (fun i hi => by obtain ⟨g, o, _, h⟩ := hX i hi; have := h.2.2.2.1; omega)

theorem readable3 : ∀ t ∈ Try.f3.params.toList, Try.prog.readableRec t = true ∧ t < Try.prog.types.size := by
  rw [Try.params3]
  intro t ht
  have h : t = 22 ∨ t = 23 := by
    have h2 := ht
    simp at h2
    first | exact h2 | (rcases h2 with h2 | h2 | h2 <;> simp [h2])
  rcases h with rfl | rfl <;> exact ⟨by kernel_rfl, by decide +kernel⟩

set_option maxRecDepth 100000 in
theorem drawPlays_lifted (os : Os) (started : os.Started) (H : Type) (enc : TypeId × Value → H) :
    ReturnsInHanded {} Try.checked os 3 .any (Rows.drawPlaysSpec.pre6 enc Try.prog Try.f3 Rows.drawPlaysRow.domain false) (Rows.drawPlaysSpec.post enc Try.prog Try.f3 false true false false) := by
  refine returnsInHanded_of_change (C := Try.checked) Try.own started (by kernel_rfl) Try.func3
    (ChangeSpec.witness6 (enc := enc) (C := Try.checked) false ⟨#[], #[.slice none 0 0, .slice none 0 0], []⟩ 8 (by kernel_rfl) (by kernel_rfl) (by kernel_rfl) (by kernel_rfl)) ?_
  intro W base args ds gs before hval0 hW hcnd _
  have hval : ∀ (j : Nat) t v, Try.f3.params[j]? = some t → args[j]? = some v → Value.okWide Try.prog W .any base t v := hval0
  have hW' := hW
  obtain ⟨p, q, hA0, hV, rfl, hfz, hnd⟩ := hW
  have hA : DataW.TrodAll enc Try.prog W 0 (fun _ => true) true Try.f3.params.toList args.toList ds p := hA0
  rw [Try.params3] at hA hval
  obtain ⟨v0, v1, d0, d1, p0, p1, rfl, rfl, rfl, h0, h1⟩ := trodAll_two hA
  obtain ⟨aa, n, acp, F, rfl, hrows⟩ := open_rows Try.underlying22 (by kernel_rfl) rfl k74 (hval 0 22 v0 rfl rfl) h0
  obtain ⟨da, k, dcp, X, rfl, hk, hX⟩ := open_draws (hval 1 23 v1 rfl rfl) h1
  have run : Calls Try.prog 3 #[.slice aa n acp, .slice da k dcp] W (LawTrue W) := runs_drawPlays aa n acp F da k dcp X W hrows hk hX
  clear hA0 hval0 hval hA
  refine run.mono fun e W' hl => ?_
  have hb := hl.below
  obtain ⟨rfl, _⟩ := hl
  exact ⟨_, rfl, law_post Try.laidOut readable3 (by kernel_rfl) Try.underlying4 rfl hW' (fun _ => rfl) hb⟩

theorem drawPlays_said : Rows.DrawPlaysSaid :=
  OpenClaim.holds_of_wide 3 Try.f3 rfl rfl rfl rfl rfl rfl rfl ⟨rfl, rfl, rfl, rfl, rfl⟩ rfl rfl rfl rfl rfl (by kernel_rfl) Try.func3 (by kernel_rfl)
    (of_decide_eq_true (by kernel_rfl)) (by unfold Func.isWrapper; first | (rw [if_pos (by decide +kernel)]; kernel_rfl) | (rw [if_neg (by decide +kernel)]; exact ⟨rfl, rfl⟩))
    (fun os started H enc _ => drawPlays_lifted os started H enc)

end Go.Proofs.Yticccknocjnkpaa
