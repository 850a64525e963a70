/-
  Of any arguments the law IpcPlays returns true, and they read as they did. No conditions.
-/
import Derived.Test.YtabalnjbfhngnaaE5
import Derived.Test.YtabalnjbfhngnaaF0
namespace Go.Proofs.Ytabalnjbfhngnaa
open Go.ChangeShapes Go.WideShapes Go.ChangeAt Go.RowKit Go.Joins

theorem runs_plays (ad : Option Addr) (n cap : Nat) (F : Nat → Int × Option Addr × List Int × Nat) (x : Int) (w : World) (hm : (n : Int) ≤ 9223372036854775807) (hF : ∀ i, i < n → ∃ g o, ad = some ⟨g, o, none⟩ ∧ MsgOk w g (o + i * 2) (F i)) : Calls Try.prog 3 #[.int .i64 x, .slice ad n cap] w (LawTrue w) := by
  by_cases hn : n ≤ 80
  · by_cases h1 : x ≤ 20
    · by_cases h2 : x < 1
      · exact plays_none ad n cap x w hn h2
      · obtain ⟨X, rfl⟩ : ∃ X : Nat, x = X := ⟨x.toNat, by omega⟩
        exact plays_go ad n cap X (fun i => (F i).1) (fun i => (F i).2.1) (fun i => (F i).2.2.1) (fun i => (F i).2.2.2) w hF hn (by omega) (by omega)
    · exact plays_room ad n cap x w hn (by omega)
  · exact plays_long ad n cap x w hm (by omega)

theorem readable3 : ∀ t ∈ Try.f3.params.toList, Try.prog.readableRec t = true ∧ t < Try.prog.types.size := by
  rw [Try.params3]
  intro t ht
  have h : t = 3 ∨ t = 22 := by
    have h2 := ht
    simp at h2
    first | exact h2 | (rcases h2 with h2 | h2 | h2 <;> simp [h2])
  rcases h with rfl | rfl <;> exact ⟨by kernel_rfl, by decide +kernel⟩

set_option maxRecDepth 100000 in
theorem ipcPlays_lifted (os : Os) (started : os.Started) (H : Type) (enc : TypeId × Value → H) :
    ReturnsInHanded {} Try.checked os 3 .any (Rows.ipcPlaysSpec.pre6 enc Try.prog Try.f3 Rows.ipcPlaysRow.domain false) (Rows.ipcPlaysSpec.post enc Try.prog Try.f3 false true false false) := by
  refine returnsInHanded_of_change (C := Try.checked) Try.own started (by kernel_rfl) Try.func3
    (ChangeSpec.witness6 (enc := enc) (C := Try.checked) false ⟨#[], #[.int .i64 0, .slice none 0 0], []⟩ 8 (by kernel_rfl) (by kernel_rfl) (by kernel_rfl) (by kernel_rfl)) ?_
  intro W base args ds gs before hval0 hW hcnd _
  have hval : ∀ (j : Nat) t v, Try.f3.params[j]? = some t → args[j]? = some v → Value.okWide Try.prog W .any base t v := hval0
  have hW' := hW
  obtain ⟨p, q, hA0, hV, rfl, hfz, hnd⟩ := hW
  have hA : DataW.TrodAll enc Try.prog W 0 (fun _ => true) true Try.f3.params.toList args.toList ds p := hA0
  rw [Try.params3] at hA hval
  obtain ⟨v0, v1, d0, d1, p0, p1, rfl, rfl, rfl, h0, h1⟩ := trodAll_two hA
  obtain ⟨x, rfl, rfl, rfl, wx⟩ := open_int Try.underlying3 (hval 0 3 v0 rfl rfl) h0
  obtain ⟨ad, n, cap, F, rfl, hmax, hF⟩ := open_msgs (hval 1 22 v1 rfl rfl) h1
  have run : Calls Try.prog 3 #[.int .i64 x, .slice ad n cap] W (LawTrue W) := runs_plays ad n cap F x W hmax hF
  clear hA0 hval0 hval hA
  refine run.mono fun e W' hl => ?_
  have hb := hl.below
  obtain ⟨rfl, _⟩ := hl
  exact ⟨_, rfl, law_post Try.laidOut readable3 (by kernel_rfl) Try.underlying4 rfl hW' (fun _ => rfl) hb⟩

theorem ipcPlays_said : Rows.IpcPlaysSaid :=
  OpenClaim.holds_of_wide 3 Try.f3 rfl rfl rfl rfl rfl rfl rfl ⟨rfl, rfl, rfl, rfl, rfl⟩ rfl rfl rfl rfl rfl (by kernel_rfl) Try.func3 (by kernel_rfl)
    (of_decide_eq_true (by kernel_rfl)) (by unfold Func.isWrapper; first | (rw [if_pos (by decide +kernel)]; kernel_rfl) | (rw [if_neg (by decide +kernel)]; exact ⟨rfl, rfl⟩))
    (fun os started H enc _ => ipcPlays_lifted os started H enc)

end Go.Proofs.Ytabalnjbfhngnaa
