/-
  Of any arguments the law CapsPlays returns true, and they read as they did. No conditions.
-/
import Derived.Test.YtlhfpnfiamgmlaaR9
import Derived.Test.YtlhfpnfiamgmlaaRA
import Derived.Test.YtlhfpnfiamgmlaaRows
namespace Go.Proofs.Ytlhfpnfiamgmlaa
open Go.ChangeShapes Go.WideShapes Go.ChangeAt Go.RowKit Go.Joins

theorem runs_plays (x y : Int) (ad : Option Addr) (n cap : Nat) (F : Nat → Nat → Int) (w : World) (hA : Rows' (kindsOf 32) w ad n F) : Calls Try.prog 3 #[.int .i64 x, .int .i64 y, .slice ad n cap] w (LawTrue w) := by
  by_cases h1 : 40 < n ∨ 12 < x ∨ 12 < y
  · exact plays_out x y ad n cap w hA.le h1
  · by_cases h2 : x < 1 ∨ y < 1
    · exact plays_nil x y ad n cap w (by omega) (by omega) (by omega) h2
    · obtain ⟨m, rfl⟩ := Int.eq_ofNat_of_zero_le (show 0 ≤ x by omega)
      exact plays3 m y ad n cap _ w (acts_of hA) (by omega) (by omega) (by omega) (by omega) (by omega)

theorem readable3 : ∀ t ∈ Try.f3.params.toList, Try.prog.readableRec t = true ∧ t < Try.prog.types.size := by
  rw [Try.params3]
  intro t ht
  have h : t = 3 ∨ t = 22 := by
    have h2 := ht
    simp at h2
    first | exact h2 | (rcases h2 with h2 | h2 | h2 <;> simp [h2])
  rcases h with rfl | rfl <;> exact ⟨by kernel_rfl, by decide +kernel⟩

set_option maxRecDepth 100000 in
theorem capsPlays_lifted (os : Os) (started : os.Started) (H : Type) (enc : TypeId × Value → H) :
    ReturnsInHanded {} Try.checked os 3 .any (Rows.capsPlaysSpec.pre6 enc Try.prog Try.f3 Rows.capsPlaysRow.domain false) (Rows.capsPlaysSpec.post enc Try.prog Try.f3 false true false false) := by
  refine returnsInHanded_of_change (C := Try.checked) Try.own started (by kernel_rfl) Try.func3
    (ChangeSpec.witness6 (enc := enc) (C := Try.checked) false ⟨#[], #[.int .i64 0, .int .i64 0, .slice none 0 0], []⟩ 8 (by kernel_rfl) (by kernel_rfl) (by kernel_rfl) (by kernel_rfl)) ?_
  intro W base args ds gs before hval0 hW hcnd _
  have hval : ∀ (j : Nat) t v, Try.f3.params[j]? = some t → args[j]? = some v → Value.okWide Try.prog W .any base t v := hval0
  have hW' := hW
  obtain ⟨p, q, hA0, hV, rfl, hfz, hnd⟩ := hW
  have hA : DataW.TrodAll enc Try.prog W 0 (fun _ => true) true Try.f3.params.toList args.toList ds p := hA0
  rw [Try.params3] at hA hval
  obtain ⟨v0, v1, v2, d0, d1, d2, p0, p1, p2, rfl, rfl, rfl, h0, h1, h2⟩ := trodAll_three hA
  obtain ⟨x, rfl, rfl, rfl, wx⟩ := open_int Try.underlying3 (hval 0 3 v0 rfl rfl) h0
  obtain ⟨y, rfl, rfl, rfl, wy⟩ := open_int Try.underlying3 (hval 1 3 v1 rfl rfl) h1
  obtain ⟨ad, n, cap, F, rfl, hrows⟩ := open_rows Try.underlying22 (by kernel_rfl) rfl k32 (hval 2 22 v2 rfl rfl) h2
  have run : Calls Try.prog 3 #[.int .i64 x, .int .i64 y, .slice ad n cap] W (LawTrue W) := runs_plays x y ad n cap F W hrows
  clear hA0 hval0 hval hA
  refine run.mono fun e W' hl => ?_
  have hb := hl.below
  obtain ⟨rfl, _⟩ := hl
  exact ⟨_, rfl, law_post Try.laidOut readable3 (by kernel_rfl) Try.underlying4 rfl hW' (fun _ => rfl) hb⟩

theorem capsPlays_said : Rows.CapsPlaysSaid :=
  OpenClaim.holds_of_wide 3 Try.f3 rfl rfl rfl rfl rfl rfl rfl ⟨rfl, rfl, rfl, rfl, rfl⟩ rfl rfl rfl rfl rfl (by kernel_rfl) Try.func3 (by kernel_rfl)
    (of_decide_eq_true (by kernel_rfl)) (by unfold Func.isWrapper; first | (rw [if_pos (by decide +kernel)]; kernel_rfl) | (rw [if_neg (by decide +kernel)]; exact ⟨rfl, rfl⟩))
    (fun os started H enc _ => capsPlays_lifted os started H enc)

end Go.Proofs.Ytlhfpnfiamgmlaa
