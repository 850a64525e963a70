/-
  Of any arguments the law FifoKeeps returns true, and they read as they did. No conditions.
-/
import Derived.Test.YtcikjghgpppokaaE3
namespace Go.Proofs.Ytcikjghgpppokaa
open Go.ChangeShapes Go.WideShapes Go.ChangeAt Go.RowKit Go.Joins

theorem runs_keeps (a : Option Addr) (cap : Nat) (l : List Int) (x y : Int) (w : World) (hA : IArg .i64 w (.slice a l.length cap) l a cap) (hx : 0 ≤ x ∧ x < 256) : Calls Try.prog 3 #[.int .u8 x, .int .i64 y, .slice a l.length cap] w (LawTrue w) := by
  by_cases hn : l.length ≤ 60
  · obtain ⟨X, rfl⟩ : ∃ X : Nat, x = X := ⟨x.toNat, by omega⟩
    refine keeps_go a l.length cap l X y w (fun k hk => ?_) rfl hn (by omega)
    have hne : l ≠ [] := fun e => by rw [e] at hk; simp at hk
    obtain ⟨b, off, h1, _, h3⟩ := hA.cells hne
    exact ⟨b, off, h1, h3 k hk⟩
  · refine keeps_long a l.length cap x y w ?_ (by omega)
    have h1 := hA.lenLe
    have h2 := hA.capLe
    unfold maxLen at h2
    omega

theorem readable3 : ∀ t ∈ Try.f3.params.toList, Try.prog.readableRec t = true ∧ t < Try.prog.types.size := by
  rw [Try.params3]
  intro t ht
  have h : t = 5 ∨ t = 3 ∨ t = 22 := by simpa using ht
  rcases h with rfl | rfl | rfl <;> exact ⟨by kernel_rfl, by decide +kernel⟩

set_option maxRecDepth 100000 in
theorem fifoKeeps_lifted (os : Os) (started : os.Started) (H : Type) (enc : TypeId × Value → H) :
    ReturnsInHanded {} Try.checked os 3 .any (Rows.fifoKeepsSpec.pre6 enc Try.prog Try.f3 Rows.fifoKeepsRow.domain false) (Rows.fifoKeepsSpec.post enc Try.prog Try.f3 false true false false) := by
  refine returnsInHanded_of_change (C := Try.checked) Try.own started (by kernel_rfl) Try.func3
    (ChangeSpec.witness6 (enc := enc) (C := Try.checked) false ⟨#[], #[.int .u8 0, .int .i64 0, .slice none 0 0], []⟩ 8 (by kernel_rfl) (by kernel_rfl) (by kernel_rfl) (by kernel_rfl)) ?_
  intro W base args ds gs before hval0 hW hcnd _
  have hval : ∀ (j : Nat) t v, Try.f3.params[j]? = some t → args[j]? = some v → Value.okWide Try.prog W .any base t v := hval0
  have hW' := hW
  obtain ⟨p, q, hA0, hV, rfl, hfz, hnd⟩ := hW
  have hA : DataW.TrodAll enc Try.prog W 0 (fun _ => true) true Try.f3.params.toList args.toList ds p := hA0
  rw [Try.params3] at hA hval
  obtain ⟨v0, v1, v2, d0, d1, d2, p0, p1, p2, rfl, rfl, rfl, h0, h1, h2⟩ := trodAll_three hA
  obtain ⟨x, rfl, rfl, rfl, wx⟩ := open_int Try.underlying5 (hval 0 5 v0 rfl rfl) h0
  obtain ⟨y, rfl, rfl, rfl, wy⟩ := open_int Try.underlying3 (hval 1 3 v1 rfl rfl) h1
  obtain ⟨l, a, cap, hl⟩ := open_arg Try.underlying22 Try.underlying3 (by kernel_rfl) (okWide_slice Try.underlying22 (hval 2 22 v2 rfl rfl)) h2
  obtain rfl := hl.shape
  have run : Calls Try.prog 3 #[.int .u8 x, .int .i64 y, .slice a l.length cap] W (LawTrue W) := runs_keeps a cap l x y W hl (wf_u8 wx)
  clear hA0 hval0 hval hA
  refine run.mono fun e W' hl => ?_
  have hb := hl.below
  obtain ⟨rfl, _⟩ := hl
  exact ⟨_, rfl, law_post Try.laidOut readable3 (by kernel_rfl) Try.underlying4 rfl hW' (fun _ => rfl) hb⟩

theorem fifoKeeps_said : Rows.FifoKeepsSaid :=
  OpenClaim.holds_of_wide 3 Try.f3 rfl rfl rfl rfl rfl rfl rfl ⟨rfl, rfl, rfl, rfl, rfl⟩ rfl rfl rfl rfl rfl (by kernel_rfl) Try.func3 (by kernel_rfl)
    (of_decide_eq_true (by kernel_rfl)) (by unfold Func.isWrapper; first | (rw [if_pos (by decide +kernel)]; kernel_rfl) | (rw [if_neg (by decide +kernel)]; exact ⟨rfl, rfl⟩))
    (fun os started H enc _ => fifoKeeps_lifted os started H enc)

end Go.Proofs.Ytcikjghgpppokaa
