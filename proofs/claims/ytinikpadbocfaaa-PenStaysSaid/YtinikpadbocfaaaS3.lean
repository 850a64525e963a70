/-
  Of any arguments the law PenStays returns true, and they read as they did. No conditions.
-/
import Derived.Test.YtinikpadbocfaaaE5
import Derived.Test.YtinikpadbocfaaaE3
namespace Go.Proofs.Ytinikpadbocfaaa
open Go.ChangeShapes Go.WideShapes Go.ChangeAt Go.RowKit Go.Joins

theorem runs_stays (p : Pn) (v1 v2 : Value) (a b : List Int) (ad1 ad2 : Option Addr) (k1 k2 : Nat) (w : World) (hA : IArg .i64 w v1 a ad1 k1) (hB : IArg .i64 w v2 b ad2 k2) : Calls Try.prog 5 #[.agg #[.int .i64 p.fg, .int .i64 p.bg, .int .i64 p.fl], v1, v2] w (LawTrue w) := by
  have m1 := max_small hA.lenLe hA.capLe
  have m2 := max_small hB.lenLe hB.capLe
  by_cases h1 : 30 < a.length
  · rw [hA.shape, hB.shape]
    exact stays_long1 p ad1 ad2 _ k1 _ k2 w m1 m2 (by omega)
  by_cases h2 : 30 < b.length
  · rw [hA.shape, hB.shape]
    exact stays_long2 p ad1 ad2 _ k1 _ k2 w m1 m2 (by omega) (by omega)
  by_cases h3 : a = []
  · rw [hA.shape, hB.shape]
    exact stays_none1 p ad1 ad2 _ k1 _ k2 w m1 m2 (by rw [h3]; rfl) (by omega) (by omega)
  have y1 : ((a.length : Int) == 0) = false := by simpa using h3
  by_cases h4 : b = []
  · rw [hA.shape, hB.shape]
    exact stays_none2 p ad1 ad2 _ k1 _ k2 w m1 m2 y1 (by rw [h4]; rfl) (by omega) (by omega)
  have y2 : ((b.length : Int) == 0) = false := by simpa using h4
  cases h5 : rightB p with
  | false =>
    rw [hA.shape, hB.shape]
    exact stays_wrong p ad1 ad2 _ k1 _ k2 w m1 m2 y1 y2 (by omega) (by omega) h5
  | true => exact stays_go p v1 v2 a b ad1 ad2 k1 k2 w hA hB h3 h4 (by omega) (by omega) h5

theorem readable5 : ∀ t ∈ Try.f5.params.toList, Try.prog.readableRec t = true ∧ t < Try.prog.types.size := by
  rw [Try.params5]
  intro t ht
  have h : t = 23 ∨ t = 24 := by simpa using ht
  rcases h with rfl | rfl <;> exact ⟨by kernel_rfl, by decide +kernel⟩

set_option maxRecDepth 100000 in
theorem penStays_lifted (os : Os) (started : os.Started) (H : Type) (enc : TypeId × Value → H) :
    ReturnsInHanded {} Try.checked os 5 .any (Rows.penStaysSpec.pre6 enc Try.prog Try.f5 Rows.penStaysRow.domain false) (Rows.penStaysSpec.post enc Try.prog Try.f5 false true false false) := by
  refine returnsInHanded_of_change (C := Try.checked) Try.own started (by kernel_rfl) Try.func5
    (ChangeSpec.witness6 (enc := enc) (C := Try.checked) false ⟨#[], #[.agg #[.int .i64 0, .int .i64 0, .int .i64 0], .slice none 0 0, .slice none 0 0], []⟩ 8 (by kernel_rfl) (by kernel_rfl) (by kernel_rfl) (by kernel_rfl)) ?_
  intro W base args ds gs before hval0 hW hcnd _
  have hval : ∀ (j : Nat) t v, Try.f5.params[j]? = some t → args[j]? = some v → Value.okWide Try.prog W .any base t v := hval0
  have hW' := hW
  obtain ⟨p, q, hA0, hV, rfl, hfz, hnd⟩ := hW
  have hA : DataW.TrodAll enc Try.prog W 0 (fun _ => true) true Try.f5.params.toList args.toList ds p := hA0
  rw [Try.params5] at hA hval
  obtain ⟨v0, v1, v2, d0, d1, d2, p0, p1, p2, rfl, rfl, rfl, h0, h1, h2⟩ := trodAll_three hA
  obtain ⟨q, rfl, iq0, iq1, iq2⟩ := open_pen (hval 0 23 v0 rfl rfl) h0
  obtain ⟨l, al, cl, hl⟩ := open_arg Try.underlying24 Try.underlying3 (by kernel_rfl) (okWide_slice Try.underlying24 (hval 1 24 v1 rfl rfl)) h1
  obtain ⟨m, am, cm, hm⟩ := open_arg Try.underlying24 Try.underlying3 (by kernel_rfl) (okWide_slice Try.underlying24 (hval 2 24 v2 rfl rfl)) h2
  have run : Calls Try.prog 5 #[.agg #[.int .i64 q.fg, .int .i64 q.bg, .int .i64 q.fl], v1, v2] W (LawTrue W) := runs_stays q v1 v2 l m al am cl cm W hl hm
  clear hA0 hval0 hval hA
  refine run.mono fun e W' hl => ?_
  have hb := hl.below
  obtain ⟨rfl, _⟩ := hl
  exact ⟨_, rfl, law_post Try.laidOut readable5 (by kernel_rfl) Try.underlying4 rfl hW' (fun _ => rfl) hb⟩

theorem penStays_said : Rows.PenStaysSaid :=
  OpenClaim.holds_of_wide 5 Try.f5 rfl rfl rfl rfl rfl rfl rfl ⟨rfl, rfl, rfl, rfl, rfl⟩ rfl rfl rfl rfl rfl (by kernel_rfl) Try.func5 (by kernel_rfl)
    (of_decide_eq_true (by kernel_rfl)) (by unfold Func.isWrapper; first | (rw [if_pos (by decide +kernel)]; kernel_rfl) | (rw [if_neg (by decide +kernel)]; exact ⟨rfl, rfl⟩))
    (fun os started H enc _ => penStays_lifted os started H enc)

end Go.Proofs.Ytinikpadbocfaaa
