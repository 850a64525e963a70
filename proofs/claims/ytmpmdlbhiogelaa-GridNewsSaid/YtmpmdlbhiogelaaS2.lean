/-
  Of any arguments the law GridNews returns true, and they read as they did. No conditions.
-/
import Derived.Test.YtmpmdlbhiogelaaF0
import Derived.Test.YtmpmdlbhiogelaaE9
namespace Go.Proofs.Ytmpmdlbhiogelaa
open Go.ChangeShapes Go.WideShapes Go.ChangeAt Go.RowKit Go.Joins

theorem sizes_nat {x : Int} (h : sizeB x = true) : ∃ n : Nat, x = n ∧ 1 ≤ n ∧ n ≤ 512 := by
  unfold sizeB at h
  simp at h
  exact ⟨x.toNat, by omega, by omega, by omega⟩

theorem runs_news (a b x y : Int) (c : Cl) (w : World) (hx : I64 x) (hy : I64 y) : Calls Try.prog 4 #[.int .i64 a, .int .i64 b, .int .i64 x, .int .i64 y, .agg #[.int .i32 c.r, .int .i64 c.fg, .int .i64 c.bg, .int .i64 c.fl]] w (LawTrue w) := by
  by_cases h1 : 600 < a
  · exact news_great a b x y c w (.inl h1)
  by_cases h2 : 600 < b
  · exact news_great a b x y c w (.inr ⟨by omega, h2⟩)
  cases h : (sizeB a && sizeB b)
  · exact news_none a b x y c w (by omega) (by omega) h
  · have h' := h
    simp only [Bool.and_eq_true] at h'
    obtain ⟨A, rfl, a1, a2⟩ := sizes_nat h'.1
    obtain ⟨B, rfl, b1, b2⟩ := sizes_nat h'.2
    by_cases hp : 4000 < A * B
    · exact news_big A B x y c w a2 b2 h hp
    · exact news_main A B x y c w a1 a2 b1 b2 (by omega) hx hy

theorem readable4 : ∀ t ∈ Try.f4.params.toList, Try.prog.readableRec t = true ∧ t < Try.prog.types.size := by
  rw [Try.params4]
  intro t ht
  have h : t = 3 ∨ t = 35 := by simpa using ht
  rcases h with rfl | rfl <;> exact ⟨by kernel_rfl, by decide +kernel⟩

set_option maxRecDepth 100000 in
theorem gridNews_lifted (os : Os) (started : os.Started) (H : Type) (enc : TypeId × Value → H) :
    ReturnsInHanded {} Try.checked os 4 .any (Rows.gridNewsSpec.pre6 enc Try.prog Try.f4 Rows.gridNewsRow.domain false) (Rows.gridNewsSpec.post enc Try.prog Try.f4 false true false false) := by
  refine returnsInHanded_of_change (C := Try.checked) Try.own started (by kernel_rfl) Try.func4
    (ChangeSpec.witness6 (enc := enc) (C := Try.checked) false ⟨#[], #[.int .i64 0, .int .i64 0, .int .i64 0, .int .i64 0, .agg #[.int .i32 0, .int .i64 0, .int .i64 0, .int .i64 0]], []⟩ 8 (by kernel_rfl) (by kernel_rfl) (by kernel_rfl) (by kernel_rfl)) ?_
  intro W base args ds gs before hval0 hW hcnd _
  have hval : ∀ (j : Nat) t v, Try.f4.params[j]? = some t → args[j]? = some v → Value.okWide Try.prog W .any base t v := hval0
  have hW' := hW
  obtain ⟨p, q, hA0, hV, rfl, hfz, hnd⟩ := hW
  have hA : DataW.TrodAll enc Try.prog W 0 (fun _ => true) true Try.f4.params.toList args.toList ds p := hA0
  rw [Try.params4] at hA hval
  obtain ⟨v0, v1, v2, v3, v4, d0, d1, d2, d3, d4, p0, p1, p2, p3, p4, rfl, rfl, rfl, h0, h1, h2, h3, h4⟩ := trodAll_five hA
  obtain ⟨a, rfl, rfl, rfl, wa⟩ := open_int Try.underlying3 (hval 0 3 v0 rfl rfl) h0
  obtain ⟨b, rfl, rfl, rfl, wb⟩ := open_int Try.underlying3 (hval 1 3 v1 rfl rfl) h1
  obtain ⟨x, rfl, rfl, rfl, wx⟩ := open_int Try.underlying3 (hval 2 3 v2 rfl rfl) h2
  obtain ⟨y, rfl, rfl, rfl, wy⟩ := open_int Try.underlying3 (hval 3 3 v3 rfl rfl) h3
  obtain ⟨c, rfl⟩ := open_cell (hval 4 35 v4 rfl rfl) h4
  have run : Calls Try.prog 4 #[.int .i64 a, .int .i64 b, .int .i64 x, .int .i64 y, .agg #[.int .i32 c.r, .int .i64 c.fg, .int .i64 c.bg, .int .i64 c.fl]] W (LawTrue W) := runs_news a b x y c W (wf_i64 wx) (wf_i64 wy)
  clear hA0 hval0 hval hA
  refine run.mono fun e W' hl => ?_
  have hb := hl.below
  obtain ⟨rfl, _⟩ := hl
  exact ⟨_, rfl, law_post Try.laidOut readable4 (by kernel_rfl) Try.underlying4 rfl hW' (fun _ => rfl) hb⟩

theorem gridNews_said : Rows.GridNewsSaid :=
  OpenClaim.holds_of_wide 4 Try.f4 rfl rfl rfl rfl rfl rfl rfl ⟨rfl, rfl, rfl, rfl, rfl⟩ rfl rfl rfl rfl rfl (by kernel_rfl) Try.func4 (by kernel_rfl)
    (of_decide_eq_true (by kernel_rfl)) (by unfold Func.isWrapper; first | (rw [if_pos (by decide +kernel)]; kernel_rfl) | (rw [if_neg (by decide +kernel)]; exact ⟨rfl, rfl⟩))
    (fun os started H enc _ => gridNews_lifted os started H enc)

end Go.Proofs.Ytmpmdlbhiogelaa
