/-
  The document's own answer for infinite numbers, and for what weights count together: what the calls hand back, in whatever world; of 1 to 64 weights, each a word of 64 bits.
-/
import Derived.Test.YtmkkkddadpcmeaaG1
import Derived.Test.YtmkkkddadpcmeaaD1
import Derived.Laws.NewFold
namespace Go.Proofs.Ytmkkkddadpcmeaa
open Go.RowKit Ieee

theorem sub_self_fin {x : Nat} (h : x < infR) : floatBits .sub .f64 x x = some 0 := by
  obtain ⟨m, e, x1, _⟩ := fin_read h
  show dbl.sub x x = some 0
  unfold Format.sub
  rw [x1]
  simp only [Datum.sum, Datum.opposite, signed_eq, Option.map_some, Format.write]
  have z : sg false (m * 2 ^ (-1074 + (e : Int) - min (-1074 + (e : Int)) (-1074 + (e : Int))).toNat) + sg (!false) (m * 2 ^ (-1074 + (e : Int) - min (-1074 + (e : Int)) (-1074 + (e : Int))).toNat) = 0 := by
    simp only [sg, Bool.not_false, if_true, Bool.false_eq_true, if_false]
    omega
  rw [z]
  show some (dbl.nearest _ 0 _) = some 0
  congr 1

theorem sub_self_inf {x : Nat} (h : rung x = infR) : floatBits .sub .f64 x x = none := by
  show dbl.sub x x = none
  unfold Format.sub
  rw [read_inf x h]
  cases ngv x <;> rfl

/-- An infinite one less itself: what comes is no number; one answer has been drawn. -/
theorem run_inf_sub {x : Nat} (h : rung x = infR) (W : World) : ∃ z, infR < rung z ∧ (binOp .sub 22 (.float .f64 x) (.float .f64 x)).run Try.prog W = .ok (.float .f64 z) W.drew := by
  have hs : FloatKind.f64.format.sub x x = none := sub_self_inf h
  refine ⟨Question.cut (.nanBits .f64 x x) (W.tape W.drawn (.nanBits .f64 x x)), ?_, ?_⟩
  · generalize W.tape W.drawn (.nanBits .f64 x x) = t
    show infR < rung (t % 2 * 9223372036854775808 + 9218868437227405312 + 1 + t / 2 % 4503599627370495)
    have hm := Nat.mod_lt (t / 2) (show 0 < 4503599627370495 by omega)
    unfold rung infR
    generalize t / 2 % 4503599627370495 = m at *
    rcases Nat.mod_two_eq_zero_or_one t with h2 | h2 <;> rw [h2] <;> omega
  · simp [binOp, Op.floatArith, hs, run_choose_drew, Question.forced]

theorem cnt_of_pos {x : Nat} (h : (fo x 0 == some .gt) = true) : cnt x = x ∧ Pos x := by
  have hx : rung x ≤ infR := by
    apply Nat.le_of_not_lt
    intro hn
    rw [show fo x 0 = none from order_nan_left x 0 hn] at h
    cases h
  have hk := fo_key (x := x) (y := 0) hx (by decide)
  have hN : isN x = false := by rw [isN_iff]; exact decide_eq_false (by omega)
  have e : cnt x = x := by
    unfold cnt
    rw [hN]
    generalize fo x 0 = o at h
    cases o with
    | none => cases h
    | some o => cases o <;> simp at h ⊢
  exact ⟨e, by rw [← e]; exact cnt_pos x⟩

theorem cnt_of_not {x : Nat} (h : (fo x 0 == some .gt) = false) : cnt x = 0 := by
  unfold cnt
  rw [isN_iff]
  by_cases hn : infR < rung x
  · simp [hn]
  · have hk := fo_key (x := x) (y := 0) (by omega) (by decide)
    rw [hk] at h ⊢
    generalize compare (kx x) (kx 0) = c at *
    cases c <;> simp at h ⊢

set_option maxHeartbeats 400000 in
theorem rinf_any (x : Nat) (hx : x < 18446744073709551616) (w : World) : Calls Try.prog 33 #[.float .f64 x] w fun e w' => e = .returned (.bool (isI (cnt x))) ∧ ∃ q, w' = w.drewN q := by
  by_cases hg : (fo x 0 == some .gt) = true
  · obtain ⟨h1, h2⟩ := cnt_of_pos hg
    rw [h1, isI_iff h2]
    by_cases hi : rung x = infR
    · obtain ⟨z, hz, hrun⟩ := run_inf_sub hi w
      have hne : (FloatKind.f64.format.order z 0 != some .eq) = true := by rw [show FloatKind.f64.format.order z 0 = none from order_nan_left z 0 hz]; rfl
      have hg' : (FloatKind.f64.format.order x 0 == some .gt) = true := hg
      rw [decide_eq_true hi]
      clear hz hi h1 h2 hg
      go_enter Try.func33, Try.ntmps33
      go_wp2
      go_ret
      exact ⟨rfl, 1, rfl⟩
    · have hw := h2.word hx
      have hsub := sub_self_fin (x := x) (by have := h2.num; omega)
      have hrun : ∀ W : World, (binOp .sub 22 (.float .f64 x) (.float .f64 x)).run Try.prog W = .ok (.float .f64 0) W := fun W => run_float_arith W .sub 22 .f64 x x 0 hsub
      have hne : (FloatKind.f64.format.order 0 0 != some .eq) = false := by decide +kernel
      have hg' : (FloatKind.f64.format.order x 0 == some .gt) = true := hg
      rw [decide_eq_false hi]
      clear hw hsub hi h1 h2 hg
      go_enter Try.func33, Try.ntmps33
      go_wp2
      go_ret
      exact ⟨rfl, 0, rfl⟩
  · have hg2 : (fo x 0 == some .gt) = false := by simpa using hg
    rw [cnt_of_not hg2, show isI 0 = false from by decide +kernel]
    have hg' : (FloatKind.f64.format.order x 0 == some .gt) = false := hg2
    clear hg hg2
    go_enter Try.func33, Try.ntmps33
    go_wp2
    go_ret
    exact ⟨rfl, 0, rfl⟩

end Go.Proofs.Ytmkkkddadpcmeaa
