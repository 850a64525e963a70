/-
  The document's example, walked. No conditions.
-/
import Derived.Test.YtmpmdlbhiogelaaE5
namespace Go.Proofs.Ytmpmdlbhiogelaa
open Go.RowKit

theorem field35_0 (x0 x1 x2 x3 : Value) (W : World) : (Instr.field 35 (.agg #[x0, x1, x2, x3]) 0).run Try.prog W = .ok x0 W := by
  have hu := run_underlying Try.underlying35 W
  rfl

attribute [local go_sem] field35_0

set_option maxRecDepth 100000 in
theorem awake7 (w : World) : Calls Try.prog 7 #[] w (LawTrue w) := by
  have HN := hide' (new8 3 1 w (by decide) (by decide) (by decide) (by decide))
  go_enter Try.func7, Try.ntmps7
  go_wp2_with fail
  refine HN.out.mono ?_
  rintro e w1 ⟨G, rfl, hs, hG, hw, hh, hab⟩
  have HS1 := hide' hs
  have HI : Hid (∃ f, GridAt w1 G f ∧ ∀ i, i < 0 → f i = ⟨97 + (i : Nat), 0, 0, 0⟩) := ⟨_, hG, fun i hi => absurd hi (Nat.not_lt_zero _)⟩
  have HWH := hide' (show G.w = 3 ∧ G.h = 1 ∧ w.heap.size ≤ G.bc from ⟨hw, hh, hab.2.2⟩)
  clear hs hG hw hh hab HN
  go_wp2_with fail
  go_loopg [2] 3 (fun g v wr => ∃ k : Nat, k ≤ 3 ∧ g = 3 - k ∧ v = .int .i64 (k : Int) ∧ Hid (Stay (fun _ => False) w wr) ∧ Hid (∃ f, GridAt wr G f ∧ ∀ i, i < k → f i = ⟨97 + (i : Nat), 0, 0, 0⟩))
  case atStart => exact ⟨0, Nat.zero_le _, rfl, rfl, HS1, HI⟩
  case round =>
    obtain ⟨k, hk, rfl, rfl, HSr, HI⟩ := hrel
    obtain ⟨f, hf, hfk⟩ := HI.out
    by_cases hlt : k < 3
    · have kn : (k : Int) < 3 := by omega
      have m1 : IntKind.i64.wrap (97 + (k : Int)) = 97 + (k : Int) := by rw [IntKind.wrap_i64]; omega
      have m2 : IntKind.i32.wrap (97 + (k : Int)) = 97 + (k : Int) := by rw [IntKind.wrap_i32]; omega
      have HC := hide' (set10 G f k 0 ⟨97 + (k : Nat), 0, 0, 0⟩ wr hf (by unfold I64; omega) (by unfold I64; omega))
      have HFK := hide' hfk
      clear hf hfk HI
      go_wp2_with fail
      refine HC.out.mono ?_
      rintro e w2 ⟨rfl, hs, hG⟩
      have HS2 : Hid (Stay (fun _ => False) w w2) := HSr.out.trans' hs HWH.out.2.2
      have HI2 : Hid (∃ f, GridAt w2 G f ∧ ∀ i, i < k + 1 → f i = ⟨97 + (i : Nat), 0, 0, 0⟩) := ⟨_, hG, fun i hi => by
        have e := setF_nat (w := G.w) (h := G.h) (X := k) (Y := 0) f ⟨97 + (k : Nat), 0, 0, 0⟩ (by have := HWH.out.1; omega) (by have := HWH.out.2.1; omega)
        rw [show ((0 : Nat) : Int) = 0 from rfl] at e
        rw [e]
        show (if i = 0 * G.w + k then (⟨97 + (k : Nat), 0, 0, 0⟩ : Cl) else f i) = _
        by_cases hik : i = k
        · subst hik
          rw [if_pos (by omega)]
        · rw [if_neg (by omega)]
          exact HFK.out i (by omega)⟩
      clear hs hG HSr HFK HC
      go_wp2
      go_roundg (3 - (k + 1))
      case measure => omega
      case rel => exact ⟨k + 1, by omega, rfl, by go_num, HS2, HI2⟩
    · have hk3 : k = 3 := by omega
      subst hk3
      have HC := hide' (copy16 G f (⟨0, 0, 3, 1⟩ : R) 1 0 wr hf)
      have HFK := hide' hfk
      have hcn : cntAll (comesB G.w G.h (⟨0, 0, 3, 1⟩ : R) 1 0) G.w G.h = 2 := by rw [HWH.out.1, HWH.out.2.1]; decide
      rw [hcn] at HC
      clear hf hfk HI hcn
      go_wp2_with fail
      refine HC.out.mono ?_
      rintro e w2 ⟨f2, ⟨rfl, hs, hG⟩, hb⟩
      have HS2 : Hid (Stay (fun _ => False) w w2) := HSr.out.trans' hs HWH.out.2.2
      have hat : ∀ (X : Nat) (v : Int), X < 3 → f2 X = ⟨v, 0, 0, 0⟩ → ∀ W, Stay (fun _ => False) w2 W → Calls Try.prog 20 #[.pointer (some ⟨G.g, 0, none⟩), .int .i64 (X : Nat), .int .i64 0] W (Gives (.agg #[.int .i32 v, .int .i64 0, .int .i64 0, .int .i64 0]) W) := fun X v hX hv W hW => by
        have := at20 G f2 X 0 W (hG.keep hW) (by unfold I64; omega) (by unfold I64; omega)
        have e := atF_nat (w := G.w) (h := G.h) (X := X) (Y := 0) f2 (by have := HWH.out.1; omega) (by have := HWH.out.2.1; omega)
        rw [show ((0 : Nat) : Int) = 0 from rfl, Nat.zero_mul, Nat.zero_add, hv] at e
        rw [e] at this
        exact this
      have hval : ∀ (X U : Nat), X < 3 → U < 3 → comesB 3 1 (⟨0, 0, 3, 1⟩ : R) 1 0 X 0 = true → (X : Int) - 1 + 0 = U → f2 X = f U := fun X U hX hU hc hu => by
        have := hb X 0 (by have := HWH.out.1; omega) (by have := HWH.out.2.1; omega)
        rw [HWH.out.1, HWH.out.2.1] at this
        rw [Nat.zero_mul, Nat.zero_add, if_pos hc] at this
        rw [this, show ((X : Int) - 1 + ((⟨0, 0, 3, 1⟩ : R) : R).x) = U from hu]
        have e := atF_nat (w := 3) (h := 1) (X := U) (Y := 0) f hU (by decide)
        rw [show ((0 : Nat) : Int) - 0 + ((⟨0, 0, 3, 1⟩ : R) : R).y = ((0 : Nat) : Int) from rfl, e, Nat.zero_mul, Nat.zero_add]
      have hval0 : f2 0 = f 0 := by
        have := hb 0 0 (by have := HWH.out.1; omega) (by have := HWH.out.2.1; omega)
        rw [HWH.out.1, HWH.out.2.1] at this
        rw [Nat.zero_mul, Nat.zero_add, if_neg (by decide)] at this
        exact this
      have H0 := hide' (hat 0 97 (by decide) (by rw [hval0, HFK.out 0 (by decide)]; rfl))
      have H1 := hide' (hat 1 97 (by decide) (by rw [hval 1 0 (by decide) (by decide) (by decide) (by decide), HFK.out 0 (by decide)]; rfl))
      have H2 := hide' (hat 2 98 (by decide) (by rw [hval 2 1 (by decide) (by decide) (by decide) (by decide), HFK.out 1 (by decide)]; rfl))
      have HT := hide' (Stay.refl (fun _ => False) w2)
      clear hat hval hval0 hs hG hb HC HFK HSr
      go_wp2_with fail
      refine (H0.out _ HT.out).mono ?_
      rintro e w3 ⟨rfl, hs⟩
      have HT3 := hide' (HT.out.trans hs)
      clear hs
      go_wp2_with fail
      refine (H1.out _ HT3.out).mono ?_
      rintro e w4 ⟨rfl, hs⟩
      have HT4 := hide' (HT3.out.trans hs)
      clear hs
      go_wp2_with fail
      refine (H2.out _ HT4.out).mono ?_
      rintro e w5 ⟨rfl, hs⟩
      have HT5 := hide' (HT4.out.trans hs)
      clear hs
      go_wp2
      go_ret
      exact ⟨by simp, HS2.out.trans HT5.out⟩

end Go.Proofs.Ytmpmdlbhiogelaa
