/-
  The document's example: walked. No conditions.
-/
import Derived.Test.YtlhfpnfiamgmlaaR0
import Derived.Deep.DeepCutAuto
namespace Go.Proofs.Ytlhfpnfiamgmlaa
open Go.RowKit

/-- The example's slots: one is minted, one shared of it. -/
def ex1 : Nat → Sl := (mintS 4 4 (fun _ => Sl.fresh) 0 1 5 7).1
def ex2 : Nat → Sl := (shareS 4 4 ex1 0 0 1 1 1).1

theorem ex1_r : (mintS 4 4 (fun _ => Sl.fresh) 0 1 5 7).2 = (0, 1, 0) := by decide +kernel
theorem ex2_r : (shareS 4 4 ex1 0 0 1 1 1).2 = (1, 1, 0) := by decide +kernel
theorem ex_own : ownE 4 ex2 0 0 1 0 = 0 := by decide +kernel
theorem ex_0 : (ex2 0).of = -1 ∧ madeOf ex2 0 0 = false ∧ madeOf ex2 0 1 = true ∧ 0 ≤ (ex2 1).env ∧ (ex2 2).env < 0 ∧ (ex2 3).env < 0 := by decide +kernel

theorem ex_gone {M : Nat → Bool} (hM : ∀ i, M i = true ↔ Bel 4 ex2 (madeOf ex2 0) i) : cnt (goneB M ex2) 4 = 1 ∧ (goneF M ex2 1).env = -1 := by
  obtain ⟨e0, e1, e2, e3, e4, e5⟩ := ex_0
  have m1 : M 1 = true := (hM 1).2 (.base e2)
  have m0 : M 0 = false := by
    cases h : M 0 with
    | false => rfl
    | true =>
      have hb := (hM 0).1 h
      cases hb with
      | base h => rw [e1] at h; cases h
      | step _ _ h3 _ => rw [e0] at h3; omega
  refine ⟨?_, ?_⟩
  · have hc : cnt (goneB M ex2) 4 = cnt (fun i => i == 1) 4 := cnt_congr (fun i hi => by
      unfold goneB
      match i, hi with
      | 0, _ => rw [m0]; rfl
      | 1, _ => rw [m1, decide_eq_true e3]; rfl
      | 2, _ => rw [decide_eq_false (Int.not_le.2 e4), Bool.and_false]; rfl
      | 3, _ => rw [decide_eq_false (Int.not_le.2 e5), Bool.and_false]; rfl)
    rw [hc]
    rfl
  · unfold goneF
    rw [if_pos ⟨m1, e3⟩]

set_option maxHeartbeats 2000000 in
theorem awake7 (w : World) : Calls Try.prog 7 #[] w (LawTrue w) := by
  have HN := hide' (new_in (w0 := w) 4 4 (Stay.refl _ w) (by decide) (by decide) (by decide))
  go_enter Try.func7, Try.ntmps7
  go_wp2_with fail
  refine HN.out.mono ?_
  rintro _ w1 ⟨T, B, rfl, ht1, _, _, _⟩
  have HM := hide' (mint_in 0 1 5 7 ht1)
  clear HN ht1
  go_wp2_with fail
  refine HM.out.mono ?_
  rintro _ w2 ⟨rfl, ht2, _⟩
  rw [ex1_r]
  have h2 : TIn w T B 4 4 ex1 1 w2 := ht2
  clear ht2 HM
  go_upto_region 5 with fail
  obtain ⟨ba, hba⟩ : ∃ b, b = w2.heap.size := ⟨_, rfl⟩
  obtain ⟨W3, hW3⟩ : ∃ W, W = w2.alloc (.cells #[.int .i64 0, .int .i64 1] 30) := ⟨_, rfl⟩
  have hs3 : Stay (fun _ => False) w2 W3 := by rw [hW3]; exact (Stay.refl _ _).alloc _
  have h3 := h2.keep hs3
  have HA : Hid (NBox W3 ba ⟨0, 1⟩) := by rw [hW3]; exact NBox.new ⟨0, 1⟩ hba.symm
  have HAB : Hid (ba ≠ B ∧ w.heap.size ≤ ba) := ⟨by have := h2.at'.ltB; omega, by have := h2.stay.size; omega⟩
  rw [← hW3, ← hba]
  have HSH := hide' (share_in 0 0 1 1 1 h3)
  obtain ⟨b0, b1, _, _⟩ := HA.out
  simp only at b0 b1
  clear hW3 hba hs3 h2 h3
  go_wp2_with fail
  refine HSH.out.mono ?_
  rintro _ w4 ⟨rfl, ht4, hs4⟩
  rw [ex2_r]
  have h4 : TIn w T B 4 4 ex2 1 w4 := ht4
  have HA4 := hide' (HA.out.stay hs4 HAB.out.1)
  clear ht4 HSH HA b0 b1 hs4
  go_upto_region 6 with fail
  obtain ⟨bb, hbb⟩ : ∃ b, b = w4.heap.size := ⟨_, rfl⟩
  obtain ⟨W5, hW5⟩ : ∃ W, W = w4.alloc (.cells #[.int .i64 1, .int .i64 1] 30) := ⟨_, rfl⟩
  have hs5 : Stay (fun _ => False) w4 W5 := by rw [hW5]; exact (Stay.refl _ _).alloc _
  have h5 := h4.keep hs5
  have HA5 := hide' (HA4.out.keep hs5)
  have HB5 : Hid (NBox W5 bb ⟨1, 1⟩) := by rw [hW5]; exact NBox.new ⟨1, 1⟩ hbb.symm
  have HBB : Hid (bb ≠ B) := fun e => by have := h4.at'.ltB; omega
  rw [← hW5, ← hbb]
  have HRV := hide' (revoke_in 0 0 1 h5 (by decide))
  rw [ex_own] at HRV
  obtain ⟨b0, b1, _, _⟩ := HA5.out
  simp only at b0 b1
  clear hW5 hbb hs5 h4 h5 HA4
  go_wp2_with fail
  refine HRV.out.mono ?_
  rintro _ w6 ⟨f', c, rfl, h6, hs6, _, hc⟩
  obtain ⟨M, hM, rfl, rfl⟩ := hc rfl
  obtain ⟨hc1, hg1⟩ := ex_gone hM
  rw [hc1]
  have HB6 := hide' (HB5.out.stay hs6 HBB.out)
  have HCK := hide' (check_in 1 1 1 1 1 h6 (by unfold W64; omega))
  have hck : checkR 4 (goneF M ex2) 1 1 1 1 1 = (0, 9) := by
    have h9 : ownE 4 (goneF M ex2) 1 1 1 0 = 9 := by
      unfold ownE
      rw [if_neg (fun h => by have h1 := h.2.2.1; rw [show (1 : Int).toNat = 1 from rfl, hg1] at h1; omega)]
    unfold checkR
    rw [h9, if_neg (by decide)]
  rw [hck] at HCK
  have HST := hide' h6.stay
  obtain ⟨c0, c1, _, _⟩ := HB6.out
  simp only at c0 c1
  clear b0 b1 h6 hs6 hc hM hc1 hg1 hck HRV
  go_wp2_with fail
  refine HCK.out.mono ?_
  rintro _ w7 ⟨rfl, hs7⟩
  have HS7 := hide' (HST.out.trans hs7)
  clear hs7 HST HCK c0 c1
  go_wp2
  go_ret
  exact ⟨rfl, HS7.out⟩

end Go.Proofs.Ytlhfpnfiamgmlaa
