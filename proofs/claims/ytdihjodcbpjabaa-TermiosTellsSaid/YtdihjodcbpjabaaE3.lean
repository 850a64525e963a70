/-
  TermiosStrip walked: true of any setting and any byte. No conditions.
-/
import Derived.Test.YtdihjodcbpjabaaE0
namespace Go.Proofs.Ytdihjodcbpjabaa
open Go.RowKit

theorem ofInt_wrap (v : BitVec 64) : BitVec.ofInt 64 (IntKind.i64.wrap (v.toNat : Nat)) = v := by
  apply BitVec.eq_of_toNat_eq
  rw [BitVec.toNat_ofInt, IntKind.wrap_i64]
  have := v.isLt
  omega

theorem wrap_zero (v : BitVec 64) : (IntKind.i64.wrap (v.toNat : Nat) == 0) = (v == 0#64) := by
  by_cases h : v = 0#64
  · subst h; decide
  · have h2 : ¬ IntKind.i64.wrap (v.toNat : Nat) = 0 := fun e => h (by
      have := ofInt_wrap v
      rw [e] at this
      rw [← this]; decide)
    rw [beq_eq_false_iff_ne.2 h, beq_eq_false_iff_ne.2 h2]

theorem has_bit (f k : Int) (i : Nat) (hi : i < 64) (hk : BitVec.ofInt 64 k = BitVec.twoPow 64 i) : hasB f k = (BitVec.ofInt 64 f).getLsbD i := by
  show (!(IntKind.i64.wrap ((BitVec.ofInt 64 f &&& BitVec.ofInt 64 k).toNat : Nat) == 0)) = _
  rw [wrap_zero, hk, BitVec.and_twoPow]
  have hn : (BitVec.twoPow 64 i == 0#64) = false := by
    refine beq_eq_false_iff_ne.2 (fun e => ?_)
    have h := congrArg (fun v => v.getLsbD i) e
    simp [hi] at h
  cases hb : (BitVec.ofInt 64 f).getLsbD i
  · simp
  · simp [hn]

/-- With the flag, and without it again. -/
def onF (f : Int) : Int := bits .or .i64 f 1
def offF (f : Int) : Int := bits .andNot .i64 (onF f) 1

theorem f1_bv (f : Int) : BitVec.ofInt 64 (onF f) = BitVec.ofInt 64 f ||| BitVec.ofInt 64 1 := ofInt_wrap _
theorem f2_bv (f : Int) : BitVec.ofInt 64 (offF f) = BitVec.ofInt 64 (onF f) &&& ~~~ BitVec.ofInt 64 1 := ofInt_wrap _

theorem one_bit (i : Nat) (hi : i < 64) (h0 : 0 < i) : (BitVec.ofInt 64 1).getLsbD i = false := by
  rw [show BitVec.ofInt 64 1 = BitVec.twoPow 64 0 by decide, BitVec.getLsbD_twoPow]
  simp; omega

theorem has_f1 (f : Int) : hasB (onF f) 1 = true := by
  rw [has_bit (onF f) 1 0 (by decide) (by decide), f1_bv, BitVec.getLsbD_or]
  have : (BitVec.ofInt 64 1).getLsbD 0 = true := by decide
  rw [this]; simp

theorem has_f2 (f k : Int) (i : Nat) (hi : i < 64) (h0 : 0 < i) (hk : BitVec.ofInt 64 k = BitVec.twoPow 64 i) : hasB (offF f) k = hasB (onF f) k := by
  rw [has_bit (offF f) k i hi hk, has_bit (onF f) k i hi hk, f2_bv, BitVec.getLsbD_and, BitVec.getLsbD_not, one_bit i hi h0]
  simp [hi]

theorem low_f1 (f c : Int) (_h0 : 0 ≤ c) : low (onF f) c = c % 128 ∧ low (onF f) (c % 128) = c % 128 ∧ low (offF f) (c % 128) = c % 128 := by
  refine ⟨?_, ?_, ?_⟩
  · unfold low; rw [has_f1, if_pos rfl]
  · unfold low; rw [has_f1, if_pos rfl]; omega
  · unfold low; split <;> omega

theorem map_f1 (f c : Int) (h0 : 0 ≤ c) : mapI (onF f) (c % 128) = mapI (onF f) c ∧ mapI (offF f) (c % 128) = mapI (onF f) c := by
  obtain ⟨e1, e2, e3⟩ := low_f1 f c h0
  unfold mapI
  rw [e1, e2, e3, has_f2 f 2 1 (by decide) (by decide) (by decide), has_f2 f 4 2 (by decide) (by decide) (by decide), has_f2 f 8 3 (by decide) (by decide) (by decide)]
  exact ⟨rfl, rfl⟩

theorem map_none (f c : Int) (h0 : 0 ≤ c) (h : gI (onF f) c = false) : c % 128 = 13 := by
  obtain ⟨e1, _, _⟩ := low_f1 f c h0
  unfold gI mapI at h
  rw [e1] at h
  by_cases e : c % 128 = 13
  · exact e
  · exfalso
    have hn : ¬ c % 128 = -1 := by omega
    simp [e] at h
    split at h <;> omega

set_option maxRecDepth 100000 in
set_option maxHeartbeats 2000000 in
theorem strip_any (r : Tm) (c : Int) (w : World) (h0 : 0 ≤ c) (h1 : c < 256) : Calls Try.prog 5 #[.agg #[.int .i64 r.fi, .int .i64 r.fo, .int .i64 r.fl, .int .i64 r.k0, .int .i64 r.k1, .int .i64 r.k2, .int .i64 r.k3, .int .i64 r.k4, .int .i64 r.k5, .int .i64 r.k6, .int .i64 r.k7, .int .i64 r.k8, .int .i64 r.k9, .int .i64 r.k10, .int .i64 r.k11, .int .i64 r.mn, .int .i64 r.ti], .int .u8 c] w (LawTrue w) := by
  have HX := hide' (TBox.new (w := w) r rfl)
  have HS := hide' ((Stay.refl (fun _ => False) w).alloc (.cells #[.int .i64 r.fi, .int .i64 r.fo, .int .i64 r.fl, .int .i64 r.k0, .int .i64 r.k1, .int .i64 r.k2, .int .i64 r.k3, .int .i64 r.k4, .int .i64 r.k5, .int .i64 r.k6, .int .i64 r.k7, .int .i64 r.k8, .int .i64 r.k9, .int .i64 r.k10, .int .i64 r.k11, .int .i64 r.mn, .int .i64 r.ti] 24))
  obtain ⟨r1, hr1⟩ : ∃ r1 : Tm, r1 = ⟨onF r.fi, r.fo, r.fl, r.k0, r.k1, r.k2, r.k3, r.k4, r.k5, r.k6, r.k7, r.k8, r.k9, r.k10, r.k11, r.mn, r.ti⟩ := ⟨_, rfl⟩
  obtain ⟨r2, hr2⟩ : ∃ r2 : Tm, r2 = ⟨offF r.fi, r.fo, r.fl, r.k0, r.k1, r.k2, r.k3, r.k4, r.k5, r.k6, r.k7, r.k8, r.k9, r.k10, r.k11, r.mn, r.ti⟩ := ⟨_, rfl⟩
  have H6a := hide' (fun w => map6 r1 c w h0 h1)
  have H6b := hide' (fun w => map6 r1 (c % 128) w (by omega) (by omega))
  have H6c := hide' (fun w => map6 r2 (c % 128) w (by omega) (by omega))
  have e1 : r1.fi = onF r.fi := by rw [hr1]
  have e2 : r2.fi = offF r.fi := by rw [hr2]
  have eb : gB r1.fi (c % 128) = gB r1.fi c ∧ gI r1.fi (c % 128) = gI r1.fi c ∧ gB r2.fi (c % 128) = gB r1.fi c ∧ gI r2.fi (c % 128) = gI r1.fi c := by
    obtain ⟨q1, q2⟩ := map_f1 r.fi c h0
    rw [e1, e2]
    unfold gB gI
    rw [q1, q2]
    exact ⟨rfl, rfl, rfl, rfl⟩
  rw [eb.1, eb.2.1] at H6b
  rw [eb.2.2.1, eb.2.2.2] at H6c
  have HZ : Hid (gI r1.fi c = false → c % 128 = 13) := fun h => map_none r.fi c h0 (by rw [← e1]; exact h)
  have HR1 : Hid (r1 = ⟨bits .or .i64 r.fi 1, r.fo, r.fl, r.k0, r.k1, r.k2, r.k3, r.k4, r.k5, r.k6, r.k7, r.k8, r.k9, r.k10, r.k11, r.mn, r.ti⟩) := hr1
  have HR2 : Hid (r2 = ⟨bits .andNot .i64 r1.fi 1, r1.fo, r1.fl, r1.k0, r1.k1, r1.k2, r1.k3, r1.k4, r1.k5, r1.k6, r1.k7, r1.k8, r1.k9, r1.k10, r1.k11, r1.mn, r1.ti⟩) := by show r2 = _; rw [hr2, hr1]; rfl
  obtain ⟨g, hg⟩ : ∃ g, g = gB r1.fi c := ⟨_, rfl⟩
  obtain ⟨v, hv⟩ : ∃ v, v = gI r1.fi c := ⟨_, rfl⟩
  rw [← hg, ← hv] at H6a H6b H6c
  rw [← hv] at HZ
  have hmod : c.tmod 128 = c % 128 := Int.tmod_eq_emod_of_nonneg h0
  obtain ⟨d, hd⟩ : ∃ d, d = c % 128 := ⟨_, rfl⟩
  rw [← hd] at H6b H6c HZ hmod
  have HM := hide' hmod
  have HM2 : Hid (c % 128 = d) := hd.symm
  clear hg hv eb hr2 hmod hd
  clear e1 e2 hr1 h0 h1
  go_enter Try.func5, Try.ntmps5
  go_upto_region 1 with fail
  obtain ⟨W, hW⟩ : ∃ W, W = w.alloc (.cells #[.int .i64 r.fi, .int .i64 r.fo, .int .i64 r.fl, .int .i64 r.k0, .int .i64 r.k1, .int .i64 r.k2, .int .i64 r.k3, .int .i64 r.k4, .int .i64 r.k5, .int .i64 r.k6, .int .i64 r.k7, .int .i64 r.k8, .int .i64 r.k9, .int .i64 r.k10, .int .i64 r.k11, .int .i64 r.mn, .int .i64 r.ti] 24) := ⟨_, rfl⟩
  obtain ⟨b, hb⟩ : ∃ b, b = w.heap.size := ⟨_, rfl⟩
  have HB : Hid (w.heap.size ≤ b) := by show w.heap.size ≤ b; omega
  rw [← hW] at HX HS ⊢
  rw [← hb] at HX ⊢
  clear hW hb
  obtain ⟨c0, c1, c2, c3, c4, c5, c6, c7, c8, c9, c10, c11, c12, c13, c14, c15, c16, f0, f1, f2, f3, f4, f5, f6, f7, f8, f9, f10, f11, f12, f13, f14, f15, f16⟩ := HX.out
  go_upto_region 2 with fail
  have HX1 : Hid (TBox (W.setCell ⟨b, 0, none⟩ (.int .i64 (bits .or .i64 r.fi 1))) b r1) := HX.out.put0 HR1.out
  have HS1 : Hid (Stay (fun _ => False) w (W.setCell ⟨b, 0, none⟩ (.int .i64 (bits .or .i64 r.fi 1)))) := HS.out.setNew HB.out _
  obtain ⟨W1, hW1⟩ : ∃ W1, W1 = W.setCell ⟨b, 0, none⟩ (.int .i64 (bits .or .i64 r.fi 1)) := ⟨_, rfl⟩
  rw [← hW1] at HX1 HS1 ⊢
  clear hW1 HX HS c0 c1 c2 c3 c4 c5 c6 c7 c8 c9 c10 c11 c12 c13 c14 c15 c16 f0 f1 f2 f3 f4 f5 f6 f7 f8 f9 f10 f11 f12 f13 f14 f15 f16
  obtain ⟨x1, hx1⟩ : ∃ x, x = bits .or .i64 r.fi 1 := ⟨_, rfl⟩
  rw [← hx1] at HR1
  try rw [← hx1]
  clear hx1
  go_wp2_with (refine wpList_exec rfl (run_load_TBox rfl rfl HX1.out) ?_)
  refine (H6a.out _).mono ?_
  rintro e w2 ⟨rfl, hs⟩
  have HX2 := hide' (HX1.out.keep hs)
  have HS2 := hide' (HS1.out.trans hs)
  clear hs HX1 HS1
  have hm1 : c.tmod 128 = d := HM.out
  have hm2 : c % 128 = d := HM2.out
  go_wp2_with (refine wpList_exec rfl (run_load_TBox rfl rfl HX2.out) ?_)
  refine (H6b.out _).mono ?_
  rintro e w3 ⟨rfl, hs⟩
  have HX3 := hide' (HX2.out.keep hs)
  have HS3 := hide' (HS2.out.trans hs)
  clear hs HX2 HS2
  obtain ⟨c0, c1, c2, c3, c4, c5, c6, c7, c8, c9, c10, c11, c12, c13, c14, c15, c16, f0, f1, f2, f3, f4, f5, f6, f7, f8, f9, f10, f11, f12, f13, f14, f15, f16⟩ := HX3.out
  go_upto_region 5 with fail
  have HX4 : Hid (TBox (w3.setCell ⟨b, 0, none⟩ (.int .i64 (bits .andNot .i64 r1.fi 1))) b r2) := HX3.out.put0 HR2.out
  have HS4 : Hid (Stay (fun _ => False) w (w3.setCell ⟨b, 0, none⟩ (.int .i64 (bits .andNot .i64 r1.fi 1)))) := HS3.out.setNew HB.out _
  obtain ⟨W4, hW4⟩ : ∃ W4, W4 = w3.setCell ⟨b, 0, none⟩ (.int .i64 (bits .andNot .i64 r1.fi 1)) := ⟨_, rfl⟩
  rw [← hW4] at HX4 HS4 ⊢
  clear hW4 HX3 HS3 c0 c1 c2 c3 c4 c5 c6 c7 c8 c9 c10 c11 c12 c13 c14 c15 c16 f0 f1 f2 f3 f4 f5 f6 f7 f8 f9 f10 f11 f12 f13 f14 f15 f16
  go_wp2_with (refine wpList_exec rfl (run_load_TBox rfl rfl HX4.out) ?_)
  refine (H6c.out _).mono ?_
  rintro e w5 ⟨rfl, hs⟩
  have HS5 := hide' (HS4.out.trans hs)
  clear hs HX4 HS4
  cases v
  · have hd := HZ.out (by first | rfl | trivial)
    go_wp2_with fail
    refine (awake12 _).mono ?_
    rintro e w6 ⟨rfl, hs⟩
    have HS6 := hide' (HS5.out.trans hs)
    clear hs
    go_wp2
    go_ret
    exact ⟨by simp [*], HS6.out⟩
  · go_wp2_with fail
    refine (awake12 _).mono ?_
    rintro e w6 ⟨rfl, hs⟩
    have HS6 := hide' (HS5.out.trans hs)
    clear hs
    go_wp2
    go_ret
    exact ⟨by simp [*], HS6.out⟩

end Go.Proofs.Ytdihjodcbpjabaa
