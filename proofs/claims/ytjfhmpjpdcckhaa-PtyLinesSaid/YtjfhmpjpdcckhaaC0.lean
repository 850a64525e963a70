/-
  What stands between the ends: whether there is nothing, what is put, what is taken; walked. No conditions.
-/
import Derived.Test.YtjfhmpjpdcckhaaG5
import Derived.BigQuiet
import Derived.Lib.MinMax
import Derived.Deep.CutBlock
namespace Go.Proofs.Ytjfhmpjpdcckhaa
open Go.RowKit
open L17 L18

theorem field28_1 (r : Tm) (w : World) : (Instr.field 28 (.agg #[.int .i64 r.fi, .int .i64 r.fo, .int .i64 r.fl, .int .i64 r.k0, .int .i64 r.k1, .int .i64 r.k2, .int .i64 r.k3, .int .i64 r.k4, .int .i64 r.k5, .int .i64 r.k6, .int .i64 r.k7, .int .i64 r.k8, .int .i64 r.k9, .int .i64 r.k10, .int .i64 r.k11, .int .i64 r.mn, .int .i64 r.ti]) 1).run Try.prog w = .ok (.int .i64 r.fo) w := by rfl

attribute [local go_sem] field28_1

section
variable {w : World} {g p : Nat} {U : Nat → Prop} {s : Pq}

theorem silent23 (h : PAt w g p U s) : Calls Try.prog 23 #[.pointer (some ⟨g, 0, none⟩)] w (Gives (.bool (decide (s.q.length = 0))) w) := by
  obtain ⟨O, v, hb, _⟩ := h
  obtain ⟨va, vc, rfl, _⟩ := hb.win.shape
  have HS := hide' (Stay.refl (fun _ => False) w)
  obtain ⟨c0, c1, c2, c3, c4, _⟩ := hb.box
  obtain ⟨n, hn⟩ : ∃ n, n = s.q.length := ⟨_, rfl⟩
  simp only at c2 c4
  rw [← hn] at c2 ⊢
  clear hb hn c0 c1 c3
  by_cases hz : n = 0
  · subst hz
    go_enter Try.func23, Try.ntmps23
    go_wp2
    go_ret
    exact ⟨rfl, HS.out⟩
  · have hz2 : ((n : Int) == 0) = false := by simp; omega
    go_enter Try.func23, Try.ntmps23
    go_wp2
    go_ret
    exact ⟨ret_bool (by simp []), HS.out⟩

set_option maxRecDepth 100000 in
theorem put21 (c : Int) (h : PAt w g p U s) (hq : s.q.length ≤ 4096) (hc0 : 0 ≤ c) (hc1 : c < 256) : Calls Try.prog 21 #[.pointer (some ⟨g, 0, none⟩), .int .u8 c] w (TurnQ g p U (s.put c) (.bool (s.ok c)) w) := by
  obtain ⟨O, v, hb, hU, _⟩ := h
  obtain ⟨va, vc, hv, _⟩ := hb.win.shape
  have HB0 := hide' hb
  have HU := hide' hU
  obtain ⟨n, hn⟩ : ∃ n, n = s.q.length := ⟨_, rfl⟩
  rw [← hn] at hv
  have HN := hide' hn
  have HV := hide' hv
  obtain ⟨l, hl⟩ : ∃ l, l = (s.wr c).1 := ⟨_, rfl⟩
  obtain ⟨cl, hcl⟩ : ∃ l, l = (s.wr c).2 := ⟨_, rfl⟩
  have HBY : Hid (∀ w', Calls Try.prog 30 #[.int .i64 s.d.t.fo, .int .i64 s.col, .int .u8 c] w' (L19.Adds w' [] (l, cl))) := fun w' => by
    rw [hl, hcl]; exact L19.byte30 s.d.t.fo s.col c w' (wf_u8_of hc0 hc1)
  have HST : Hid (∀ w', Stay (fun _ => False) w w' → Calls Try.prog 28 #[.pointer (some ⟨p, 0, none⟩)] w' (Gives (.agg #[.int .i64 s.d.t.fi, .int .i64 s.d.t.fo, .int .i64 s.d.t.fl, .int .i64 s.d.t.k0, .int .i64 s.d.t.k1, .int .i64 s.d.t.k2, .int .i64 s.d.t.k3, .int .i64 s.d.t.k4, .int .i64 s.d.t.k5, .int .i64 s.d.t.k6, .int .i64 s.d.t.k7, .int .i64 s.d.t.k8, .int .i64 s.d.t.k9, .int .i64 s.d.t.k10, .int .i64 s.d.t.k11, .int .i64 s.d.t.mn, .int .i64 s.d.t.ti]) w')) := fun w' hs => a_setting (hb.dat.keep hs (fun _ h => h.elim))
  have HP : Hid (s.put c = if s.ok c = true then ⟨s.d, cl, s.q ++ l, s.w, s.h⟩ else s) := by rw [hl, hcl]; rfl
  have HOK : Hid (s.ok c = decide (s.q.length + l.length ≤ 4096)) := by rw [hl]; rfl
  obtain ⟨s', hs'⟩ : ∃ x, x = s.put c := ⟨_, rfl⟩
  obtain ⟨ok, hok⟩ : ∃ x, x = s.ok c := ⟨_, rfl⟩
  rw [← hs'] at HP ⊢
  rw [← hok] at HP HOK ⊢
  have HL : Hid (l.length ≤ 8) := by show _ ≤ _; rw [hl]; exact L19.addM_len _ _ _
  have HQ := hide' hq
  have HC0 := hide' hb.box.c0
  have HC1 := hide' hb.box.c1
  have HSM : Hid (s.d.t.fo = s.d.t.fo) := rfl
  clear hb hU hl hcl hs' hok hq hc0 hc1 hn hv
  go_enter Try.func21, Try.ntmps21
  go_wp2_with fail
  have hS : Stay (fun _ => False) w w.drew := (Stay.refl _ _).drew
  refine wp_region_mix (fun w' => Stay (fun _ => False) w w') [(0, true), (1, true), (2, true), (3, true), (6, true), (7, true), (8, true), (9, true), (10, true), (4, false), (5, true), (11, false), (12, true), (13, true), (14, true), (15, true), (16, true)] (by kernel_rfl) (by kernel_rfl) (fun _ d _ _ _ h => by cases d <;> exact h) hS ?_
  refine mix_begin (fun K0 hK0 => ?_)
  refine mix_take hK0 (some 8) (.move (.tmp 0)) 64 _ (by kernel_rfl) (by kernel_rfl) (fun w' hS' => by simp only [opr]; go_simp; try with_reducible rfl) (fun K1 hK1 => ?_)
  clear hK0 K0
  simp only [Act.put, List.setIfInBounds_toArray, List.set_cons_zero, List.set_cons_succ]
  refine mix_take hK1 (some 9) (.nilCheck (.tmp 8)) 0 _ (by kernel_rfl) (by kernel_rfl) (fun w' hS' => by simp only [opr]; go_simp; try with_reducible rfl) (fun K2 hK2 => ?_)
  clear hK1 K1
  simp only [Act.put, List.setIfInBounds_toArray, List.set_cons_zero, List.set_cons_succ]
  refine mix_take hK2 (some 10) (.fieldAddr 49 (.tmp 9) 0) 0 _ (by kernel_rfl) (by kernel_rfl) (fun w' hS' => by simp only [opr]; go_simp; try with_reducible rfl) (fun K3 hK3 => ?_)
  clear hK2 K2
  simp only [Act.put, List.setIfInBounds_toArray, List.set_cons_zero, List.set_cons_succ]
  refine mix_take hK3 (some 11) (.load 47 (.tmp 10)) 47 _ (by kernel_rfl) (by kernel_rfl) (fun w' hS' => by have c0 := keep_cell hS' HC0.out; simp only [opr]; go_simp; try with_reducible rfl) (fun K4 hK4 => ?_)
  clear hK3 K3
  simp only [Act.put, List.setIfInBounds_toArray, List.set_cons_zero, List.set_cons_succ]
  refine mix_take hK4 (some 14) (.move (.tmp 0)) 64 _ (by kernel_rfl) (by kernel_rfl) (fun w' hS' => by simp only [opr]; go_simp; try with_reducible rfl) (fun K5 hK5 => ?_)
  clear hK4 K4
  simp only [Act.put, List.setIfInBounds_toArray, List.set_cons_zero, List.set_cons_succ]
  refine mix_take hK5 (some 15) (.nilCheck (.tmp 14)) 0 _ (by kernel_rfl) (by kernel_rfl) (fun w' hS' => by simp only [opr]; go_simp; try with_reducible rfl) (fun K6 hK6 => ?_)
  clear hK5 K5
  simp only [Act.put, List.setIfInBounds_toArray, List.set_cons_zero, List.set_cons_succ]
  refine mix_take hK6 (some 16) (.fieldAddr 49 (.tmp 15) 1) 0 _ (by kernel_rfl) (by kernel_rfl) (fun w' hS' => by simp only [opr]; go_simp; try with_reducible rfl) (fun K7 hK7 => ?_)
  clear hK6 K6
  simp only [Act.put, List.setIfInBounds_toArray, List.set_cons_zero, List.set_cons_succ]
  refine mix_take hK7 (some 17) (.load 3 (.tmp 16)) 3 _ (by kernel_rfl) (by kernel_rfl) (fun w' hS' => by have c1 := keep_cell hS' HC1.out; simp only [opr]; go_simp; try with_reducible rfl) (fun K8 hK8 => ?_)
  clear hK7 K7
  simp only [Act.put, List.setIfInBounds_toArray, List.set_cons_zero, List.set_cons_succ]
  refine mix_take hK8 (some 18) (.move (.tmp 1)) 5 _ (by kernel_rfl) (by kernel_rfl) (fun w' hS' => by simp only [opr]; go_simp; try with_reducible rfl) (fun K9 hK9 => ?_)
  clear hK8 K8
  simp only [Act.put, List.setIfInBounds_toArray, List.set_cons_zero, List.set_cons_succ]
  refine mix_call hK9 (some 12) 28 #[.tmp 11] #[47] 28 _ (by kernel_rfl) (by kernel_rfl) (enters Try.func28 (by kernel_rfl) (by kernel_rfl)) (by go_simp; try with_reducible rfl) (fun K10 hK10 => ?_)
  clear hK9 K9
  refine (HST.out _ (hS)).mono ?_
  rintro e wm1 ⟨rfl, hs1⟩
  have hS1 : _ := hS.trans hs1
  refine ⟨_, rfl, hS1, ?_⟩
  clear hs1
  simp only [Act.put, List.setIfInBounds_toArray, List.set_cons_zero, List.set_cons_succ]
  refine mix_take hK10 (some 13) (.field 28 (.tmp 12) 1) 3 _ (by kernel_rfl) (by kernel_rfl) (fun w' hS' => by simp only [opr]; go_simp; try with_reducible rfl) (fun K11 hK11 => ?_)
  clear hK10 K10
  simp only [Act.put, List.setIfInBounds_toArray, List.set_cons_zero, List.set_cons_succ]
  refine mix_call hK11 (some 19) 30 #[.tmp 13, .tmp 17, .tmp 18] #[3, 3, 5] 65 _ (by kernel_rfl) (by kernel_rfl) (enters Try.func30 (by kernel_rfl) (by kernel_rfl)) (by go_simp; try with_reducible rfl) (fun K12 hK12 => ?_)
  clear hK11 K11
  refine (HBY.out _).mono ?_
  rintro e wm2 ⟨bv, rfl, hs2⟩
  have hS2 : _ := hS1.trans hs2.stay
  refine ⟨_, rfl, hS2, ?_⟩
  obtain ⟨ba, bc, hbv⟩ := hs2.shape
  obtain ⟨ln, hln⟩ : ∃ n, n = ([] ++ l).length := ⟨_, rfl⟩
  rw [← hln] at hbv
  subst hbv
  have HAC : Hid (∃ a k, IArg .u8 wm2 (.slice ba ln bc) l a k) := hs2.arg
  have HLN : Hid (ln = l.length) := hln
  clear hln
  clear hs2
  simp only [Act.put, List.setIfInBounds_toArray, List.set_cons_zero, List.set_cons_succ]
  refine mix_take hK12 (some 7) (.move (.tmp 19)) 65 _ (by kernel_rfl) (by kernel_rfl) (fun w' hS' => by simp only [opr]; go_simp; try with_reducible rfl) (fun K13 hK13 => ?_)
  clear hK12 K12
  simp only [Act.put, List.setIfInBounds_toArray, List.set_cons_zero, List.set_cons_succ]
  refine mix_take hK13 (some 20) (.extract (.tmp 7) 0) 22 _ (by kernel_rfl) (by kernel_rfl) (fun w' hS' => by simp only [opr]; go_simp; try with_reducible rfl) (fun K14 hK14 => ?_)
  clear hK13 K13
  simp only [Act.put, List.setIfInBounds_toArray, List.set_cons_zero, List.set_cons_succ]
  refine mix_take hK14 (some 21) (.extract (.tmp 7) 1) 3 _ (by kernel_rfl) (by kernel_rfl) (fun w' hS' => by simp only [opr]; go_simp; try with_reducible rfl) (fun K15 hK15 => ?_)
  clear hK14 K14
  simp only [Act.put, List.setIfInBounds_toArray, List.set_cons_zero, List.set_cons_succ]
  refine mix_take hK15 (some 5) (.assign (.tmp 20)) 22 _ (by kernel_rfl) (by kernel_rfl) (fun w' hS' => by simp only [opr]; go_simp; try with_reducible rfl) (fun K16 hK16 => ?_)
  clear hK15 K15
  simp only [Act.put, List.setIfInBounds_toArray, List.set_cons_zero, List.set_cons_succ]
  refine mix_take hK16 (some 6) (.assign (.tmp 21)) 3 _ (by kernel_rfl) (by kernel_rfl) (fun w' hS' => by simp only [opr]; go_simp; try with_reducible rfl) (fun K17 hK17 => ?_)
  clear hK16 K16
  simp only [Act.put, List.setIfInBounds_toArray, List.set_cons_zero, List.set_cons_succ]
  refine hK17 _ _ (mix_nil ?_)
  clear hK17 K17
  obtain ⟨w2, hw2⟩ : ∃ z, z = wm2 := ⟨_, rfl⟩
  rw [← hw2] at hS2 HAC ⊢
  have HS2 := hide' hS2
  have HB2 := hide' (HB0.out.keep hS2)
  clear hw2 hS hS1 hS2 HB0 HST HBY HC0 HC1 HSM
  have c2 := HB2.out.box.c2
  rw [HV.out] at c2
  simp only at c2
  have b1 : n ≤ 4096 := by rw [HN.out]; exact HQ.out
  have b2 : ln ≤ 8 := by rw [HLN.out]; exact HL.out
  by_cases hk : n + ln ≤ 4096
  · have k1 : decide ((4096 : Int) < (n : Int) + (ln : Int)) = false := decide_eq_false (by omega)
    have HO : Hid (ok = true) := by rw [HOK.out]; exact decide_eq_true (by rw [← HN.out, ← HLN.out]; exact hk)
    have HWN := hide' HB2.out.win
    rw [HV.out, ← HN.out] at HWN
    have HWL : Hid (n + l.length ≤ 1000000) := by have := HLN.out; show _ ≤ _; omega
    obtain ⟨ad, cp, hia⟩ := HAC.out
    have HIA := hide' hia
    clear hia
    go_upto_region 4 with fail
    have hn1 := HWL.out
    go_wp2_with (at_builtin; go_must (refine win_app rfl _ _ rfl HWN.out rfl HIA.out rfl hn1 ?_; intro a5 n5 c5 w5 hvn hwn hst hbn; clear c2; have HVN := hide' hvn; have HWN5 := hide' hwn; have HBN := hide' hbn; have HSN := hide' hst; clear hvn hwn hst hbn; have HQN := hide' (HB2.out.box.stay HSN.out (fun e => HB2.out.vg g (by rw [HV.out]; exact e) rfl)); obtain ⟨_, c1, c2, _, _, _, _, _, _, _, f1, f2, _⟩ := HQN.out; rw [HV.out] at c2; simp only at c1 c2))
    have HFIN := hide' (HB2.out.out (v' := .slice a5 n5 c5) (l := s.q ++ l) (by rw [HV.out]; exact HSN.out) (by have e : (s.q ++ l).length = n5 := (by rw [HVN.out, List.length_append, HN.out]); rw [e, bys_app]; exact HWN5.out) (fun j hj => by rw [HV.out]; exact HBN.out j hj) (fun y hy => by
      rcases List.mem_append.1 hy with hy | hy
      · exact HB2.out.wf y hy
      · exact HIA.out.wf y hy))
    go_returns
    rw [HP.out, HO.out, if_pos rfl]
    refine PB.turn HU.out (v' := .slice a5 n5 c5) (O' := O) ((HFIN.out.1.boxed (s' := ⟨s.d, cl, s.q ++ l, s.w, s.h⟩) (HFIN.out.1.box.put1 rfl) rfl rfl)) ?_ (pu_win HS2.out.size (fun j hj => by rw [HV.out]; exact HBN.out j hj))
    exact ((HS2.out.mono (T := PU g O v) (fun _ _ h => h.elim)).trans HFIN.out.2).trans ((at_g _ g 1 _).mono (fun k _ e => .inl e))
  · have k1 : decide ((4096 : Int) < (n : Int) + (ln : Int)) = true := decide_eq_true (by omega)
    have HO : Hid (ok = false) := by rw [HOK.out]; exact decide_eq_false (by rw [← HN.out, ← HLN.out]; exact hk)
    go_wp2
    go_returns
    rw [HP.out, HO.out, if_neg (by simp)]
    exact PB.turn HU.out HB2.out (HS2.out.mono (fun _ _ h => h.elim)) (fun _ hk => .inl hk)

end

end Go.Proofs.Ytjfhmpjpdcckhaa
