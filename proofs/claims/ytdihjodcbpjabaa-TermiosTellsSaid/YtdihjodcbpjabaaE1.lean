/-
  TermiosTells walked: true of any setting, any number and any byte. No conditions.
-/
import Derived.Test.YtdihjodcbpjabaaE0
namespace Go.Proofs.Ytdihjodcbpjabaa
open Go.RowKit

theorem map_tells (f c : Int) (h0 : 0 ≤ c) (h1 : c < 256) : (gI f c = false ∧ mapI f c = -1 ∧ gB f c = 0) ∨ (gI f c = true ∧ gB f c = mapI f c ∧ 0 ≤ mapI f c ∧ mapI f c < 256) := by
  have hl := low_range f c h0 h1
  have hm : mapI f c = -1 ∨ (0 ≤ mapI f c ∧ mapI f c < 256) := by
    unfold mapI
    repeat' split
    all_goals omega
  unfold gI gB
  rcases hm with hm | hm
  · exact .inl ⟨by rw [hm]; rfl, hm, if_pos hm⟩
  · have hn : ¬ mapI f c = -1 := by omega
    exact .inr ⟨by simp [hn], if_neg hn, hm⟩

set_option maxRecDepth 100000 in
set_option maxHeartbeats 2000000 in
theorem tells_any (r : Tm) (k c : Int) (w : World) (h0 : 0 ≤ c) (h1 : c < 256) : Calls Try.prog 3 #[.agg #[.int .i64 r.fi, .int .i64 r.fo, .int .i64 r.fl, .int .i64 r.k0, .int .i64 r.k1, .int .i64 r.k2, .int .i64 r.k3, .int .i64 r.k4, .int .i64 r.k5, .int .i64 r.k6, .int .i64 r.k7, .int .i64 r.k8, .int .i64 r.k9, .int .i64 r.k10, .int .i64 r.k11, .int .i64 r.mn, .int .i64 r.ti], .int .i64 k, .int .u8 c] w (LawTrue w) := by
  have HT := hide' (map_tells r.fi c h0 h1)
  have H6 := hide' (fun w => map6 r c w h0 h1)
  have H7 := hide' (fun w => map7 r c w h0 h1)
  have H8 := hide' (right8 r)
  have H9 := hide' (right9 r)
  have HI := hide' (fun w => is10 r k c w h0 h1)
  have HJ := hide' (fun w => is11 r k c w)
  have HWc : Hid (wrap64 c = c) := by show wrap64 c = c; unfold wrap64; omega
  have HST : Hid (One w w.heap.size #[.int .i64 r.fi, .int .i64 r.fo, .int .i64 r.fl, .int .i64 r.k0, .int .i64 r.k1, .int .i64 r.k2, .int .i64 r.k3, .int .i64 r.k4, .int .i64 r.k5, .int .i64 r.k6, .int .i64 r.k7, .int .i64 r.k8, .int .i64 r.k9, .int .i64 r.k10, .int .i64 r.k11, .int .i64 r.mn, .int .i64 r.ti] (w.alloc (.cells #[.int .i64 r.fi, .int .i64 r.fo, .int .i64 r.fl, .int .i64 r.k0, .int .i64 r.k1, .int .i64 r.k2, .int .i64 r.k3, .int .i64 r.k4, .int .i64 r.k5, .int .i64 r.k6, .int .i64 r.k7, .int .i64 r.k8, .int .i64 r.k9, .int .i64 r.k10, .int .i64 r.k11, .int .i64 r.mn, .int .i64 r.ti] 24))) := ⟨(Stay.refl _ _).alloc _, r, rfl, TBox.new r rfl⟩
  obtain ⟨g, hg⟩ : ∃ g, g = gB r.fi c := ⟨_, rfl⟩
  obtain ⟨v, hv⟩ : ∃ v, v = gI r.fi c := ⟨_, rfl⟩
  obtain ⟨m, hm⟩ : ∃ m, m = mapI r.fi c := ⟨_, rfl⟩
  obtain ⟨q, hq⟩ : ∃ q, q = rightB r := ⟨_, rfl⟩
  obtain ⟨i, hi⟩ : ∃ i, i = isB r k c := ⟨_, rfl⟩
  rw [← hg, ← hv, ← hm] at HT
  rw [← hg, ← hv] at H6
  rw [← hm] at H7
  rw [← hq] at H8 H9
  rw [← hi] at HI HJ
  clear hg hv hm hq hi h0 h1
  go_enter Try.func3, Try.ntmps3
  go_upto_region 1 with fail
  obtain ⟨W, hW⟩ : ∃ W, W = w.alloc (.cells #[.int .i64 r.fi, .int .i64 r.fo, .int .i64 r.fl, .int .i64 r.k0, .int .i64 r.k1, .int .i64 r.k2, .int .i64 r.k3, .int .i64 r.k4, .int .i64 r.k5, .int .i64 r.k6, .int .i64 r.k7, .int .i64 r.k8, .int .i64 r.k9, .int .i64 r.k10, .int .i64 r.k11, .int .i64 r.mn, .int .i64 r.ti] 24) := ⟨_, rfl⟩
  obtain ⟨b, hb⟩ : ∃ b, b = w.heap.size := ⟨_, rfl⟩
  rw [← hW] at HST ⊢
  rw [← hb] at HST ⊢
  clear hW hb
  obtain ⟨A, hA⟩ : ∃ A : Array Value, A = #[.int .i64 r.fi, .int .i64 r.fo, .int .i64 r.fl, .int .i64 r.k0, .int .i64 r.k1, .int .i64 r.k2, .int .i64 r.k3, .int .i64 r.k4, .int .i64 r.k5, .int .i64 r.k6, .int .i64 r.k7, .int .i64 r.k8, .int .i64 r.k9, .int .i64 r.k10, .int .i64 r.k11, .int .i64 r.mn, .int .i64 r.ti] := ⟨_, rfl⟩
  rw [← hA] at HST H6 H7 H8 H9 HI HJ ⊢
  clear hA
  go_wp2_with (refine wpList_exec rfl (run_load_ABox rfl rfl HST.out.2) ?_)
  refine (H6.out _).mono ?_
  rintro e w1 ⟨rfl, hs⟩
  have HST1 := hide' (HST.out.keep hs)
  clear hs HST 
  go_wp2_with (refine wpList_exec rfl (run_load_ABox rfl rfl HST1.out.2) ?_)
  refine (H7.out _).mono ?_
  rintro e w2 ⟨rfl, hs⟩
  have HST2 := hide' (HST1.out.keep hs)
  clear hs HST1 
  rcases HT.out with ⟨rfl, rfl, rfl⟩ | ⟨rfl, rfl, hm0, hm1⟩
  · go_upto_region 6 with fail
    go_wp2_with fail
    have hwA : wrap64 c = c := HWc.out
    have hwB : IntKind.i64.wrap c = c := by rw [IntWalk.i64_left]; exact HWc.out
    have hS : One w b A w2.drew := HST2.out.keep ((Stay.refl _ _).drew)
    refine wp_region_mix (One w b A) [(0, true), (2, true), (1, false), (3, false), (4, true), (5, true), (6, true), (7, true), (8, true), (10, true), (11, true), (12, true), (13, true), (9, false), (14, false), (15, true), (16, true), (17, true), (18, true), (19, true), (20, true), (21, true), (22, true), (23, true), (24, true), (25, true), (26, true), (27, true), (28, true), (29, true), (30, false), (31, true), (32, true)] (by kernel_rfl) (by kernel_rfl) (fun _ d _ _ _ h => by cases d <;> exact h) hS ?_
    refine mix_begin (fun K0 hK0 => ?_)
    refine mix_take hK0 (some 24) (.load 24 (.tmp 3)) 24 _ (by kernel_rfl) (by kernel_rfl) (fun w' hS' => by first | exact run_load_ABox rfl rfl hS'.2) (fun K1 hK1 => ?_)
    clear hK0 K0
    simp only [Act.put, List.setIfInBounds_toArray, List.set_cons_zero, List.set_cons_succ]
    refine mix_take hK1 (some 26) (.load 24 (.tmp 3)) 24 _ (by kernel_rfl) (by kernel_rfl) (fun w' hS' => by first | exact run_load_ABox rfl rfl hS'.2) (fun K2 hK2 => ?_)
    clear hK1 K1
    simp only [Act.put, List.setIfInBounds_toArray, List.set_cons_zero, List.set_cons_succ]
    refine mix_call hK2 (some 25) 8 #[.tmp 24] #[24] 4 _ (by kernel_rfl) (by kernel_rfl) (enters Try.func8 (by kernel_rfl) (by kernel_rfl)) (by go_simp; try with_reducible rfl) (fun K3 hK3 => ?_)
    clear hK2 K2
    refine (H8.out _).mono ?_
    rintro e wm1 ⟨rfl, hs1⟩
    have hS1 : _ := hS.keep hs1
    refine ⟨_, rfl, hS1, ?_⟩
    clear hs1
    simp only [Act.put, List.setIfInBounds_toArray, List.set_cons_zero, List.set_cons_succ]
    refine mix_call hK3 (some 27) 9 #[.tmp 26] #[24] 4 _ (by kernel_rfl) (by kernel_rfl) (enters Try.func9 (by kernel_rfl) (by kernel_rfl)) (by go_simp; try with_reducible rfl) (fun K4 hK4 => ?_)
    clear hK3 K3
    refine (H9.out _).mono ?_
    rintro e wm2 ⟨rfl, hs2⟩
    have hS2 : _ := hS1.keep hs2
    refine ⟨_, rfl, hS2, ?_⟩
    clear hs2
    simp only [Act.put, List.setIfInBounds_toArray, List.set_cons_zero, List.set_cons_succ]
    refine mix_take hK4 (some 28) (.binOp BinOp.eql 4 (.tmp 25) (.tmp 27) 4) 4 _ (by kernel_rfl) (by kernel_rfl) (fun w' hS' => by simp only [opr]; go_simp; try with_reducible rfl) (fun K5 hK5 => ?_)
    clear hK4 K4
    simp only [Act.put, List.setIfInBounds_toArray, List.set_cons_zero, List.set_cons_succ]
    refine mix_take hK5 (some 29) (.move (.tmp 28)) 4 _ (by kernel_rfl) (by kernel_rfl) (fun w' hS' => by simp only [opr]; go_simp; try with_reducible rfl) (fun K6 hK6 => ?_)
    clear hK5 K5
    simp only [Act.put, List.setIfInBounds_toArray, List.set_cons_zero, List.set_cons_succ]
    refine mix_take hK6 (some 30) (.load 24 (.tmp 3)) 24 _ (by kernel_rfl) (by kernel_rfl) (fun w' hS' => by first | exact run_load_ABox rfl rfl hS'.2) (fun K7 hK7 => ?_)
    clear hK6 K6
    simp only [Act.put, List.setIfInBounds_toArray, List.set_cons_zero, List.set_cons_succ]
    refine mix_take hK7 (some 31) (.move (.tmp 1)) 3 _ (by kernel_rfl) (by kernel_rfl) (fun w' hS' => by simp only [opr]; go_simp; try with_reducible rfl) (fun K8 hK8 => ?_)
    clear hK7 K7
    simp only [Act.put, List.setIfInBounds_toArray, List.set_cons_zero, List.set_cons_succ]
    refine mix_take hK8 (some 32) (.move (.tmp 2)) 5 _ (by kernel_rfl) (by kernel_rfl) (fun w' hS' => by simp only [opr]; go_simp; try with_reducible rfl) (fun K9 hK9 => ?_)
    clear hK8 K8
    simp only [Act.put, List.setIfInBounds_toArray, List.set_cons_zero, List.set_cons_succ]
    refine mix_take hK9 (some 34) (.load 24 (.tmp 3)) 24 _ (by kernel_rfl) (by kernel_rfl) (fun w' hS' => by first | exact run_load_ABox rfl rfl hS'.2) (fun K10 hK10 => ?_)
    clear hK9 K9
    simp only [Act.put, List.setIfInBounds_toArray, List.set_cons_zero, List.set_cons_succ]
    refine mix_take hK10 (some 35) (.move (.tmp 1)) 3 _ (by kernel_rfl) (by kernel_rfl) (fun w' hS' => by simp only [opr]; go_simp; try with_reducible rfl) (fun K11 hK11 => ?_)
    clear hK10 K10
    simp only [Act.put, List.setIfInBounds_toArray, List.set_cons_zero, List.set_cons_succ]
    refine mix_take hK11 (some 36) (.move (.tmp 2)) 5 _ (by kernel_rfl) (by kernel_rfl) (fun w' hS' => by simp only [opr]; go_simp; try with_reducible rfl) (fun K12 hK12 => ?_)
    clear hK11 K11
    simp only [Act.put, List.setIfInBounds_toArray, List.set_cons_zero, List.set_cons_succ]
    refine mix_take hK12 (some 37) (.convert 5 3 (.tmp 36)) 3 _ (by kernel_rfl) (by kernel_rfl) (fun w' hS' => by simp only [opr]; go_simp; try with_reducible rfl) (fun K13 hK13 => ?_)
    clear hK12 K12
    simp only [Act.put, List.setIfInBounds_toArray, List.set_cons_zero, List.set_cons_succ]
    refine mix_call hK13 (some 33) 10 #[.tmp 30, .tmp 31, .tmp 32] #[24, 3, 5] 4 _ (by kernel_rfl) (by kernel_rfl) (enters Try.func10 (by kernel_rfl) (by kernel_rfl)) (by go_simp; try with_reducible rfl) (fun K14 hK14 => ?_)
    clear hK13 K13
    refine (HI.out _).mono ?_
    rintro e wm3 ⟨rfl, hs3⟩
    have hS3 : _ := hS2.keep hs3
    refine ⟨_, rfl, hS3, ?_⟩
    clear hs3
    simp only [Act.put, List.setIfInBounds_toArray, List.set_cons_zero, List.set_cons_succ]
    refine mix_call hK14 (some 38) 11 #[.tmp 34, .tmp 35, .tmp 37] #[24, 3, 3] 4 _ (by kernel_rfl) (by kernel_rfl) (enters Try.func11 (by kernel_rfl) (by kernel_rfl)) (by go_simp; try with_reducible rfl) (fun K15 hK15 => ?_)
    clear hK14 K14
    refine (HJ.out _).mono ?_
    rintro e wm4 ⟨rfl, hs4⟩
    have hS4 : _ := hS3.keep hs4
    refine ⟨_, rfl, hS4, ?_⟩
    clear hs4
    simp only [Act.put, List.setIfInBounds_toArray, List.set_cons_zero, List.set_cons_succ]
    refine mix_take hK15 (some 39) (.binOp BinOp.eql 4 (.tmp 33) (.tmp 38) 4) 4 _ (by kernel_rfl) (by kernel_rfl) (fun w' hS' => by simp only [opr]; go_simp; try with_reducible rfl) (fun K16 hK16 => ?_)
    clear hK15 K15
    simp only [Act.put, List.setIfInBounds_toArray, List.set_cons_zero, List.set_cons_succ]
    refine mix_take hK16 (some 40) (.pick (.tmp 29) (.tmp 39) (.const (Value.bool false))) 4 _ (by kernel_rfl) (by kernel_rfl) (fun w' hS' => by simp only [opr]; go_simp; try with_reducible rfl) (fun K17 hK17 => ?_)
    clear hK16 K16
    simp only [Act.put, List.setIfInBounds_toArray, List.set_cons_zero, List.set_cons_succ]
    refine mix_take hK17 (some 41) (.move (.tmp 40)) 4 _ (by kernel_rfl) (by kernel_rfl) (fun w' hS' => by simp only [opr]; go_simp; try with_reducible rfl) (fun K18 hK18 => ?_)
    clear hK17 K17
    simp only [Act.put, List.setIfInBounds_toArray, List.set_cons_zero, List.set_cons_succ]
    refine mix_take hK18 (some 42) (.move (.tmp 10)) 3 _ (by kernel_rfl) (by kernel_rfl) (fun w' hS' => by simp only [opr]; go_simp; try with_reducible rfl) (fun K19 hK19 => ?_)
    clear hK18 K18
    simp only [Act.put, List.setIfInBounds_toArray, List.set_cons_zero, List.set_cons_succ]
    refine mix_take hK19 (some 43) (.move (.tmp 9)) 3 _ (by kernel_rfl) (by kernel_rfl) (fun w' hS' => by simp only [opr]; go_simp; try with_reducible rfl) (fun K20 hK20 => ?_)
    clear hK19 K19
    simp only [Act.put, List.setIfInBounds_toArray, List.set_cons_zero, List.set_cons_succ]
    refine mix_take hK20 (some 44) (.binOp BinOp.eql 3 (.tmp 42) (.tmp 43) 3) 4 _ (by kernel_rfl) (by kernel_rfl) (fun w' hS' => by simp only [opr]; go_simp; try with_reducible rfl) (fun K21 hK21 => ?_)
    clear hK20 K20
    simp only [Act.put, List.setIfInBounds_toArray, List.set_cons_zero, List.set_cons_succ]
    refine mix_take hK21 (some 45) (.pick (.tmp 41) (.tmp 44) (.const (Value.bool false))) 4 _ (by kernel_rfl) (by kernel_rfl) (fun w' hS' => by simp only [opr]; go_simp; try with_reducible rfl) (fun K22 hK22 => ?_)
    clear hK21 K21
    simp only [Act.put, List.setIfInBounds_toArray, List.set_cons_zero, List.set_cons_succ]
    refine mix_take hK22 (some 46) (.move (.tmp 45)) 4 _ (by kernel_rfl) (by kernel_rfl) (fun w' hS' => by simp only [opr]; go_simp; try with_reducible rfl) (fun K23 hK23 => ?_)
    clear hK22 K22
    simp only [Act.put, List.setIfInBounds_toArray, List.set_cons_zero, List.set_cons_succ]
    refine mix_take hK23 (some 47) (.move (.tmp 8)) 4 _ (by kernel_rfl) (by kernel_rfl) (fun w' hS' => by simp only [opr]; go_simp; try with_reducible rfl) (fun K24 hK24 => ?_)
    clear hK23 K23
    simp only [Act.put, List.setIfInBounds_toArray, List.set_cons_zero, List.set_cons_succ]
    refine mix_take hK24 (some 48) (.move (.tmp 47)) 4 _ (by kernel_rfl) (by kernel_rfl) (fun w' hS' => by simp only [opr]; go_simp; try with_reducible rfl) (fun K25 hK25 => ?_)
    clear hK24 K24
    simp only [Act.put, List.setIfInBounds_toArray, List.set_cons_zero, List.set_cons_succ]
    refine mix_take hK25 (some 49) (.move (.tmp 7)) 5 _ (by kernel_rfl) (by kernel_rfl) (fun w' hS' => by simp only [opr]; go_simp; try with_reducible rfl) (fun K26 hK26 => ?_)
    clear hK25 K25
    simp only [Act.put, List.setIfInBounds_toArray, List.set_cons_zero, List.set_cons_succ]
    refine mix_take hK26 (some 50) (.binOp BinOp.eql 5 (.tmp 49) (.const (Value.int IntKind.u8 0)) 5) 4 _ (by kernel_rfl) (by kernel_rfl) (fun w' hS' => by simp only [opr]; go_simp; try with_reducible rfl) (fun K27 hK27 => ?_)
    clear hK26 K26
    simp only [Act.put, List.setIfInBounds_toArray, List.set_cons_zero, List.set_cons_succ]
    refine mix_take hK27 (some 51) (.pick (.tmp 48) (.const (Value.bool true)) (.tmp 50)) 4 _ (by kernel_rfl) (by kernel_rfl) (fun w' hS' => by simp only [opr]; go_simp; try with_reducible rfl) (fun K28 hK28 => ?_)
    clear hK27 K27
    simp only [Act.put, List.setIfInBounds_toArray, List.set_cons_zero, List.set_cons_succ]
    refine mix_take hK28 (some 52) (.pick (.tmp 46) (.tmp 51) (.const (Value.bool false))) 4 _ (by kernel_rfl) (by kernel_rfl) (fun w' hS' => by simp only [opr]; go_simp; try with_reducible rfl) (fun K29 hK29 => ?_)
    clear hK28 K28
    simp only [Act.put, List.setIfInBounds_toArray, List.set_cons_zero, List.set_cons_succ]
    refine mix_take hK29 (some 53) (.move (.tmp 52)) 4 _ (by kernel_rfl) (by kernel_rfl) (fun w' hS' => by simp only [opr]; go_simp; try with_reducible rfl) (fun K30 hK30 => ?_)
    clear hK29 K29
    simp only [Act.put, List.setIfInBounds_toArray, List.set_cons_zero, List.set_cons_succ]
    refine mix_call hK30 (some 54) 12 #[] #[] 4 _ (by kernel_rfl) (by kernel_rfl) (enters Try.func12 (by kernel_rfl) (by kernel_rfl)) (by go_simp; try with_reducible rfl) (fun K31 hK31 => ?_)
    clear hK30 K30
    refine (awake12 _).mono ?_
    rintro e wm5 ⟨rfl, hs5⟩
    have hS5 : _ := hS4.keep hs5
    refine ⟨_, rfl, hS5, ?_⟩
    clear hs5
    simp only [Act.put, List.setIfInBounds_toArray, List.set_cons_zero, List.set_cons_succ]
    refine mix_take hK31 (some 55) (.pick (.tmp 53) (.tmp 54) (.const (Value.bool false))) 4 _ (by kernel_rfl) (by kernel_rfl) (fun w' hS' => by simp only [opr]; go_simp; try with_reducible rfl) (fun K32 hK32 => ?_)
    clear hK31 K31
    simp only [Act.put, List.setIfInBounds_toArray, List.set_cons_zero, List.set_cons_succ]
    refine mix_take hK32 (some 6) (.assign (.tmp 55)) 4 _ (by kernel_rfl) (by kernel_rfl) (fun w' hS' => by simp only [opr]; go_simp; try with_reducible rfl) (fun K33 hK33 => ?_)
    clear hK32 K32
    simp only [Act.put, List.setIfInBounds_toArray, List.set_cons_zero, List.set_cons_succ]
    refine hK33 _ _ (mix_nil ?_)
    clear hK33 K33
    go_wp2
    go_ret
    exact ⟨by simp, hS5.1⟩
  · have hw : wrap64 g = g := by unfold wrap64; omega
    have HG := hide' hw
    clear hm0 hm1 hw
    go_upto_region 6 with fail
    rw [HG.out]
    go_wp2_with fail
    have hwA : wrap64 c = c := HWc.out
    have hwB : IntKind.i64.wrap c = c := by rw [IntWalk.i64_left]; exact HWc.out
    have hS : One w b A w2.drew := HST2.out.keep ((Stay.refl _ _).drew)
    refine wp_region_mix (One w b A) [(0, true), (2, true), (1, false), (3, false), (4, true), (5, true), (6, true), (7, true), (8, true), (10, true), (11, true), (12, true), (13, true), (9, false), (14, false), (15, true), (16, true), (17, true), (18, true), (19, true), (20, true), (21, true), (22, true), (23, true), (24, true), (25, true), (26, true), (27, true), (28, true), (29, true), (30, false), (31, true), (32, true)] (by kernel_rfl) (by kernel_rfl) (fun _ d _ _ _ h => by cases d <;> exact h) hS ?_
    refine mix_begin (fun K0 hK0 => ?_)
    refine mix_take hK0 (some 24) (.load 24 (.tmp 3)) 24 _ (by kernel_rfl) (by kernel_rfl) (fun w' hS' => by first | exact run_load_ABox rfl rfl hS'.2) (fun K1 hK1 => ?_)
    clear hK0 K0
    simp only [Act.put, List.setIfInBounds_toArray, List.set_cons_zero, List.set_cons_succ]
    refine mix_take hK1 (some 26) (.load 24 (.tmp 3)) 24 _ (by kernel_rfl) (by kernel_rfl) (fun w' hS' => by first | exact run_load_ABox rfl rfl hS'.2) (fun K2 hK2 => ?_)
    clear hK1 K1
    simp only [Act.put, List.setIfInBounds_toArray, List.set_cons_zero, List.set_cons_succ]
    refine mix_call hK2 (some 25) 8 #[.tmp 24] #[24] 4 _ (by kernel_rfl) (by kernel_rfl) (enters Try.func8 (by kernel_rfl) (by kernel_rfl)) (by go_simp; try with_reducible rfl) (fun K3 hK3 => ?_)
    clear hK2 K2
    refine (H8.out _).mono ?_
    rintro e wm1 ⟨rfl, hs1⟩
    have hS1 : _ := hS.keep hs1
    refine ⟨_, rfl, hS1, ?_⟩
    clear hs1
    simp only [Act.put, List.setIfInBounds_toArray, List.set_cons_zero, List.set_cons_succ]
    refine mix_call hK3 (some 27) 9 #[.tmp 26] #[24] 4 _ (by kernel_rfl) (by kernel_rfl) (enters Try.func9 (by kernel_rfl) (by kernel_rfl)) (by go_simp; try with_reducible rfl) (fun K4 hK4 => ?_)
    clear hK3 K3
    refine (H9.out _).mono ?_
    rintro e wm2 ⟨rfl, hs2⟩
    have hS2 : _ := hS1.keep hs2
    refine ⟨_, rfl, hS2, ?_⟩
    clear hs2
    simp only [Act.put, List.setIfInBounds_toArray, List.set_cons_zero, List.set_cons_succ]
    refine mix_take hK4 (some 28) (.binOp BinOp.eql 4 (.tmp 25) (.tmp 27) 4) 4 _ (by kernel_rfl) (by kernel_rfl) (fun w' hS' => by simp only [opr]; go_simp; try with_reducible rfl) (fun K5 hK5 => ?_)
    clear hK4 K4
    simp only [Act.put, List.setIfInBounds_toArray, List.set_cons_zero, List.set_cons_succ]
    refine mix_take hK5 (some 29) (.move (.tmp 28)) 4 _ (by kernel_rfl) (by kernel_rfl) (fun w' hS' => by simp only [opr]; go_simp; try with_reducible rfl) (fun K6 hK6 => ?_)
    clear hK5 K5
    simp only [Act.put, List.setIfInBounds_toArray, List.set_cons_zero, List.set_cons_succ]
    refine mix_take hK6 (some 30) (.load 24 (.tmp 3)) 24 _ (by kernel_rfl) (by kernel_rfl) (fun w' hS' => by first | exact run_load_ABox rfl rfl hS'.2) (fun K7 hK7 => ?_)
    clear hK6 K6
    simp only [Act.put, List.setIfInBounds_toArray, List.set_cons_zero, List.set_cons_succ]
    refine mix_take hK7 (some 31) (.move (.tmp 1)) 3 _ (by kernel_rfl) (by kernel_rfl) (fun w' hS' => by simp only [opr]; go_simp; try with_reducible rfl) (fun K8 hK8 => ?_)
    clear hK7 K7
    simp only [Act.put, List.setIfInBounds_toArray, List.set_cons_zero, List.set_cons_succ]
    refine mix_take hK8 (some 32) (.move (.tmp 2)) 5 _ (by kernel_rfl) (by kernel_rfl) (fun w' hS' => by simp only [opr]; go_simp; try with_reducible rfl) (fun K9 hK9 => ?_)
    clear hK8 K8
    simp only [Act.put, List.setIfInBounds_toArray, List.set_cons_zero, List.set_cons_succ]
    refine mix_take hK9 (some 34) (.load 24 (.tmp 3)) 24 _ (by kernel_rfl) (by kernel_rfl) (fun w' hS' => by first | exact run_load_ABox rfl rfl hS'.2) (fun K10 hK10 => ?_)
    clear hK9 K9
    simp only [Act.put, List.setIfInBounds_toArray, List.set_cons_zero, List.set_cons_succ]
    refine mix_take hK10 (some 35) (.move (.tmp 1)) 3 _ (by kernel_rfl) (by kernel_rfl) (fun w' hS' => by simp only [opr]; go_simp; try with_reducible rfl) (fun K11 hK11 => ?_)
    clear hK10 K10
    simp only [Act.put, List.setIfInBounds_toArray, List.set_cons_zero, List.set_cons_succ]
    refine mix_take hK11 (some 36) (.move (.tmp 2)) 5 _ (by kernel_rfl) (by kernel_rfl) (fun w' hS' => by simp only [opr]; go_simp; try with_reducible rfl) (fun K12 hK12 => ?_)
    clear hK11 K11
    simp only [Act.put, List.setIfInBounds_toArray, List.set_cons_zero, List.set_cons_succ]
    refine mix_take hK12 (some 37) (.convert 5 3 (.tmp 36)) 3 _ (by kernel_rfl) (by kernel_rfl) (fun w' hS' => by simp only [opr]; go_simp; try with_reducible rfl) (fun K13 hK13 => ?_)
    clear hK12 K12
    simp only [Act.put, List.setIfInBounds_toArray, List.set_cons_zero, List.set_cons_succ]
    refine mix_call hK13 (some 33) 10 #[.tmp 30, .tmp 31, .tmp 32] #[24, 3, 5] 4 _ (by kernel_rfl) (by kernel_rfl) (enters Try.func10 (by kernel_rfl) (by kernel_rfl)) (by go_simp; try with_reducible rfl) (fun K14 hK14 => ?_)
    clear hK13 K13
    refine (HI.out _).mono ?_
    rintro e wm3 ⟨rfl, hs3⟩
    have hS3 : _ := hS2.keep hs3
    refine ⟨_, rfl, hS3, ?_⟩
    clear hs3
    simp only [Act.put, List.setIfInBounds_toArray, List.set_cons_zero, List.set_cons_succ]
    refine mix_call hK14 (some 38) 11 #[.tmp 34, .tmp 35, .tmp 37] #[24, 3, 3] 4 _ (by kernel_rfl) (by kernel_rfl) (enters Try.func11 (by kernel_rfl) (by kernel_rfl)) (by go_simp; try with_reducible rfl) (fun K15 hK15 => ?_)
    clear hK14 K14
    refine (HJ.out _).mono ?_
    rintro e wm4 ⟨rfl, hs4⟩
    have hS4 : _ := hS3.keep hs4
    refine ⟨_, rfl, hS4, ?_⟩
    clear hs4
    simp only [Act.put, List.setIfInBounds_toArray, List.set_cons_zero, List.set_cons_succ]
    refine mix_take hK15 (some 39) (.binOp BinOp.eql 4 (.tmp 33) (.tmp 38) 4) 4 _ (by kernel_rfl) (by kernel_rfl) (fun w' hS' => by simp only [opr]; go_simp; try with_reducible rfl) (fun K16 hK16 => ?_)
    clear hK15 K15
    simp only [Act.put, List.setIfInBounds_toArray, List.set_cons_zero, List.set_cons_succ]
    refine mix_take hK16 (some 40) (.pick (.tmp 29) (.tmp 39) (.const (Value.bool false))) 4 _ (by kernel_rfl) (by kernel_rfl) (fun w' hS' => by simp only [opr]; go_simp; try with_reducible rfl) (fun K17 hK17 => ?_)
    clear hK16 K16
    simp only [Act.put, List.setIfInBounds_toArray, List.set_cons_zero, List.set_cons_succ]
    refine mix_take hK17 (some 41) (.move (.tmp 40)) 4 _ (by kernel_rfl) (by kernel_rfl) (fun w' hS' => by simp only [opr]; go_simp; try with_reducible rfl) (fun K18 hK18 => ?_)
    clear hK17 K17
    simp only [Act.put, List.setIfInBounds_toArray, List.set_cons_zero, List.set_cons_succ]
    refine mix_take hK18 (some 42) (.move (.tmp 10)) 3 _ (by kernel_rfl) (by kernel_rfl) (fun w' hS' => by simp only [opr]; go_simp; try with_reducible rfl) (fun K19 hK19 => ?_)
    clear hK18 K18
    simp only [Act.put, List.setIfInBounds_toArray, List.set_cons_zero, List.set_cons_succ]
    refine mix_take hK19 (some 43) (.move (.tmp 9)) 3 _ (by kernel_rfl) (by kernel_rfl) (fun w' hS' => by simp only [opr]; go_simp; try with_reducible rfl) (fun K20 hK20 => ?_)
    clear hK19 K19
    simp only [Act.put, List.setIfInBounds_toArray, List.set_cons_zero, List.set_cons_succ]
    refine mix_take hK20 (some 44) (.binOp BinOp.eql 3 (.tmp 42) (.tmp 43) 3) 4 _ (by kernel_rfl) (by kernel_rfl) (fun w' hS' => by simp only [opr]; go_simp; try with_reducible rfl) (fun K21 hK21 => ?_)
    clear hK20 K20
    simp only [Act.put, List.setIfInBounds_toArray, List.set_cons_zero, List.set_cons_succ]
    refine mix_take hK21 (some 45) (.pick (.tmp 41) (.tmp 44) (.const (Value.bool false))) 4 _ (by kernel_rfl) (by kernel_rfl) (fun w' hS' => by simp only [opr]; go_simp; try with_reducible rfl) (fun K22 hK22 => ?_)
    clear hK21 K21
    simp only [Act.put, List.setIfInBounds_toArray, List.set_cons_zero, List.set_cons_succ]
    refine mix_take hK22 (some 46) (.move (.tmp 45)) 4 _ (by kernel_rfl) (by kernel_rfl) (fun w' hS' => by simp only [opr]; go_simp; try with_reducible rfl) (fun K23 hK23 => ?_)
    clear hK22 K22
    simp only [Act.put, List.setIfInBounds_toArray, List.set_cons_zero, List.set_cons_succ]
    refine mix_take hK23 (some 47) (.move (.tmp 8)) 4 _ (by kernel_rfl) (by kernel_rfl) (fun w' hS' => by simp only [opr]; go_simp; try with_reducible rfl) (fun K24 hK24 => ?_)
    clear hK23 K23
    simp only [Act.put, List.setIfInBounds_toArray, List.set_cons_zero, List.set_cons_succ]
    refine mix_take hK24 (some 48) (.move (.tmp 47)) 4 _ (by kernel_rfl) (by kernel_rfl) (fun w' hS' => by simp only [opr]; go_simp; try with_reducible rfl) (fun K25 hK25 => ?_)
    clear hK24 K24
    simp only [Act.put, List.setIfInBounds_toArray, List.set_cons_zero, List.set_cons_succ]
    refine mix_skip hK25 (some 49) (by kernel_rfl) (by kernel_rfl) hS4 (fun K26 hK26 => ?_)
    clear hK25 K25
    simp only [Act.put, List.setIfInBounds_toArray, List.set_cons_zero, List.set_cons_succ]
    refine mix_skip hK26 (some 50) (by kernel_rfl) (by kernel_rfl) hS4 (fun K27 hK27 => ?_)
    clear hK26 K26
    simp only [Act.put, List.setIfInBounds_toArray, List.set_cons_zero, List.set_cons_succ]
    refine mix_take hK27 (some 51) (.pick (.tmp 48) (.const (Value.bool true)) (.tmp 50)) 4 _ (by kernel_rfl) (by kernel_rfl) (fun w' hS' => by simp only [opr]; go_simp; try with_reducible rfl) (fun K28 hK28 => ?_)
    clear hK27 K27
    simp only [Act.put, List.setIfInBounds_toArray, List.set_cons_zero, List.set_cons_succ]
    refine mix_take hK28 (some 52) (.pick (.tmp 46) (.tmp 51) (.const (Value.bool false))) 4 _ (by kernel_rfl) (by kernel_rfl) (fun w' hS' => by simp only [opr]; go_simp; try with_reducible rfl) (fun K29 hK29 => ?_)
    clear hK28 K28
    simp only [Act.put, List.setIfInBounds_toArray, List.set_cons_zero, List.set_cons_succ]
    refine mix_take hK29 (some 53) (.move (.tmp 52)) 4 _ (by kernel_rfl) (by kernel_rfl) (fun w' hS' => by simp only [opr]; go_simp; try with_reducible rfl) (fun K30 hK30 => ?_)
    clear hK29 K29
    simp only [Act.put, List.setIfInBounds_toArray, List.set_cons_zero, List.set_cons_succ]
    refine mix_call hK30 (some 54) 12 #[] #[] 4 _ (by kernel_rfl) (by kernel_rfl) (enters Try.func12 (by kernel_rfl) (by kernel_rfl)) (by go_simp; try with_reducible rfl) (fun K31 hK31 => ?_)
    clear hK30 K30
    refine (awake12 _).mono ?_
    rintro e wm5 ⟨rfl, hs5⟩
    have hS5 : _ := hS4.keep hs5
    refine ⟨_, rfl, hS5, ?_⟩
    clear hs5
    simp only [Act.put, List.setIfInBounds_toArray, List.set_cons_zero, List.set_cons_succ]
    refine mix_take hK31 (some 55) (.pick (.tmp 53) (.tmp 54) (.const (Value.bool false))) 4 _ (by kernel_rfl) (by kernel_rfl) (fun w' hS' => by simp only [opr]; go_simp; try with_reducible rfl) (fun K32 hK32 => ?_)
    clear hK31 K31
    simp only [Act.put, List.setIfInBounds_toArray, List.set_cons_zero, List.set_cons_succ]
    refine mix_take hK32 (some 6) (.assign (.tmp 55)) 4 _ (by kernel_rfl) (by kernel_rfl) (fun w' hS' => by simp only [opr]; go_simp; try with_reducible rfl) (fun K33 hK33 => ?_)
    clear hK32 K32
    simp only [Act.put, List.setIfInBounds_toArray, List.set_cons_zero, List.set_cons_succ]
    refine hK33 _ _ (mix_nil ?_)
    clear hK33 K33
    go_wp2
    go_ret
    exact ⟨by simp, hS5.1⟩

end Go.Proofs.Ytdihjodcbpjabaa
