/-
  RectTells walked: true of any two rectangles. No conditions.
-/
import Derived.Test.YtloijopnfnhnhaaE0
namespace Go.Proofs.Ytloijopnfnhnhaa
open Go.RowKit

theorem run_load_int {a : Act} {o : Oper} {x : Operand} {w : World} {p : Addr} {n : Int} (ho : o.op = .load 3 x) (hx : a.eval x = .pointer (some p)) (hc : w.cell? p = some (.int .i64 n)) :
    (execOp a.eval o).run Try.prog w = .ok (.value (.int .i64 n)) w := by
  unfold execOp
  simp only [ho, hx]
  go_simp

set_option maxHeartbeats 4000000 in
set_option maxRecDepth 100000 in
theorem tells_any (a b : R) (w : World) : Calls Try.prog 3 #[.agg #[.int .i64 a.x, .int .i64 a.y, .int .i64 a.w, .int .i64 a.h], .agg #[.int .i64 b.x, .int .i64 b.y, .int .i64 b.w, .int .i64 b.h]] w (LawTrue w) := by
  have HS := hide' (two_new a b w)
  have H6 := hide' (right6 a)
  have H7 := hide' (refRight7 a)
  have H8 := hide' (empty8 a)
  have H9 := hide' (both9 a b)
  have H10 := hide' (refBoth10 a b)
  have H11 := hide' (has11 a b)
  have H12 := hide' (refHas12 a b)
  have H13 := hide' (area13 a)
  have H14 := hide' (refArea14 a)
  have H16 := hide' (less16 a b)
  have H17 := hide' (refLess17 a b)
  have HE : Hid (emptyB a = (decide (a.w < 1) || decide (a.h < 1))) := rfl
  obtain ⟨L, hL⟩ : ∃ L, L = lessL a b := ⟨_, rfl⟩
  rw [← hL] at H16 H17
  obtain ⟨ce, hce⟩ : ∃ c, c = emptyB a := ⟨_, rfl⟩
  rw [← hce] at H8 HE
  obtain ⟨q, hq⟩ : ∃ q, q = bothR a b := ⟨_, rfl⟩
  rw [← hq] at H9 H10
  obtain ⟨ch, hch⟩ : ∃ q, q = hasB a b := ⟨_, rfl⟩
  rw [← hch] at H11 H12
  obtain ⟨cr, hcr⟩ : ∃ q, q = rightB a := ⟨_, rfl⟩
  rw [← hcr] at H6 H7
  obtain ⟨n, hn⟩ : ∃ n, n = areaI a := ⟨_, rfl⟩
  rw [← hn] at H13 H14
  clear hL hce hq hch hcr hn
  by_cases hw : a.w < 1
  · have d1 : decide (a.w < 1) = true := by simpa using hw
    obtain rfl : ce = true := by have := HE.out; rw [d1] at this; simpa using this
    clear HE hw
    go_enter Try.func3, Try.ntmps3
    go_wp2_with fail
    have hS := HS.out.keep ((Stay.refl _ _).drew)
    refine wp_region_mix (Two w a b) [(0, true), (2, true), (1, false), (3, false), (4, true), (5, true), (6, true), (8, true), (9, true), (10, true), (7, false), (11, true), (12, true), (13, true), (14, true), (15, true), (16, true), (17, true), (18, true), (19, true), (20, true), (22, true), (23, true), (21, false), (24, false), (25, true), (26, true), (27, true), (28, true), (29, true), (31, true), (32, true), (30, false), (33, false), (34, true), (35, true), (36, true), (37, true), (39, true), (38, false), (40, false), (41, true), (42, true), (43, true), (44, true), (45, true), (47, true), (48, true), (46, false), (49, false), (50, false), (51, true), (52, true), (53, false), (54, true), (55, true)] (by kernel_rfl) (by kernel_rfl) (fun _ d _ _ _ h => by cases d <;> exact h) hS ?_
    refine mix_begin (fun K0 hK0 => ?_)
    refine mix_take hK0 (some 5) (.load 23 (.tmp 2)) 23 _ (by kernel_rfl) (by kernel_rfl) (fun w' hS' => by first | exact run_load_box rfl rfl hS'.2.1 | exact run_load_box rfl rfl hS'.2.2 | exact run_load_int rfl rfl hS'.2.1.c2 | exact run_load_int rfl rfl hS'.2.1.c3) (fun K1 hK1 => ?_)
    clear hK0 K0
    simp only [Act.put, List.setIfInBounds_toArray, List.set_cons_zero, List.set_cons_succ]
    refine mix_take hK1 (some 7) (.load 23 (.tmp 2)) 23 _ (by kernel_rfl) (by kernel_rfl) (fun w' hS' => by first | exact run_load_box rfl rfl hS'.2.1 | exact run_load_box rfl rfl hS'.2.2 | exact run_load_int rfl rfl hS'.2.1.c2 | exact run_load_int rfl rfl hS'.2.1.c3) (fun K2 hK2 => ?_)
    clear hK1 K1
    simp only [Act.put, List.setIfInBounds_toArray, List.set_cons_zero, List.set_cons_succ]
    refine mix_call hK2 (some 6) 6 #[.tmp 5] #[23] 4 _ (by kernel_rfl) (by kernel_rfl) (enters Try.func6 (by kernel_rfl) (by kernel_rfl)) (by go_simp; try with_reducible rfl) (fun K3 hK3 => ?_)
    clear hK2 K2
    refine (H6.out _).mono ?_
    rintro e wm1 ⟨rfl, hs1⟩
    have hS1 : _ := hS.keep hs1
    refine ⟨_, rfl, hS1, ?_⟩
    clear hs1
    simp only [Act.put, List.setIfInBounds_toArray, List.set_cons_zero, List.set_cons_succ]
    refine mix_call hK3 (some 8) 7 #[.tmp 7] #[23] 4 _ (by kernel_rfl) (by kernel_rfl) (enters Try.func7 (by kernel_rfl) (by kernel_rfl)) (by go_simp; try with_reducible rfl) (fun K4 hK4 => ?_)
    clear hK3 K3
    refine (H7.out _).mono ?_
    rintro e wm2 ⟨rfl, hs2⟩
    have hS2 : _ := hS1.keep hs2
    refine ⟨_, rfl, hS2, ?_⟩
    clear hs2
    simp only [Act.put, List.setIfInBounds_toArray, List.set_cons_zero, List.set_cons_succ]
    refine mix_take hK4 (some 9) (.binOp BinOp.eql 4 (.tmp 6) (.tmp 8) 4) 4 _ (by kernel_rfl) (by kernel_rfl) (fun w' hS' => by simp only [opr]; go_simp; try with_reducible rfl) (fun K5 hK5 => ?_)
    clear hK4 K4
    simp only [Act.put, List.setIfInBounds_toArray, List.set_cons_zero, List.set_cons_succ]
    refine mix_take hK5 (some 10) (.move (.tmp 9)) 4 _ (by kernel_rfl) (by kernel_rfl) (fun w' hS' => by simp only [opr]; go_simp; try with_reducible rfl) (fun K6 hK6 => ?_)
    clear hK5 K5
    simp only [Act.put, List.setIfInBounds_toArray, List.set_cons_zero, List.set_cons_succ]
    refine mix_take hK6 (some 11) (.load 23 (.tmp 2)) 23 _ (by kernel_rfl) (by kernel_rfl) (fun w' hS' => by first | exact run_load_box rfl rfl hS'.2.1 | exact run_load_box rfl rfl hS'.2.2 | exact run_load_int rfl rfl hS'.2.1.c2 | exact run_load_int rfl rfl hS'.2.1.c3) (fun K7 hK7 => ?_)
    clear hK6 K6
    simp only [Act.put, List.setIfInBounds_toArray, List.set_cons_zero, List.set_cons_succ]
    refine mix_take hK7 (some 13) (.fieldAddr 23 (.tmp 2) 2) 0 _ (by kernel_rfl) (by kernel_rfl) (fun w' hS' => by simp only [opr]; go_simp; try with_reducible rfl) (fun K8 hK8 => ?_)
    clear hK7 K7
    simp only [Act.put, List.setIfInBounds_toArray, List.set_cons_zero, List.set_cons_succ]
    refine mix_take hK8 (some 14) (.load 3 (.tmp 13)) 3 _ (by kernel_rfl) (by kernel_rfl) (fun w' hS' => by first | exact run_load_box rfl rfl hS'.2.1 | exact run_load_box rfl rfl hS'.2.2 | exact run_load_int rfl rfl hS'.2.1.c2 | exact run_load_int rfl rfl hS'.2.1.c3) (fun K9 hK9 => ?_)
    clear hK8 K8
    simp only [Act.put, List.setIfInBounds_toArray, List.set_cons_zero, List.set_cons_succ]
    refine mix_take hK9 (some 15) (.binOp BinOp.lss 3 (.tmp 14) (.const (Value.int IntKind.i64 1)) 3) 4 _ (by kernel_rfl) (by kernel_rfl) (fun w' hS' => by simp only [opr]; go_simp; try with_reducible rfl) (fun K10 hK10 => ?_)
    clear hK9 K9
    simp only [Act.put, List.setIfInBounds_toArray, List.set_cons_zero, List.set_cons_succ]
    refine mix_call hK10 (some 12) 8 #[.tmp 11] #[23] 4 _ (by kernel_rfl) (by kernel_rfl) (enters Try.func8 (by kernel_rfl) (by kernel_rfl)) (by go_simp; try with_reducible rfl) (fun K11 hK11 => ?_)
    clear hK10 K10
    refine (H8.out _).mono ?_
    rintro e wm3 ⟨rfl, hs3⟩
    have hS3 : _ := hS2.keep hs3
    refine ⟨_, rfl, hS3, ?_⟩
    clear hs3
    simp only [Act.put, List.setIfInBounds_toArray, List.set_cons_zero, List.set_cons_succ]
    refine mix_take hK11 (some 16) (.move (.tmp 15)) 4 _ (by kernel_rfl) (by kernel_rfl) (fun w' hS' => by simp only [opr]; go_simp; try with_reducible rfl) (fun K12 hK12 => ?_)
    clear hK11 K11
    simp only [Act.put, List.setIfInBounds_toArray, List.set_cons_zero, List.set_cons_succ]
    refine mix_skip hK12 (some 17) (by kernel_rfl) (by kernel_rfl) hS3 (fun K13 hK13 => ?_)
    clear hK12 K12
    simp only [Act.put, List.setIfInBounds_toArray, List.set_cons_zero, List.set_cons_succ]
    refine mix_skip hK13 (some 18) (by kernel_rfl) (by kernel_rfl) hS3 (fun K14 hK14 => ?_)
    clear hK13 K13
    simp only [Act.put, List.setIfInBounds_toArray, List.set_cons_zero, List.set_cons_succ]
    refine mix_skip hK14 (some 19) (by kernel_rfl) (by kernel_rfl) hS3 (fun K15 hK15 => ?_)
    clear hK14 K14
    simp only [Act.put, List.setIfInBounds_toArray, List.set_cons_zero, List.set_cons_succ]
    refine mix_take hK15 (some 20) (.pick (.tmp 16) (.const (Value.bool true)) (.tmp 19)) 4 _ (by kernel_rfl) (by kernel_rfl) (fun w' hS' => by simp only [opr]; go_simp; try with_reducible rfl) (fun K16 hK16 => ?_)
    clear hK15 K15
    simp only [Act.put, List.setIfInBounds_toArray, List.set_cons_zero, List.set_cons_succ]
    refine mix_take hK16 (some 21) (.binOp BinOp.eql 4 (.tmp 12) (.tmp 20) 4) 4 _ (by kernel_rfl) (by kernel_rfl) (fun w' hS' => by simp only [opr]; go_simp; try with_reducible rfl) (fun K17 hK17 => ?_)
    clear hK16 K16
    simp only [Act.put, List.setIfInBounds_toArray, List.set_cons_zero, List.set_cons_succ]
    refine mix_take hK17 (some 22) (.pick (.tmp 10) (.tmp 21) (.const (Value.bool false))) 4 _ (by kernel_rfl) (by kernel_rfl) (fun w' hS' => by simp only [opr]; go_simp; try with_reducible rfl) (fun K18 hK18 => ?_)
    clear hK17 K17
    simp only [Act.put, List.setIfInBounds_toArray, List.set_cons_zero, List.set_cons_succ]
    refine mix_take hK18 (some 23) (.move (.tmp 22)) 4 _ (by kernel_rfl) (by kernel_rfl) (fun w' hS' => by simp only [opr]; go_simp; try with_reducible rfl) (fun K19 hK19 => ?_)
    clear hK18 K18
    simp only [Act.put, List.setIfInBounds_toArray, List.set_cons_zero, List.set_cons_succ]
    refine mix_take hK19 (some 24) (.load 23 (.tmp 2)) 23 _ (by kernel_rfl) (by kernel_rfl) (fun w' hS' => by first | exact run_load_box rfl rfl hS'.2.1 | exact run_load_box rfl rfl hS'.2.2 | exact run_load_int rfl rfl hS'.2.1.c2 | exact run_load_int rfl rfl hS'.2.1.c3) (fun K20 hK20 => ?_)
    clear hK19 K19
    simp only [Act.put, List.setIfInBounds_toArray, List.set_cons_zero, List.set_cons_succ]
    refine mix_take hK20 (some 25) (.load 23 (.tmp 3)) 23 _ (by kernel_rfl) (by kernel_rfl) (fun w' hS' => by first | exact run_load_box rfl rfl hS'.2.1 | exact run_load_box rfl rfl hS'.2.2 | exact run_load_int rfl rfl hS'.2.1.c2 | exact run_load_int rfl rfl hS'.2.1.c3) (fun K21 hK21 => ?_)
    clear hK20 K20
    simp only [Act.put, List.setIfInBounds_toArray, List.set_cons_zero, List.set_cons_succ]
    refine mix_take hK21 (some 27) (.load 23 (.tmp 2)) 23 _ (by kernel_rfl) (by kernel_rfl) (fun w' hS' => by first | exact run_load_box rfl rfl hS'.2.1 | exact run_load_box rfl rfl hS'.2.2 | exact run_load_int rfl rfl hS'.2.1.c2 | exact run_load_int rfl rfl hS'.2.1.c3) (fun K22 hK22 => ?_)
    clear hK21 K21
    simp only [Act.put, List.setIfInBounds_toArray, List.set_cons_zero, List.set_cons_succ]
    refine mix_take hK22 (some 28) (.load 23 (.tmp 3)) 23 _ (by kernel_rfl) (by kernel_rfl) (fun w' hS' => by first | exact run_load_box rfl rfl hS'.2.1 | exact run_load_box rfl rfl hS'.2.2 | exact run_load_int rfl rfl hS'.2.1.c2 | exact run_load_int rfl rfl hS'.2.1.c3) (fun K23 hK23 => ?_)
    clear hK22 K22
    simp only [Act.put, List.setIfInBounds_toArray, List.set_cons_zero, List.set_cons_succ]
    refine mix_call hK23 (some 26) 9 #[.tmp 24, .tmp 25] #[23, 23] 23 _ (by kernel_rfl) (by kernel_rfl) (enters Try.func9 (by kernel_rfl) (by kernel_rfl)) (by go_simp; try with_reducible rfl) (fun K24 hK24 => ?_)
    clear hK23 K23
    refine (H9.out _).mono ?_
    rintro e wm4 ⟨rfl, hs4⟩
    have hS4 : _ := hS3.keep hs4
    refine ⟨_, rfl, hS4, ?_⟩
    clear hs4
    simp only [Act.put, List.setIfInBounds_toArray, List.set_cons_zero, List.set_cons_succ]
    refine mix_call hK24 (some 29) 10 #[.tmp 27, .tmp 28] #[23, 23] 23 _ (by kernel_rfl) (by kernel_rfl) (enters Try.func10 (by kernel_rfl) (by kernel_rfl)) (by go_simp; try with_reducible rfl) (fun K25 hK25 => ?_)
    clear hK24 K24
    refine (H10.out _).mono ?_
    rintro e wm5 ⟨rfl, hs5⟩
    have hS5 : _ := hS4.keep hs5
    refine ⟨_, rfl, hS5, ?_⟩
    clear hs5
    simp only [Act.put, List.setIfInBounds_toArray, List.set_cons_zero, List.set_cons_succ]
    refine mix_take hK25 (some 30) (.binOp BinOp.eql 23 (.tmp 26) (.tmp 29) 23) 4 _ (by kernel_rfl) (by kernel_rfl) (fun w' hS' => by exact eql_opb true _ _ rfl rfl (by simp)) (fun K26 hK26 => ?_)
    clear hK25 K25
    simp only [Act.put, List.setIfInBounds_toArray, List.set_cons_zero, List.set_cons_succ]
    refine mix_take hK26 (some 31) (.pick (.tmp 23) (.tmp 30) (.const (Value.bool false))) 4 _ (by kernel_rfl) (by kernel_rfl) (fun w' hS' => by simp only [opr]; go_simp; try with_reducible rfl) (fun K27 hK27 => ?_)
    clear hK26 K26
    simp only [Act.put, List.setIfInBounds_toArray, List.set_cons_zero, List.set_cons_succ]
    refine mix_take hK27 (some 32) (.move (.tmp 31)) 4 _ (by kernel_rfl) (by kernel_rfl) (fun w' hS' => by simp only [opr]; go_simp; try with_reducible rfl) (fun K28 hK28 => ?_)
    clear hK27 K27
    simp only [Act.put, List.setIfInBounds_toArray, List.set_cons_zero, List.set_cons_succ]
    refine mix_take hK28 (some 33) (.load 23 (.tmp 2)) 23 _ (by kernel_rfl) (by kernel_rfl) (fun w' hS' => by first | exact run_load_box rfl rfl hS'.2.1 | exact run_load_box rfl rfl hS'.2.2 | exact run_load_int rfl rfl hS'.2.1.c2 | exact run_load_int rfl rfl hS'.2.1.c3) (fun K29 hK29 => ?_)
    clear hK28 K28
    simp only [Act.put, List.setIfInBounds_toArray, List.set_cons_zero, List.set_cons_succ]
    refine mix_take hK29 (some 34) (.load 23 (.tmp 3)) 23 _ (by kernel_rfl) (by kernel_rfl) (fun w' hS' => by first | exact run_load_box rfl rfl hS'.2.1 | exact run_load_box rfl rfl hS'.2.2 | exact run_load_int rfl rfl hS'.2.1.c2 | exact run_load_int rfl rfl hS'.2.1.c3) (fun K30 hK30 => ?_)
    clear hK29 K29
    simp only [Act.put, List.setIfInBounds_toArray, List.set_cons_zero, List.set_cons_succ]
    refine mix_take hK30 (some 36) (.load 23 (.tmp 2)) 23 _ (by kernel_rfl) (by kernel_rfl) (fun w' hS' => by first | exact run_load_box rfl rfl hS'.2.1 | exact run_load_box rfl rfl hS'.2.2 | exact run_load_int rfl rfl hS'.2.1.c2 | exact run_load_int rfl rfl hS'.2.1.c3) (fun K31 hK31 => ?_)
    clear hK30 K30
    simp only [Act.put, List.setIfInBounds_toArray, List.set_cons_zero, List.set_cons_succ]
    refine mix_take hK31 (some 37) (.load 23 (.tmp 3)) 23 _ (by kernel_rfl) (by kernel_rfl) (fun w' hS' => by first | exact run_load_box rfl rfl hS'.2.1 | exact run_load_box rfl rfl hS'.2.2 | exact run_load_int rfl rfl hS'.2.1.c2 | exact run_load_int rfl rfl hS'.2.1.c3) (fun K32 hK32 => ?_)
    clear hK31 K31
    simp only [Act.put, List.setIfInBounds_toArray, List.set_cons_zero, List.set_cons_succ]
    refine mix_call hK32 (some 35) 11 #[.tmp 33, .tmp 34] #[23, 23] 4 _ (by kernel_rfl) (by kernel_rfl) (enters Try.func11 (by kernel_rfl) (by kernel_rfl)) (by go_simp; try with_reducible rfl) (fun K33 hK33 => ?_)
    clear hK32 K32
    refine (H11.out _).mono ?_
    rintro e wm6 ⟨rfl, hs6⟩
    have hS6 : _ := hS5.keep hs6
    refine ⟨_, rfl, hS6, ?_⟩
    clear hs6
    simp only [Act.put, List.setIfInBounds_toArray, List.set_cons_zero, List.set_cons_succ]
    refine mix_call hK33 (some 38) 12 #[.tmp 36, .tmp 37] #[23, 23] 4 _ (by kernel_rfl) (by kernel_rfl) (enters Try.func12 (by kernel_rfl) (by kernel_rfl)) (by go_simp; try with_reducible rfl) (fun K34 hK34 => ?_)
    clear hK33 K33
    refine (H12.out _).mono ?_
    rintro e wm7 ⟨rfl, hs7⟩
    have hS7 : _ := hS6.keep hs7
    refine ⟨_, rfl, hS7, ?_⟩
    clear hs7
    simp only [Act.put, List.setIfInBounds_toArray, List.set_cons_zero, List.set_cons_succ]
    refine mix_take hK34 (some 39) (.binOp BinOp.eql 4 (.tmp 35) (.tmp 38) 4) 4 _ (by kernel_rfl) (by kernel_rfl) (fun w' hS' => by simp only [opr]; go_simp; try with_reducible rfl) (fun K35 hK35 => ?_)
    clear hK34 K34
    simp only [Act.put, List.setIfInBounds_toArray, List.set_cons_zero, List.set_cons_succ]
    refine mix_take hK35 (some 40) (.pick (.tmp 32) (.tmp 39) (.const (Value.bool false))) 4 _ (by kernel_rfl) (by kernel_rfl) (fun w' hS' => by simp only [opr]; go_simp; try with_reducible rfl) (fun K36 hK36 => ?_)
    clear hK35 K35
    simp only [Act.put, List.setIfInBounds_toArray, List.set_cons_zero, List.set_cons_succ]
    refine mix_take hK36 (some 41) (.move (.tmp 40)) 4 _ (by kernel_rfl) (by kernel_rfl) (fun w' hS' => by simp only [opr]; go_simp; try with_reducible rfl) (fun K37 hK37 => ?_)
    clear hK36 K36
    simp only [Act.put, List.setIfInBounds_toArray, List.set_cons_zero, List.set_cons_succ]
    refine mix_take hK37 (some 42) (.load 23 (.tmp 2)) 23 _ (by kernel_rfl) (by kernel_rfl) (fun w' hS' => by first | exact run_load_box rfl rfl hS'.2.1 | exact run_load_box rfl rfl hS'.2.2 | exact run_load_int rfl rfl hS'.2.1.c2 | exact run_load_int rfl rfl hS'.2.1.c3) (fun K38 hK38 => ?_)
    clear hK37 K37
    simp only [Act.put, List.setIfInBounds_toArray, List.set_cons_zero, List.set_cons_succ]
    refine mix_take hK38 (some 44) (.load 23 (.tmp 2)) 23 _ (by kernel_rfl) (by kernel_rfl) (fun w' hS' => by first | exact run_load_box rfl rfl hS'.2.1 | exact run_load_box rfl rfl hS'.2.2 | exact run_load_int rfl rfl hS'.2.1.c2 | exact run_load_int rfl rfl hS'.2.1.c3) (fun K39 hK39 => ?_)
    clear hK38 K38
    simp only [Act.put, List.setIfInBounds_toArray, List.set_cons_zero, List.set_cons_succ]
    refine mix_call hK39 (some 43) 13 #[.tmp 42] #[23] 3 _ (by kernel_rfl) (by kernel_rfl) (enters Try.func13 (by kernel_rfl) (by kernel_rfl)) (by go_simp; try with_reducible rfl) (fun K40 hK40 => ?_)
    clear hK39 K39
    refine (H13.out _).mono ?_
    rintro e wm8 ⟨rfl, hs8⟩
    have hS8 : _ := hS7.keep hs8
    refine ⟨_, rfl, hS8, ?_⟩
    clear hs8
    simp only [Act.put, List.setIfInBounds_toArray, List.set_cons_zero, List.set_cons_succ]
    refine mix_call hK40 (some 45) 14 #[.tmp 44] #[23] 3 _ (by kernel_rfl) (by kernel_rfl) (enters Try.func14 (by kernel_rfl) (by kernel_rfl)) (by go_simp; try with_reducible rfl) (fun K41 hK41 => ?_)
    clear hK40 K40
    refine (H14.out _).mono ?_
    rintro e wm9 ⟨rfl, hs9⟩
    have hS9 : _ := hS8.keep hs9
    refine ⟨_, rfl, hS9, ?_⟩
    clear hs9
    simp only [Act.put, List.setIfInBounds_toArray, List.set_cons_zero, List.set_cons_succ]
    refine mix_take hK41 (some 46) (.binOp BinOp.eql 3 (.tmp 43) (.tmp 45) 3) 4 _ (by kernel_rfl) (by kernel_rfl) (fun w' hS' => by simp only [opr]; go_simp; try with_reducible rfl) (fun K42 hK42 => ?_)
    clear hK41 K41
    simp only [Act.put, List.setIfInBounds_toArray, List.set_cons_zero, List.set_cons_succ]
    refine mix_take hK42 (some 47) (.pick (.tmp 41) (.tmp 46) (.const (Value.bool false))) 4 _ (by kernel_rfl) (by kernel_rfl) (fun w' hS' => by simp only [opr]; go_simp; try with_reducible rfl) (fun K43 hK43 => ?_)
    clear hK42 K42
    simp only [Act.put, List.setIfInBounds_toArray, List.set_cons_zero, List.set_cons_succ]
    refine mix_take hK43 (some 48) (.move (.tmp 47)) 4 _ (by kernel_rfl) (by kernel_rfl) (fun w' hS' => by simp only [opr]; go_simp; try with_reducible rfl) (fun K44 hK44 => ?_)
    clear hK43 K43
    simp only [Act.put, List.setIfInBounds_toArray, List.set_cons_zero, List.set_cons_succ]
    refine mix_take hK44 (some 49) (.load 23 (.tmp 2)) 23 _ (by kernel_rfl) (by kernel_rfl) (fun w' hS' => by first | exact run_load_box rfl rfl hS'.2.1 | exact run_load_box rfl rfl hS'.2.2 | exact run_load_int rfl rfl hS'.2.1.c2 | exact run_load_int rfl rfl hS'.2.1.c3) (fun K45 hK45 => ?_)
    clear hK44 K44
    simp only [Act.put, List.setIfInBounds_toArray, List.set_cons_zero, List.set_cons_succ]
    refine mix_take hK45 (some 50) (.load 23 (.tmp 3)) 23 _ (by kernel_rfl) (by kernel_rfl) (fun w' hS' => by first | exact run_load_box rfl rfl hS'.2.1 | exact run_load_box rfl rfl hS'.2.2 | exact run_load_int rfl rfl hS'.2.1.c2 | exact run_load_int rfl rfl hS'.2.1.c3) (fun K46 hK46 => ?_)
    clear hK45 K45
    simp only [Act.put, List.setIfInBounds_toArray, List.set_cons_zero, List.set_cons_succ]
    refine mix_take hK46 (some 52) (.load 23 (.tmp 2)) 23 _ (by kernel_rfl) (by kernel_rfl) (fun w' hS' => by first | exact run_load_box rfl rfl hS'.2.1 | exact run_load_box rfl rfl hS'.2.2 | exact run_load_int rfl rfl hS'.2.1.c2 | exact run_load_int rfl rfl hS'.2.1.c3) (fun K47 hK47 => ?_)
    clear hK46 K46
    simp only [Act.put, List.setIfInBounds_toArray, List.set_cons_zero, List.set_cons_succ]
    refine mix_take hK47 (some 53) (.load 23 (.tmp 3)) 23 _ (by kernel_rfl) (by kernel_rfl) (fun w' hS' => by first | exact run_load_box rfl rfl hS'.2.1 | exact run_load_box rfl rfl hS'.2.2 | exact run_load_int rfl rfl hS'.2.1.c2 | exact run_load_int rfl rfl hS'.2.1.c3) (fun K48 hK48 => ?_)
    clear hK47 K47
    simp only [Act.put, List.setIfInBounds_toArray, List.set_cons_zero, List.set_cons_succ]
    refine mix_call hK48 (some 51) 16 #[.tmp 49, .tmp 50] #[23, 23] 29 _ (by kernel_rfl) (by kernel_rfl) (enters Try.func16 (by kernel_rfl) (by kernel_rfl)) (by go_simp; try with_reducible rfl) (fun K49 hK49 => ?_)
    clear hK48 K48
    refine (H16.out _).mono ?_
    rintro e wm10 ⟨t10, rfl, hr, hs10⟩
    have hS10 : _ := hS9.keep hs10
    refine ⟨_, rfl, hS10, ?_⟩
    have HR1 := hide' hr
    clear hr
    clear hs10
    simp only [Act.put, List.setIfInBounds_toArray, List.set_cons_zero, List.set_cons_succ]
    refine mix_call hK49 (some 54) 17 #[.tmp 52, .tmp 53] #[23, 23] 29 _ (by kernel_rfl) (by kernel_rfl) (enters Try.func17 (by kernel_rfl) (by kernel_rfl)) (by go_simp; try with_reducible rfl) (fun K50 hK50 => ?_)
    clear hK49 K49
    refine (H17.out _).mono ?_
    rintro e wm11 ⟨t11, rfl, hr, hs11⟩
    have hS11 : _ := hS10.keep hs11
    refine ⟨_, rfl, hS11, ?_⟩
    have HR2 := hide' hr
    have HR3 := hide' (HR1.out.keep hs11)
    clear hr HR1
    clear hs11
    simp only [Act.put, List.setIfInBounds_toArray, List.set_cons_zero, List.set_cons_succ]
    refine mix_call hK50 (some 55) 15 #[.tmp 51, .tmp 54] #[29, 29] 4 _ (by kernel_rfl) (by kernel_rfl) (enters Try.func15 (by kernel_rfl) (by kernel_rfl)) (by go_simp; try with_reducible rfl) (fun K51 hK51 => ?_)
    clear hK50 K50
    refine ((sameAll15 _ _ _ _ _ HR3.out HR2.out)).mono ?_
    rintro e wm12 ⟨rfl, hs12⟩
    have hS12 : _ := hS11.keep hs12
    refine ⟨_, rfl, hS12, ?_⟩
    clear hs12
    simp only [Act.put, List.setIfInBounds_toArray, List.set_cons_zero, List.set_cons_succ]
    refine mix_take hK51 (some 56) (.pick (.tmp 48) (.tmp 55) (.const (Value.bool false))) 4 _ (by kernel_rfl) (by kernel_rfl) (fun w' hS' => by simp only [opr]; go_simp; try with_reducible rfl) (fun K52 hK52 => ?_)
    clear hK51 K51
    simp only [Act.put, List.setIfInBounds_toArray, List.set_cons_zero, List.set_cons_succ]
    refine mix_take hK52 (some 57) (.move (.tmp 56)) 4 _ (by kernel_rfl) (by kernel_rfl) (fun w' hS' => by simp only [opr]; go_simp; try with_reducible rfl) (fun K53 hK53 => ?_)
    clear hK52 K52
    simp only [Act.put, List.setIfInBounds_toArray, List.set_cons_zero, List.set_cons_succ]
    refine mix_call hK53 (some 58) 18 #[] #[] 4 _ (by kernel_rfl) (by kernel_rfl) (enters Try.func18 (by kernel_rfl) (by kernel_rfl)) (by go_simp; try with_reducible rfl) (fun K54 hK54 => ?_)
    clear hK53 K53
    refine (awake18 _).mono ?_
    rintro e wm13 ⟨rfl, hs13⟩
    have hS13 : _ := hS12.keep hs13
    refine ⟨_, rfl, hS13, ?_⟩
    clear hs13
    simp only [Act.put, List.setIfInBounds_toArray, List.set_cons_zero, List.set_cons_succ]
    refine mix_take hK54 (some 59) (.pick (.tmp 57) (.tmp 58) (.const (Value.bool false))) 4 _ (by kernel_rfl) (by kernel_rfl) (fun w' hS' => by simp only [opr]; go_simp; try with_reducible rfl) (fun K55 hK55 => ?_)
    clear hK54 K54
    simp only [Act.put, List.setIfInBounds_toArray, List.set_cons_zero, List.set_cons_succ]
    refine mix_take hK55 (some 4) (.assign (.tmp 59)) 4 _ (by kernel_rfl) (by kernel_rfl) (fun w' hS' => by simp only [opr]; go_simp; try with_reducible rfl) (fun K56 hK56 => ?_)
    clear hK55 K55
    simp only [Act.put, List.setIfInBounds_toArray, List.set_cons_zero, List.set_cons_succ]
    refine hK56 _ _ (mix_nil ?_)
    clear hK56 K56
    go_wp2
    go_ret
    exact ⟨by simp, hS13.1⟩
  · have d1 : decide (a.w < 1) = false := by simpa using hw
    clear hw
    by_cases hh : a.h < 1
    · have d2 : decide (a.h < 1) = true := by simpa using hh
      obtain rfl : ce = true := by have := HE.out; rw [d1, d2] at this; simpa using this
      clear HE hh
      go_enter Try.func3, Try.ntmps3
      go_wp2_with fail
      have hS := HS.out.keep ((Stay.refl _ _).drew)
      refine wp_region_mix (Two w a b) [(0, true), (2, true), (1, false), (3, false), (4, true), (5, true), (6, true), (8, true), (9, true), (10, true), (7, false), (11, true), (12, true), (13, true), (14, true), (15, true), (16, true), (17, true), (18, true), (19, true), (20, true), (22, true), (23, true), (21, false), (24, false), (25, true), (26, true), (27, true), (28, true), (29, true), (31, true), (32, true), (30, false), (33, false), (34, true), (35, true), (36, true), (37, true), (39, true), (38, false), (40, false), (41, true), (42, true), (43, true), (44, true), (45, true), (47, true), (48, true), (46, false), (49, false), (50, false), (51, true), (52, true), (53, false), (54, true), (55, true)] (by kernel_rfl) (by kernel_rfl) (fun _ d _ _ _ h => by cases d <;> exact h) hS ?_
      refine mix_begin (fun K0 hK0 => ?_)
      refine mix_take hK0 (some 5) (.load 23 (.tmp 2)) 23 _ (by kernel_rfl) (by kernel_rfl) (fun w' hS' => by first | exact run_load_box rfl rfl hS'.2.1 | exact run_load_box rfl rfl hS'.2.2 | exact run_load_int rfl rfl hS'.2.1.c2 | exact run_load_int rfl rfl hS'.2.1.c3) (fun K1 hK1 => ?_)
      clear hK0 K0
      simp only [Act.put, List.setIfInBounds_toArray, List.set_cons_zero, List.set_cons_succ]
      refine mix_take hK1 (some 7) (.load 23 (.tmp 2)) 23 _ (by kernel_rfl) (by kernel_rfl) (fun w' hS' => by first | exact run_load_box rfl rfl hS'.2.1 | exact run_load_box rfl rfl hS'.2.2 | exact run_load_int rfl rfl hS'.2.1.c2 | exact run_load_int rfl rfl hS'.2.1.c3) (fun K2 hK2 => ?_)
      clear hK1 K1
      simp only [Act.put, List.setIfInBounds_toArray, List.set_cons_zero, List.set_cons_succ]
      refine mix_call hK2 (some 6) 6 #[.tmp 5] #[23] 4 _ (by kernel_rfl) (by kernel_rfl) (enters Try.func6 (by kernel_rfl) (by kernel_rfl)) (by go_simp; try with_reducible rfl) (fun K3 hK3 => ?_)
      clear hK2 K2
      refine (H6.out _).mono ?_
      rintro e wm1 ⟨rfl, hs1⟩
      have hS1 : _ := hS.keep hs1
      refine ⟨_, rfl, hS1, ?_⟩
      clear hs1
      simp only [Act.put, List.setIfInBounds_toArray, List.set_cons_zero, List.set_cons_succ]
      refine mix_call hK3 (some 8) 7 #[.tmp 7] #[23] 4 _ (by kernel_rfl) (by kernel_rfl) (enters Try.func7 (by kernel_rfl) (by kernel_rfl)) (by go_simp; try with_reducible rfl) (fun K4 hK4 => ?_)
      clear hK3 K3
      refine (H7.out _).mono ?_
      rintro e wm2 ⟨rfl, hs2⟩
      have hS2 : _ := hS1.keep hs2
      refine ⟨_, rfl, hS2, ?_⟩
      clear hs2
      simp only [Act.put, List.setIfInBounds_toArray, List.set_cons_zero, List.set_cons_succ]
      refine mix_take hK4 (some 9) (.binOp BinOp.eql 4 (.tmp 6) (.tmp 8) 4) 4 _ (by kernel_rfl) (by kernel_rfl) (fun w' hS' => by simp only [opr]; go_simp; try with_reducible rfl) (fun K5 hK5 => ?_)
      clear hK4 K4
      simp only [Act.put, List.setIfInBounds_toArray, List.set_cons_zero, List.set_cons_succ]
      refine mix_take hK5 (some 10) (.move (.tmp 9)) 4 _ (by kernel_rfl) (by kernel_rfl) (fun w' hS' => by simp only [opr]; go_simp; try with_reducible rfl) (fun K6 hK6 => ?_)
      clear hK5 K5
      simp only [Act.put, List.setIfInBounds_toArray, List.set_cons_zero, List.set_cons_succ]
      refine mix_take hK6 (some 11) (.load 23 (.tmp 2)) 23 _ (by kernel_rfl) (by kernel_rfl) (fun w' hS' => by first | exact run_load_box rfl rfl hS'.2.1 | exact run_load_box rfl rfl hS'.2.2 | exact run_load_int rfl rfl hS'.2.1.c2 | exact run_load_int rfl rfl hS'.2.1.c3) (fun K7 hK7 => ?_)
      clear hK6 K6
      simp only [Act.put, List.setIfInBounds_toArray, List.set_cons_zero, List.set_cons_succ]
      refine mix_take hK7 (some 13) (.fieldAddr 23 (.tmp 2) 2) 0 _ (by kernel_rfl) (by kernel_rfl) (fun w' hS' => by simp only [opr]; go_simp; try with_reducible rfl) (fun K8 hK8 => ?_)
      clear hK7 K7
      simp only [Act.put, List.setIfInBounds_toArray, List.set_cons_zero, List.set_cons_succ]
      refine mix_take hK8 (some 14) (.load 3 (.tmp 13)) 3 _ (by kernel_rfl) (by kernel_rfl) (fun w' hS' => by first | exact run_load_box rfl rfl hS'.2.1 | exact run_load_box rfl rfl hS'.2.2 | exact run_load_int rfl rfl hS'.2.1.c2 | exact run_load_int rfl rfl hS'.2.1.c3) (fun K9 hK9 => ?_)
      clear hK8 K8
      simp only [Act.put, List.setIfInBounds_toArray, List.set_cons_zero, List.set_cons_succ]
      refine mix_take hK9 (some 15) (.binOp BinOp.lss 3 (.tmp 14) (.const (Value.int IntKind.i64 1)) 3) 4 _ (by kernel_rfl) (by kernel_rfl) (fun w' hS' => by simp only [opr]; go_simp; try with_reducible rfl) (fun K10 hK10 => ?_)
      clear hK9 K9
      simp only [Act.put, List.setIfInBounds_toArray, List.set_cons_zero, List.set_cons_succ]
      refine mix_call hK10 (some 12) 8 #[.tmp 11] #[23] 4 _ (by kernel_rfl) (by kernel_rfl) (enters Try.func8 (by kernel_rfl) (by kernel_rfl)) (by go_simp; try with_reducible rfl) (fun K11 hK11 => ?_)
      clear hK10 K10
      refine (H8.out _).mono ?_
      rintro e wm3 ⟨rfl, hs3⟩
      have hS3 : _ := hS2.keep hs3
      refine ⟨_, rfl, hS3, ?_⟩
      clear hs3
      simp only [Act.put, List.setIfInBounds_toArray, List.set_cons_zero, List.set_cons_succ]
      refine mix_take hK11 (some 16) (.move (.tmp 15)) 4 _ (by kernel_rfl) (by kernel_rfl) (fun w' hS' => by simp only [opr]; go_simp; try with_reducible rfl) (fun K12 hK12 => ?_)
      clear hK11 K11
      simp only [Act.put, List.setIfInBounds_toArray, List.set_cons_zero, List.set_cons_succ]
      refine mix_take hK12 (some 17) (.fieldAddr 23 (.tmp 2) 3) 0 _ (by kernel_rfl) (by kernel_rfl) (fun w' hS' => by simp only [opr]; go_simp; try with_reducible rfl) (fun K13 hK13 => ?_)
      clear hK12 K12
      simp only [Act.put, List.setIfInBounds_toArray, List.set_cons_zero, List.set_cons_succ]
      refine mix_take hK13 (some 18) (.load 3 (.tmp 17)) 3 _ (by kernel_rfl) (by kernel_rfl) (fun w' hS' => by first | exact run_load_box rfl rfl hS'.2.1 | exact run_load_box rfl rfl hS'.2.2 | exact run_load_int rfl rfl hS'.2.1.c2 | exact run_load_int rfl rfl hS'.2.1.c3) (fun K14 hK14 => ?_)
      clear hK13 K13
      simp only [Act.put, List.setIfInBounds_toArray, List.set_cons_zero, List.set_cons_succ]
      refine mix_take hK14 (some 19) (.binOp BinOp.lss 3 (.tmp 18) (.const (Value.int IntKind.i64 1)) 3) 4 _ (by kernel_rfl) (by kernel_rfl) (fun w' hS' => by simp only [opr]; go_simp; try with_reducible rfl) (fun K15 hK15 => ?_)
      clear hK14 K14
      simp only [Act.put, List.setIfInBounds_toArray, List.set_cons_zero, List.set_cons_succ]
      refine mix_take hK15 (some 20) (.pick (.tmp 16) (.const (Value.bool true)) (.tmp 19)) 4 _ (by kernel_rfl) (by kernel_rfl) (fun w' hS' => by simp only [opr]; go_simp; try with_reducible rfl) (fun K16 hK16 => ?_)
      clear hK15 K15
      simp only [Act.put, List.setIfInBounds_toArray, List.set_cons_zero, List.set_cons_succ]
      refine mix_take hK16 (some 21) (.binOp BinOp.eql 4 (.tmp 12) (.tmp 20) 4) 4 _ (by kernel_rfl) (by kernel_rfl) (fun w' hS' => by simp only [opr]; go_simp; try with_reducible rfl) (fun K17 hK17 => ?_)
      clear hK16 K16
      simp only [Act.put, List.setIfInBounds_toArray, List.set_cons_zero, List.set_cons_succ]
      refine mix_take hK17 (some 22) (.pick (.tmp 10) (.tmp 21) (.const (Value.bool false))) 4 _ (by kernel_rfl) (by kernel_rfl) (fun w' hS' => by simp only [opr]; go_simp; try with_reducible rfl) (fun K18 hK18 => ?_)
      clear hK17 K17
      simp only [Act.put, List.setIfInBounds_toArray, List.set_cons_zero, List.set_cons_succ]
      refine mix_take hK18 (some 23) (.move (.tmp 22)) 4 _ (by kernel_rfl) (by kernel_rfl) (fun w' hS' => by simp only [opr]; go_simp; try with_reducible rfl) (fun K19 hK19 => ?_)
      clear hK18 K18
      simp only [Act.put, List.setIfInBounds_toArray, List.set_cons_zero, List.set_cons_succ]
      refine mix_take hK19 (some 24) (.load 23 (.tmp 2)) 23 _ (by kernel_rfl) (by kernel_rfl) (fun w' hS' => by first | exact run_load_box rfl rfl hS'.2.1 | exact run_load_box rfl rfl hS'.2.2 | exact run_load_int rfl rfl hS'.2.1.c2 | exact run_load_int rfl rfl hS'.2.1.c3) (fun K20 hK20 => ?_)
      clear hK19 K19
      simp only [Act.put, List.setIfInBounds_toArray, List.set_cons_zero, List.set_cons_succ]
      refine mix_take hK20 (some 25) (.load 23 (.tmp 3)) 23 _ (by kernel_rfl) (by kernel_rfl) (fun w' hS' => by first | exact run_load_box rfl rfl hS'.2.1 | exact run_load_box rfl rfl hS'.2.2 | exact run_load_int rfl rfl hS'.2.1.c2 | exact run_load_int rfl rfl hS'.2.1.c3) (fun K21 hK21 => ?_)
      clear hK20 K20
      simp only [Act.put, List.setIfInBounds_toArray, List.set_cons_zero, List.set_cons_succ]
      refine mix_take hK21 (some 27) (.load 23 (.tmp 2)) 23 _ (by kernel_rfl) (by kernel_rfl) (fun w' hS' => by first | exact run_load_box rfl rfl hS'.2.1 | exact run_load_box rfl rfl hS'.2.2 | exact run_load_int rfl rfl hS'.2.1.c2 | exact run_load_int rfl rfl hS'.2.1.c3) (fun K22 hK22 => ?_)
      clear hK21 K21
      simp only [Act.put, List.setIfInBounds_toArray, List.set_cons_zero, List.set_cons_succ]
      refine mix_take hK22 (some 28) (.load 23 (.tmp 3)) 23 _ (by kernel_rfl) (by kernel_rfl) (fun w' hS' => by first | exact run_load_box rfl rfl hS'.2.1 | exact run_load_box rfl rfl hS'.2.2 | exact run_load_int rfl rfl hS'.2.1.c2 | exact run_load_int rfl rfl hS'.2.1.c3) (fun K23 hK23 => ?_)
      clear hK22 K22
      simp only [Act.put, List.setIfInBounds_toArray, List.set_cons_zero, List.set_cons_succ]
      refine mix_call hK23 (some 26) 9 #[.tmp 24, .tmp 25] #[23, 23] 23 _ (by kernel_rfl) (by kernel_rfl) (enters Try.func9 (by kernel_rfl) (by kernel_rfl)) (by go_simp; try with_reducible rfl) (fun K24 hK24 => ?_)
      clear hK23 K23
      refine (H9.out _).mono ?_
      rintro e wm4 ⟨rfl, hs4⟩
      have hS4 : _ := hS3.keep hs4
      refine ⟨_, rfl, hS4, ?_⟩
      clear hs4
      simp only [Act.put, List.setIfInBounds_toArray, List.set_cons_zero, List.set_cons_succ]
      refine mix_call hK24 (some 29) 10 #[.tmp 27, .tmp 28] #[23, 23] 23 _ (by kernel_rfl) (by kernel_rfl) (enters Try.func10 (by kernel_rfl) (by kernel_rfl)) (by go_simp; try with_reducible rfl) (fun K25 hK25 => ?_)
      clear hK24 K24
      refine (H10.out _).mono ?_
      rintro e wm5 ⟨rfl, hs5⟩
      have hS5 : _ := hS4.keep hs5
      refine ⟨_, rfl, hS5, ?_⟩
      clear hs5
      simp only [Act.put, List.setIfInBounds_toArray, List.set_cons_zero, List.set_cons_succ]
      refine mix_take hK25 (some 30) (.binOp BinOp.eql 23 (.tmp 26) (.tmp 29) 23) 4 _ (by kernel_rfl) (by kernel_rfl) (fun w' hS' => by exact eql_opb true _ _ rfl rfl (by simp)) (fun K26 hK26 => ?_)
      clear hK25 K25
      simp only [Act.put, List.setIfInBounds_toArray, List.set_cons_zero, List.set_cons_succ]
      refine mix_take hK26 (some 31) (.pick (.tmp 23) (.tmp 30) (.const (Value.bool false))) 4 _ (by kernel_rfl) (by kernel_rfl) (fun w' hS' => by simp only [opr]; go_simp; try with_reducible rfl) (fun K27 hK27 => ?_)
      clear hK26 K26
      simp only [Act.put, List.setIfInBounds_toArray, List.set_cons_zero, List.set_cons_succ]
      refine mix_take hK27 (some 32) (.move (.tmp 31)) 4 _ (by kernel_rfl) (by kernel_rfl) (fun w' hS' => by simp only [opr]; go_simp; try with_reducible rfl) (fun K28 hK28 => ?_)
      clear hK27 K27
      simp only [Act.put, List.setIfInBounds_toArray, List.set_cons_zero, List.set_cons_succ]
      refine mix_take hK28 (some 33) (.load 23 (.tmp 2)) 23 _ (by kernel_rfl) (by kernel_rfl) (fun w' hS' => by first | exact run_load_box rfl rfl hS'.2.1 | exact run_load_box rfl rfl hS'.2.2 | exact run_load_int rfl rfl hS'.2.1.c2 | exact run_load_int rfl rfl hS'.2.1.c3) (fun K29 hK29 => ?_)
      clear hK28 K28
      simp only [Act.put, List.setIfInBounds_toArray, List.set_cons_zero, List.set_cons_succ]
      refine mix_take hK29 (some 34) (.load 23 (.tmp 3)) 23 _ (by kernel_rfl) (by kernel_rfl) (fun w' hS' => by first | exact run_load_box rfl rfl hS'.2.1 | exact run_load_box rfl rfl hS'.2.2 | exact run_load_int rfl rfl hS'.2.1.c2 | exact run_load_int rfl rfl hS'.2.1.c3) (fun K30 hK30 => ?_)
      clear hK29 K29
      simp only [Act.put, List.setIfInBounds_toArray, List.set_cons_zero, List.set_cons_succ]
      refine mix_take hK30 (some 36) (.load 23 (.tmp 2)) 23 _ (by kernel_rfl) (by kernel_rfl) (fun w' hS' => by first | exact run_load_box rfl rfl hS'.2.1 | exact run_load_box rfl rfl hS'.2.2 | exact run_load_int rfl rfl hS'.2.1.c2 | exact run_load_int rfl rfl hS'.2.1.c3) (fun K31 hK31 => ?_)
      clear hK30 K30
      simp only [Act.put, List.setIfInBounds_toArray, List.set_cons_zero, List.set_cons_succ]
      refine mix_take hK31 (some 37) (.load 23 (.tmp 3)) 23 _ (by kernel_rfl) (by kernel_rfl) (fun w' hS' => by first | exact run_load_box rfl rfl hS'.2.1 | exact run_load_box rfl rfl hS'.2.2 | exact run_load_int rfl rfl hS'.2.1.c2 | exact run_load_int rfl rfl hS'.2.1.c3) (fun K32 hK32 => ?_)
      clear hK31 K31
      simp only [Act.put, List.setIfInBounds_toArray, List.set_cons_zero, List.set_cons_succ]
      refine mix_call hK32 (some 35) 11 #[.tmp 33, .tmp 34] #[23, 23] 4 _ (by kernel_rfl) (by kernel_rfl) (enters Try.func11 (by kernel_rfl) (by kernel_rfl)) (by go_simp; try with_reducible rfl) (fun K33 hK33 => ?_)
      clear hK32 K32
      refine (H11.out _).mono ?_
      rintro e wm6 ⟨rfl, hs6⟩
      have hS6 : _ := hS5.keep hs6
      refine ⟨_, rfl, hS6, ?_⟩
      clear hs6
      simp only [Act.put, List.setIfInBounds_toArray, List.set_cons_zero, List.set_cons_succ]
      refine mix_call hK33 (some 38) 12 #[.tmp 36, .tmp 37] #[23, 23] 4 _ (by kernel_rfl) (by kernel_rfl) (enters Try.func12 (by kernel_rfl) (by kernel_rfl)) (by go_simp; try with_reducible rfl) (fun K34 hK34 => ?_)
      clear hK33 K33
      refine (H12.out _).mono ?_
      rintro e wm7 ⟨rfl, hs7⟩
      have hS7 : _ := hS6.keep hs7
      refine ⟨_, rfl, hS7, ?_⟩
      clear hs7
      simp only [Act.put, List.setIfInBounds_toArray, List.set_cons_zero, List.set_cons_succ]
      refine mix_take hK34 (some 39) (.binOp BinOp.eql 4 (.tmp 35) (.tmp 38) 4) 4 _ (by kernel_rfl) (by kernel_rfl) (fun w' hS' => by simp only [opr]; go_simp; try with_reducible rfl) (fun K35 hK35 => ?_)
      clear hK34 K34
      simp only [Act.put, List.setIfInBounds_toArray, List.set_cons_zero, List.set_cons_succ]
      refine mix_take hK35 (some 40) (.pick (.tmp 32) (.tmp 39) (.const (Value.bool false))) 4 _ (by kernel_rfl) (by kernel_rfl) (fun w' hS' => by simp only [opr]; go_simp; try with_reducible rfl) (fun K36 hK36 => ?_)
      clear hK35 K35
      simp only [Act.put, List.setIfInBounds_toArray, List.set_cons_zero, List.set_cons_succ]
      refine mix_take hK36 (some 41) (.move (.tmp 40)) 4 _ (by kernel_rfl) (by kernel_rfl) (fun w' hS' => by simp only [opr]; go_simp; try with_reducible rfl) (fun K37 hK37 => ?_)
      clear hK36 K36
      simp only [Act.put, List.setIfInBounds_toArray, List.set_cons_zero, List.set_cons_succ]
      refine mix_take hK37 (some 42) (.load 23 (.tmp 2)) 23 _ (by kernel_rfl) (by kernel_rfl) (fun w' hS' => by first | exact run_load_box rfl rfl hS'.2.1 | exact run_load_box rfl rfl hS'.2.2 | exact run_load_int rfl rfl hS'.2.1.c2 | exact run_load_int rfl rfl hS'.2.1.c3) (fun K38 hK38 => ?_)
      clear hK37 K37
      simp only [Act.put, List.setIfInBounds_toArray, List.set_cons_zero, List.set_cons_succ]
      refine mix_take hK38 (some 44) (.load 23 (.tmp 2)) 23 _ (by kernel_rfl) (by kernel_rfl) (fun w' hS' => by first | exact run_load_box rfl rfl hS'.2.1 | exact run_load_box rfl rfl hS'.2.2 | exact run_load_int rfl rfl hS'.2.1.c2 | exact run_load_int rfl rfl hS'.2.1.c3) (fun K39 hK39 => ?_)
      clear hK38 K38
      simp only [Act.put, List.setIfInBounds_toArray, List.set_cons_zero, List.set_cons_succ]
      refine mix_call hK39 (some 43) 13 #[.tmp 42] #[23] 3 _ (by kernel_rfl) (by kernel_rfl) (enters Try.func13 (by kernel_rfl) (by kernel_rfl)) (by go_simp; try with_reducible rfl) (fun K40 hK40 => ?_)
      clear hK39 K39
      refine (H13.out _).mono ?_
      rintro e wm8 ⟨rfl, hs8⟩
      have hS8 : _ := hS7.keep hs8
      refine ⟨_, rfl, hS8, ?_⟩
      clear hs8
      simp only [Act.put, List.setIfInBounds_toArray, List.set_cons_zero, List.set_cons_succ]
      refine mix_call hK40 (some 45) 14 #[.tmp 44] #[23] 3 _ (by kernel_rfl) (by kernel_rfl) (enters Try.func14 (by kernel_rfl) (by kernel_rfl)) (by go_simp; try with_reducible rfl) (fun K41 hK41 => ?_)
      clear hK40 K40
      refine (H14.out _).mono ?_
      rintro e wm9 ⟨rfl, hs9⟩
      have hS9 : _ := hS8.keep hs9
      refine ⟨_, rfl, hS9, ?_⟩
      clear hs9
      simp only [Act.put, List.setIfInBounds_toArray, List.set_cons_zero, List.set_cons_succ]
      refine mix_take hK41 (some 46) (.binOp BinOp.eql 3 (.tmp 43) (.tmp 45) 3) 4 _ (by kernel_rfl) (by kernel_rfl) (fun w' hS' => by simp only [opr]; go_simp; try with_reducible rfl) (fun K42 hK42 => ?_)
      clear hK41 K41
      simp only [Act.put, List.setIfInBounds_toArray, List.set_cons_zero, List.set_cons_succ]
      refine mix_take hK42 (some 47) (.pick (.tmp 41) (.tmp 46) (.const (Value.bool false))) 4 _ (by kernel_rfl) (by kernel_rfl) (fun w' hS' => by simp only [opr]; go_simp; try with_reducible rfl) (fun K43 hK43 => ?_)
      clear hK42 K42
      simp only [Act.put, List.setIfInBounds_toArray, List.set_cons_zero, List.set_cons_succ]
      refine mix_take hK43 (some 48) (.move (.tmp 47)) 4 _ (by kernel_rfl) (by kernel_rfl) (fun w' hS' => by simp only [opr]; go_simp; try with_reducible rfl) (fun K44 hK44 => ?_)
      clear hK43 K43
      simp only [Act.put, List.setIfInBounds_toArray, List.set_cons_zero, List.set_cons_succ]
      refine mix_take hK44 (some 49) (.load 23 (.tmp 2)) 23 _ (by kernel_rfl) (by kernel_rfl) (fun w' hS' => by first | exact run_load_box rfl rfl hS'.2.1 | exact run_load_box rfl rfl hS'.2.2 | exact run_load_int rfl rfl hS'.2.1.c2 | exact run_load_int rfl rfl hS'.2.1.c3) (fun K45 hK45 => ?_)
      clear hK44 K44
      simp only [Act.put, List.setIfInBounds_toArray, List.set_cons_zero, List.set_cons_succ]
      refine mix_take hK45 (some 50) (.load 23 (.tmp 3)) 23 _ (by kernel_rfl) (by kernel_rfl) (fun w' hS' => by first | exact run_load_box rfl rfl hS'.2.1 | exact run_load_box rfl rfl hS'.2.2 | exact run_load_int rfl rfl hS'.2.1.c2 | exact run_load_int rfl rfl hS'.2.1.c3) (fun K46 hK46 => ?_)
      clear hK45 K45
      simp only [Act.put, List.setIfInBounds_toArray, List.set_cons_zero, List.set_cons_succ]
      refine mix_take hK46 (some 52) (.load 23 (.tmp 2)) 23 _ (by kernel_rfl) (by kernel_rfl) (fun w' hS' => by first | exact run_load_box rfl rfl hS'.2.1 | exact run_load_box rfl rfl hS'.2.2 | exact run_load_int rfl rfl hS'.2.1.c2 | exact run_load_int rfl rfl hS'.2.1.c3) (fun K47 hK47 => ?_)
      clear hK46 K46
      simp only [Act.put, List.setIfInBounds_toArray, List.set_cons_zero, List.set_cons_succ]
      refine mix_take hK47 (some 53) (.load 23 (.tmp 3)) 23 _ (by kernel_rfl) (by kernel_rfl) (fun w' hS' => by first | exact run_load_box rfl rfl hS'.2.1 | exact run_load_box rfl rfl hS'.2.2 | exact run_load_int rfl rfl hS'.2.1.c2 | exact run_load_int rfl rfl hS'.2.1.c3) (fun K48 hK48 => ?_)
      clear hK47 K47
      simp only [Act.put, List.setIfInBounds_toArray, List.set_cons_zero, List.set_cons_succ]
      refine mix_call hK48 (some 51) 16 #[.tmp 49, .tmp 50] #[23, 23] 29 _ (by kernel_rfl) (by kernel_rfl) (enters Try.func16 (by kernel_rfl) (by kernel_rfl)) (by go_simp; try with_reducible rfl) (fun K49 hK49 => ?_)
      clear hK48 K48
      refine (H16.out _).mono ?_
      rintro e wm10 ⟨t10, rfl, hr, hs10⟩
      have hS10 : _ := hS9.keep hs10
      refine ⟨_, rfl, hS10, ?_⟩
      have HR1 := hide' hr
      clear hr
      clear hs10
      simp only [Act.put, List.setIfInBounds_toArray, List.set_cons_zero, List.set_cons_succ]
      refine mix_call hK49 (some 54) 17 #[.tmp 52, .tmp 53] #[23, 23] 29 _ (by kernel_rfl) (by kernel_rfl) (enters Try.func17 (by kernel_rfl) (by kernel_rfl)) (by go_simp; try with_reducible rfl) (fun K50 hK50 => ?_)
      clear hK49 K49
      refine (H17.out _).mono ?_
      rintro e wm11 ⟨t11, rfl, hr, hs11⟩
      have hS11 : _ := hS10.keep hs11
      refine ⟨_, rfl, hS11, ?_⟩
      have HR2 := hide' hr
      have HR3 := hide' (HR1.out.keep hs11)
      clear hr HR1
      clear hs11
      simp only [Act.put, List.setIfInBounds_toArray, List.set_cons_zero, List.set_cons_succ]
      refine mix_call hK50 (some 55) 15 #[.tmp 51, .tmp 54] #[29, 29] 4 _ (by kernel_rfl) (by kernel_rfl) (enters Try.func15 (by kernel_rfl) (by kernel_rfl)) (by go_simp; try with_reducible rfl) (fun K51 hK51 => ?_)
      clear hK50 K50
      refine ((sameAll15 _ _ _ _ _ HR3.out HR2.out)).mono ?_
      rintro e wm12 ⟨rfl, hs12⟩
      have hS12 : _ := hS11.keep hs12
      refine ⟨_, rfl, hS12, ?_⟩
      clear hs12
      simp only [Act.put, List.setIfInBounds_toArray, List.set_cons_zero, List.set_cons_succ]
      refine mix_take hK51 (some 56) (.pick (.tmp 48) (.tmp 55) (.const (Value.bool false))) 4 _ (by kernel_rfl) (by kernel_rfl) (fun w' hS' => by simp only [opr]; go_simp; try with_reducible rfl) (fun K52 hK52 => ?_)
      clear hK51 K51
      simp only [Act.put, List.setIfInBounds_toArray, List.set_cons_zero, List.set_cons_succ]
      refine mix_take hK52 (some 57) (.move (.tmp 56)) 4 _ (by kernel_rfl) (by kernel_rfl) (fun w' hS' => by simp only [opr]; go_simp; try with_reducible rfl) (fun K53 hK53 => ?_)
      clear hK52 K52
      simp only [Act.put, List.setIfInBounds_toArray, List.set_cons_zero, List.set_cons_succ]
      refine mix_call hK53 (some 58) 18 #[] #[] 4 _ (by kernel_rfl) (by kernel_rfl) (enters Try.func18 (by kernel_rfl) (by kernel_rfl)) (by go_simp; try with_reducible rfl) (fun K54 hK54 => ?_)
      clear hK53 K53
      refine (awake18 _).mono ?_
      rintro e wm13 ⟨rfl, hs13⟩
      have hS13 : _ := hS12.keep hs13
      refine ⟨_, rfl, hS13, ?_⟩
      clear hs13
      simp only [Act.put, List.setIfInBounds_toArray, List.set_cons_zero, List.set_cons_succ]
      refine mix_take hK54 (some 59) (.pick (.tmp 57) (.tmp 58) (.const (Value.bool false))) 4 _ (by kernel_rfl) (by kernel_rfl) (fun w' hS' => by simp only [opr]; go_simp; try with_reducible rfl) (fun K55 hK55 => ?_)
      clear hK54 K54
      simp only [Act.put, List.setIfInBounds_toArray, List.set_cons_zero, List.set_cons_succ]
      refine mix_take hK55 (some 4) (.assign (.tmp 59)) 4 _ (by kernel_rfl) (by kernel_rfl) (fun w' hS' => by simp only [opr]; go_simp; try with_reducible rfl) (fun K56 hK56 => ?_)
      clear hK55 K55
      simp only [Act.put, List.setIfInBounds_toArray, List.set_cons_zero, List.set_cons_succ]
      refine hK56 _ _ (mix_nil ?_)
      clear hK56 K56
      go_wp2
      go_ret
      exact ⟨by simp, hS13.1⟩
    · have d2 : decide (a.h < 1) = false := by simpa using hh
      obtain rfl : ce = false := by have := HE.out; rw [d1, d2] at this; simpa using this
      clear HE hh
      go_enter Try.func3, Try.ntmps3
      go_wp2_with fail
      have hS := HS.out.keep ((Stay.refl _ _).drew)
      refine wp_region_mix (Two w a b) [(0, true), (2, true), (1, false), (3, false), (4, true), (5, true), (6, true), (8, true), (9, true), (10, true), (7, false), (11, true), (12, true), (13, true), (14, true), (15, true), (16, true), (17, true), (18, true), (19, true), (20, true), (22, true), (23, true), (21, false), (24, false), (25, true), (26, true), (27, true), (28, true), (29, true), (31, true), (32, true), (30, false), (33, false), (34, true), (35, true), (36, true), (37, true), (39, true), (38, false), (40, false), (41, true), (42, true), (43, true), (44, true), (45, true), (47, true), (48, true), (46, false), (49, false), (50, false), (51, true), (52, true), (53, false), (54, true), (55, true)] (by kernel_rfl) (by kernel_rfl) (fun _ d _ _ _ h => by cases d <;> exact h) hS ?_
      refine mix_begin (fun K0 hK0 => ?_)
      refine mix_take hK0 (some 5) (.load 23 (.tmp 2)) 23 _ (by kernel_rfl) (by kernel_rfl) (fun w' hS' => by first | exact run_load_box rfl rfl hS'.2.1 | exact run_load_box rfl rfl hS'.2.2 | exact run_load_int rfl rfl hS'.2.1.c2 | exact run_load_int rfl rfl hS'.2.1.c3) (fun K1 hK1 => ?_)
      clear hK0 K0
      simp only [Act.put, List.setIfInBounds_toArray, List.set_cons_zero, List.set_cons_succ]
      refine mix_take hK1 (some 7) (.load 23 (.tmp 2)) 23 _ (by kernel_rfl) (by kernel_rfl) (fun w' hS' => by first | exact run_load_box rfl rfl hS'.2.1 | exact run_load_box rfl rfl hS'.2.2 | exact run_load_int rfl rfl hS'.2.1.c2 | exact run_load_int rfl rfl hS'.2.1.c3) (fun K2 hK2 => ?_)
      clear hK1 K1
      simp only [Act.put, List.setIfInBounds_toArray, List.set_cons_zero, List.set_cons_succ]
      refine mix_call hK2 (some 6) 6 #[.tmp 5] #[23] 4 _ (by kernel_rfl) (by kernel_rfl) (enters Try.func6 (by kernel_rfl) (by kernel_rfl)) (by go_simp; try with_reducible rfl) (fun K3 hK3 => ?_)
      clear hK2 K2
      refine (H6.out _).mono ?_
      rintro e wm1 ⟨rfl, hs1⟩
      have hS1 : _ := hS.keep hs1
      refine ⟨_, rfl, hS1, ?_⟩
      clear hs1
      simp only [Act.put, List.setIfInBounds_toArray, List.set_cons_zero, List.set_cons_succ]
      refine mix_call hK3 (some 8) 7 #[.tmp 7] #[23] 4 _ (by kernel_rfl) (by kernel_rfl) (enters Try.func7 (by kernel_rfl) (by kernel_rfl)) (by go_simp; try with_reducible rfl) (fun K4 hK4 => ?_)
      clear hK3 K3
      refine (H7.out _).mono ?_
      rintro e wm2 ⟨rfl, hs2⟩
      have hS2 : _ := hS1.keep hs2
      refine ⟨_, rfl, hS2, ?_⟩
      clear hs2
      simp only [Act.put, List.setIfInBounds_toArray, List.set_cons_zero, List.set_cons_succ]
      refine mix_take hK4 (some 9) (.binOp BinOp.eql 4 (.tmp 6) (.tmp 8) 4) 4 _ (by kernel_rfl) (by kernel_rfl) (fun w' hS' => by simp only [opr]; go_simp; try with_reducible rfl) (fun K5 hK5 => ?_)
      clear hK4 K4
      simp only [Act.put, List.setIfInBounds_toArray, List.set_cons_zero, List.set_cons_succ]
      refine mix_take hK5 (some 10) (.move (.tmp 9)) 4 _ (by kernel_rfl) (by kernel_rfl) (fun w' hS' => by simp only [opr]; go_simp; try with_reducible rfl) (fun K6 hK6 => ?_)
      clear hK5 K5
      simp only [Act.put, List.setIfInBounds_toArray, List.set_cons_zero, List.set_cons_succ]
      refine mix_take hK6 (some 11) (.load 23 (.tmp 2)) 23 _ (by kernel_rfl) (by kernel_rfl) (fun w' hS' => by first | exact run_load_box rfl rfl hS'.2.1 | exact run_load_box rfl rfl hS'.2.2 | exact run_load_int rfl rfl hS'.2.1.c2 | exact run_load_int rfl rfl hS'.2.1.c3) (fun K7 hK7 => ?_)
      clear hK6 K6
      simp only [Act.put, List.setIfInBounds_toArray, List.set_cons_zero, List.set_cons_succ]
      refine mix_take hK7 (some 13) (.fieldAddr 23 (.tmp 2) 2) 0 _ (by kernel_rfl) (by kernel_rfl) (fun w' hS' => by simp only [opr]; go_simp; try with_reducible rfl) (fun K8 hK8 => ?_)
      clear hK7 K7
      simp only [Act.put, List.setIfInBounds_toArray, List.set_cons_zero, List.set_cons_succ]
      refine mix_take hK8 (some 14) (.load 3 (.tmp 13)) 3 _ (by kernel_rfl) (by kernel_rfl) (fun w' hS' => by first | exact run_load_box rfl rfl hS'.2.1 | exact run_load_box rfl rfl hS'.2.2 | exact run_load_int rfl rfl hS'.2.1.c2 | exact run_load_int rfl rfl hS'.2.1.c3) (fun K9 hK9 => ?_)
      clear hK8 K8
      simp only [Act.put, List.setIfInBounds_toArray, List.set_cons_zero, List.set_cons_succ]
      refine mix_take hK9 (some 15) (.binOp BinOp.lss 3 (.tmp 14) (.const (Value.int IntKind.i64 1)) 3) 4 _ (by kernel_rfl) (by kernel_rfl) (fun w' hS' => by simp only [opr]; go_simp; try with_reducible rfl) (fun K10 hK10 => ?_)
      clear hK9 K9
      simp only [Act.put, List.setIfInBounds_toArray, List.set_cons_zero, List.set_cons_succ]
      refine mix_call hK10 (some 12) 8 #[.tmp 11] #[23] 4 _ (by kernel_rfl) (by kernel_rfl) (enters Try.func8 (by kernel_rfl) (by kernel_rfl)) (by go_simp; try with_reducible rfl) (fun K11 hK11 => ?_)
      clear hK10 K10
      refine (H8.out _).mono ?_
      rintro e wm3 ⟨rfl, hs3⟩
      have hS3 : _ := hS2.keep hs3
      refine ⟨_, rfl, hS3, ?_⟩
      clear hs3
      simp only [Act.put, List.setIfInBounds_toArray, List.set_cons_zero, List.set_cons_succ]
      refine mix_take hK11 (some 16) (.move (.tmp 15)) 4 _ (by kernel_rfl) (by kernel_rfl) (fun w' hS' => by simp only [opr]; go_simp; try with_reducible rfl) (fun K12 hK12 => ?_)
      clear hK11 K11
      simp only [Act.put, List.setIfInBounds_toArray, List.set_cons_zero, List.set_cons_succ]
      refine mix_take hK12 (some 17) (.fieldAddr 23 (.tmp 2) 3) 0 _ (by kernel_rfl) (by kernel_rfl) (fun w' hS' => by simp only [opr]; go_simp; try with_reducible rfl) (fun K13 hK13 => ?_)
      clear hK12 K12
      simp only [Act.put, List.setIfInBounds_toArray, List.set_cons_zero, List.set_cons_succ]
      refine mix_take hK13 (some 18) (.load 3 (.tmp 17)) 3 _ (by kernel_rfl) (by kernel_rfl) (fun w' hS' => by first | exact run_load_box rfl rfl hS'.2.1 | exact run_load_box rfl rfl hS'.2.2 | exact run_load_int rfl rfl hS'.2.1.c2 | exact run_load_int rfl rfl hS'.2.1.c3) (fun K14 hK14 => ?_)
      clear hK13 K13
      simp only [Act.put, List.setIfInBounds_toArray, List.set_cons_zero, List.set_cons_succ]
      refine mix_take hK14 (some 19) (.binOp BinOp.lss 3 (.tmp 18) (.const (Value.int IntKind.i64 1)) 3) 4 _ (by kernel_rfl) (by kernel_rfl) (fun w' hS' => by simp only [opr]; go_simp; try with_reducible rfl) (fun K15 hK15 => ?_)
      clear hK14 K14
      simp only [Act.put, List.setIfInBounds_toArray, List.set_cons_zero, List.set_cons_succ]
      refine mix_take hK15 (some 20) (.pick (.tmp 16) (.const (Value.bool true)) (.tmp 19)) 4 _ (by kernel_rfl) (by kernel_rfl) (fun w' hS' => by simp only [opr]; go_simp; try with_reducible rfl) (fun K16 hK16 => ?_)
      clear hK15 K15
      simp only [Act.put, List.setIfInBounds_toArray, List.set_cons_zero, List.set_cons_succ]
      refine mix_take hK16 (some 21) (.binOp BinOp.eql 4 (.tmp 12) (.tmp 20) 4) 4 _ (by kernel_rfl) (by kernel_rfl) (fun w' hS' => by simp only [opr]; go_simp; try with_reducible rfl) (fun K17 hK17 => ?_)
      clear hK16 K16
      simp only [Act.put, List.setIfInBounds_toArray, List.set_cons_zero, List.set_cons_succ]
      refine mix_take hK17 (some 22) (.pick (.tmp 10) (.tmp 21) (.const (Value.bool false))) 4 _ (by kernel_rfl) (by kernel_rfl) (fun w' hS' => by simp only [opr]; go_simp; try with_reducible rfl) (fun K18 hK18 => ?_)
      clear hK17 K17
      simp only [Act.put, List.setIfInBounds_toArray, List.set_cons_zero, List.set_cons_succ]
      refine mix_take hK18 (some 23) (.move (.tmp 22)) 4 _ (by kernel_rfl) (by kernel_rfl) (fun w' hS' => by simp only [opr]; go_simp; try with_reducible rfl) (fun K19 hK19 => ?_)
      clear hK18 K18
      simp only [Act.put, List.setIfInBounds_toArray, List.set_cons_zero, List.set_cons_succ]
      refine mix_take hK19 (some 24) (.load 23 (.tmp 2)) 23 _ (by kernel_rfl) (by kernel_rfl) (fun w' hS' => by first | exact run_load_box rfl rfl hS'.2.1 | exact run_load_box rfl rfl hS'.2.2 | exact run_load_int rfl rfl hS'.2.1.c2 | exact run_load_int rfl rfl hS'.2.1.c3) (fun K20 hK20 => ?_)
      clear hK19 K19
      simp only [Act.put, List.setIfInBounds_toArray, List.set_cons_zero, List.set_cons_succ]
      refine mix_take hK20 (some 25) (.load 23 (.tmp 3)) 23 _ (by kernel_rfl) (by kernel_rfl) (fun w' hS' => by first | exact run_load_box rfl rfl hS'.2.1 | exact run_load_box rfl rfl hS'.2.2 | exact run_load_int rfl rfl hS'.2.1.c2 | exact run_load_int rfl rfl hS'.2.1.c3) (fun K21 hK21 => ?_)
      clear hK20 K20
      simp only [Act.put, List.setIfInBounds_toArray, List.set_cons_zero, List.set_cons_succ]
      refine mix_take hK21 (some 27) (.load 23 (.tmp 2)) 23 _ (by kernel_rfl) (by kernel_rfl) (fun w' hS' => by first | exact run_load_box rfl rfl hS'.2.1 | exact run_load_box rfl rfl hS'.2.2 | exact run_load_int rfl rfl hS'.2.1.c2 | exact run_load_int rfl rfl hS'.2.1.c3) (fun K22 hK22 => ?_)
      clear hK21 K21
      simp only [Act.put, List.setIfInBounds_toArray, List.set_cons_zero, List.set_cons_succ]
      refine mix_take hK22 (some 28) (.load 23 (.tmp 3)) 23 _ (by kernel_rfl) (by kernel_rfl) (fun w' hS' => by first | exact run_load_box rfl rfl hS'.2.1 | exact run_load_box rfl rfl hS'.2.2 | exact run_load_int rfl rfl hS'.2.1.c2 | exact run_load_int rfl rfl hS'.2.1.c3) (fun K23 hK23 => ?_)
      clear hK22 K22
      simp only [Act.put, List.setIfInBounds_toArray, List.set_cons_zero, List.set_cons_succ]
      refine mix_call hK23 (some 26) 9 #[.tmp 24, .tmp 25] #[23, 23] 23 _ (by kernel_rfl) (by kernel_rfl) (enters Try.func9 (by kernel_rfl) (by kernel_rfl)) (by go_simp; try with_reducible rfl) (fun K24 hK24 => ?_)
      clear hK23 K23
      refine (H9.out _).mono ?_
      rintro e wm4 ⟨rfl, hs4⟩
      have hS4 : _ := hS3.keep hs4
      refine ⟨_, rfl, hS4, ?_⟩
      clear hs4
      simp only [Act.put, List.setIfInBounds_toArray, List.set_cons_zero, List.set_cons_succ]
      refine mix_call hK24 (some 29) 10 #[.tmp 27, .tmp 28] #[23, 23] 23 _ (by kernel_rfl) (by kernel_rfl) (enters Try.func10 (by kernel_rfl) (by kernel_rfl)) (by go_simp; try with_reducible rfl) (fun K25 hK25 => ?_)
      clear hK24 K24
      refine (H10.out _).mono ?_
      rintro e wm5 ⟨rfl, hs5⟩
      have hS5 : _ := hS4.keep hs5
      refine ⟨_, rfl, hS5, ?_⟩
      clear hs5
      simp only [Act.put, List.setIfInBounds_toArray, List.set_cons_zero, List.set_cons_succ]
      refine mix_take hK25 (some 30) (.binOp BinOp.eql 23 (.tmp 26) (.tmp 29) 23) 4 _ (by kernel_rfl) (by kernel_rfl) (fun w' hS' => by exact eql_opb true _ _ rfl rfl (by simp)) (fun K26 hK26 => ?_)
      clear hK25 K25
      simp only [Act.put, List.setIfInBounds_toArray, List.set_cons_zero, List.set_cons_succ]
      refine mix_take hK26 (some 31) (.pick (.tmp 23) (.tmp 30) (.const (Value.bool false))) 4 _ (by kernel_rfl) (by kernel_rfl) (fun w' hS' => by simp only [opr]; go_simp; try with_reducible rfl) (fun K27 hK27 => ?_)
      clear hK26 K26
      simp only [Act.put, List.setIfInBounds_toArray, List.set_cons_zero, List.set_cons_succ]
      refine mix_take hK27 (some 32) (.move (.tmp 31)) 4 _ (by kernel_rfl) (by kernel_rfl) (fun w' hS' => by simp only [opr]; go_simp; try with_reducible rfl) (fun K28 hK28 => ?_)
      clear hK27 K27
      simp only [Act.put, List.setIfInBounds_toArray, List.set_cons_zero, List.set_cons_succ]
      refine mix_take hK28 (some 33) (.load 23 (.tmp 2)) 23 _ (by kernel_rfl) (by kernel_rfl) (fun w' hS' => by first | exact run_load_box rfl rfl hS'.2.1 | exact run_load_box rfl rfl hS'.2.2 | exact run_load_int rfl rfl hS'.2.1.c2 | exact run_load_int rfl rfl hS'.2.1.c3) (fun K29 hK29 => ?_)
      clear hK28 K28
      simp only [Act.put, List.setIfInBounds_toArray, List.set_cons_zero, List.set_cons_succ]
      refine mix_take hK29 (some 34) (.load 23 (.tmp 3)) 23 _ (by kernel_rfl) (by kernel_rfl) (fun w' hS' => by first | exact run_load_box rfl rfl hS'.2.1 | exact run_load_box rfl rfl hS'.2.2 | exact run_load_int rfl rfl hS'.2.1.c2 | exact run_load_int rfl rfl hS'.2.1.c3) (fun K30 hK30 => ?_)
      clear hK29 K29
      simp only [Act.put, List.setIfInBounds_toArray, List.set_cons_zero, List.set_cons_succ]
      refine mix_take hK30 (some 36) (.load 23 (.tmp 2)) 23 _ (by kernel_rfl) (by kernel_rfl) (fun w' hS' => by first | exact run_load_box rfl rfl hS'.2.1 | exact run_load_box rfl rfl hS'.2.2 | exact run_load_int rfl rfl hS'.2.1.c2 | exact run_load_int rfl rfl hS'.2.1.c3) (fun K31 hK31 => ?_)
      clear hK30 K30
      simp only [Act.put, List.setIfInBounds_toArray, List.set_cons_zero, List.set_cons_succ]
      refine mix_take hK31 (some 37) (.load 23 (.tmp 3)) 23 _ (by kernel_rfl) (by kernel_rfl) (fun w' hS' => by first | exact run_load_box rfl rfl hS'.2.1 | exact run_load_box rfl rfl hS'.2.2 | exact run_load_int rfl rfl hS'.2.1.c2 | exact run_load_int rfl rfl hS'.2.1.c3) (fun K32 hK32 => ?_)
      clear hK31 K31
      simp only [Act.put, List.setIfInBounds_toArray, List.set_cons_zero, List.set_cons_succ]
      refine mix_call hK32 (some 35) 11 #[.tmp 33, .tmp 34] #[23, 23] 4 _ (by kernel_rfl) (by kernel_rfl) (enters Try.func11 (by kernel_rfl) (by kernel_rfl)) (by go_simp; try with_reducible rfl) (fun K33 hK33 => ?_)
      clear hK32 K32
      refine (H11.out _).mono ?_
      rintro e wm6 ⟨rfl, hs6⟩
      have hS6 : _ := hS5.keep hs6
      refine ⟨_, rfl, hS6, ?_⟩
      clear hs6
      simp only [Act.put, List.setIfInBounds_toArray, List.set_cons_zero, List.set_cons_succ]
      refine mix_call hK33 (some 38) 12 #[.tmp 36, .tmp 37] #[23, 23] 4 _ (by kernel_rfl) (by kernel_rfl) (enters Try.func12 (by kernel_rfl) (by kernel_rfl)) (by go_simp; try with_reducible rfl) (fun K34 hK34 => ?_)
      clear hK33 K33
      refine (H12.out _).mono ?_
      rintro e wm7 ⟨rfl, hs7⟩
      have hS7 : _ := hS6.keep hs7
      refine ⟨_, rfl, hS7, ?_⟩
      clear hs7
      simp only [Act.put, List.setIfInBounds_toArray, List.set_cons_zero, List.set_cons_succ]
      refine mix_take hK34 (some 39) (.binOp BinOp.eql 4 (.tmp 35) (.tmp 38) 4) 4 _ (by kernel_rfl) (by kernel_rfl) (fun w' hS' => by simp only [opr]; go_simp; try with_reducible rfl) (fun K35 hK35 => ?_)
      clear hK34 K34
      simp only [Act.put, List.setIfInBounds_toArray, List.set_cons_zero, List.set_cons_succ]
      refine mix_take hK35 (some 40) (.pick (.tmp 32) (.tmp 39) (.const (Value.bool false))) 4 _ (by kernel_rfl) (by kernel_rfl) (fun w' hS' => by simp only [opr]; go_simp; try with_reducible rfl) (fun K36 hK36 => ?_)
      clear hK35 K35
      simp only [Act.put, List.setIfInBounds_toArray, List.set_cons_zero, List.set_cons_succ]
      refine mix_take hK36 (some 41) (.move (.tmp 40)) 4 _ (by kernel_rfl) (by kernel_rfl) (fun w' hS' => by simp only [opr]; go_simp; try with_reducible rfl) (fun K37 hK37 => ?_)
      clear hK36 K36
      simp only [Act.put, List.setIfInBounds_toArray, List.set_cons_zero, List.set_cons_succ]
      refine mix_take hK37 (some 42) (.load 23 (.tmp 2)) 23 _ (by kernel_rfl) (by kernel_rfl) (fun w' hS' => by first | exact run_load_box rfl rfl hS'.2.1 | exact run_load_box rfl rfl hS'.2.2 | exact run_load_int rfl rfl hS'.2.1.c2 | exact run_load_int rfl rfl hS'.2.1.c3) (fun K38 hK38 => ?_)
      clear hK37 K37
      simp only [Act.put, List.setIfInBounds_toArray, List.set_cons_zero, List.set_cons_succ]
      refine mix_take hK38 (some 44) (.load 23 (.tmp 2)) 23 _ (by kernel_rfl) (by kernel_rfl) (fun w' hS' => by first | exact run_load_box rfl rfl hS'.2.1 | exact run_load_box rfl rfl hS'.2.2 | exact run_load_int rfl rfl hS'.2.1.c2 | exact run_load_int rfl rfl hS'.2.1.c3) (fun K39 hK39 => ?_)
      clear hK38 K38
      simp only [Act.put, List.setIfInBounds_toArray, List.set_cons_zero, List.set_cons_succ]
      refine mix_call hK39 (some 43) 13 #[.tmp 42] #[23] 3 _ (by kernel_rfl) (by kernel_rfl) (enters Try.func13 (by kernel_rfl) (by kernel_rfl)) (by go_simp; try with_reducible rfl) (fun K40 hK40 => ?_)
      clear hK39 K39
      refine (H13.out _).mono ?_
      rintro e wm8 ⟨rfl, hs8⟩
      have hS8 : _ := hS7.keep hs8
      refine ⟨_, rfl, hS8, ?_⟩
      clear hs8
      simp only [Act.put, List.setIfInBounds_toArray, List.set_cons_zero, List.set_cons_succ]
      refine mix_call hK40 (some 45) 14 #[.tmp 44] #[23] 3 _ (by kernel_rfl) (by kernel_rfl) (enters Try.func14 (by kernel_rfl) (by kernel_rfl)) (by go_simp; try with_reducible rfl) (fun K41 hK41 => ?_)
      clear hK40 K40
      refine (H14.out _).mono ?_
      rintro e wm9 ⟨rfl, hs9⟩
      have hS9 : _ := hS8.keep hs9
      refine ⟨_, rfl, hS9, ?_⟩
      clear hs9
      simp only [Act.put, List.setIfInBounds_toArray, List.set_cons_zero, List.set_cons_succ]
      refine mix_take hK41 (some 46) (.binOp BinOp.eql 3 (.tmp 43) (.tmp 45) 3) 4 _ (by kernel_rfl) (by kernel_rfl) (fun w' hS' => by simp only [opr]; go_simp; try with_reducible rfl) (fun K42 hK42 => ?_)
      clear hK41 K41
      simp only [Act.put, List.setIfInBounds_toArray, List.set_cons_zero, List.set_cons_succ]
      refine mix_take hK42 (some 47) (.pick (.tmp 41) (.tmp 46) (.const (Value.bool false))) 4 _ (by kernel_rfl) (by kernel_rfl) (fun w' hS' => by simp only [opr]; go_simp; try with_reducible rfl) (fun K43 hK43 => ?_)
      clear hK42 K42
      simp only [Act.put, List.setIfInBounds_toArray, List.set_cons_zero, List.set_cons_succ]
      refine mix_take hK43 (some 48) (.move (.tmp 47)) 4 _ (by kernel_rfl) (by kernel_rfl) (fun w' hS' => by simp only [opr]; go_simp; try with_reducible rfl) (fun K44 hK44 => ?_)
      clear hK43 K43
      simp only [Act.put, List.setIfInBounds_toArray, List.set_cons_zero, List.set_cons_succ]
      refine mix_take hK44 (some 49) (.load 23 (.tmp 2)) 23 _ (by kernel_rfl) (by kernel_rfl) (fun w' hS' => by first | exact run_load_box rfl rfl hS'.2.1 | exact run_load_box rfl rfl hS'.2.2 | exact run_load_int rfl rfl hS'.2.1.c2 | exact run_load_int rfl rfl hS'.2.1.c3) (fun K45 hK45 => ?_)
      clear hK44 K44
      simp only [Act.put, List.setIfInBounds_toArray, List.set_cons_zero, List.set_cons_succ]
      refine mix_take hK45 (some 50) (.load 23 (.tmp 3)) 23 _ (by kernel_rfl) (by kernel_rfl) (fun w' hS' => by first | exact run_load_box rfl rfl hS'.2.1 | exact run_load_box rfl rfl hS'.2.2 | exact run_load_int rfl rfl hS'.2.1.c2 | exact run_load_int rfl rfl hS'.2.1.c3) (fun K46 hK46 => ?_)
      clear hK45 K45
      simp only [Act.put, List.setIfInBounds_toArray, List.set_cons_zero, List.set_cons_succ]
      refine mix_take hK46 (some 52) (.load 23 (.tmp 2)) 23 _ (by kernel_rfl) (by kernel_rfl) (fun w' hS' => by first | exact run_load_box rfl rfl hS'.2.1 | exact run_load_box rfl rfl hS'.2.2 | exact run_load_int rfl rfl hS'.2.1.c2 | exact run_load_int rfl rfl hS'.2.1.c3) (fun K47 hK47 => ?_)
      clear hK46 K46
      simp only [Act.put, List.setIfInBounds_toArray, List.set_cons_zero, List.set_cons_succ]
      refine mix_take hK47 (some 53) (.load 23 (.tmp 3)) 23 _ (by kernel_rfl) (by kernel_rfl) (fun w' hS' => by first | exact run_load_box rfl rfl hS'.2.1 | exact run_load_box rfl rfl hS'.2.2 | exact run_load_int rfl rfl hS'.2.1.c2 | exact run_load_int rfl rfl hS'.2.1.c3) (fun K48 hK48 => ?_)
      clear hK47 K47
      simp only [Act.put, List.setIfInBounds_toArray, List.set_cons_zero, List.set_cons_succ]
      refine mix_call hK48 (some 51) 16 #[.tmp 49, .tmp 50] #[23, 23] 29 _ (by kernel_rfl) (by kernel_rfl) (enters Try.func16 (by kernel_rfl) (by kernel_rfl)) (by go_simp; try with_reducible rfl) (fun K49 hK49 => ?_)
      clear hK48 K48
      refine (H16.out _).mono ?_
      rintro e wm10 ⟨t10, rfl, hr, hs10⟩
      have hS10 : _ := hS9.keep hs10
      refine ⟨_, rfl, hS10, ?_⟩
      have HR1 := hide' hr
      clear hr
      clear hs10
      simp only [Act.put, List.setIfInBounds_toArray, List.set_cons_zero, List.set_cons_succ]
      refine mix_call hK49 (some 54) 17 #[.tmp 52, .tmp 53] #[23, 23] 29 _ (by kernel_rfl) (by kernel_rfl) (enters Try.func17 (by kernel_rfl) (by kernel_rfl)) (by go_simp; try with_reducible rfl) (fun K50 hK50 => ?_)
      clear hK49 K49
      refine (H17.out _).mono ?_
      rintro e wm11 ⟨t11, rfl, hr, hs11⟩
      have hS11 : _ := hS10.keep hs11
      refine ⟨_, rfl, hS11, ?_⟩
      have HR2 := hide' hr
      have HR3 := hide' (HR1.out.keep hs11)
      clear hr HR1
      clear hs11
      simp only [Act.put, List.setIfInBounds_toArray, List.set_cons_zero, List.set_cons_succ]
      refine mix_call hK50 (some 55) 15 #[.tmp 51, .tmp 54] #[29, 29] 4 _ (by kernel_rfl) (by kernel_rfl) (enters Try.func15 (by kernel_rfl) (by kernel_rfl)) (by go_simp; try with_reducible rfl) (fun K51 hK51 => ?_)
      clear hK50 K50
      refine ((sameAll15 _ _ _ _ _ HR3.out HR2.out)).mono ?_
      rintro e wm12 ⟨rfl, hs12⟩
      have hS12 : _ := hS11.keep hs12
      refine ⟨_, rfl, hS12, ?_⟩
      clear hs12
      simp only [Act.put, List.setIfInBounds_toArray, List.set_cons_zero, List.set_cons_succ]
      refine mix_take hK51 (some 56) (.pick (.tmp 48) (.tmp 55) (.const (Value.bool false))) 4 _ (by kernel_rfl) (by kernel_rfl) (fun w' hS' => by simp only [opr]; go_simp; try with_reducible rfl) (fun K52 hK52 => ?_)
      clear hK51 K51
      simp only [Act.put, List.setIfInBounds_toArray, List.set_cons_zero, List.set_cons_succ]
      refine mix_take hK52 (some 57) (.move (.tmp 56)) 4 _ (by kernel_rfl) (by kernel_rfl) (fun w' hS' => by simp only [opr]; go_simp; try with_reducible rfl) (fun K53 hK53 => ?_)
      clear hK52 K52
      simp only [Act.put, List.setIfInBounds_toArray, List.set_cons_zero, List.set_cons_succ]
      refine mix_call hK53 (some 58) 18 #[] #[] 4 _ (by kernel_rfl) (by kernel_rfl) (enters Try.func18 (by kernel_rfl) (by kernel_rfl)) (by go_simp; try with_reducible rfl) (fun K54 hK54 => ?_)
      clear hK53 K53
      refine (awake18 _).mono ?_
      rintro e wm13 ⟨rfl, hs13⟩
      have hS13 : _ := hS12.keep hs13
      refine ⟨_, rfl, hS13, ?_⟩
      clear hs13
      simp only [Act.put, List.setIfInBounds_toArray, List.set_cons_zero, List.set_cons_succ]
      refine mix_take hK54 (some 59) (.pick (.tmp 57) (.tmp 58) (.const (Value.bool false))) 4 _ (by kernel_rfl) (by kernel_rfl) (fun w' hS' => by simp only [opr]; go_simp; try with_reducible rfl) (fun K55 hK55 => ?_)
      clear hK54 K54
      simp only [Act.put, List.setIfInBounds_toArray, List.set_cons_zero, List.set_cons_succ]
      refine mix_take hK55 (some 4) (.assign (.tmp 59)) 4 _ (by kernel_rfl) (by kernel_rfl) (fun w' hS' => by simp only [opr]; go_simp; try with_reducible rfl) (fun K56 hK56 => ?_)
      clear hK55 K55
      simp only [Act.put, List.setIfInBounds_toArray, List.set_cons_zero, List.set_cons_succ]
      refine hK56 _ _ (mix_nil ?_)
      clear hK56 K56
      go_wp2
      go_ret
      exact ⟨by simp, hS13.1⟩

end Go.Proofs.Ytloijopnfnhnhaa
