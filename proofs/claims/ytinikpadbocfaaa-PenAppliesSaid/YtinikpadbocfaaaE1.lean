/-
  PenApplies walked: true of any pen and any parameters. No conditions.
-/
import Derived.Test.YtinikpadbocfaaaE0
import Derived.Test.YtinikpadbocfaaaDD
namespace Go.Proofs.Ytinikpadbocfaaa
open Go.RowKit

theorem long_any (p : Pn) (a : Option Addr) (n cap : Nat) (w : World) (hn : 60 < n) (hn2 : (n : Int) ≤ 9223372036854775807) : Calls Try.prog 3 #[.agg #[.int .i64 p.fg, .int .i64 p.bg, .int .i64 p.fl], .slice a n cap] w (LawTrue w) := by
  have HS := hide' ((Stay.refl (fun _ => False) w).alloc (.cells #[.int .i64 p.fg, .int .i64 p.bg, .int .i64 p.fl] 23))
  have hz : (60 : Int) < n := by omega
  go_enter Try.func3, Try.ntmps3
  go_wp2_with fail
  refine (awake7 _).mono ?_
  rintro e w1 ⟨rfl, hs⟩
  have HS1 := hide' (HS.out.trans hs)
  clear hs
  go_wp2
  go_ret
  exact ⟨by simp, HS1.out⟩

set_option maxRecDepth 100000 in
set_option maxHeartbeats 4000000 in
theorem applies_any (p : Pn) (v : Value) (l : List Int) (a : Option Addr) (cap : Nat) (w : World) (hA : IArg .i64 w v l a cap) (hn : l.length ≤ 60) (h1 : W64 p.fg) (h3 : W64 p.fl) : Calls Try.prog 3 #[.agg #[.int .i64 p.fg, .int .i64 p.bg, .int .i64 p.fl], v] w (LawTrue w) := by
  have HA := hide' hA
  have HL : Hid (l.length ≤ 1000) := show _ ≤ _ by omega
  have HW := hide' h3
  obtain ⟨m, hm⟩ : ∃ m, m = l.length := ⟨_, rfl⟩
  have hv : v = .slice a m cap := by rw [hm]; exact hA.shape
  subst hv
  have hz : (m : Int) ≤ 60 := by omega
  have HST : Hid (OneB w w.heap.size p (w.alloc (.cells #[.int .i64 p.fg, .int .i64 p.bg, .int .i64 p.fl] 23))) := ⟨(Stay.refl _ _).alloc _, Box.new p rfl⟩
  have H9 := hide' (right9 p)
  have H10 := hide' (right10 p)
  have H14 := hide' (fun w => refLook14 p.fg w h1)
  have H8 := hide' (fun w => look8 p.fg w h1)
  have HLW := hide' (lookL_w64 h1)
  obtain ⟨cr, hcr⟩ : ∃ q, q = rightB p := ⟨_, rfl⟩
  rw [← hcr] at H9 H10
  have HLK : Hid (∀ e, LookE p.fg e → LookE p.fg e) := fun _ h => h
  obtain ⟨L, hLL⟩ : ∃ L, L = lookL p.fg := ⟨_, rfl⟩
  rw [← hLL] at H14 HLW
  have HLL0 := hide' hLL
  clear hcr hA hm hn h1 h3 hLL
  go_enter Try.func3, Try.ntmps3
  go_upto_region 1 with fail
  obtain ⟨W, hW⟩ : ∃ W, W = (w.alloc (.cells #[.int .i64 p.fg, .int .i64 p.bg, .int .i64 p.fl] 23)) := ⟨_, rfl⟩
  rw [← hW] at HST
  rw [← hW]
  clear hW
  obtain ⟨c0, c1, c2, f0, f1, f2⟩ := HST.out.2
  go_wp2_with fail
  refine (H8.out _).mono ?_
  rintro e w' ⟨he, rfl⟩
  rcases he with ⟨hl, rfl⟩ | ⟨r, g, b, hl, rfl⟩
  · have HLE : Hid (L = []) := show L = [] from HLL0.out.trans hl
    clear hl
    have HRW : Hid (Row W (.slice none 0 0) L) := show Row _ _ _ from by rw [HLE.out]; exact row_nil _
    have HLL : Hid (L.length ≤ 1000) := show L.length ≤ 1000 from by rw [HLE.out]; simp
    go_wp2_with fail
    have hS : OneR w w.heap.size p (.slice none 0 0) L W.drew := OneR.keep ⟨HST.out, HRW.out⟩ ((Stay.refl _ _).drew)
    refine wp_region_mix (OneR w w.heap.size p (.slice none 0 0) L) [(0, true), (2, true), (1, false), (3, false), (4, true), (5, true), (6, true), (7, true), (9, true), (10, true), (8, false), (11, false), (12, true), (13, true), (14, true), (15, true), (16, true), (17, true), (18, false), (19, false), (20, true), (21, true), (22, true), (23, true), (24, true), (25, true), (26, true), (27, true), (28, true), (29, true), (30, true), (31, true), (32, true), (33, true), (34, true), (35, true), (36, true), (37, false), (38, true), (39, true)] (by kernel_rfl) (by kernel_rfl) (fun _ d _ _ _ h => by cases d <;> exact h) hS ?_
    refine mix_begin (fun K0 hK0 => ?_)
    refine mix_take hK0 (some 27) (.load 23 (.tmp 2)) 23 _ (by kernel_rfl) (by kernel_rfl) (fun w' hS' => by first | exact run_load_box rfl rfl hS'.1.2 | exact run_load_int rfl rfl hS'.1.2.c0) (fun K1 hK1 => ?_)
    clear hK0 K0
    simp only [Act.put, List.setIfInBounds_toArray, List.set_cons_zero, List.set_cons_succ]
    refine mix_take hK1 (some 29) (.load 23 (.tmp 2)) 23 _ (by kernel_rfl) (by kernel_rfl) (fun w' hS' => by first | exact run_load_box rfl rfl hS'.1.2 | exact run_load_int rfl rfl hS'.1.2.c0) (fun K2 hK2 => ?_)
    clear hK1 K1
    simp only [Act.put, List.setIfInBounds_toArray, List.set_cons_zero, List.set_cons_succ]
    refine mix_call hK2 (some 28) 9 #[.tmp 27] #[23] 4 _ (by kernel_rfl) (by kernel_rfl) (enters Try.func9 (by kernel_rfl) (by kernel_rfl)) (by go_simp; try with_reducible rfl) (fun K3 hK3 => ?_)
    clear hK2 K2
    refine (H9.out _).mono ?_
    rintro e wm1 ⟨rfl, hs1⟩
    have hS1 : _ := hS.keep hs1
    refine ⟨_, rfl, hS1, ?_⟩
    clear hs1
    simp only [Act.put, List.setIfInBounds_toArray, List.set_cons_zero, List.set_cons_succ]
    refine mix_call hK3 (some 30) 10 #[.tmp 29] #[23] 4 _ (by kernel_rfl) (by kernel_rfl) (enters Try.func10 (by kernel_rfl) (by kernel_rfl)) (by go_simp; try with_reducible rfl) (fun K4 hK4 => ?_)
    clear hK3 K3
    refine (H10.out _).mono ?_
    rintro e wm2 ⟨rfl, hs2⟩
    have hS2 : _ := hS1.keep hs2
    refine ⟨_, rfl, hS2, ?_⟩
    clear hs2
    simp only [Act.put, List.setIfInBounds_toArray, List.set_cons_zero, List.set_cons_succ]
    refine mix_take hK4 (some 31) (.binOp BinOp.eql 4 (.tmp 28) (.tmp 30) 4) 4 _ (by kernel_rfl) (by kernel_rfl) (fun w' hS' => by simp only [opr]; go_simp; try with_reducible rfl) (fun K5 hK5 => ?_)
    clear hK4 K4
    simp only [Act.put, List.setIfInBounds_toArray, List.set_cons_zero, List.set_cons_succ]
    refine mix_take hK5 (some 32) (.move (.tmp 31)) 4 _ (by kernel_rfl) (by kernel_rfl) (fun w' hS' => by simp only [opr]; go_simp; try with_reducible rfl) (fun K6 hK6 => ?_)
    clear hK5 K5
    simp only [Act.put, List.setIfInBounds_toArray, List.set_cons_zero, List.set_cons_succ]
    refine mix_take hK6 (some 33) (.load 23 (.tmp 2)) 23 _ (by kernel_rfl) (by kernel_rfl) (fun w' hS' => by first | exact run_load_box rfl rfl hS'.1.2 | exact run_load_int rfl rfl hS'.1.2.c0) (fun K7 hK7 => ?_)
    clear hK6 K6
    simp only [Act.put, List.setIfInBounds_toArray, List.set_cons_zero, List.set_cons_succ]
    refine mix_take hK7 (some 34) (.move (.tmp 1)) 24 _ (by kernel_rfl) (by kernel_rfl) (fun w' hS' => by simp only [opr]; go_simp; try with_reducible rfl) (fun K8 hK8 => ?_)
    clear hK7 K7
    simp only [Act.put, List.setIfInBounds_toArray, List.set_cons_zero, List.set_cons_succ]
    refine mix_take hK8 (some 36) (.load 23 (.tmp 2)) 23 _ (by kernel_rfl) (by kernel_rfl) (fun w' hS' => by first | exact run_load_box rfl rfl hS'.1.2 | exact run_load_int rfl rfl hS'.1.2.c0) (fun K9 hK9 => ?_)
    clear hK8 K8
    simp only [Act.put, List.setIfInBounds_toArray, List.set_cons_zero, List.set_cons_succ]
    refine mix_take hK9 (some 37) (.move (.tmp 1)) 24 _ (by kernel_rfl) (by kernel_rfl) (fun w' hS' => by simp only [opr]; go_simp; try with_reducible rfl) (fun K10 hK10 => ?_)
    clear hK9 K9
    simp only [Act.put, List.setIfInBounds_toArray, List.set_cons_zero, List.set_cons_succ]
    refine mix_call hK10 (some 35) 11 #[.tmp 33, .tmp 34] #[23, 24] 23 _ (by kernel_rfl) (by kernel_rfl) (enters Try.func11 (by kernel_rfl) (by kernel_rfl)) (by go_simp; try with_reducible rfl) (fun K11 hK11 => ?_)
    clear hK10 K10
    refine (apply11 _ _ _ _ _ _ (HA.out.stay0 hS2.1.1) HL.out).mono ?_
    rintro e wm3 ⟨rfl, hs3⟩
    have hS3 : _ := hS2.keep hs3
    refine ⟨_, rfl, hS3, ?_⟩
    clear hs3
    simp only [Act.put, List.setIfInBounds_toArray, List.set_cons_zero, List.set_cons_succ]
    refine mix_call hK11 (some 38) 12 #[.tmp 36, .tmp 37] #[23, 24] 23 _ (by kernel_rfl) (by kernel_rfl) (enters Try.func12 (by kernel_rfl) (by kernel_rfl)) (by go_simp; try with_reducible rfl) (fun K12 hK12 => ?_)
    clear hK11 K11
    refine (refApply12 _ _ _ _ _ _ (HA.out.stay0 hS3.1.1) HL.out HW.out).mono ?_
    rintro e wm4 ⟨rfl, hs4⟩
    have hS4 : _ := hS3.keep hs4
    refine ⟨_, rfl, hS4, ?_⟩
    clear hs4
    simp only [Act.put, List.setIfInBounds_toArray, List.set_cons_zero, List.set_cons_succ]
    refine mix_take hK12 (some 39) (.binOp BinOp.eql 23 (.tmp 35) (.tmp 38) 23) 4 _ (by kernel_rfl) (by kernel_rfl) (fun w' hS' => by exact eql_same _ rfl rfl) (fun K13 hK13 => ?_)
    clear hK12 K12
    simp only [Act.put, List.setIfInBounds_toArray, List.set_cons_zero, List.set_cons_succ]
    refine mix_take hK13 (some 40) (.pick (.tmp 32) (.tmp 39) (.const (Value.bool false))) 4 _ (by kernel_rfl) (by kernel_rfl) (fun w' hS' => by simp only [opr]; go_simp; try with_reducible rfl) (fun K14 hK14 => ?_)
    clear hK13 K13
    simp only [Act.put, List.setIfInBounds_toArray, List.set_cons_zero, List.set_cons_succ]
    refine mix_take hK14 (some 41) (.move (.tmp 40)) 4 _ (by kernel_rfl) (by kernel_rfl) (fun w' hS' => by simp only [opr]; go_simp; try with_reducible rfl) (fun K15 hK15 => ?_)
    clear hK14 K14
    simp only [Act.put, List.setIfInBounds_toArray, List.set_cons_zero, List.set_cons_succ]
    refine mix_take hK15 (some 42) (.move (.tmp 9)) 24 _ (by kernel_rfl) (by kernel_rfl) (fun w' hS' => by simp only [opr]; go_simp; try with_reducible rfl) (fun K16 hK16 => ?_)
    clear hK15 K15
    simp only [Act.put, List.setIfInBounds_toArray, List.set_cons_zero, List.set_cons_succ]
    refine mix_take hK16 (some 43) (.fieldAddr 23 (.tmp 2) 0) 0 _ (by kernel_rfl) (by kernel_rfl) (fun w' hS' => by simp only [opr]; go_simp; try with_reducible rfl) (fun K17 hK17 => ?_)
    clear hK16 K16
    simp only [Act.put, List.setIfInBounds_toArray, List.set_cons_zero, List.set_cons_succ]
    refine mix_take hK17 (some 44) (.load 3 (.tmp 43)) 3 _ (by kernel_rfl) (by kernel_rfl) (fun w' hS' => by first | exact run_load_box rfl rfl hS'.1.2 | exact run_load_int rfl rfl hS'.1.2.c0) (fun K18 hK18 => ?_)
    clear hK17 K17
    simp only [Act.put, List.setIfInBounds_toArray, List.set_cons_zero, List.set_cons_succ]
    refine mix_call hK18 (some 45) 14 #[.tmp 44] #[3] 24 _ (by kernel_rfl) (by kernel_rfl) (enters Try.func14 (by kernel_rfl) (by kernel_rfl)) (by go_simp; try with_reducible rfl) (fun K19 hK19 => ?_)
    clear hK18 K18
    refine (H14.out _).mono ?_
    rintro e wm5 ⟨t5, rfl, hr, hs5⟩
    have hS5 : _ := hS4.keep hs5
    refine ⟨_, rfl, hS5, ?_⟩
    have HR2 := hide' hr
    have HR1 := hide' hS5.2
    clear hr
    clear hs5
    simp only [Act.put, List.setIfInBounds_toArray, List.set_cons_zero, List.set_cons_succ]
    refine mix_call hK19 (some 46) 13 #[.tmp 42, .tmp 45] #[24, 24] 4 _ (by kernel_rfl) (by kernel_rfl) (enters Try.func13 (by kernel_rfl) (by kernel_rfl)) (by go_simp; try with_reducible rfl) (fun K20 hK20 => ?_)
    clear hK19 K19
    refine (same13 _ _ _ _ HR1.out HR2.out HLL.out).mono ?_
    rintro e wm6 ⟨rfl, hs6⟩
    have hS6 : _ := hS5.keep hs6
    refine ⟨_, rfl, hS6, ?_⟩
    clear hs6
    simp only [Act.put, List.setIfInBounds_toArray, List.set_cons_zero, List.set_cons_succ]
    refine mix_take hK20 (some 47) (.pick (.tmp 41) (.tmp 46) (.const (Value.bool false))) 4 _ (by kernel_rfl) (by kernel_rfl) (fun w' hS' => by simp only [opr]; go_simp; try with_reducible rfl) (fun K21 hK21 => ?_)
    clear hK20 K20
    simp only [Act.put, List.setIfInBounds_toArray, List.set_cons_zero, List.set_cons_succ]
    refine mix_take hK21 (some 48) (.move (.tmp 47)) 4 _ (by kernel_rfl) (by kernel_rfl) (fun w' hS' => by simp only [opr]; go_simp; try with_reducible rfl) (fun K22 hK22 => ?_)
    clear hK21 K21
    simp only [Act.put, List.setIfInBounds_toArray, List.set_cons_zero, List.set_cons_succ]
    refine mix_take hK22 (some 49) (.move (.tmp 8)) 4 _ (by kernel_rfl) (by kernel_rfl) (fun w' hS' => by simp only [opr]; go_simp; try with_reducible rfl) (fun K23 hK23 => ?_)
    clear hK22 K22
    simp only [Act.put, List.setIfInBounds_toArray, List.set_cons_zero, List.set_cons_succ]
    refine mix_take hK23 (some 50) (.move (.tmp 49)) 4 _ (by kernel_rfl) (by kernel_rfl) (fun w' hS' => by simp only [opr]; go_simp; try with_reducible rfl) (fun K24 hK24 => ?_)
    clear hK23 K23
    simp only [Act.put, List.setIfInBounds_toArray, List.set_cons_zero, List.set_cons_succ]
    refine mix_take hK24 (some 51) (.move (.tmp 5)) 3 _ (by kernel_rfl) (by kernel_rfl) (fun w' hS' => by simp only [opr]; go_simp; try with_reducible rfl) (fun K25 hK25 => ?_)
    clear hK24 K24
    simp only [Act.put, List.setIfInBounds_toArray, List.set_cons_zero, List.set_cons_succ]
    refine mix_take hK25 (some 52) (.binOp BinOp.eql 3 (.tmp 51) (.const (Value.int IntKind.i64 0)) 3) 4 _ (by kernel_rfl) (by kernel_rfl) (fun w' hS' => by simp only [opr]; go_simp; try with_reducible rfl) (fun K26 hK26 => ?_)
    clear hK25 K25
    simp only [Act.put, List.setIfInBounds_toArray, List.set_cons_zero, List.set_cons_succ]
    refine mix_take hK26 (some 53) (.move (.tmp 52)) 4 _ (by kernel_rfl) (by kernel_rfl) (fun w' hS' => by simp only [opr]; go_simp; try with_reducible rfl) (fun K27 hK27 => ?_)
    clear hK26 K26
    simp only [Act.put, List.setIfInBounds_toArray, List.set_cons_zero, List.set_cons_succ]
    refine mix_take hK27 (some 54) (.move (.tmp 6)) 3 _ (by kernel_rfl) (by kernel_rfl) (fun w' hS' => by simp only [opr]; go_simp; try with_reducible rfl) (fun K28 hK28 => ?_)
    clear hK27 K27
    simp only [Act.put, List.setIfInBounds_toArray, List.set_cons_zero, List.set_cons_succ]
    refine mix_take hK28 (some 55) (.binOp BinOp.eql 3 (.tmp 54) (.const (Value.int IntKind.i64 0)) 3) 4 _ (by kernel_rfl) (by kernel_rfl) (fun w' hS' => by simp only [opr]; go_simp; try with_reducible rfl) (fun K29 hK29 => ?_)
    clear hK28 K28
    simp only [Act.put, List.setIfInBounds_toArray, List.set_cons_zero, List.set_cons_succ]
    refine mix_take hK29 (some 56) (.pick (.tmp 53) (.tmp 55) (.const (Value.bool false))) 4 _ (by kernel_rfl) (by kernel_rfl) (fun w' hS' => by simp only [opr]; go_simp; try with_reducible rfl) (fun K30 hK30 => ?_)
    clear hK29 K29
    simp only [Act.put, List.setIfInBounds_toArray, List.set_cons_zero, List.set_cons_succ]
    refine mix_take hK30 (some 57) (.move (.tmp 56)) 4 _ (by kernel_rfl) (by kernel_rfl) (fun w' hS' => by simp only [opr]; go_simp; try with_reducible rfl) (fun K31 hK31 => ?_)
    clear hK30 K30
    simp only [Act.put, List.setIfInBounds_toArray, List.set_cons_zero, List.set_cons_succ]
    refine mix_take hK31 (some 58) (.move (.tmp 7)) 3 _ (by kernel_rfl) (by kernel_rfl) (fun w' hS' => by simp only [opr]; go_simp; try with_reducible rfl) (fun K32 hK32 => ?_)
    clear hK31 K31
    simp only [Act.put, List.setIfInBounds_toArray, List.set_cons_zero, List.set_cons_succ]
    refine mix_take hK32 (some 59) (.binOp BinOp.eql 3 (.tmp 58) (.const (Value.int IntKind.i64 0)) 3) 4 _ (by kernel_rfl) (by kernel_rfl) (fun w' hS' => by simp only [opr]; go_simp; try with_reducible rfl) (fun K33 hK33 => ?_)
    clear hK32 K32
    simp only [Act.put, List.setIfInBounds_toArray, List.set_cons_zero, List.set_cons_succ]
    refine mix_take hK33 (some 60) (.pick (.tmp 57) (.tmp 59) (.const (Value.bool false))) 4 _ (by kernel_rfl) (by kernel_rfl) (fun w' hS' => by simp only [opr]; go_simp; try with_reducible rfl) (fun K34 hK34 => ?_)
    clear hK33 K33
    simp only [Act.put, List.setIfInBounds_toArray, List.set_cons_zero, List.set_cons_succ]
    refine mix_take hK34 (some 61) (.pick (.tmp 50) (.const (Value.bool true)) (.tmp 60)) 4 _ (by kernel_rfl) (by kernel_rfl) (fun w' hS' => by simp only [opr]; go_simp; try with_reducible rfl) (fun K35 hK35 => ?_)
    clear hK34 K34
    simp only [Act.put, List.setIfInBounds_toArray, List.set_cons_zero, List.set_cons_succ]
    refine mix_take hK35 (some 62) (.pick (.tmp 48) (.tmp 61) (.const (Value.bool false))) 4 _ (by kernel_rfl) (by kernel_rfl) (fun w' hS' => by simp only [opr]; go_simp; try with_reducible rfl) (fun K36 hK36 => ?_)
    clear hK35 K35
    simp only [Act.put, List.setIfInBounds_toArray, List.set_cons_zero, List.set_cons_succ]
    refine mix_take hK36 (some 63) (.move (.tmp 62)) 4 _ (by kernel_rfl) (by kernel_rfl) (fun w' hS' => by simp only [opr]; go_simp; try with_reducible rfl) (fun K37 hK37 => ?_)
    clear hK36 K36
    simp only [Act.put, List.setIfInBounds_toArray, List.set_cons_zero, List.set_cons_succ]
    refine mix_call hK37 (some 64) 7 #[] #[] 4 _ (by kernel_rfl) (by kernel_rfl) (enters Try.func7 (by kernel_rfl) (by kernel_rfl)) (by go_simp; try with_reducible rfl) (fun K38 hK38 => ?_)
    clear hK37 K37
    refine (awake7 _).mono ?_
    rintro e wm7 ⟨rfl, hs7⟩
    have hS7 : _ := hS6.keep hs7
    refine ⟨_, rfl, hS7, ?_⟩
    clear hs7
    simp only [Act.put, List.setIfInBounds_toArray, List.set_cons_zero, List.set_cons_succ]
    refine mix_take hK38 (some 65) (.pick (.tmp 63) (.tmp 64) (.const (Value.bool false))) 4 _ (by kernel_rfl) (by kernel_rfl) (fun w' hS' => by simp only [opr]; go_simp; try with_reducible rfl) (fun K39 hK39 => ?_)
    clear hK38 K38
    simp only [Act.put, List.setIfInBounds_toArray, List.set_cons_zero, List.set_cons_succ]
    refine mix_take hK39 (some 4) (.assign (.tmp 65)) 4 _ (by kernel_rfl) (by kernel_rfl) (fun w' hS' => by simp only [opr]; go_simp; try with_reducible rfl) (fun K40 hK40 => ?_)
    clear hK39 K39
    simp only [Act.put, List.setIfInBounds_toArray, List.set_cons_zero, List.set_cons_succ]
    refine hK40 _ _ (mix_nil ?_)
    clear hK40 K40
    go_wp2
    go_ret
    exact ⟨by simp, hS7.1.1⟩
  · have HLE : Hid (L = [r, g, b]) := show L = [r, g, b] from HLL0.out.trans hl
    clear hl
    have HLL : Hid (L.length ≤ 1000) := show L.length ≤ 1000 from by rw [HLE.out]; simp
    have HRW : Hid (Row (W.alloc (.cells #[.int .i64 r, .int .i64 g, .int .i64 b] 3)) (.slice (some ⟨W.heap.size, 0, none⟩) 3 3) L) := show Row _ _ _ from by
      have := HLW.out
      rw [HLE.out] at this ⊢
      exact row3 W rfl rfl rfl (this r (by simp)) (this g (by simp)) (this b (by simp))
    have HST2 := hide' (HST.out.keep ((Stay.refl _ W).alloc (.cells #[.int .i64 r, .int .i64 g, .int .i64 b] 3)))
    clear HST c0 c1 c2 f0 f1 f2
    obtain ⟨B, hB⟩ : ∃ B, B = W.heap.size := ⟨_, rfl⟩
    rw [← hB] at HRW
    go_wp2_with fail
    rw [← hB]
    clear hB
    obtain ⟨W2, hW2⟩ : ∃ W2, W2 = (W.alloc (.cells #[.int .i64 r, .int .i64 g, .int .i64 b] 3)) := ⟨_, rfl⟩
    rw [← hW2] at HRW HST2
    rw [← hW2]
    clear hW2
    have hS : OneR w w.heap.size p (.slice (some ⟨B, 0, none⟩) 3 3) L W2.drew := OneR.keep ⟨HST2.out, HRW.out⟩ ((Stay.refl _ _).drew)
    refine wp_region_mix (OneR w w.heap.size p (.slice (some ⟨B, 0, none⟩) 3 3) L) [(0, true), (2, true), (1, false), (3, false), (4, true), (5, true), (6, true), (7, true), (9, true), (10, true), (8, false), (11, false), (12, true), (13, true), (14, true), (15, true), (16, true), (17, true), (18, false), (19, false), (20, true), (21, true), (22, true), (23, true), (24, true), (25, true), (26, true), (27, true), (28, true), (29, true), (30, true), (31, true), (32, true), (33, true), (34, true), (35, true), (36, true), (37, false), (38, true), (39, true)] (by kernel_rfl) (by kernel_rfl) (fun _ d _ _ _ h => by cases d <;> exact h) hS ?_
    refine mix_begin (fun K0 hK0 => ?_)
    refine mix_take hK0 (some 27) (.load 23 (.tmp 2)) 23 _ (by kernel_rfl) (by kernel_rfl) (fun w' hS' => by first | exact run_load_box rfl rfl hS'.1.2 | exact run_load_int rfl rfl hS'.1.2.c0) (fun K1 hK1 => ?_)
    clear hK0 K0
    simp only [Act.put, List.setIfInBounds_toArray, List.set_cons_zero, List.set_cons_succ]
    refine mix_take hK1 (some 29) (.load 23 (.tmp 2)) 23 _ (by kernel_rfl) (by kernel_rfl) (fun w' hS' => by first | exact run_load_box rfl rfl hS'.1.2 | exact run_load_int rfl rfl hS'.1.2.c0) (fun K2 hK2 => ?_)
    clear hK1 K1
    simp only [Act.put, List.setIfInBounds_toArray, List.set_cons_zero, List.set_cons_succ]
    refine mix_call hK2 (some 28) 9 #[.tmp 27] #[23] 4 _ (by kernel_rfl) (by kernel_rfl) (enters Try.func9 (by kernel_rfl) (by kernel_rfl)) (by go_simp; try with_reducible rfl) (fun K3 hK3 => ?_)
    clear hK2 K2
    refine (H9.out _).mono ?_
    rintro e wm1 ⟨rfl, hs1⟩
    have hS1 : _ := hS.keep hs1
    refine ⟨_, rfl, hS1, ?_⟩
    clear hs1
    simp only [Act.put, List.setIfInBounds_toArray, List.set_cons_zero, List.set_cons_succ]
    refine mix_call hK3 (some 30) 10 #[.tmp 29] #[23] 4 _ (by kernel_rfl) (by kernel_rfl) (enters Try.func10 (by kernel_rfl) (by kernel_rfl)) (by go_simp; try with_reducible rfl) (fun K4 hK4 => ?_)
    clear hK3 K3
    refine (H10.out _).mono ?_
    rintro e wm2 ⟨rfl, hs2⟩
    have hS2 : _ := hS1.keep hs2
    refine ⟨_, rfl, hS2, ?_⟩
    clear hs2
    simp only [Act.put, List.setIfInBounds_toArray, List.set_cons_zero, List.set_cons_succ]
    refine mix_take hK4 (some 31) (.binOp BinOp.eql 4 (.tmp 28) (.tmp 30) 4) 4 _ (by kernel_rfl) (by kernel_rfl) (fun w' hS' => by simp only [opr]; go_simp; try with_reducible rfl) (fun K5 hK5 => ?_)
    clear hK4 K4
    simp only [Act.put, List.setIfInBounds_toArray, List.set_cons_zero, List.set_cons_succ]
    refine mix_take hK5 (some 32) (.move (.tmp 31)) 4 _ (by kernel_rfl) (by kernel_rfl) (fun w' hS' => by simp only [opr]; go_simp; try with_reducible rfl) (fun K6 hK6 => ?_)
    clear hK5 K5
    simp only [Act.put, List.setIfInBounds_toArray, List.set_cons_zero, List.set_cons_succ]
    refine mix_take hK6 (some 33) (.load 23 (.tmp 2)) 23 _ (by kernel_rfl) (by kernel_rfl) (fun w' hS' => by first | exact run_load_box rfl rfl hS'.1.2 | exact run_load_int rfl rfl hS'.1.2.c0) (fun K7 hK7 => ?_)
    clear hK6 K6
    simp only [Act.put, List.setIfInBounds_toArray, List.set_cons_zero, List.set_cons_succ]
    refine mix_take hK7 (some 34) (.move (.tmp 1)) 24 _ (by kernel_rfl) (by kernel_rfl) (fun w' hS' => by simp only [opr]; go_simp; try with_reducible rfl) (fun K8 hK8 => ?_)
    clear hK7 K7
    simp only [Act.put, List.setIfInBounds_toArray, List.set_cons_zero, List.set_cons_succ]
    refine mix_take hK8 (some 36) (.load 23 (.tmp 2)) 23 _ (by kernel_rfl) (by kernel_rfl) (fun w' hS' => by first | exact run_load_box rfl rfl hS'.1.2 | exact run_load_int rfl rfl hS'.1.2.c0) (fun K9 hK9 => ?_)
    clear hK8 K8
    simp only [Act.put, List.setIfInBounds_toArray, List.set_cons_zero, List.set_cons_succ]
    refine mix_take hK9 (some 37) (.move (.tmp 1)) 24 _ (by kernel_rfl) (by kernel_rfl) (fun w' hS' => by simp only [opr]; go_simp; try with_reducible rfl) (fun K10 hK10 => ?_)
    clear hK9 K9
    simp only [Act.put, List.setIfInBounds_toArray, List.set_cons_zero, List.set_cons_succ]
    refine mix_call hK10 (some 35) 11 #[.tmp 33, .tmp 34] #[23, 24] 23 _ (by kernel_rfl) (by kernel_rfl) (enters Try.func11 (by kernel_rfl) (by kernel_rfl)) (by go_simp; try with_reducible rfl) (fun K11 hK11 => ?_)
    clear hK10 K10
    refine (apply11 _ _ _ _ _ _ (HA.out.stay0 hS2.1.1) HL.out).mono ?_
    rintro e wm3 ⟨rfl, hs3⟩
    have hS3 : _ := hS2.keep hs3
    refine ⟨_, rfl, hS3, ?_⟩
    clear hs3
    simp only [Act.put, List.setIfInBounds_toArray, List.set_cons_zero, List.set_cons_succ]
    refine mix_call hK11 (some 38) 12 #[.tmp 36, .tmp 37] #[23, 24] 23 _ (by kernel_rfl) (by kernel_rfl) (enters Try.func12 (by kernel_rfl) (by kernel_rfl)) (by go_simp; try with_reducible rfl) (fun K12 hK12 => ?_)
    clear hK11 K11
    refine (refApply12 _ _ _ _ _ _ (HA.out.stay0 hS3.1.1) HL.out HW.out).mono ?_
    rintro e wm4 ⟨rfl, hs4⟩
    have hS4 : _ := hS3.keep hs4
    refine ⟨_, rfl, hS4, ?_⟩
    clear hs4
    simp only [Act.put, List.setIfInBounds_toArray, List.set_cons_zero, List.set_cons_succ]
    refine mix_take hK12 (some 39) (.binOp BinOp.eql 23 (.tmp 35) (.tmp 38) 23) 4 _ (by kernel_rfl) (by kernel_rfl) (fun w' hS' => by exact eql_same _ rfl rfl) (fun K13 hK13 => ?_)
    clear hK12 K12
    simp only [Act.put, List.setIfInBounds_toArray, List.set_cons_zero, List.set_cons_succ]
    refine mix_take hK13 (some 40) (.pick (.tmp 32) (.tmp 39) (.const (Value.bool false))) 4 _ (by kernel_rfl) (by kernel_rfl) (fun w' hS' => by simp only [opr]; go_simp; try with_reducible rfl) (fun K14 hK14 => ?_)
    clear hK13 K13
    simp only [Act.put, List.setIfInBounds_toArray, List.set_cons_zero, List.set_cons_succ]
    refine mix_take hK14 (some 41) (.move (.tmp 40)) 4 _ (by kernel_rfl) (by kernel_rfl) (fun w' hS' => by simp only [opr]; go_simp; try with_reducible rfl) (fun K15 hK15 => ?_)
    clear hK14 K14
    simp only [Act.put, List.setIfInBounds_toArray, List.set_cons_zero, List.set_cons_succ]
    refine mix_take hK15 (some 42) (.move (.tmp 9)) 24 _ (by kernel_rfl) (by kernel_rfl) (fun w' hS' => by simp only [opr]; go_simp; try with_reducible rfl) (fun K16 hK16 => ?_)
    clear hK15 K15
    simp only [Act.put, List.setIfInBounds_toArray, List.set_cons_zero, List.set_cons_succ]
    refine mix_take hK16 (some 43) (.fieldAddr 23 (.tmp 2) 0) 0 _ (by kernel_rfl) (by kernel_rfl) (fun w' hS' => by simp only [opr]; go_simp; try with_reducible rfl) (fun K17 hK17 => ?_)
    clear hK16 K16
    simp only [Act.put, List.setIfInBounds_toArray, List.set_cons_zero, List.set_cons_succ]
    refine mix_take hK17 (some 44) (.load 3 (.tmp 43)) 3 _ (by kernel_rfl) (by kernel_rfl) (fun w' hS' => by first | exact run_load_box rfl rfl hS'.1.2 | exact run_load_int rfl rfl hS'.1.2.c0) (fun K18 hK18 => ?_)
    clear hK17 K17
    simp only [Act.put, List.setIfInBounds_toArray, List.set_cons_zero, List.set_cons_succ]
    refine mix_call hK18 (some 45) 14 #[.tmp 44] #[3] 24 _ (by kernel_rfl) (by kernel_rfl) (enters Try.func14 (by kernel_rfl) (by kernel_rfl)) (by go_simp; try with_reducible rfl) (fun K19 hK19 => ?_)
    clear hK18 K18
    refine (H14.out _).mono ?_
    rintro e wm5 ⟨t5, rfl, hr, hs5⟩
    have hS5 : _ := hS4.keep hs5
    refine ⟨_, rfl, hS5, ?_⟩
    have HR2 := hide' hr
    have HR1 := hide' hS5.2
    clear hr
    clear hs5
    simp only [Act.put, List.setIfInBounds_toArray, List.set_cons_zero, List.set_cons_succ]
    refine mix_call hK19 (some 46) 13 #[.tmp 42, .tmp 45] #[24, 24] 4 _ (by kernel_rfl) (by kernel_rfl) (enters Try.func13 (by kernel_rfl) (by kernel_rfl)) (by go_simp; try with_reducible rfl) (fun K20 hK20 => ?_)
    clear hK19 K19
    refine (same13 _ _ _ _ HR1.out HR2.out HLL.out).mono ?_
    rintro e wm6 ⟨rfl, hs6⟩
    have hS6 : _ := hS5.keep hs6
    refine ⟨_, rfl, hS6, ?_⟩
    clear hs6
    simp only [Act.put, List.setIfInBounds_toArray, List.set_cons_zero, List.set_cons_succ]
    refine mix_take hK20 (some 47) (.pick (.tmp 41) (.tmp 46) (.const (Value.bool false))) 4 _ (by kernel_rfl) (by kernel_rfl) (fun w' hS' => by simp only [opr]; go_simp; try with_reducible rfl) (fun K21 hK21 => ?_)
    clear hK20 K20
    simp only [Act.put, List.setIfInBounds_toArray, List.set_cons_zero, List.set_cons_succ]
    refine mix_take hK21 (some 48) (.move (.tmp 47)) 4 _ (by kernel_rfl) (by kernel_rfl) (fun w' hS' => by simp only [opr]; go_simp; try with_reducible rfl) (fun K22 hK22 => ?_)
    clear hK21 K21
    simp only [Act.put, List.setIfInBounds_toArray, List.set_cons_zero, List.set_cons_succ]
    refine mix_take hK22 (some 49) (.move (.tmp 8)) 4 _ (by kernel_rfl) (by kernel_rfl) (fun w' hS' => by simp only [opr]; go_simp; try with_reducible rfl) (fun K23 hK23 => ?_)
    clear hK22 K22
    simp only [Act.put, List.setIfInBounds_toArray, List.set_cons_zero, List.set_cons_succ]
    refine mix_take hK23 (some 50) (.move (.tmp 49)) 4 _ (by kernel_rfl) (by kernel_rfl) (fun w' hS' => by simp only [opr]; go_simp; try with_reducible rfl) (fun K24 hK24 => ?_)
    clear hK23 K23
    simp only [Act.put, List.setIfInBounds_toArray, List.set_cons_zero, List.set_cons_succ]
    refine mix_skip hK24 (some 51) (by kernel_rfl) (by kernel_rfl) hS6 (fun K25 hK25 => ?_)
    clear hK24 K24
    simp only [Act.put, List.setIfInBounds_toArray, List.set_cons_zero, List.set_cons_succ]
    refine mix_skip hK25 (some 52) (by kernel_rfl) (by kernel_rfl) hS6 (fun K26 hK26 => ?_)
    clear hK25 K25
    simp only [Act.put, List.setIfInBounds_toArray, List.set_cons_zero, List.set_cons_succ]
    refine mix_skip hK26 (some 53) (by kernel_rfl) (by kernel_rfl) hS6 (fun K27 hK27 => ?_)
    clear hK26 K26
    simp only [Act.put, List.setIfInBounds_toArray, List.set_cons_zero, List.set_cons_succ]
    refine mix_skip hK27 (some 54) (by kernel_rfl) (by kernel_rfl) hS6 (fun K28 hK28 => ?_)
    clear hK27 K27
    simp only [Act.put, List.setIfInBounds_toArray, List.set_cons_zero, List.set_cons_succ]
    refine mix_skip hK28 (some 55) (by kernel_rfl) (by kernel_rfl) hS6 (fun K29 hK29 => ?_)
    clear hK28 K28
    simp only [Act.put, List.setIfInBounds_toArray, List.set_cons_zero, List.set_cons_succ]
    refine mix_skip hK29 (some 56) (by kernel_rfl) (by kernel_rfl) hS6 (fun K30 hK30 => ?_)
    clear hK29 K29
    simp only [Act.put, List.setIfInBounds_toArray, List.set_cons_zero, List.set_cons_succ]
    refine mix_skip hK30 (some 57) (by kernel_rfl) (by kernel_rfl) hS6 (fun K31 hK31 => ?_)
    clear hK30 K30
    simp only [Act.put, List.setIfInBounds_toArray, List.set_cons_zero, List.set_cons_succ]
    refine mix_skip hK31 (some 58) (by kernel_rfl) (by kernel_rfl) hS6 (fun K32 hK32 => ?_)
    clear hK31 K31
    simp only [Act.put, List.setIfInBounds_toArray, List.set_cons_zero, List.set_cons_succ]
    refine mix_skip hK32 (some 59) (by kernel_rfl) (by kernel_rfl) hS6 (fun K33 hK33 => ?_)
    clear hK32 K32
    simp only [Act.put, List.setIfInBounds_toArray, List.set_cons_zero, List.set_cons_succ]
    refine mix_skip hK33 (some 60) (by kernel_rfl) (by kernel_rfl) hS6 (fun K34 hK34 => ?_)
    clear hK33 K33
    simp only [Act.put, List.setIfInBounds_toArray, List.set_cons_zero, List.set_cons_succ]
    refine mix_take hK34 (some 61) (.pick (.tmp 50) (.const (Value.bool true)) (.tmp 60)) 4 _ (by kernel_rfl) (by kernel_rfl) (fun w' hS' => by simp only [opr]; go_simp; try with_reducible rfl) (fun K35 hK35 => ?_)
    clear hK34 K34
    simp only [Act.put, List.setIfInBounds_toArray, List.set_cons_zero, List.set_cons_succ]
    refine mix_take hK35 (some 62) (.pick (.tmp 48) (.tmp 61) (.const (Value.bool false))) 4 _ (by kernel_rfl) (by kernel_rfl) (fun w' hS' => by simp only [opr]; go_simp; try with_reducible rfl) (fun K36 hK36 => ?_)
    clear hK35 K35
    simp only [Act.put, List.setIfInBounds_toArray, List.set_cons_zero, List.set_cons_succ]
    refine mix_take hK36 (some 63) (.move (.tmp 62)) 4 _ (by kernel_rfl) (by kernel_rfl) (fun w' hS' => by simp only [opr]; go_simp; try with_reducible rfl) (fun K37 hK37 => ?_)
    clear hK36 K36
    simp only [Act.put, List.setIfInBounds_toArray, List.set_cons_zero, List.set_cons_succ]
    refine mix_call hK37 (some 64) 7 #[] #[] 4 _ (by kernel_rfl) (by kernel_rfl) (enters Try.func7 (by kernel_rfl) (by kernel_rfl)) (by go_simp; try with_reducible rfl) (fun K38 hK38 => ?_)
    clear hK37 K37
    refine (awake7 _).mono ?_
    rintro e wm7 ⟨rfl, hs7⟩
    have hS7 : _ := hS6.keep hs7
    refine ⟨_, rfl, hS7, ?_⟩
    clear hs7
    simp only [Act.put, List.setIfInBounds_toArray, List.set_cons_zero, List.set_cons_succ]
    refine mix_take hK38 (some 65) (.pick (.tmp 63) (.tmp 64) (.const (Value.bool false))) 4 _ (by kernel_rfl) (by kernel_rfl) (fun w' hS' => by simp only [opr]; go_simp; try with_reducible rfl) (fun K39 hK39 => ?_)
    clear hK38 K38
    simp only [Act.put, List.setIfInBounds_toArray, List.set_cons_zero, List.set_cons_succ]
    refine mix_take hK39 (some 4) (.assign (.tmp 65)) 4 _ (by kernel_rfl) (by kernel_rfl) (fun w' hS' => by simp only [opr]; go_simp; try with_reducible rfl) (fun K40 hK40 => ?_)
    clear hK39 K39
    simp only [Act.put, List.setIfInBounds_toArray, List.set_cons_zero, List.set_cons_succ]
    refine hK40 _ _ (mix_nil ?_)
    clear hK40 K40
    go_wp2
    go_ret
    exact ⟨by simp, hS7.1.1⟩

end Go.Proofs.Ytinikpadbocfaaa
