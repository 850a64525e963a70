/-
  Has, Area, Meets, Both of the document, walked. No conditions.
-/
import Derived.Test.YtloijopnfnhnhaaC3
import Derived.Test.YtloijopnfnhnhaaA1
namespace Go.Proofs.Ytloijopnfnhnhaa
open Go.RowKit

/-- What stands of two boxes while a statement is worked out. -/
def Two (w : World) (a b : R) (w' : World) : Prop := Stay (fun _ => False) w w' ∧ Box w' w.heap.size a ∧ Box w' (w.heap.size + 1) b

theorem Two.keep {w W w1 : World} {a b : R} (h : Two w a b W) (hs : Stay (fun _ => False) W w1) : Two w a b w1 := ⟨h.1.trans hs, h.2.1.keep hs, h.2.2.keep hs⟩

theorem two_new (a b : R) (w : World) : Two w a b ((w.alloc (.cells #[.int .i64 a.x, .int .i64 a.y, .int .i64 a.w, .int .i64 a.h] 23)).alloc (.cells #[.int .i64 b.x, .int .i64 b.y, .int .i64 b.w, .int .i64 b.h] 23)) :=
  ⟨((Stay.refl _ w).alloc _).alloc _, (Box.new a rfl).alloc _, Box.new b (by simp)⟩

theorem run_load_box {a : Act} {o : Oper} {x : Operand} {w : World} {b : Nat} {r : R} (ho : o.op = .load 23 x) (hx : a.eval x = .pointer (some ⟨b, 0, none⟩)) (hb : Box w b r) :
    (execOp a.eval o).run Try.prog w = .ok (.value (.agg #[.int .i64 r.x, .int .i64 r.y, .int .i64 r.w, .int .i64 r.h])) w := by
  unfold execOp
  simp only [ho, hx, Instr.loadAt, Instr.sureAddr, Sem.run_bind, Sem.run_pure, Result.andThen_ok]
  rw [run_loadVar_cells w b 0 23 _ _ hb.cells Try.underlying23 rfl (by kernel_rfl)]
  rfl

theorem eql_op {a : Act} {x y : Operand} {w : World} {d : Option Tmp} {ty : TypeId} (p q : R) (hx : a.eval x = .agg #[.int .i64 p.x, .int .i64 p.y, .int .i64 p.w, .int .i64 p.h]) (hy : a.eval y = .agg #[.int .i64 q.x, .int .i64 q.y, .int .i64 q.w, .int .i64 q.h]) :
    (execOp a.eval (opr d (.binOp .eql 23 x y 23) ty)).run Try.prog w = .ok (.value (.bool (decide (p = q)))) w := by
  obtain ⟨p0, p1, p2, p3⟩ := p
  obtain ⟨q0, q1, q2, q3⟩ := q
  simp only [opr, execOp, hx, hy]
  by_cases h0 : p0 = q0 <;> by_cases h1 : p1 = q1 <;> by_cases h2 : p2 = q2 <;> by_cases h3 : p3 = q3 <;> (go_simp; try simp [h0, h1, h2, h3])

def hasB (a b : R) : Bool := (rightB a && rightB b) && (emptyB b || decide (bothR a b = b))

set_option maxHeartbeats 1000000 in
theorem has11 (a b : R) (w : World) : Calls Try.prog 11 #[.agg #[.int .i64 a.x, .int .i64 a.y, .int .i64 a.w, .int .i64 a.h], .agg #[.int .i64 b.x, .int .i64 b.y, .int .i64 b.w, .int .i64 b.h]] w (Gives (.bool (hasB a b)) w) := by
  have HS := hide' (two_new a b w)
  have HR := hide' (right23 a b)
  have HE := hide' (empty8 b)
  have HX := hide' (both9 a b)
  unfold hasB
  obtain ⟨c, hc⟩ : ∃ c, c = (rightB a && rightB b) := ⟨_, rfl⟩
  obtain ⟨ce, hce⟩ : ∃ c, c = emptyB b := ⟨_, rfl⟩
  obtain ⟨q, hq⟩ : ∃ q, q = bothR a b := ⟨_, rfl⟩
  rw [← hc] at HR
  rw [← hce] at HE
  rw [← hq] at HX
  rw [← hc, ← hce, ← hq]
  clear hc hce hq
  cases c
  · clear HE HX
    go_enter Try.func11, Try.ntmps11
    go_wp2_with fail
    have hS := HS.out.keep ((Stay.refl _ _).drew)
    refine wp_region_mix (Two w a b) [(0, true), (1, true), (2, false), (3, true), (4, true), (5, false), (6, true), (7, true), (8, true), (10, true), (9, false), (11, true), (12, true), (13, true), (14, true)] (by kernel_rfl) (by kernel_rfl) (fun _ d _ _ _ h => by cases d <;> exact h) hS ?_
    refine mix_begin (fun K0 hK0 => ?_)
    refine mix_take hK0 (some 5) (.load 23 (.tmp 2)) 23 _ (by kernel_rfl) (by kernel_rfl) (fun w' hS' => by first | exact run_load_box rfl rfl hS'.2.1 | exact run_load_box rfl rfl hS'.2.2) (fun K1 hK1 => ?_)
    clear hK0 K0
    simp only [Act.put, List.setIfInBounds_toArray, List.set_cons_zero, List.set_cons_succ]
    refine mix_take hK1 (some 6) (.load 23 (.tmp 3)) 23 _ (by kernel_rfl) (by kernel_rfl) (fun w' hS' => by first | exact run_load_box rfl rfl hS'.2.1 | exact run_load_box rfl rfl hS'.2.2) (fun K2 hK2 => ?_)
    clear hK1 K1
    simp only [Act.put, List.setIfInBounds_toArray, List.set_cons_zero, List.set_cons_succ]
    refine mix_call hK2 (some 7) 23 #[.tmp 5, .tmp 6] #[23, 23] 4 _ (by kernel_rfl) (by kernel_rfl) (enters Try.func23 (by kernel_rfl) (by kernel_rfl)) (by go_simp; try with_reducible rfl) (fun K3 hK3 => ?_)
    clear hK2 K2
    refine (HR.out _).mono ?_
    rintro e wm1 ⟨rfl, hs1⟩
    have hS1 : _ := hS.keep hs1
    refine ⟨_, rfl, hS1, ?_⟩
    clear hs1
    simp only [Act.put, List.setIfInBounds_toArray, List.set_cons_zero, List.set_cons_succ]
    refine mix_take hK3 (some 8) (.move (.tmp 7)) 4 _ (by kernel_rfl) (by kernel_rfl) (fun w' hS' => by simp only [opr]; go_simp; try with_reducible rfl) (fun K4 hK4 => ?_)
    clear hK3 K3
    simp only [Act.put, List.setIfInBounds_toArray, List.set_cons_zero, List.set_cons_succ]
    refine mix_skip hK4 (some 9) (by kernel_rfl) (by kernel_rfl) hS1 (fun K5 hK5 => ?_)
    clear hK4 K4
    simp only [Act.put, List.setIfInBounds_toArray, List.set_cons_zero, List.set_cons_succ]
    refine mix_skip hK5 (some 10) (by kernel_rfl) (by kernel_rfl) hS1 (fun K6 hK6 => ?_)
    clear hK5 K5
    simp only [Act.put, List.setIfInBounds_toArray, List.set_cons_zero, List.set_cons_succ]
    refine mix_skip hK6 (some 11) (by kernel_rfl) (by kernel_rfl) hS1 (fun K7 hK7 => ?_)
    clear hK6 K6
    simp only [Act.put, List.setIfInBounds_toArray, List.set_cons_zero, List.set_cons_succ]
    refine mix_skip hK7 (some 12) (by kernel_rfl) (by kernel_rfl) hS1 (fun K8 hK8 => ?_)
    clear hK7 K7
    simp only [Act.put, List.setIfInBounds_toArray, List.set_cons_zero, List.set_cons_succ]
    refine mix_skip hK8 (some 13) (by kernel_rfl) (by kernel_rfl) hS1 (fun K9 hK9 => ?_)
    clear hK8 K8
    simp only [Act.put, List.setIfInBounds_toArray, List.set_cons_zero, List.set_cons_succ]
    refine mix_skip hK9 (some 15) (by kernel_rfl) (by kernel_rfl) hS1 (fun K10 hK10 => ?_)
    clear hK9 K9
    simp only [Act.put, List.setIfInBounds_toArray, List.set_cons_zero, List.set_cons_succ]
    refine mix_skip hK10 (some 14) (by kernel_rfl) (by kernel_rfl) hS1 (fun K11 hK11 => ?_)
    clear hK10 K10
    simp only [Act.put, List.setIfInBounds_toArray, List.set_cons_zero, List.set_cons_succ]
    refine mix_skip hK11 (some 16) (by kernel_rfl) (by kernel_rfl) hS1 (fun K12 hK12 => ?_)
    clear hK11 K11
    simp only [Act.put, List.setIfInBounds_toArray, List.set_cons_zero, List.set_cons_succ]
    refine mix_skip hK12 (some 17) (by kernel_rfl) (by kernel_rfl) hS1 (fun K13 hK13 => ?_)
    clear hK12 K12
    simp only [Act.put, List.setIfInBounds_toArray, List.set_cons_zero, List.set_cons_succ]
    refine mix_take hK13 (some 18) (.pick (.tmp 8) (.tmp 17) (.const (Value.bool false))) 4 _ (by kernel_rfl) (by kernel_rfl) (fun w' hS' => by simp only [opr]; go_simp; try with_reducible rfl) (fun K14 hK14 => ?_)
    clear hK13 K13
    simp only [Act.put, List.setIfInBounds_toArray, List.set_cons_zero, List.set_cons_succ]
    refine mix_take hK14 (some 4) (.assign (.tmp 18)) 4 _ (by kernel_rfl) (by kernel_rfl) (fun w' hS' => by simp only [opr]; go_simp; try with_reducible rfl) (fun K15 hK15 => ?_)
    clear hK14 K14
    simp only [Act.put, List.setIfInBounds_toArray, List.set_cons_zero, List.set_cons_succ]
    refine hK15 _ _ (mix_nil ?_)
    clear hK15 K15
    go_wp2
    go_ret
    exact ⟨ret_bool (by simp), hS1.1⟩
  cases ce
  · have HQ : Hid True := trivial
    go_enter Try.func11, Try.ntmps11
    go_wp2_with fail
    have hS := HS.out.keep ((Stay.refl _ _).drew)
    refine wp_region_mix (Two w a b) [(0, true), (1, true), (2, false), (3, true), (4, true), (5, false), (6, true), (7, true), (8, true), (10, true), (9, false), (11, true), (12, true), (13, true), (14, true)] (by kernel_rfl) (by kernel_rfl) (fun _ d _ _ _ h => by cases d <;> exact h) hS ?_
    refine mix_begin (fun K0 hK0 => ?_)
    refine mix_take hK0 (some 5) (.load 23 (.tmp 2)) 23 _ (by kernel_rfl) (by kernel_rfl) (fun w' hS' => by first | exact run_load_box rfl rfl hS'.2.1 | exact run_load_box rfl rfl hS'.2.2) (fun K1 hK1 => ?_)
    clear hK0 K0
    simp only [Act.put, List.setIfInBounds_toArray, List.set_cons_zero, List.set_cons_succ]
    refine mix_take hK1 (some 6) (.load 23 (.tmp 3)) 23 _ (by kernel_rfl) (by kernel_rfl) (fun w' hS' => by first | exact run_load_box rfl rfl hS'.2.1 | exact run_load_box rfl rfl hS'.2.2) (fun K2 hK2 => ?_)
    clear hK1 K1
    simp only [Act.put, List.setIfInBounds_toArray, List.set_cons_zero, List.set_cons_succ]
    refine mix_call hK2 (some 7) 23 #[.tmp 5, .tmp 6] #[23, 23] 4 _ (by kernel_rfl) (by kernel_rfl) (enters Try.func23 (by kernel_rfl) (by kernel_rfl)) (by go_simp; try with_reducible rfl) (fun K3 hK3 => ?_)
    clear hK2 K2
    refine (HR.out _).mono ?_
    rintro e wm1 ⟨rfl, hs1⟩
    have hS1 : _ := hS.keep hs1
    refine ⟨_, rfl, hS1, ?_⟩
    clear hs1
    simp only [Act.put, List.setIfInBounds_toArray, List.set_cons_zero, List.set_cons_succ]
    refine mix_take hK3 (some 8) (.move (.tmp 7)) 4 _ (by kernel_rfl) (by kernel_rfl) (fun w' hS' => by simp only [opr]; go_simp; try with_reducible rfl) (fun K4 hK4 => ?_)
    clear hK3 K3
    simp only [Act.put, List.setIfInBounds_toArray, List.set_cons_zero, List.set_cons_succ]
    refine mix_take hK4 (some 9) (.load 23 (.tmp 3)) 23 _ (by kernel_rfl) (by kernel_rfl) (fun w' hS' => by first | exact run_load_box rfl rfl hS'.2.1 | exact run_load_box rfl rfl hS'.2.2) (fun K5 hK5 => ?_)
    clear hK4 K4
    simp only [Act.put, List.setIfInBounds_toArray, List.set_cons_zero, List.set_cons_succ]
    refine mix_call hK5 (some 10) 8 #[.tmp 9] #[23] 4 _ (by kernel_rfl) (by kernel_rfl) (enters Try.func8 (by kernel_rfl) (by kernel_rfl)) (by go_simp; try with_reducible rfl) (fun K6 hK6 => ?_)
    clear hK5 K5
    refine (HE.out _).mono ?_
    rintro e wm2 ⟨rfl, hs2⟩
    have hS2 : _ := hS1.keep hs2
    refine ⟨_, rfl, hS2, ?_⟩
    clear hs2
    simp only [Act.put, List.setIfInBounds_toArray, List.set_cons_zero, List.set_cons_succ]
    refine mix_take hK6 (some 11) (.move (.tmp 10)) 4 _ (by kernel_rfl) (by kernel_rfl) (fun w' hS' => by simp only [opr]; go_simp; try with_reducible rfl) (fun K7 hK7 => ?_)
    clear hK6 K6
    simp only [Act.put, List.setIfInBounds_toArray, List.set_cons_zero, List.set_cons_succ]
    refine mix_take hK7 (some 12) (.load 23 (.tmp 2)) 23 _ (by kernel_rfl) (by kernel_rfl) (fun w' hS' => by first | exact run_load_box rfl rfl hS'.2.1 | exact run_load_box rfl rfl hS'.2.2) (fun K8 hK8 => ?_)
    clear hK7 K7
    simp only [Act.put, List.setIfInBounds_toArray, List.set_cons_zero, List.set_cons_succ]
    refine mix_take hK8 (some 13) (.load 23 (.tmp 3)) 23 _ (by kernel_rfl) (by kernel_rfl) (fun w' hS' => by first | exact run_load_box rfl rfl hS'.2.1 | exact run_load_box rfl rfl hS'.2.2) (fun K9 hK9 => ?_)
    clear hK8 K8
    simp only [Act.put, List.setIfInBounds_toArray, List.set_cons_zero, List.set_cons_succ]
    refine mix_take hK9 (some 15) (.load 23 (.tmp 3)) 23 _ (by kernel_rfl) (by kernel_rfl) (fun w' hS' => by first | exact run_load_box rfl rfl hS'.2.1 | exact run_load_box rfl rfl hS'.2.2) (fun K10 hK10 => ?_)
    clear hK9 K9
    simp only [Act.put, List.setIfInBounds_toArray, List.set_cons_zero, List.set_cons_succ]
    refine mix_call hK10 (some 14) 9 #[.tmp 12, .tmp 13] #[23, 23] 23 _ (by kernel_rfl) (by kernel_rfl) (enters Try.func9 (by kernel_rfl) (by kernel_rfl)) (by go_simp; try with_reducible rfl) (fun K11 hK11 => ?_)
    clear hK10 K10
    refine (HX.out _).mono ?_
    rintro e wm3 ⟨rfl, hs3⟩
    have hS3 : _ := hS2.keep hs3
    refine ⟨_, rfl, hS3, ?_⟩
    clear hs3
    simp only [Act.put, List.setIfInBounds_toArray, List.set_cons_zero, List.set_cons_succ]
    refine mix_take hK11 (some 16) (.binOp BinOp.eql 23 (.tmp 14) (.tmp 15) 23) 4 _ (by kernel_rfl) (by kernel_rfl) (fun w' hS' => by exact eql_op _ _ rfl rfl) (fun K12 hK12 => ?_)
    clear hK11 K11
    simp only [Act.put, List.setIfInBounds_toArray, List.set_cons_zero, List.set_cons_succ]
    refine mix_take hK12 (some 17) (.pick (.tmp 11) (.const (Value.bool true)) (.tmp 16)) 4 _ (by kernel_rfl) (by kernel_rfl) (fun w' hS' => by simp only [opr]; go_simp; try with_reducible rfl) (fun K13 hK13 => ?_)
    clear hK12 K12
    simp only [Act.put, List.setIfInBounds_toArray, List.set_cons_zero, List.set_cons_succ]
    refine mix_take hK13 (some 18) (.pick (.tmp 8) (.tmp 17) (.const (Value.bool false))) 4 _ (by kernel_rfl) (by kernel_rfl) (fun w' hS' => by simp only [opr]; go_simp; try with_reducible rfl) (fun K14 hK14 => ?_)
    clear hK13 K13
    simp only [Act.put, List.setIfInBounds_toArray, List.set_cons_zero, List.set_cons_succ]
    refine mix_take hK14 (some 4) (.assign (.tmp 18)) 4 _ (by kernel_rfl) (by kernel_rfl) (fun w' hS' => by simp only [opr]; go_simp; try with_reducible rfl) (fun K15 hK15 => ?_)
    clear hK14 K14
    simp only [Act.put, List.setIfInBounds_toArray, List.set_cons_zero, List.set_cons_succ]
    refine hK15 _ _ (mix_nil ?_)
    clear hK15 K15
    go_wp2
    go_ret
    exact ⟨ret_bool (by simp), hS3.1⟩
  · clear HX
    go_enter Try.func11, Try.ntmps11
    go_wp2_with fail
    have hS := HS.out.keep ((Stay.refl _ _).drew)
    refine wp_region_mix (Two w a b) [(0, true), (1, true), (2, false), (3, true), (4, true), (5, false), (6, true), (7, true), (8, true), (10, true), (9, false), (11, true), (12, true), (13, true), (14, true)] (by kernel_rfl) (by kernel_rfl) (fun _ d _ _ _ h => by cases d <;> exact h) hS ?_
    refine mix_begin (fun K0 hK0 => ?_)
    refine mix_take hK0 (some 5) (.load 23 (.tmp 2)) 23 _ (by kernel_rfl) (by kernel_rfl) (fun w' hS' => by first | exact run_load_box rfl rfl hS'.2.1 | exact run_load_box rfl rfl hS'.2.2) (fun K1 hK1 => ?_)
    clear hK0 K0
    simp only [Act.put, List.setIfInBounds_toArray, List.set_cons_zero, List.set_cons_succ]
    refine mix_take hK1 (some 6) (.load 23 (.tmp 3)) 23 _ (by kernel_rfl) (by kernel_rfl) (fun w' hS' => by first | exact run_load_box rfl rfl hS'.2.1 | exact run_load_box rfl rfl hS'.2.2) (fun K2 hK2 => ?_)
    clear hK1 K1
    simp only [Act.put, List.setIfInBounds_toArray, List.set_cons_zero, List.set_cons_succ]
    refine mix_call hK2 (some 7) 23 #[.tmp 5, .tmp 6] #[23, 23] 4 _ (by kernel_rfl) (by kernel_rfl) (enters Try.func23 (by kernel_rfl) (by kernel_rfl)) (by go_simp; try with_reducible rfl) (fun K3 hK3 => ?_)
    clear hK2 K2
    refine (HR.out _).mono ?_
    rintro e wm1 ⟨rfl, hs1⟩
    have hS1 : _ := hS.keep hs1
    refine ⟨_, rfl, hS1, ?_⟩
    clear hs1
    simp only [Act.put, List.setIfInBounds_toArray, List.set_cons_zero, List.set_cons_succ]
    refine mix_take hK3 (some 8) (.move (.tmp 7)) 4 _ (by kernel_rfl) (by kernel_rfl) (fun w' hS' => by simp only [opr]; go_simp; try with_reducible rfl) (fun K4 hK4 => ?_)
    clear hK3 K3
    simp only [Act.put, List.setIfInBounds_toArray, List.set_cons_zero, List.set_cons_succ]
    refine mix_take hK4 (some 9) (.load 23 (.tmp 3)) 23 _ (by kernel_rfl) (by kernel_rfl) (fun w' hS' => by first | exact run_load_box rfl rfl hS'.2.1 | exact run_load_box rfl rfl hS'.2.2) (fun K5 hK5 => ?_)
    clear hK4 K4
    simp only [Act.put, List.setIfInBounds_toArray, List.set_cons_zero, List.set_cons_succ]
    refine mix_call hK5 (some 10) 8 #[.tmp 9] #[23] 4 _ (by kernel_rfl) (by kernel_rfl) (enters Try.func8 (by kernel_rfl) (by kernel_rfl)) (by go_simp; try with_reducible rfl) (fun K6 hK6 => ?_)
    clear hK5 K5
    refine (HE.out _).mono ?_
    rintro e wm2 ⟨rfl, hs2⟩
    have hS2 : _ := hS1.keep hs2
    refine ⟨_, rfl, hS2, ?_⟩
    clear hs2
    simp only [Act.put, List.setIfInBounds_toArray, List.set_cons_zero, List.set_cons_succ]
    refine mix_take hK6 (some 11) (.move (.tmp 10)) 4 _ (by kernel_rfl) (by kernel_rfl) (fun w' hS' => by simp only [opr]; go_simp; try with_reducible rfl) (fun K7 hK7 => ?_)
    clear hK6 K6
    simp only [Act.put, List.setIfInBounds_toArray, List.set_cons_zero, List.set_cons_succ]
    refine mix_skip hK7 (some 12) (by kernel_rfl) (by kernel_rfl) hS2 (fun K8 hK8 => ?_)
    clear hK7 K7
    simp only [Act.put, List.setIfInBounds_toArray, List.set_cons_zero, List.set_cons_succ]
    refine mix_skip hK8 (some 13) (by kernel_rfl) (by kernel_rfl) hS2 (fun K9 hK9 => ?_)
    clear hK8 K8
    simp only [Act.put, List.setIfInBounds_toArray, List.set_cons_zero, List.set_cons_succ]
    refine mix_skip hK9 (some 15) (by kernel_rfl) (by kernel_rfl) hS2 (fun K10 hK10 => ?_)
    clear hK9 K9
    simp only [Act.put, List.setIfInBounds_toArray, List.set_cons_zero, List.set_cons_succ]
    refine mix_skip hK10 (some 14) (by kernel_rfl) (by kernel_rfl) hS2 (fun K11 hK11 => ?_)
    clear hK10 K10
    simp only [Act.put, List.setIfInBounds_toArray, List.set_cons_zero, List.set_cons_succ]
    refine mix_skip hK11 (some 16) (by kernel_rfl) (by kernel_rfl) hS2 (fun K12 hK12 => ?_)
    clear hK11 K11
    simp only [Act.put, List.setIfInBounds_toArray, List.set_cons_zero, List.set_cons_succ]
    refine mix_take hK12 (some 17) (.pick (.tmp 11) (.const (Value.bool true)) (.tmp 16)) 4 _ (by kernel_rfl) (by kernel_rfl) (fun w' hS' => by simp only [opr]; go_simp; try with_reducible rfl) (fun K13 hK13 => ?_)
    clear hK12 K12
    simp only [Act.put, List.setIfInBounds_toArray, List.set_cons_zero, List.set_cons_succ]
    refine mix_take hK13 (some 18) (.pick (.tmp 8) (.tmp 17) (.const (Value.bool false))) 4 _ (by kernel_rfl) (by kernel_rfl) (fun w' hS' => by simp only [opr]; go_simp; try with_reducible rfl) (fun K14 hK14 => ?_)
    clear hK13 K13
    simp only [Act.put, List.setIfInBounds_toArray, List.set_cons_zero, List.set_cons_succ]
    refine mix_take hK14 (some 4) (.assign (.tmp 18)) 4 _ (by kernel_rfl) (by kernel_rfl) (fun w' hS' => by simp only [opr]; go_simp; try with_reducible rfl) (fun K15 hK15 => ?_)
    clear hK14 K14
    simp only [Act.put, List.setIfInBounds_toArray, List.set_cons_zero, List.set_cons_succ]
    refine hK15 _ _ (mix_nil ?_)
    clear hK15 K15
    go_wp2
    go_ret
    exact ⟨ret_bool (by simp), hS2.1⟩

end Go.Proofs.Ytloijopnfnhnhaa
