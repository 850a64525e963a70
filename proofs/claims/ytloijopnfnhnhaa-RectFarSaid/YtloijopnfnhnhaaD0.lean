/-
  What is left of a rectangle, by rect: walked. No conditions.
-/
import Derived.Test.YtloijopnfnhnhaaC9
namespace Go.Proofs.Ytloijopnfnhnhaa
open Go.RowKit

theorem list_take {P : Program} {ops : Array Oper} {Q : Exit → Act → World → Prop} {o : Oper} {rest : List Oper} {a : Act} {w : World} {v : Value} (hg : o.guard = none) (hv : (execOp a.eval (opr o.dst o.op o.type)).run P w = .ok (.value v) w)
    (h : wpList P ops Q rest (a.put o.dst v) w) : wpList P ops Q (o :: rest) a w :=
  wpList_plain hg fun K hK => by
    unfold Oper.wp
    rw [execOp_opr, hv]
    exact hK _ _ h

theorem eql_opb {a : Act} {x y : Operand} {w : World} {d : Option Tmp} {ty : TypeId} (c : Bool) (p q : R) (hx : a.eval x = .agg #[.int .i64 p.x, .int .i64 p.y, .int .i64 p.w, .int .i64 p.h]) (hy : a.eval y = .agg #[.int .i64 q.x, .int .i64 q.y, .int .i64 q.w, .int .i64 q.h]) (hb : decide (p = q) = c) :
    (execOp a.eval (opr d (.binOp .eql 23 x y 23) ty)).run Try.prog w = .ok (.value (.bool c)) w := by
  subst hb
  exact eql_op p q hx hy

theorem rects_newAt {w : World} {b : Nat} (r : R) (h : w.heap.size = b) : Rects (w.alloc (.cells #[.int .i64 r.x, .int .i64 r.y, .int .i64 r.w, .int .i64 r.h] 23)) (.slice (some ⟨b, 0, none⟩) 1 1) [r] := by
  subst h; exact rects_new w r

/-- The parts of a rectangle, one by one. -/
def nthL (L1 L2 L3 L4 : List R) : Nat → List R
  | 0 => []
  | 1 => L1
  | 2 => L2
  | 3 => L3
  | _ => L4

theorem empty8_by (p : R) (x y ww h : Int) (w : World) (he : x = p.x ∧ y = p.y ∧ ww = p.w ∧ h = p.h) : Calls Try.prog 8 #[.agg #[.int .i64 x, .int .i64 y, .int .i64 ww, .int .i64 h]] w (Gives (.bool (emptyB p)) w) := by
  obtain ⟨rfl, rfl, rfl, rfl⟩ := he
  exact empty8 p w

theorem meets_q (a b : R) (ha : rightB a = true) (hb : rightB b = true) : (meetsB a b = true → 1 ≤ (bothR a b).w) ∧ (meetsB a b = false → bothR a b = ⟨0, 0, 0, 0⟩) := by
  rw [both_meets a b ha hb]
  constructor
  · intro h
    rw [if_pos h]
    unfold meetsB emptyB at h
    simp at h
    unfold interR
    simp only
    omega
  · intro h
    rw [if_neg (by rw [h]; decide)]

theorem index36_0 (x0 x1 x2 x3 x4 x5 x6 x7 x8 x9 x10 x11 x12 x13 x14 x15 : Value) (W : World) : (Instr.index 36 (.agg #[x0, x1, x2, x3, x4, x5, x6, x7, x8, x9, x10, x11, x12, x13, x14, x15]) (.int .i64 0)).run Try.prog W = .ok (.agg #[x0, x1, x2, x3]) W := by
  have h : (Try.prog.info? 23).map (·.size) = some 4 := by kernel_rfl
  have hu := run_underlying Try.underlying36 W
  have hu2 := run_underlying Try.underlying23 W
  rfl

theorem index36_1 (x0 x1 x2 x3 x4 x5 x6 x7 x8 x9 x10 x11 x12 x13 x14 x15 : Value) (W : World) : (Instr.index 36 (.agg #[x0, x1, x2, x3, x4, x5, x6, x7, x8, x9, x10, x11, x12, x13, x14, x15]) (.int .i64 1)).run Try.prog W = .ok (.agg #[x4, x5, x6, x7]) W := by
  have h : (Try.prog.info? 23).map (·.size) = some 4 := by kernel_rfl
  have hu := run_underlying Try.underlying36 W
  have hu2 := run_underlying Try.underlying23 W
  rfl

theorem index36_2 (x0 x1 x2 x3 x4 x5 x6 x7 x8 x9 x10 x11 x12 x13 x14 x15 : Value) (W : World) : (Instr.index 36 (.agg #[x0, x1, x2, x3, x4, x5, x6, x7, x8, x9, x10, x11, x12, x13, x14, x15]) (.int .i64 2)).run Try.prog W = .ok (.agg #[x8, x9, x10, x11]) W := by
  have h : (Try.prog.info? 23).map (·.size) = some 4 := by kernel_rfl
  have hu := run_underlying Try.underlying36 W
  have hu2 := run_underlying Try.underlying23 W
  rfl

theorem index36_3 (x0 x1 x2 x3 x4 x5 x6 x7 x8 x9 x10 x11 x12 x13 x14 x15 : Value) (W : World) : (Instr.index 36 (.agg #[x0, x1, x2, x3, x4, x5, x6, x7, x8, x9, x10, x11, x12, x13, x14, x15]) (.int .i64 3)).run Try.prog W = .ok (.agg #[x12, x13, x14, x15]) W := by
  have h : (Try.prog.info? 23).map (·.size) = some 4 := by kernel_rfl
  have hu := run_underlying Try.underlying36 W
  have hu2 := run_underlying Try.underlying23 W
  rfl

attribute [local go_sem] index36_0 index36_1 index36_2 index36_3

set_option maxHeartbeats 4000000 in
set_option maxRecDepth 100000 in
theorem less16 (a b : R) (w : World) : Calls Try.prog 16 #[.agg #[.int .i64 a.x, .int .i64 a.y, .int .i64 a.w, .int .i64 a.h], .agg #[.int .i64 b.x, .int .i64 b.y, .int .i64 b.w, .int .i64 b.h]] w (GivesRects (lessL a b) w) := by
  have HS := hide' (two_new a b w)
  have HR := hide' (right23 a b)
  have HE := hide' (empty8 a)
  by_cases hc : (rightB a && rightB b && !emptyB a) = true
  · have hc' := hc
    simp only [Bool.and_eq_true, Bool.not_eq_true'] at hc'
    obtain ⟨⟨ha, hb⟩, he⟩ := hc'
    obtain ⟨⟨p1, p2⟩, ⟨p3, p4⟩, ⟨p5, p6⟩, p7, p8⟩ := right_bd ha
    have HX := hide' (both9 a b)
    have HQB := hide' (both_bd a b ha hb)
    have HMQ := hide' (meets_q a b ha hb)
    have HLL : Hid (lessL a b = if meetsB a b = true then putL (putL (putL (putL [] (part0 a (bothR a b))) (part1 a (bothR a b))) (part2 a (bothR a b))) (part3 a (bothR a b)) else [a]) := by
      show _ = _
      unfold lessL; rw [if_pos hc]
    rw [ha, hb] at HR
    rw [he] at HE
    obtain ⟨L, hL⟩ : ∃ L, L = lessL a b := ⟨_, rfl⟩
    obtain ⟨q, hq⟩ : ∃ q, q = bothR a b := ⟨_, rfl⟩
    obtain ⟨cm, hm⟩ : ∃ c, c = meetsB a b := ⟨_, rfl⟩
    rw [← hL, ← hq, ← hm] at HLL
    rw [← hL]
    rw [← hq] at HX HQB
    rw [← hq, ← hm] at HMQ
    clear ha hb he hL hq hm hc
    go_enter Try.func16, Try.ntmps16
    go_wp2_with fail
    refine (HR.out _).mono ?_
    rintro e w1 ⟨rfl, hs⟩
    have HS1 := hide' (HS.out.keep hs)
    obtain ⟨_, ⟨ac0, ac1, ac2, ac3, _⟩, bc0, bc1, bc2, bc3, _⟩ := HS1.out
    clear hs
    go_wp2_with fail
    refine (HE.out _).mono ?_
    rintro e w2 ⟨rfl, hs⟩
    have HS2 := hide' (HS1.out.keep hs)
    clear ac0 ac1 ac2 ac3 bc0 bc1 bc2 bc3
    obtain ⟨_, ⟨ac0, ac1, ac2, ac3, _⟩, bc0, bc1, bc2, bc3, _⟩ := HS2.out
    clear hs
    go_wp2_with fail
    refine (HX.out _).mono ?_
    rintro e w3 ⟨rfl, hs⟩
    have HS3 := hide' (HS2.out.keep hs)
    clear hs HS HS1 HS2 HX HE HR ac0 ac1 ac2 ac3 bc0 bc1 bc2 bc3
    have HT0 := hide' (three_new q HS3.out)
    obtain ⟨⟨_, ⟨ac0, ac1, ac2, ac3, _⟩, _⟩, qc0, qc1, qc2, qc3, _⟩ := HT0.out
    go_upto_region 4 with (fail)
    refine wp_region_lit ?_
    cases cm
    · have hq0 : q = ⟨0, 0, 0, 0⟩ := HMQ.out.2 rfl
      have hll : L = [a] := HLL.out
      have HLL' := hide' hll
      have HQ0 := hide' hq0
      clear hll hq0 HLL HMQ HQB
      refine list_take rfl (run_load_box rfl rfl HT0.out.2) ?_
      refine list_take (v := .agg #[.int .i64 0, .int .i64 0, .int .i64 0, .int .i64 0]) rfl (by simp only [opr]; go_simp) ?_
      refine list_take rfl (eql_opb true q ⟨0, 0, 0, 0⟩ rfl rfl (by rw [HQ0.out]; decide)) ?_
      refine wpList_nil ?_
      simp only [Act.put, List.setIfInBounds_toArray, List.set_cons_zero, List.set_cons_succ]
      go_wp2
      go_ret
      exact ⟨_, rfl, by rw [HLL'.out]; exact rects_newAt a (by simp), HT0.out.1.1.alloc _⟩
    · have hq1 : 1 ≤ q.w := HMQ.out.1 rfl
      have hll : L = putL (putL (putL (putL [] (part0 a q)) (part1 a q)) (part2 a q)) (part3 a q) := HLL.out
      have HLL' := hide' hll
      obtain ⟨⟨q1, q2⟩, ⟨q3, q4⟩, ⟨q5, q6⟩, q7, q8⟩ := HQB.out
      have HNE : Hid (decide (q = ⟨0, 0, 0, 0⟩) = false) := by
        show _ = _
        rw [decide_eq_false_iff_not]
        intro h
        rw [h] at hq1
        simp at hq1
      clear hll HLL HMQ HQB hq1
      refine list_take rfl (run_load_box rfl rfl HT0.out.2) ?_
      refine list_take (v := .agg #[.int .i64 0, .int .i64 0, .int .i64 0, .int .i64 0]) rfl (by simp only [opr]; go_simp) ?_
      refine list_take rfl (eql_opb false q ⟨0, 0, 0, 0⟩ rfl rfl HNE.out) ?_
      refine wpList_nil ?_
      simp only [Act.put, List.setIfInBounds_toArray, List.set_cons_zero, List.set_cons_succ]
      clear HNE
      go_wp2_with fail
      go_quiet (fail)
      go_wp2_with fail
      obtain ⟨W0, hW0⟩ : ∃ W0, W0 = ((w3.alloc (.cells #[.int .i64 q.x, .int .i64 q.y, .int .i64 q.w, .int .i64 q.h] 23)).drewN nq) := ⟨_, rfl⟩
      have HSW : Hid (Stay (fun _ => False) w W0) := by rw [hW0]; exact HT0.out.1.1.drewN nq
      rw [← hW0]
      clear hW0 ac0 ac1 ac2 ac3 qc0 qc1 qc2 qc3 HT0 HS3
      obtain ⟨L1, hl1⟩ : ∃ L1, L1 = putL [] (part0 a q) := ⟨_, rfl⟩
      obtain ⟨L2, hl2⟩ : ∃ L2, L2 = putL L1 (part1 a q) := ⟨_, rfl⟩
      obtain ⟨L3, hl3⟩ : ∃ L3, L3 = putL L2 (part2 a q) := ⟨_, rfl⟩
      have hl4 : L = putL L3 (part3 a q) := by rw [HLL'.out, hl3, hl2, hl1]
      have n1 := put_len [] (part0 a q)
      have n2 := put_len L1 (part1 a q)
      have n3 := put_len L2 (part2 a q)
      rw [← hl1] at n1
      rw [← hl2] at n2
      rw [← hl3] at n3
      have HN : Hid (([] : List R).length ≤ 0 ∧ L1.length ≤ 1 ∧ L2.length ≤ 2 ∧ L3.length ≤ 3) := ⟨by simp, by simpa using n1, by simp at n1; omega, by simp at n1; omega⟩
      have HP0 := hide' hl1
      have HP1 := hide' hl2
      have HP2 := hide' hl3
      have HP3 := hide' hl4
      clear hl1 hl2 hl3 hl4 n1 n2 n3 HLL'
      have HO0 : Hid (W0.ownsRow w.heap.size 23 4 (.slice none 0 0) ([] : List R).length (([] : List R).flatMap R.cells)) := World.ownsRow_nil _ _ _ _
      go_loopg [8, 88] 4 (fun g v i wr => ∃ k : Nat, k ≤ 4 ∧ g = 4 - k ∧ i = .int .i64 (k : Int) ∧ Hid (wr.ownsRow w.heap.size 23 4 v (nthL L1 L2 L3 L k).length ((nthL L1 L2 L3 L k).flatMap R.cells)) ∧ Hid (Stay (fun _ => False) w wr))
      case atStart => exact ⟨0, by decide, rfl, rfl, HO0, HSW⟩
      case round =>
        obtain ⟨k, hk, rfl, rfl, HO, HSr⟩ := hrel
        rcases (by omega : k = 0 ∨ k = 1 ∨ k = 2 ∨ k = 3 ∨ k = 4) with rfl | rfl | rfl | rfl | rfl
        · have HO' : Hid (wr.ownsRow w.heap.size 23 4 u8 ([] : List R).length (([] : List R).flatMap R.cells)) := HO.out
          clear HO
          cases hem : emptyB (part0 a q)
          · have HEM := hide' hem
            clear hem
            have HLn : Hid (L1 = ([] : List R) ++ [part0 a q]) := by
              show _ = _
              rw [HP0.out]; unfold putL; rw [if_neg (by rw [HEM.out]; decide)]
            have HO1 := hide' (((Stay.refl (fun _ => False) wr).alloc (.cells #[.int .i64 (part0 a q).x, .int .i64 (part0 a q).y, .int .i64 (part0 a q).w, .int .i64 (part0 a q).h] 23)).owns HO'.out (fun _ _ h => h))
            have HS1 := hide' (HSr.out.alloc (.cells #[.int .i64 (part0 a q).x, .int .i64 (part0 a q).y, .int .i64 (part0 a q).w, .int .i64 (part0 a q).h] 23))
            have HB1 := hide' (Box.new (w := wr) (part0 a q) rfl)
            clear HO' HSr
            go_wp2_with fail
            refine (empty8_by (part0 a q) _ _ _ _ _ (by unfold part0; refine ⟨?_, ?_, ?_, ?_⟩ <;> first | rfl | (dsimp only; omega))).mono ?_
            rintro e w5 ⟨rfl, hs⟩
            rw [HEM.out]
            have HO5 := hide' (hs.owns HO1.out (fun _ _ h => h))
            have HS5 := hide' (HS1.out.trans hs)
            obtain ⟨xc0, xc1, xc2, xc3, _⟩ := HB1.out.keep hs
            clear hs HO1 HS1 HB1
            have HO6 := hide' (HO5.out.alloc (.cells #[.int .i64 (part0 a q).x, .int .i64 (part0 a q).y, .int .i64 (part0 a q).w, .int .i64 (part0 a q).h] 23))
            have HI6 := hide' (isRowS_new w5 #[.int .i64 (part0 a q).x, .int .i64 (part0 a q).y, .int .i64 (part0 a q).w, .int .i64 (part0 a q).h] 23 4 1 rfl)
            have HS6 := hide' (HS5.out.alloc (.cells #[.int .i64 (part0 a q).x, .int .i64 (part0 a q).y, .int .i64 (part0 a q).w, .int .i64 (part0 a q).h] 23))
            have hln : ([] : List R).length + 1 ≤ 1000000 := by have := HN.out; omega
            go_wp2_with (at_builtin; refine appS rfl _ _ 29 rfl Try.underlying29 Try.info23 rfl (by decide) (by decide) HO6.out rfl HI6.out rfl (by intro u hu; simp at hu; rcases hu with rfl | rfl | rfl | rfl <;> rfl) hln HS6.out.size ?_; intro v7 w7 ho hst hb; have HO7 := hide' ho; have HT7 := hide' hst; clear ho hst hb)
            have HS7 : Hid (Stay (fun _ => False) w w7) := ((HS6.out.mono (T := fun k => w.heap.size ≤ k) (fun _ _ h => h.elim)).trans (HT7.out.mono fun k _ hk => (HO6.out.lt _ hk).1) |>.mono fun k hk h => by omega)
            have HO8 : Hid (w7.ownsRow w.heap.size 23 4 v7 L1.length (L1.flatMap R.cells)) := by
              show World.ownsRow _ _ _ _ _ _ _
              rw [HLn.out, List.length_append, List.flatMap_append]
              simpa [R.cells] using HO7.out
            clear HO5 HO6 HI6 HS5 HS6 HO7 HT7 xc0 xc1 xc2 xc3 hln
            go_roundg (4 - (0 + 1))
            case rel => exact ⟨0 + 1, by decide, rfl, by go_num, HO8, HS7⟩
            case measure => omega
          · have HEM := hide' hem
            clear hem
            have HLn : Hid (L1 = ([] : List R)) := by
              show _ = _
              rw [HP0.out]; unfold putL; rw [if_pos HEM.out]
            have HO1 := hide' (((Stay.refl (fun _ => False) wr).alloc (.cells #[.int .i64 (part0 a q).x, .int .i64 (part0 a q).y, .int .i64 (part0 a q).w, .int .i64 (part0 a q).h] 23)).owns HO'.out (fun _ _ h => h))
            have HS1 := hide' (HSr.out.alloc (.cells #[.int .i64 (part0 a q).x, .int .i64 (part0 a q).y, .int .i64 (part0 a q).w, .int .i64 (part0 a q).h] 23))
            have HB1 := hide' (Box.new (w := wr) (part0 a q) rfl)
            clear HO' HSr
            go_wp2_with fail
            refine (empty8_by (part0 a q) _ _ _ _ _ (by unfold part0; refine ⟨?_, ?_, ?_, ?_⟩ <;> first | rfl | (dsimp only; omega))).mono ?_
            rintro e w5 ⟨rfl, hs⟩
            rw [HEM.out]
            have HO5 := hide' (hs.owns HO1.out (fun _ _ h => h))
            have HS5 := hide' (HS1.out.trans hs)
            obtain ⟨xc0, xc1, xc2, xc3, _⟩ := HB1.out.keep hs
            clear hs HO1 HS1 HB1
            have HO8 : Hid (w5.ownsRow w.heap.size 23 4 u8 L1.length (L1.flatMap R.cells)) := by
              show World.ownsRow _ _ _ _ _ _ _
              rw [HLn.out]; exact HO5.out
            clear HO5
            go_wp2
            go_roundg (4 - (0 + 1))
            case rel => exact ⟨0 + 1, by decide, rfl, by go_num, HO8, HS5⟩
            case measure => omega
        · have HO' : Hid (wr.ownsRow w.heap.size 23 4 u8 L1.length (L1.flatMap R.cells)) := HO.out
          clear HO
          cases hem : emptyB (part1 a q)
          · have HEM := hide' hem
            clear hem
            have HLn : Hid (L2 = L1 ++ [part1 a q]) := by
              show _ = _
              rw [HP1.out]; unfold putL; rw [if_neg (by rw [HEM.out]; decide)]
            have HO1 := hide' (((Stay.refl (fun _ => False) wr).alloc (.cells #[.int .i64 (part1 a q).x, .int .i64 (part1 a q).y, .int .i64 (part1 a q).w, .int .i64 (part1 a q).h] 23)).owns HO'.out (fun _ _ h => h))
            have HS1 := hide' (HSr.out.alloc (.cells #[.int .i64 (part1 a q).x, .int .i64 (part1 a q).y, .int .i64 (part1 a q).w, .int .i64 (part1 a q).h] 23))
            have HB1 := hide' (Box.new (w := wr) (part1 a q) rfl)
            clear HO' HSr
            go_wp2_with fail
            refine (empty8_by (part1 a q) _ _ _ _ _ (by unfold part1; refine ⟨?_, ?_, ?_, ?_⟩ <;> first | rfl | (dsimp only; omega))).mono ?_
            rintro e w5 ⟨rfl, hs⟩
            rw [HEM.out]
            have HO5 := hide' (hs.owns HO1.out (fun _ _ h => h))
            have HS5 := hide' (HS1.out.trans hs)
            obtain ⟨xc0, xc1, xc2, xc3, _⟩ := HB1.out.keep hs
            clear hs HO1 HS1 HB1
            have HO6 := hide' (HO5.out.alloc (.cells #[.int .i64 (part1 a q).x, .int .i64 (part1 a q).y, .int .i64 (part1 a q).w, .int .i64 (part1 a q).h] 23))
            have HI6 := hide' (isRowS_new w5 #[.int .i64 (part1 a q).x, .int .i64 (part1 a q).y, .int .i64 (part1 a q).w, .int .i64 (part1 a q).h] 23 4 1 rfl)
            have HS6 := hide' (HS5.out.alloc (.cells #[.int .i64 (part1 a q).x, .int .i64 (part1 a q).y, .int .i64 (part1 a q).w, .int .i64 (part1 a q).h] 23))
            have hln : L1.length + 1 ≤ 1000000 := by have := HN.out; omega
            go_wp2_with (at_builtin; refine appS rfl _ _ 29 rfl Try.underlying29 Try.info23 rfl (by decide) (by decide) HO6.out rfl HI6.out rfl (by intro u hu; simp at hu; rcases hu with rfl | rfl | rfl | rfl <;> rfl) hln HS6.out.size ?_; intro v7 w7 ho hst hb; have HO7 := hide' ho; have HT7 := hide' hst; clear ho hst hb)
            have HS7 : Hid (Stay (fun _ => False) w w7) := ((HS6.out.mono (T := fun k => w.heap.size ≤ k) (fun _ _ h => h.elim)).trans (HT7.out.mono fun k _ hk => (HO6.out.lt _ hk).1) |>.mono fun k hk h => by omega)
            have HO8 : Hid (w7.ownsRow w.heap.size 23 4 v7 L2.length (L2.flatMap R.cells)) := by
              show World.ownsRow _ _ _ _ _ _ _
              rw [HLn.out, List.length_append, List.flatMap_append]
              simpa [R.cells] using HO7.out
            clear HO5 HO6 HI6 HS5 HS6 HO7 HT7 xc0 xc1 xc2 xc3 hln
            go_roundg (4 - (1 + 1))
            case rel => exact ⟨1 + 1, by decide, rfl, by go_num, HO8, HS7⟩
            case measure => omega
          · have HEM := hide' hem
            clear hem
            have HLn : Hid (L2 = L1) := by
              show _ = _
              rw [HP1.out]; unfold putL; rw [if_pos HEM.out]
            have HO1 := hide' (((Stay.refl (fun _ => False) wr).alloc (.cells #[.int .i64 (part1 a q).x, .int .i64 (part1 a q).y, .int .i64 (part1 a q).w, .int .i64 (part1 a q).h] 23)).owns HO'.out (fun _ _ h => h))
            have HS1 := hide' (HSr.out.alloc (.cells #[.int .i64 (part1 a q).x, .int .i64 (part1 a q).y, .int .i64 (part1 a q).w, .int .i64 (part1 a q).h] 23))
            have HB1 := hide' (Box.new (w := wr) (part1 a q) rfl)
            clear HO' HSr
            go_wp2_with fail
            refine (empty8_by (part1 a q) _ _ _ _ _ (by unfold part1; refine ⟨?_, ?_, ?_, ?_⟩ <;> first | rfl | (dsimp only; omega))).mono ?_
            rintro e w5 ⟨rfl, hs⟩
            rw [HEM.out]
            have HO5 := hide' (hs.owns HO1.out (fun _ _ h => h))
            have HS5 := hide' (HS1.out.trans hs)
            obtain ⟨xc0, xc1, xc2, xc3, _⟩ := HB1.out.keep hs
            clear hs HO1 HS1 HB1
            have HO8 : Hid (w5.ownsRow w.heap.size 23 4 u8 L2.length (L2.flatMap R.cells)) := by
              show World.ownsRow _ _ _ _ _ _ _
              rw [HLn.out]; exact HO5.out
            clear HO5
            go_wp2
            go_roundg (4 - (1 + 1))
            case rel => exact ⟨1 + 1, by decide, rfl, by go_num, HO8, HS5⟩
            case measure => omega
        · have HO' : Hid (wr.ownsRow w.heap.size 23 4 u8 L2.length (L2.flatMap R.cells)) := HO.out
          clear HO
          cases hem : emptyB (part2 a q)
          · have HEM := hide' hem
            clear hem
            have HLn : Hid (L3 = L2 ++ [part2 a q]) := by
              show _ = _
              rw [HP2.out]; unfold putL; rw [if_neg (by rw [HEM.out]; decide)]
            have HO1 := hide' (((Stay.refl (fun _ => False) wr).alloc (.cells #[.int .i64 (part2 a q).x, .int .i64 (part2 a q).y, .int .i64 (part2 a q).w, .int .i64 (part2 a q).h] 23)).owns HO'.out (fun _ _ h => h))
            have HS1 := hide' (HSr.out.alloc (.cells #[.int .i64 (part2 a q).x, .int .i64 (part2 a q).y, .int .i64 (part2 a q).w, .int .i64 (part2 a q).h] 23))
            have HB1 := hide' (Box.new (w := wr) (part2 a q) rfl)
            clear HO' HSr
            go_wp2_with fail
            refine (empty8_by (part2 a q) _ _ _ _ _ (by unfold part2; refine ⟨?_, ?_, ?_, ?_⟩ <;> first | rfl | (dsimp only; omega))).mono ?_
            rintro e w5 ⟨rfl, hs⟩
            rw [HEM.out]
            have HO5 := hide' (hs.owns HO1.out (fun _ _ h => h))
            have HS5 := hide' (HS1.out.trans hs)
            obtain ⟨xc0, xc1, xc2, xc3, _⟩ := HB1.out.keep hs
            clear hs HO1 HS1 HB1
            have HO6 := hide' (HO5.out.alloc (.cells #[.int .i64 (part2 a q).x, .int .i64 (part2 a q).y, .int .i64 (part2 a q).w, .int .i64 (part2 a q).h] 23))
            have HI6 := hide' (isRowS_new w5 #[.int .i64 (part2 a q).x, .int .i64 (part2 a q).y, .int .i64 (part2 a q).w, .int .i64 (part2 a q).h] 23 4 1 rfl)
            have HS6 := hide' (HS5.out.alloc (.cells #[.int .i64 (part2 a q).x, .int .i64 (part2 a q).y, .int .i64 (part2 a q).w, .int .i64 (part2 a q).h] 23))
            have hln : L2.length + 1 ≤ 1000000 := by have := HN.out; omega
            go_wp2_with (at_builtin; refine appS rfl _ _ 29 rfl Try.underlying29 Try.info23 rfl (by decide) (by decide) HO6.out rfl HI6.out rfl (by intro u hu; simp at hu; rcases hu with rfl | rfl | rfl | rfl <;> rfl) hln HS6.out.size ?_; intro v7 w7 ho hst hb; have HO7 := hide' ho; have HT7 := hide' hst; clear ho hst hb)
            have HS7 : Hid (Stay (fun _ => False) w w7) := ((HS6.out.mono (T := fun k => w.heap.size ≤ k) (fun _ _ h => h.elim)).trans (HT7.out.mono fun k _ hk => (HO6.out.lt _ hk).1) |>.mono fun k hk h => by omega)
            have HO8 : Hid (w7.ownsRow w.heap.size 23 4 v7 L3.length (L3.flatMap R.cells)) := by
              show World.ownsRow _ _ _ _ _ _ _
              rw [HLn.out, List.length_append, List.flatMap_append]
              simpa [R.cells] using HO7.out
            clear HO5 HO6 HI6 HS5 HS6 HO7 HT7 xc0 xc1 xc2 xc3 hln
            go_roundg (4 - (2 + 1))
            case rel => exact ⟨2 + 1, by decide, rfl, by go_num, HO8, HS7⟩
            case measure => omega
          · have HEM := hide' hem
            clear hem
            have HLn : Hid (L3 = L2) := by
              show _ = _
              rw [HP2.out]; unfold putL; rw [if_pos HEM.out]
            have HO1 := hide' (((Stay.refl (fun _ => False) wr).alloc (.cells #[.int .i64 (part2 a q).x, .int .i64 (part2 a q).y, .int .i64 (part2 a q).w, .int .i64 (part2 a q).h] 23)).owns HO'.out (fun _ _ h => h))
            have HS1 := hide' (HSr.out.alloc (.cells #[.int .i64 (part2 a q).x, .int .i64 (part2 a q).y, .int .i64 (part2 a q).w, .int .i64 (part2 a q).h] 23))
            have HB1 := hide' (Box.new (w := wr) (part2 a q) rfl)
            clear HO' HSr
            go_wp2_with fail
            refine (empty8_by (part2 a q) _ _ _ _ _ (by unfold part2; refine ⟨?_, ?_, ?_, ?_⟩ <;> first | rfl | (dsimp only; omega))).mono ?_
            rintro e w5 ⟨rfl, hs⟩
            rw [HEM.out]
            have HO5 := hide' (hs.owns HO1.out (fun _ _ h => h))
            have HS5 := hide' (HS1.out.trans hs)
            obtain ⟨xc0, xc1, xc2, xc3, _⟩ := HB1.out.keep hs
            clear hs HO1 HS1 HB1
            have HO8 : Hid (w5.ownsRow w.heap.size 23 4 u8 L3.length (L3.flatMap R.cells)) := by
              show World.ownsRow _ _ _ _ _ _ _
              rw [HLn.out]; exact HO5.out
            clear HO5
            go_wp2
            go_roundg (4 - (2 + 1))
            case rel => exact ⟨2 + 1, by decide, rfl, by go_num, HO8, HS5⟩
            case measure => omega
        · have HO' : Hid (wr.ownsRow w.heap.size 23 4 u8 L3.length (L3.flatMap R.cells)) := HO.out
          clear HO
          cases hem : emptyB (part3 a q)
          · have HEM := hide' hem
            clear hem
            have HLn : Hid (L = L3 ++ [part3 a q]) := by
              show _ = _
              rw [HP3.out]; unfold putL; rw [if_neg (by rw [HEM.out]; decide)]
            have HO1 := hide' (((Stay.refl (fun _ => False) wr).alloc (.cells #[.int .i64 (part3 a q).x, .int .i64 (part3 a q).y, .int .i64 (part3 a q).w, .int .i64 (part3 a q).h] 23)).owns HO'.out (fun _ _ h => h))
            have HS1 := hide' (HSr.out.alloc (.cells #[.int .i64 (part3 a q).x, .int .i64 (part3 a q).y, .int .i64 (part3 a q).w, .int .i64 (part3 a q).h] 23))
            have HB1 := hide' (Box.new (w := wr) (part3 a q) rfl)
            clear HO' HSr
            go_wp2_with fail
            refine (empty8_by (part3 a q) _ _ _ _ _ (by unfold part3; refine ⟨?_, ?_, ?_, ?_⟩ <;> first | rfl | (dsimp only; omega))).mono ?_
            rintro e w5 ⟨rfl, hs⟩
            rw [HEM.out]
            have HO5 := hide' (hs.owns HO1.out (fun _ _ h => h))
            have HS5 := hide' (HS1.out.trans hs)
            obtain ⟨xc0, xc1, xc2, xc3, _⟩ := HB1.out.keep hs
            clear hs HO1 HS1 HB1
            have HO6 := hide' (HO5.out.alloc (.cells #[.int .i64 (part3 a q).x, .int .i64 (part3 a q).y, .int .i64 (part3 a q).w, .int .i64 (part3 a q).h] 23))
            have HI6 := hide' (isRowS_new w5 #[.int .i64 (part3 a q).x, .int .i64 (part3 a q).y, .int .i64 (part3 a q).w, .int .i64 (part3 a q).h] 23 4 1 rfl)
            have HS6 := hide' (HS5.out.alloc (.cells #[.int .i64 (part3 a q).x, .int .i64 (part3 a q).y, .int .i64 (part3 a q).w, .int .i64 (part3 a q).h] 23))
            have hln : L3.length + 1 ≤ 1000000 := by have := HN.out; omega
            go_wp2_with (at_builtin; refine appS rfl _ _ 29 rfl Try.underlying29 Try.info23 rfl (by decide) (by decide) HO6.out rfl HI6.out rfl (by intro u hu; simp at hu; rcases hu with rfl | rfl | rfl | rfl <;> rfl) hln HS6.out.size ?_; intro v7 w7 ho hst hb; have HO7 := hide' ho; have HT7 := hide' hst; clear ho hst hb)
            have HS7 : Hid (Stay (fun _ => False) w w7) := ((HS6.out.mono (T := fun k => w.heap.size ≤ k) (fun _ _ h => h.elim)).trans (HT7.out.mono fun k _ hk => (HO6.out.lt _ hk).1) |>.mono fun k hk h => by omega)
            have HO8 : Hid (w7.ownsRow w.heap.size 23 4 v7 L.length (L.flatMap R.cells)) := by
              show World.ownsRow _ _ _ _ _ _ _
              rw [HLn.out, List.length_append, List.flatMap_append]
              simpa [R.cells] using HO7.out
            clear HO5 HO6 HI6 HS5 HS6 HO7 HT7 xc0 xc1 xc2 xc3 hln
            go_roundg (4 - (3 + 1))
            case rel => exact ⟨3 + 1, by decide, rfl, by go_num, HO8, HS7⟩
            case measure => omega
          · have HEM := hide' hem
            clear hem
            have HLn : Hid (L = L3) := by
              show _ = _
              rw [HP3.out]; unfold putL; rw [if_pos HEM.out]
            have HO1 := hide' (((Stay.refl (fun _ => False) wr).alloc (.cells #[.int .i64 (part3 a q).x, .int .i64 (part3 a q).y, .int .i64 (part3 a q).w, .int .i64 (part3 a q).h] 23)).owns HO'.out (fun _ _ h => h))
            have HS1 := hide' (HSr.out.alloc (.cells #[.int .i64 (part3 a q).x, .int .i64 (part3 a q).y, .int .i64 (part3 a q).w, .int .i64 (part3 a q).h] 23))
            have HB1 := hide' (Box.new (w := wr) (part3 a q) rfl)
            clear HO' HSr
            go_wp2_with fail
            refine (empty8_by (part3 a q) _ _ _ _ _ (by unfold part3; refine ⟨?_, ?_, ?_, ?_⟩ <;> first | rfl | (dsimp only; omega))).mono ?_
            rintro e w5 ⟨rfl, hs⟩
            rw [HEM.out]
            have HO5 := hide' (hs.owns HO1.out (fun _ _ h => h))
            have HS5 := hide' (HS1.out.trans hs)
            obtain ⟨xc0, xc1, xc2, xc3, _⟩ := HB1.out.keep hs
            clear hs HO1 HS1 HB1
            have HO8 : Hid (w5.ownsRow w.heap.size 23 4 u8 L.length (L.flatMap R.cells)) := by
              show World.ownsRow _ _ _ _ _ _ _
              rw [HLn.out]; exact HO5.out
            clear HO5
            go_wp2
            go_roundg (4 - (3 + 1))
            case rel => exact ⟨3 + 1, by decide, rfl, by go_num, HO8, HS5⟩
            case measure => omega
        · have HO' : Hid (wr.ownsRow w.heap.size 23 4 u8 L.length (L.flatMap R.cells)) := HO.out
          clear HO
          go_wp2
          go_ret
          exact ⟨_, rfl, rects_of_owns HO'.out, HSr.out⟩
  · have HLL : Hid (lessL a b = []) := by
      show _ = _
      unfold lessL; rw [if_neg hc]
    obtain ⟨L, hL⟩ : ∃ L, L = lessL a b := ⟨_, rfl⟩
    rw [← hL] at HLL ⊢
    have HC : Hid ((rightB a && rightB b) = true → emptyB a = true) := fun h => by
      cases he : emptyB a
      · exact absurd (by rw [h, he]; rfl) hc
      · rfl
    obtain ⟨c, hcc⟩ : ∃ c, c = (rightB a && rightB b) := ⟨_, rfl⟩
    obtain ⟨ce, hce⟩ : ∃ c, c = emptyB a := ⟨_, rfl⟩
    rw [← hcc] at HR HC
    rw [← hce] at HE HC
    clear hL hc hcc hce
    cases c
    · clear HC HE
      go_enter Try.func16, Try.ntmps16
      go_wp2_with fail
      refine (HR.out _).mono ?_
      rintro e w1 ⟨rfl, hs⟩
      have HS1 := hide' (HS.out.keep hs)
      clear hs
      go_wp2
      go_ret
      exact ⟨_, rfl, .inl ⟨HLL.out, rfl⟩, HS1.out.1⟩
    · obtain rfl : ce = true := HC.out rfl
      go_enter Try.func16, Try.ntmps16
      go_wp2_with fail
      refine (HR.out _).mono ?_
      rintro e w1 ⟨rfl, hs⟩
      have HS1 := hide' (HS.out.keep hs)
      obtain ⟨_, ⟨ac0, ac1, ac2, ac3, _⟩, _⟩ := HS1.out
      clear hs
      go_wp2_with fail
      refine (HE.out _).mono ?_
      rintro e w2 ⟨rfl, hs⟩
      have HS2 := hide' (HS1.out.keep hs)
      clear hs ac0 ac1 ac2 ac3
      go_wp2
      go_ret
      exact ⟨_, rfl, .inl ⟨HLL.out, rfl⟩, HS2.out.1⟩

end Go.Proofs.Ytloijopnfnhnhaa
