/-
  Equal of grids, walked. No conditions.
-/
import Derived.Test.YtmpmdlbhiogelaaE4
namespace Go.Proofs.Ytmpmdlbhiogelaa
open Go.RowKit

theorem field31_3 (x0 x1 x2 x3 : Value) (W : World) : (Instr.field 31 (.agg #[x0, x1, x2, x3]) 3).run Try.prog W = .ok x3 W := by
  have hu := run_underlying Try.underlying31 W
  rfl

attribute [local go_sem] field31_3

theorem equal25_nil (G : Gr) (f : Nat → Cl) (w : World) (hG : GridAt w G f) : Calls Try.prog 25 #[.pointer (some ⟨G.g, 0, none⟩), .pointer none] w (Gives (.bool false) w) := by
  have HW := hide' (whole28 G f w hG)
  have h1 : ((G.w : Int) == 0) = false := by have := hG.w1; simp; omega
  have h2 : ¬ (G.w : Int) = 0 := by have := hG.w1; omega
  have h3 : ¬ G.w = 0 := by have := hG.w1; omega
  clear hG
  go_enter Try.func25, Try.ntmps25
  go_wp2_with fail
  refine HW.out.mono ?_
  rintro e w1 ⟨rfl, hs⟩
  have HS1 := hide' hs
  clear hs
  go_wp2_with fail
  refine (whole28_nil _).mono ?_
  rintro e w2 ⟨rfl, hs⟩
  have HS2 := hide' (HS1.out.trans hs)
  clear hs HS1
  go_wp2
  go_ret
  exact ⟨rfl, HS2.out⟩

set_option maxRecDepth 100000 in
set_option maxHeartbeats 1000000 in
theorem equal25 (G O : Gr) (f h : Nat → Cl) (b : Bool) (w : World) (hG : GridAt w G f) (hO : GridAt w O h) (ew : O.w = G.w) (eh : O.h = G.h) (hb : b = true ↔ ∀ X Y : Nat, X < G.w → Y < G.h → f (Y * G.w + X) = h (Y * G.w + X)) :
    Calls Try.prog 25 #[.pointer (some ⟨G.g, 0, none⟩), .pointer (some ⟨O.g, 0, none⟩)] w (Gives (.bool b) w) := by
  have HS := hide' (Stay.refl (fun _ => False) w)
  have HWG : Hid (∀ W, Stay (fun _ => False) w W → Calls Try.prog 28 #[.pointer (some ⟨G.g, 0, none⟩)] W (Gives (.agg #[.int .i64 (⟨0, 0, (G.w : Nat), (G.h : Nat)⟩ : R).x, .int .i64 (⟨0, 0, (G.w : Nat), (G.h : Nat)⟩ : R).y, .int .i64 (⟨0, 0, (G.w : Nat), (G.h : Nat)⟩ : R).w, .int .i64 (⟨0, 0, (G.w : Nat), (G.h : Nat)⟩ : R).h]) W)) := fun W hs => whole28 G f W (hG.keep hs)
  have HWO : Hid (∀ W, Stay (fun _ => False) w W → Calls Try.prog 28 #[.pointer (some ⟨O.g, 0, none⟩)] W (Gives (.agg #[.int .i64 (⟨0, 0, (G.w : Nat), (G.h : Nat)⟩ : R).x, .int .i64 (⟨0, 0, (G.w : Nat), (G.h : Nat)⟩ : R).y, .int .i64 (⟨0, 0, (G.w : Nat), (G.h : Nat)⟩ : R).w, .int .i64 (⟨0, 0, (G.w : Nat), (G.h : Nat)⟩ : R).h]) W)) := fun W hs => by
    have := whole28 O h W (hO.keep hs)
    rwa [ew, eh] at this
  have HB := hide' hb
  have HG := hide' hG
  have HO := hide' hO
  have HE := hide' (show O.w = G.w ∧ O.h = G.h from ⟨ew, eh⟩)
  have hw2 : (G.w : Int) ≤ 512 := by have := hG.w2; omega
  have hh2 : (G.h : Int) ≤ 512 := by have := hG.h2; omega
  clear hG hO hb ew eh
  go_enter Try.func25, Try.ntmps25
  go_wp2_with fail
  refine (HWG.out _ HS.out).mono ?_
  rintro e w1 ⟨rfl, hs⟩
  have HS1 := hide' (HS.out.trans hs)
  clear hs
  go_wp2_with fail
  refine (HWO.out _ HS1.out).mono ?_
  rintro e w2 ⟨rfl, hs⟩
  have HS2 := hide' (HS1.out.trans hs)
  clear hs HS1
  go_wp2_with fail
  refine (HWG.out _ HS2.out).mono ?_
  rintro e w3 ⟨rfl, hs⟩
  have HS3 := hide' (HS2.out.trans hs)
  clear hs HS2 HWG HWO
  go_wp2_with fail
  go_loopg [16] G.h (fun g v wr => ∃ k : Nat, k ≤ G.h ∧ g = G.h - k ∧ v = .int .i64 (k : Int) ∧ Hid (Stay (fun _ => False) w wr) ∧ Hid (∀ X Y : Nat, X < G.w → Y < k → f (Y * G.w + X) = h (Y * G.w + X)))
  case atStart => exact ⟨0, Nat.zero_le _, rfl, rfl, HS3, fun X Y _ hY => absurd hY (Nat.not_lt_zero _)⟩
  case round =>
    obtain ⟨k, hk, rfl, rfl, HSr, HEQ⟩ := hrel
    by_cases hkh : k < G.h
    · have k1 : (k : Int) < (G.h : Nat) := by omega
      have hGr := HG.out.keep HSr.out
      have ct := hGr.top
      have cr := hGr.rows k hkh
      obtain ⟨o, ho⟩ : ∃ o, o = k * G.w * 4 := ⟨_, rfl⟩
      obtain ⟨cp, hcp⟩ : ∃ o, o = G.w * G.h - k * G.w := ⟨_, rfl⟩
      rw [← ho, ← hcp] at cr
      have HOO := hide' ho
      clear ho hcp hGr
      go_wp2_with fail
      clear ct cr
      go_loopg [27] G.w (fun g v wr => ∃ j : Nat, j ≤ G.w ∧ g = G.w - j ∧ v = .int .i64 (j : Int) ∧ Hid (Stay (fun _ => False) w wr) ∧ Hid (∀ X : Nat, X < j → f (k * G.w + X) = h (k * G.w + X)))
      case atStart => exact ⟨0, Nat.zero_le _, rfl, rfl, HSr, fun X hX => absurd hX (Nat.not_lt_zero _)⟩
      case round =>
        obtain ⟨j, hj, rfl, rfl, HSj, HEJ⟩ := hrel
        by_cases hjw : j < G.w
        · have j1 : (j : Int) < (G.w : Nat) := by omega
          obtain ⟨c, hc⟩ : ∃ c, c = f (k * G.w + j) := ⟨_, rfl⟩
          obtain ⟨d, hd⟩ : ∃ d, d = h (k * G.w + j) := ⟨_, rfl⟩
          have HCD := hide' (show c = f (k * G.w + j) ∧ d = h (k * G.w + j) from ⟨hc, hd⟩)
          obtain ⟨c0, c1, c2, c3⟩ := ((HG.out.keep HSj.out).cells hjw hkh).four
          rw [← hc, ← HOO.out] at c0 c1 c2 c3
          obtain ⟨A, hA⟩ : ∃ A, A = wr.heap.size := ⟨_, rfl⟩
          have st : Stay (fun _ => False) w (wr.alloc (.cells #[.int .i32 c.r, .int .i64 c.fg, .int .i64 c.bg, .int .i64 c.fl] 35)) := HSj.out.alloc _
          have HBX : Hid (BoxC (wr.alloc (.cells #[.int .i32 c.r, .int .i64 c.fg, .int .i64 c.bg, .int .i64 c.fl] 35)) A c) := BoxC.new c hA.symm
          have HSA := hide' st
          obtain ⟨og, obr, obc, ow, oh⟩ := O
          have eow : ow = G.w := HE.out.1
          have eoh : oh = G.h := HE.out.2
          subst eow eoh
          have hOr := HO.out.keep st
          have ot := hOr.top
          have or := hOr.rows k hkh
          have oc := (hOr.cells hjw hkh).box
          simp only at ot or oc
          rw [← hd] at oc
          obtain ⟨o2, ho2⟩ : ∃ o, o = k * G.w * 4 := ⟨_, rfl⟩
          obtain ⟨cp2, hcp2⟩ : ∃ o, o = G.w * G.h - k * G.w := ⟨_, rfl⟩
          rw [← ho2] at or oc
          rw [← hcp2] at or
          have HOX := hide' (show _ ∧ _ ∧ _ from ⟨ot, or, oc⟩)
          clear hc hd st hOr ot or oc ho2 hcp2
          go_upto_region 9 with fail
          clear c0 c1 c2 c3
          rw [← hA]
          obtain ⟨W1, hW1⟩ : ∃ W, W = wr.alloc (.cells #[.int .i32 c.r, .int .i64 c.fg, .int .i64 c.bg, .int .i64 c.fl] 35) := ⟨_, rfl⟩
          rw [← hW1] at HBX HSA HOX
          rw [← hW1]
          clear hW1 hA
          have hS : (fun w' => Stay (fun _ => False) w w' ∧ BoxC w' A c ∧ w'.cell? ⟨og, 0, none⟩ = some (.slice (some ⟨obr, 0, none⟩) G.h G.h) ∧ w'.cell? ⟨obr, k, none⟩ = some (.slice (some ⟨obc, o2, none⟩) G.w cp2) ∧ BoxCAt w' obc (o2 + j * 4) d) W1.drew := ⟨HSA.out.drew, HBX.out.keep (Stay.refl _ _).drew, HOX.out.1, HOX.out.2.1, HOX.out.2.2.keep (Stay.refl _ _).drew⟩
          have HS9 : Hid (Stay (fun _ => False) w W1.drew) := hS.1
          by_cases hcd : c = d
          · have HNE : Hid ((!decide (c = d)) = false) := show _ = _ by simp [hcd]
            have HEJ2 : Hid (∀ X : Nat, X < j + 1 → f (k * G.w + X) = h (k * G.w + X)) := fun X hX => by
              by_cases hXj : X = j
              · rw [hXj, ← HCD.out.1, ← HCD.out.2, hcd]
              · exact HEJ.out X (by omega)
            clear hcd
            refine wp_region_mix (fun w' => Stay (fun _ => False) w w' ∧ BoxC w' A c ∧ w'.cell? ⟨og, 0, none⟩ = some (.slice (some ⟨obr, 0, none⟩) G.h G.h) ∧ w'.cell? ⟨obr, k, none⟩ = some (.slice (some ⟨obc, o2, none⟩) G.w cp2) ∧ BoxCAt w' obc (o2 + j * 4) d) [(0, true), (1, true), (2, true), (3, true), (4, true), (5, true), (6, true), (7, true), (8, true), (9, true), (10, true), (11, true)] (by kernel_rfl) (by kernel_rfl) (fun _ d _ _ _ h => by cases d <;> exact h) hS ?_
            refine mix_begin (fun K0 hK0 => ?_)
            refine mix_take hK0 (some 32) (.load 35 (.tmp 7)) 35 _ (by kernel_rfl) (by kernel_rfl) (fun w' hS' => by exact run_load_BoxC rfl rfl hS'.2.1) (fun K1 hK1 => ?_)
            clear hK0 K0
            simp only [Act.put, List.setIfInBounds_toArray, List.set_cons_zero, List.set_cons_succ]
            refine mix_take hK1 (some 33) (.move (.tmp 1)) 24 _ (by kernel_rfl) (by kernel_rfl) (fun w' hS' => by (obtain ⟨_, _, s2, s3, _⟩ := hS'; simp only [opr]; go_simp; try with_reducible rfl)) (fun K2 hK2 => ?_)
            clear hK1 K1
            simp only [Act.put, List.setIfInBounds_toArray, List.set_cons_zero, List.set_cons_succ]
            refine mix_take hK2 (some 34) (.nilCheck (.tmp 33)) 0 _ (by kernel_rfl) (by kernel_rfl) (fun w' hS' => by (obtain ⟨_, _, s2, s3, _⟩ := hS'; simp only [opr]; go_simp; try with_reducible rfl)) (fun K3 hK3 => ?_)
            clear hK2 K2
            simp only [Act.put, List.setIfInBounds_toArray, List.set_cons_zero, List.set_cons_succ]
            refine mix_take hK3 (some 35) (.fieldAddr 59 (.tmp 34) 0) 0 _ (by kernel_rfl) (by kernel_rfl) (fun w' hS' => by (obtain ⟨_, _, s2, s3, _⟩ := hS'; simp only [opr]; go_simp; try with_reducible rfl)) (fun K4 hK4 => ?_)
            clear hK3 K3
            simp only [Act.put, List.setIfInBounds_toArray, List.set_cons_zero, List.set_cons_succ]
            refine mix_take hK4 (some 36) (.load 57 (.tmp 35)) 57 _ (by kernel_rfl) (by kernel_rfl) (fun w' hS' => by (obtain ⟨_, _, s2, s3, _⟩ := hS'; simp only [opr]; go_simp; try with_reducible rfl)) (fun K5 hK5 => ?_)
            clear hK4 K4
            simp only [Act.put, List.setIfInBounds_toArray, List.set_cons_zero, List.set_cons_succ]
            refine mix_take hK5 (some 37) (.move (.tmp 5)) 3 _ (by kernel_rfl) (by kernel_rfl) (fun w' hS' => by (obtain ⟨_, _, s2, s3, _⟩ := hS'; simp only [opr]; go_simp; try with_reducible rfl)) (fun K6 hK6 => ?_)
            clear hK5 K5
            simp only [Act.put, List.setIfInBounds_toArray, List.set_cons_zero, List.set_cons_succ]
            refine mix_take hK6 (some 38) (.indexAddr 57 (.tmp 36) (.tmp 37)) 0 _ (by kernel_rfl) (by kernel_rfl) (fun w' hS' => by (obtain ⟨_, _, s2, s3, _⟩ := hS'; simp only [opr]; go_simp; try with_reducible rfl)) (fun K7 hK7 => ?_)
            clear hK6 K6
            simp only [Act.put, List.setIfInBounds_toArray, List.set_cons_zero, List.set_cons_succ]
            refine mix_take hK7 (some 39) (.load 26 (.tmp 38)) 26 _ (by kernel_rfl) (by kernel_rfl) (fun w' hS' => by (obtain ⟨_, _, s2, s3, _⟩ := hS'; simp only [opr]; go_simp; try with_reducible rfl)) (fun K8 hK8 => ?_)
            clear hK7 K7
            simp only [Act.put, List.setIfInBounds_toArray, List.set_cons_zero, List.set_cons_succ]
            refine mix_take hK8 (some 40) (.move (.tmp 6)) 3 _ (by kernel_rfl) (by kernel_rfl) (fun w' hS' => by (obtain ⟨_, _, s2, s3, _⟩ := hS'; simp only [opr]; go_simp; try with_reducible rfl)) (fun K9 hK9 => ?_)
            clear hK8 K8
            simp only [Act.put, List.setIfInBounds_toArray, List.set_cons_zero, List.set_cons_succ]
            refine mix_take hK9 (some 41) (.indexAddr 26 (.tmp 39) (.tmp 40)) 0 _ (by kernel_rfl) (by kernel_rfl) (fun w' hS' => by (obtain ⟨_, _, s2, s3, _⟩ := hS'; simp only [opr]; go_simp; try with_reducible rfl)) (fun K10 hK10 => ?_)
            clear hK9 K9
            simp only [Act.put, List.setIfInBounds_toArray, List.set_cons_zero, List.set_cons_succ]
            refine mix_take hK10 (some 42) (.load 35 (.tmp 41)) 35 _ (by kernel_rfl) (by kernel_rfl) (fun w' hS' => by exact run_load_BoxCAt rfl rfl hS'.2.2.2.2) (fun K11 hK11 => ?_)
            clear hK10 K10
            simp only [Act.put, List.setIfInBounds_toArray, List.set_cons_zero, List.set_cons_succ]
            refine mix_take hK11 (some 43) (.binOp BinOp.neq 35 (.tmp 32) (.tmp 42) 35) 4 _ (by kernel_rfl) (by kernel_rfl) (fun w' hS' => by exact neqC_op false _ _ rfl rfl HNE.out) (fun K12 hK12 => ?_)
            clear hK11 K11
            simp only [Act.put, List.setIfInBounds_toArray, List.set_cons_zero, List.set_cons_succ]
            refine hK12 _ _ (mix_nil ?_)
            clear hK12 K12
            clear hS HBX HSA HOX HEJ
            go_wp2
            go_roundg (G.w - (j + 1))
            case measure => omega
            case rel => exact ⟨j + 1, by omega, rfl, by go_num, HS9, HEJ2⟩
          · have HNE : Hid ((!decide (c = d)) = true) := show _ = _ by simp [hcd]
            have HBF : Hid (b = false) := by
              cases b
              · exact (rfl : false = false)
              · exact absurd (HCD.out.1.trans ((HB.out.1 rfl j k hjw hkh).trans HCD.out.2.symm)) hcd
            clear hcd
            refine wp_region_mix (fun w' => Stay (fun _ => False) w w' ∧ BoxC w' A c ∧ w'.cell? ⟨og, 0, none⟩ = some (.slice (some ⟨obr, 0, none⟩) G.h G.h) ∧ w'.cell? ⟨obr, k, none⟩ = some (.slice (some ⟨obc, o2, none⟩) G.w cp2) ∧ BoxCAt w' obc (o2 + j * 4) d) [(0, true), (1, true), (2, true), (3, true), (4, true), (5, true), (6, true), (7, true), (8, true), (9, true), (10, true), (11, true)] (by kernel_rfl) (by kernel_rfl) (fun _ d _ _ _ h => by cases d <;> exact h) hS ?_
            refine mix_begin (fun K0 hK0 => ?_)
            refine mix_take hK0 (some 32) (.load 35 (.tmp 7)) 35 _ (by kernel_rfl) (by kernel_rfl) (fun w' hS' => by exact run_load_BoxC rfl rfl hS'.2.1) (fun K1 hK1 => ?_)
            clear hK0 K0
            simp only [Act.put, List.setIfInBounds_toArray, List.set_cons_zero, List.set_cons_succ]
            refine mix_take hK1 (some 33) (.move (.tmp 1)) 24 _ (by kernel_rfl) (by kernel_rfl) (fun w' hS' => by (obtain ⟨_, _, s2, s3, _⟩ := hS'; simp only [opr]; go_simp; try with_reducible rfl)) (fun K2 hK2 => ?_)
            clear hK1 K1
            simp only [Act.put, List.setIfInBounds_toArray, List.set_cons_zero, List.set_cons_succ]
            refine mix_take hK2 (some 34) (.nilCheck (.tmp 33)) 0 _ (by kernel_rfl) (by kernel_rfl) (fun w' hS' => by (obtain ⟨_, _, s2, s3, _⟩ := hS'; simp only [opr]; go_simp; try with_reducible rfl)) (fun K3 hK3 => ?_)
            clear hK2 K2
            simp only [Act.put, List.setIfInBounds_toArray, List.set_cons_zero, List.set_cons_succ]
            refine mix_take hK3 (some 35) (.fieldAddr 59 (.tmp 34) 0) 0 _ (by kernel_rfl) (by kernel_rfl) (fun w' hS' => by (obtain ⟨_, _, s2, s3, _⟩ := hS'; simp only [opr]; go_simp; try with_reducible rfl)) (fun K4 hK4 => ?_)
            clear hK3 K3
            simp only [Act.put, List.setIfInBounds_toArray, List.set_cons_zero, List.set_cons_succ]
            refine mix_take hK4 (some 36) (.load 57 (.tmp 35)) 57 _ (by kernel_rfl) (by kernel_rfl) (fun w' hS' => by (obtain ⟨_, _, s2, s3, _⟩ := hS'; simp only [opr]; go_simp; try with_reducible rfl)) (fun K5 hK5 => ?_)
            clear hK4 K4
            simp only [Act.put, List.setIfInBounds_toArray, List.set_cons_zero, List.set_cons_succ]
            refine mix_take hK5 (some 37) (.move (.tmp 5)) 3 _ (by kernel_rfl) (by kernel_rfl) (fun w' hS' => by (obtain ⟨_, _, s2, s3, _⟩ := hS'; simp only [opr]; go_simp; try with_reducible rfl)) (fun K6 hK6 => ?_)
            clear hK5 K5
            simp only [Act.put, List.setIfInBounds_toArray, List.set_cons_zero, List.set_cons_succ]
            refine mix_take hK6 (some 38) (.indexAddr 57 (.tmp 36) (.tmp 37)) 0 _ (by kernel_rfl) (by kernel_rfl) (fun w' hS' => by (obtain ⟨_, _, s2, s3, _⟩ := hS'; simp only [opr]; go_simp; try with_reducible rfl)) (fun K7 hK7 => ?_)
            clear hK6 K6
            simp only [Act.put, List.setIfInBounds_toArray, List.set_cons_zero, List.set_cons_succ]
            refine mix_take hK7 (some 39) (.load 26 (.tmp 38)) 26 _ (by kernel_rfl) (by kernel_rfl) (fun w' hS' => by (obtain ⟨_, _, s2, s3, _⟩ := hS'; simp only [opr]; go_simp; try with_reducible rfl)) (fun K8 hK8 => ?_)
            clear hK7 K7
            simp only [Act.put, List.setIfInBounds_toArray, List.set_cons_zero, List.set_cons_succ]
            refine mix_take hK8 (some 40) (.move (.tmp 6)) 3 _ (by kernel_rfl) (by kernel_rfl) (fun w' hS' => by (obtain ⟨_, _, s2, s3, _⟩ := hS'; simp only [opr]; go_simp; try with_reducible rfl)) (fun K9 hK9 => ?_)
            clear hK8 K8
            simp only [Act.put, List.setIfInBounds_toArray, List.set_cons_zero, List.set_cons_succ]
            refine mix_take hK9 (some 41) (.indexAddr 26 (.tmp 39) (.tmp 40)) 0 _ (by kernel_rfl) (by kernel_rfl) (fun w' hS' => by (obtain ⟨_, _, s2, s3, _⟩ := hS'; simp only [opr]; go_simp; try with_reducible rfl)) (fun K10 hK10 => ?_)
            clear hK9 K9
            simp only [Act.put, List.setIfInBounds_toArray, List.set_cons_zero, List.set_cons_succ]
            refine mix_take hK10 (some 42) (.load 35 (.tmp 41)) 35 _ (by kernel_rfl) (by kernel_rfl) (fun w' hS' => by exact run_load_BoxCAt rfl rfl hS'.2.2.2.2) (fun K11 hK11 => ?_)
            clear hK10 K10
            simp only [Act.put, List.setIfInBounds_toArray, List.set_cons_zero, List.set_cons_succ]
            refine mix_take hK11 (some 43) (.binOp BinOp.neq 35 (.tmp 32) (.tmp 42) 35) 4 _ (by kernel_rfl) (by kernel_rfl) (fun w' hS' => by exact neqC_op true _ _ rfl rfl HNE.out) (fun K12 hK12 => ?_)
            clear hK11 K11
            simp only [Act.put, List.setIfInBounds_toArray, List.set_cons_zero, List.set_cons_succ]
            refine hK12 _ _ (mix_nil ?_)
            clear hK12 K12
            clear hS HBX HSA HOX HEJ
            go_wp2
            go_ret
            exact ⟨ret_bool HBF.out.symm, HS9.out⟩
        · have j3 : decide ((j : Int) < (G.w : Nat)) = false := by simp; omega
          have hjw' : j = G.w := by omega
          have HE2 : Hid (∀ X Y : Nat, X < G.w → Y < k + 1 → f (Y * G.w + X) = h (Y * G.w + X)) := fun X Y hX hY => by
            by_cases hYk : Y = k
            · subst hYk; exact HEJ.out X (by omega)
            · exact HEQ.out X Y hX (by omega)
          clear HEJ
          subst hjw'
          go_wp2
          go_roundg (G.h - (k + 1))
          case measure => omega
          case rel => exact ⟨k + 1, by omega, rfl, by go_num, HSj, HE2⟩
    · have hkb' : k = G.h := by omega
      have HE2 : Hid (b = true) := HB.out.2 (fun X Y hX hY => HEQ.out X Y hX (by omega))
      subst hkb'
      have k3 : decide ((G.h : Int) < (G.h : Nat)) = false := by simp
      go_wp2
      go_ret
      exact ⟨ret_bool HE2.out.symm, HSr.out⟩

end Go.Proofs.Ytmpmdlbhiogelaa
