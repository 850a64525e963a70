/-
  FramePlays walked: true of any arguments. No conditions.
-/
import Derived.Test.YtcealbdinbfegaaF6
namespace Go.Proofs.Ytcealbdinbfegaa
open Go.RowKit

theorem extract0 (x y : Value) (w : World) : (Instr.extract (.tuple #[x, y]) 0).run Try.prog w = .ok x w := rfl
theorem extract1 (x y : Value) (w : World) : (Instr.extract (.tuple #[x, y]) 1).run Try.prog w = .ok y w := rfl

attribute [local go_sem] extract0 extract1

set_option maxRecDepth 100000 in
theorem fplays_long (ad : Option Addr) (n cap : Nat) (x y z : Int) (w : World) (hle : (n : Int) ≤ 9223372036854775807) (hn : 60 < n) : Calls Try.prog 3 #[.int .u8 x, .int .u8 y, .slice ad n cap, .int .u8 z] w (LawTrue w) := by
  have n1 : (60 : Int) < (n : Nat) := by omega
  have HAW := hide' awake5
  go_enter Try.func3, Try.ntmps3
  go_wp2_with fail
  refine (HAW.out _).mono ?_
  rintro e w9 ⟨rfl, hs⟩
  have HE := hide' hs
  clear hs
  go_wp2
  go_ret
  exact ⟨rfl, HE.out⟩

set_option maxRecDepth 100000 in
set_option maxHeartbeats 8000000 in
theorem fplays_go (ad : Option Addr) (n cap : Nat) (x y z : Int) (A : Nat → Wr) (w : World) (hA : Ws w ad n A) (hn : n ≤ 60) (hx0 : 0 ≤ x) (hx1 : x < 256) (hy0 : 0 ≤ y) (hy1 : y < 256) (hz0 : 0 ≤ z) (hz1 : z < 256) : Calls Try.prog 3 #[.int .u8 x, .int .u8 y, .slice ad n cap, .int .u8 z] w (LawTrue w) := by
  have HA := hide' hA
  have HAW := hide' awake5
  have HN60 := hide' hn
  have n1 : ¬ (60 : Int) < (n : Nat) := by omega
  obtain ⟨a, ha⟩ : ∃ a : Nat, a = 1 + (x % 12).toNat := ⟨_, rfl⟩
  obtain ⟨h, hh⟩ : ∃ a : Nat, a = 1 + (y % 12).toNat := ⟨_, rfl⟩
  obtain ⟨mx, hmx⟩ : ∃ m : Int, m = x % 12 := ⟨_, rfl⟩
  obtain ⟨my, hmy⟩ : ∃ m : Int, m = y % 12 := ⟨_, rfl⟩
  have e1 : x.tmod 12 = mx := by rw [Int.tmod_eq_emod_of_nonneg hx0]; exact hmx.symm
  have e2 : y.tmod 12 = my := by rw [Int.tmod_eq_emod_of_nonneg hy0]; exact hmy.symm
  have mx0 : 0 ≤ mx := by omega
  have mx1 : mx < 12 := by omega
  have my0 : 0 ≤ my := by omega
  have my1 : my < 12 := by omega
  have e3 : 1 + mx = (a : Nat) := by omega
  have e4 : 1 + my = (h : Nat) := by omega
  have HAH : Hid (1 ≤ a ∧ a ≤ 12 ∧ 1 ≤ h ∧ h ≤ 12) := by show _ ∧ _; omega
  have HN := hide' (new_in (w0 := w) (a := a) (h := h) (Stay.refl _ w) (by omega) (by omega) (by omega) (by omega))
  clear hA hn ha hh hmx hmy
  go_enter Try.func3, Try.ntmps3
  go_wp2_with fail
  refine HN.out.mono ?_
  rintro e w1 ⟨q0, rfl, hi, hs⟩
  obtain ⟨b, hb⟩ : ∃ b, b = q0.b := ⟨_, rfl⟩
  rw [← hb] at hi
  rw [← hb]
  have HI := hide' hi
  have HR := hide' (refNew7 a h w1 HAH.out.1 (by have := HAH.out; omega) HAH.out.2.2.1 (by have := HAH.out; omega))
  clear hb hi hs HN e1 e2 e3 e4 mx0 mx1 my0 my1 hx0 hx1 hy0 hy1
  go_wp2_with fail
  refine HR.out.mono ?_
  rintro e w2 ⟨r0, rfl, hs, hr, hrw, hrh, hrb⟩
  have HI2 := hide' (HI.out.keep hs)
  have HRF := hide' hr
  have HRZ := hide' (show r0.w = a ∧ r0.h = h ∧ w1.heap.size ≤ r0.b from ⟨hrw, hrh, hrb⟩)
  have HI1 := hide' hs.size
  clear hs hr hrw hrh hrb HR
  have gl : r0.g3.l = .slice (some ⟨r0.b, 0, none⟩) r0.n r0.cap := rfl
  go_upto_region 8 with fail
  clear gl
  obtain ⟨xb, hxb⟩ : ∃ B, B = w2.heap.size := ⟨_, rfl⟩
  obtain ⟨w3, hw3⟩ : ∃ W, W = w2.alloc (.cells #[.int .i64 r0.g3.w, .int .i64 r0.g3.h, .slice (some ⟨r0.b, 0, none⟩) r0.n r0.cap] 28) := ⟨_, rfl⟩
  have HP0 : Hid (PIn w b xb a h q0 r0 (fun _ => Cl.zero) (fun _ => Cl.zero) [] [] (.slice none 0 0) w3) := by
    have hst : Stay (fun _ => False) w2 w3 := by rw [hw3]; exact (Stay.refl _ _).alloc _
    exact ⟨HI2.out.keep hst, by rw [hw3]; exact BoxG.new r0.g3 hxb.symm, HRF.out.keep hst, Win.nil _ _, HRZ.out.1, HRZ.out.2.1, by rw [hxb]; exact HI2.out.stay.size, Nat.le_trans HI.out.stay.size HRZ.out.2.2, (fun j hj => by cases hj), HI2.out.at'.fresh (by omega), HI.out.at'.fresh HRZ.out.2.2, fun e => by have := HRF.out.lt; omega⟩
  rw [← hw3, ← hxb]
  clear hw3 hxb HI HI1 HI2 HRF HRZ
  go_wp2_with fail
  go_loopg [13, 14] n (fun gg v13 v14 wr => ∃ (i : Nat) (L : List Wr), i ≤ n ∧ gg = n - i ∧ v14 = .int .i64 (i : Int) ∧ L.length ≤ i ∧ ∃ (na : Option Addr) (nn nc : Nat), v13 = .slice na nn nc ∧ Hid (L.length = nn) ∧ ∃ q r f, Hid (PIn w b xb a h q r f f L L (.slice na nn nc) wr))
  case atStart => exact ⟨0, [], Nat.zero_le _, rfl, rfl, Nat.zero_le _, none, 0, 0, rfl, rfl, _, _, _, HP0⟩
  case round =>
    clear HP0
    obtain ⟨i, L, hi, rfl, rfl, hln, na, nn, nc, rfl, HLL, q, r, f, HP⟩ := hrel
    have HLN := hide' hln
    clear hln
    by_cases hlt : i < n
    · have kn : (i : Int) < (n : Nat) := by omega
      obtain ⟨lb, lo, rfl, hbx, hpx, hpy⟩ := HA.out i hlt
      obtain ⟨p, hp⟩ : ∃ p, p = A i := ⟨_, rfl⟩
      rw [← hp] at hbx hpx hpy
      have HROW : Hid (∀ W, Stay (fun _ => False) w W → W.cell? ⟨lb, lo + i * 6, none⟩ = some (.int .i64 p.x) ∧ W.cell? ⟨lb, lo + i * 6 + 1, none⟩ = some (.int .i64 p.y) ∧ BoxCAt W lb (lo + i * 6 + 2) p.cl) := fun W hs => hbx.read hs
      have HROWB : Hid (∀ W, Stay (fun _ => False) w W → WBoxAt W lb (lo + i * 6) p) := fun W hs => hbx.keep hs
      have HXY : Hid (I64 p.x ∧ I64 p.y) := ⟨hpx, hpy⟩
      have HZ : Hid (r.w = a ∧ r.h = h) := ⟨HP.out.rw', HP.out.rh'⟩
      have HNL : Hid (p.parts.length = 1 * 6) := rfl
      have HONE : Hid (∀ u ∈ p.parts, u.oneCell' = true) := by
        intro u hu
        exact wrs_cells [p] u (by rw [wrs_one]; exact hu)
      obtain ⟨ok, hok⟩ : ∃ k, k = insB a h p.x p.y := ⟨_, rfl⟩
      obtain ⟨f2, hf2⟩ : ∃ f2, f2 = setF a h f p.x p.y p.cl := ⟨_, rfl⟩
      have HOK := hide' hok.symm
      have HIN : Hid (∀ W, Calls Try.prog 8 #[.agg #[.int .i64 r.g3.w, .int .i64 r.g3.h, r.g3.l], .int .i64 p.x, .int .i64 p.y] W (Gives (.bool ok) W)) := fun W => by
        have h1 := refIn8 r p.x p.y W HP.out.ref.w1 HP.out.ref.h1
        rwa [HZ.out.1, HZ.out.2, ← hok] at h1
      have HRS : Hid (∀ W, RefAt W r f → Calls Try.prog 10 #[.agg #[.int .i64 r.g3.w, .int .i64 r.g3.h, r.g3.l], .int .i64 p.x, .int .i64 p.y, .agg #[.int .i32 p.cl.r, .int .i64 p.cl.fg, .int .i64 p.cl.bg, .int .i64 p.cl.fl]] W (NewRef a h f2 W)) := fun W hW => by
        have h1 := refSet10 r f p.x p.y p.cl W hW
        rwa [HZ.out.1, HZ.out.2, ← hf2] at h1
      clear hbx hp hpx hpy hok
      cases ok
      · go_upto_region 12 with fail
        have hS : (fun w' => Stay (fun _ => False) wr w') wr.drew := (Stay.refl _ _).drew
        refine wp_region_mix (fun w' => Stay (fun _ => False) wr w') [(0, true), (1, true), (2, true), (3, true), (4, true), (5, true), (6, true), (7, true), (8, true), (9, true), (10, true), (11, false), (12, true)] (by kernel_rfl) (by kernel_rfl) (fun _ d _ _ _ h => by cases d <;> exact h) hS ?_
        refine mix_begin (fun K0 hK0 => ?_)
        refine mix_take hK0 (some 44) (.load 28 (.tmp 12)) 28 _ (by kernel_rfl) (by kernel_rfl) (fun w' hS' => by exact run_load_BoxG rfl rfl (HP.out.box.keep hS')) (fun K1 hK1 => ?_)
        clear hK0 K0
        simp only [Act.put, List.setIfInBounds_toArray, List.set_cons_zero, List.set_cons_succ]
        refine mix_take hK1 (some 45) (.move (.tmp 2)) 22 _ (by kernel_rfl) (by kernel_rfl) (fun w' hS' => by (obtain ⟨s0, s1, _⟩ := HROW.out _ (HP.out.fin.stay.trans hS'); simp only [opr]; go_simp; try with_reducible rfl)) (fun K2 hK2 => ?_)
        clear hK1 K1
        simp only [Act.put, List.setIfInBounds_toArray, List.set_cons_zero, List.set_cons_succ]
        refine mix_take hK2 (some 46) (.move (.tmp 14)) 3 _ (by kernel_rfl) (by kernel_rfl) (fun w' hS' => by (obtain ⟨s0, s1, _⟩ := HROW.out _ (HP.out.fin.stay.trans hS'); simp only [opr]; go_simp; try with_reducible rfl)) (fun K3 hK3 => ?_)
        clear hK2 K2
        simp only [Act.put, List.setIfInBounds_toArray, List.set_cons_zero, List.set_cons_succ]
        refine mix_take hK3 (some 47) (.indexAddr 22 (.tmp 45) (.tmp 46)) 0 _ (by kernel_rfl) (by kernel_rfl) (fun w' hS' => by (obtain ⟨s0, s1, _⟩ := HROW.out _ (HP.out.fin.stay.trans hS'); simp only [opr]; go_simp; try with_reducible rfl)) (fun K4 hK4 => ?_)
        clear hK3 K3
        simp only [Act.put, List.setIfInBounds_toArray, List.set_cons_zero, List.set_cons_succ]
        refine mix_take hK4 (some 48) (.fieldAddr 36 (.tmp 47) 0) 0 _ (by kernel_rfl) (by kernel_rfl) (fun w' hS' => by (obtain ⟨s0, s1, _⟩ := HROW.out _ (HP.out.fin.stay.trans hS'); simp only [opr]; go_simp; try with_reducible rfl)) (fun K5 hK5 => ?_)
        clear hK4 K4
        simp only [Act.put, List.setIfInBounds_toArray, List.set_cons_zero, List.set_cons_succ]
        refine mix_take hK5 (some 49) (.load 3 (.tmp 48)) 3 _ (by kernel_rfl) (by kernel_rfl) (fun w' hS' => by (obtain ⟨s0, s1, _⟩ := HROW.out _ (HP.out.fin.stay.trans hS'); simp only [opr]; go_simp; try with_reducible rfl)) (fun K6 hK6 => ?_)
        clear hK5 K5
        simp only [Act.put, List.setIfInBounds_toArray, List.set_cons_zero, List.set_cons_succ]
        refine mix_take hK6 (some 50) (.move (.tmp 2)) 22 _ (by kernel_rfl) (by kernel_rfl) (fun w' hS' => by (obtain ⟨s0, s1, _⟩ := HROW.out _ (HP.out.fin.stay.trans hS'); simp only [opr]; go_simp; try with_reducible rfl)) (fun K7 hK7 => ?_)
        clear hK6 K6
        simp only [Act.put, List.setIfInBounds_toArray, List.set_cons_zero, List.set_cons_succ]
        refine mix_take hK7 (some 51) (.move (.tmp 14)) 3 _ (by kernel_rfl) (by kernel_rfl) (fun w' hS' => by (obtain ⟨s0, s1, _⟩ := HROW.out _ (HP.out.fin.stay.trans hS'); simp only [opr]; go_simp; try with_reducible rfl)) (fun K8 hK8 => ?_)
        clear hK7 K7
        simp only [Act.put, List.setIfInBounds_toArray, List.set_cons_zero, List.set_cons_succ]
        refine mix_take hK8 (some 52) (.indexAddr 22 (.tmp 50) (.tmp 51)) 0 _ (by kernel_rfl) (by kernel_rfl) (fun w' hS' => by (obtain ⟨s0, s1, _⟩ := HROW.out _ (HP.out.fin.stay.trans hS'); simp only [opr]; go_simp; try with_reducible rfl)) (fun K9 hK9 => ?_)
        clear hK8 K8
        simp only [Act.put, List.setIfInBounds_toArray, List.set_cons_zero, List.set_cons_succ]
        refine mix_take hK9 (some 53) (.fieldAddr 36 (.tmp 52) 1) 0 _ (by kernel_rfl) (by kernel_rfl) (fun w' hS' => by (obtain ⟨s0, s1, _⟩ := HROW.out _ (HP.out.fin.stay.trans hS'); simp only [opr]; go_simp; try with_reducible rfl)) (fun K10 hK10 => ?_)
        clear hK9 K9
        simp only [Act.put, List.setIfInBounds_toArray, List.set_cons_zero, List.set_cons_succ]
        refine mix_take hK10 (some 54) (.load 3 (.tmp 53)) 3 _ (by kernel_rfl) (by kernel_rfl) (fun w' hS' => by (obtain ⟨s0, s1, _⟩ := HROW.out _ (HP.out.fin.stay.trans hS'); simp only [opr]; go_simp; try with_reducible rfl)) (fun K11 hK11 => ?_)
        clear hK10 K10
        simp only [Act.put, List.setIfInBounds_toArray, List.set_cons_zero, List.set_cons_succ]
        refine mix_call hK11 (some 55) 8 #[.tmp 44, .tmp 49, .tmp 54] #[28, 3, 3] 4 _ (by kernel_rfl) (by kernel_rfl) (enters Try.func8 (by kernel_rfl) (by kernel_rfl)) (by go_simp; try with_reducible rfl) (fun K12 hK12 => ?_)
        clear hK11 K11
        refine ((HIN.out _)).mono ?_
        rintro e wm1 ⟨rfl, hs1⟩
        have hS1 : _ := (show (fun w' => Stay (fun _ => False) wr w') wm1 from hS.trans hs1)
        refine ⟨_, rfl, hS1, ?_⟩
        have HP1 := hide' (HP.out.keep hS1)
        clear hs1
        simp only [Act.put, List.setIfInBounds_toArray, List.set_cons_zero, List.set_cons_succ]
        refine mix_take hK12 (some 15) (.assign (.tmp 55)) 4 _ (by kernel_rfl) (by kernel_rfl) (fun w' hS' => by (obtain ⟨s0, s1, _⟩ := HROW.out _ (HP.out.fin.stay.trans hS'); simp only [opr]; go_simp; try with_reducible rfl)) (fun K13 hK13 => ?_)
        clear hK12 K12
        simp only [Act.put, List.setIfInBounds_toArray, List.set_cons_zero, List.set_cons_succ]
        refine hK13 _ _ (mix_nil ?_)
        clear hK13 K13
        clear hS1 hS HP HIN
        have HP2 := hide' (HP1.out.keep ((Stay.refl _ _).drew))
        clear HP1
        have HPU := hide' (put_in p.x p.y p.cl false HP2.out.fin HOK.out HXY.out.1 HXY.out.2 (by have := HLN.out; have := HN60.out; omega))
        rw [← hf2] at HPU
        clear hf2
        go_upto_region 13 with fail
        have hS : (fun w' => Stay (fun _ => False) w w') wm1.drew := HP2.out.fin.stay
        refine wp_region_mix (fun w' => Stay (fun _ => False) w w') [(0, true), (1, true), (2, true), (3, true), (4, true), (5, true), (6, true), (7, true), (8, true), (9, true), (10, true), (11, true), (12, true), (13, true), (14, true), (15, true), (17, true), (16, false), (18, true)] (by kernel_rfl) (by kernel_rfl) (fun _ d _ _ _ h => by cases d <;> exact h) hS ?_
        refine mix_begin (fun K0 hK0 => ?_)
        refine mix_take hK0 (some 56) (.move (.tmp 11)) 24 _ (by kernel_rfl) (by kernel_rfl) (fun w' hS' => by (obtain ⟨s0, s1, _⟩ := HROW.out _ hS'; simp only [opr]; go_simp; try with_reducible rfl)) (fun K1 hK1 => ?_)
        clear hK0 K0
        simp only [Act.put, List.setIfInBounds_toArray, List.set_cons_zero, List.set_cons_succ]
        refine mix_take hK1 (some 57) (.move (.tmp 2)) 22 _ (by kernel_rfl) (by kernel_rfl) (fun w' hS' => by (obtain ⟨s0, s1, _⟩ := HROW.out _ hS'; simp only [opr]; go_simp; try with_reducible rfl)) (fun K2 hK2 => ?_)
        clear hK1 K1
        simp only [Act.put, List.setIfInBounds_toArray, List.set_cons_zero, List.set_cons_succ]
        refine mix_take hK2 (some 58) (.move (.tmp 14)) 3 _ (by kernel_rfl) (by kernel_rfl) (fun w' hS' => by (obtain ⟨s0, s1, _⟩ := HROW.out _ hS'; simp only [opr]; go_simp; try with_reducible rfl)) (fun K3 hK3 => ?_)
        clear hK2 K2
        simp only [Act.put, List.setIfInBounds_toArray, List.set_cons_zero, List.set_cons_succ]
        refine mix_take hK3 (some 59) (.indexAddr 22 (.tmp 57) (.tmp 58)) 0 _ (by kernel_rfl) (by kernel_rfl) (fun w' hS' => by (obtain ⟨s0, s1, _⟩ := HROW.out _ hS'; simp only [opr]; go_simp; try with_reducible rfl)) (fun K4 hK4 => ?_)
        clear hK3 K3
        simp only [Act.put, List.setIfInBounds_toArray, List.set_cons_zero, List.set_cons_succ]
        refine mix_take hK4 (some 60) (.fieldAddr 36 (.tmp 59) 0) 0 _ (by kernel_rfl) (by kernel_rfl) (fun w' hS' => by (obtain ⟨s0, s1, _⟩ := HROW.out _ hS'; simp only [opr]; go_simp; try with_reducible rfl)) (fun K5 hK5 => ?_)
        clear hK4 K4
        simp only [Act.put, List.setIfInBounds_toArray, List.set_cons_zero, List.set_cons_succ]
        refine mix_take hK5 (some 61) (.load 3 (.tmp 60)) 3 _ (by kernel_rfl) (by kernel_rfl) (fun w' hS' => by (obtain ⟨s0, s1, _⟩ := HROW.out _ hS'; simp only [opr]; go_simp; try with_reducible rfl)) (fun K6 hK6 => ?_)
        clear hK5 K5
        simp only [Act.put, List.setIfInBounds_toArray, List.set_cons_zero, List.set_cons_succ]
        refine mix_take hK6 (some 62) (.move (.tmp 2)) 22 _ (by kernel_rfl) (by kernel_rfl) (fun w' hS' => by (obtain ⟨s0, s1, _⟩ := HROW.out _ hS'; simp only [opr]; go_simp; try with_reducible rfl)) (fun K7 hK7 => ?_)
        clear hK6 K6
        simp only [Act.put, List.setIfInBounds_toArray, List.set_cons_zero, List.set_cons_succ]
        refine mix_take hK7 (some 63) (.move (.tmp 14)) 3 _ (by kernel_rfl) (by kernel_rfl) (fun w' hS' => by (obtain ⟨s0, s1, _⟩ := HROW.out _ hS'; simp only [opr]; go_simp; try with_reducible rfl)) (fun K8 hK8 => ?_)
        clear hK7 K7
        simp only [Act.put, List.setIfInBounds_toArray, List.set_cons_zero, List.set_cons_succ]
        refine mix_take hK8 (some 64) (.indexAddr 22 (.tmp 62) (.tmp 63)) 0 _ (by kernel_rfl) (by kernel_rfl) (fun w' hS' => by (obtain ⟨s0, s1, _⟩ := HROW.out _ hS'; simp only [opr]; go_simp; try with_reducible rfl)) (fun K9 hK9 => ?_)
        clear hK8 K8
        simp only [Act.put, List.setIfInBounds_toArray, List.set_cons_zero, List.set_cons_succ]
        refine mix_take hK9 (some 65) (.fieldAddr 36 (.tmp 64) 1) 0 _ (by kernel_rfl) (by kernel_rfl) (fun w' hS' => by (obtain ⟨s0, s1, _⟩ := HROW.out _ hS'; simp only [opr]; go_simp; try with_reducible rfl)) (fun K10 hK10 => ?_)
        clear hK9 K9
        simp only [Act.put, List.setIfInBounds_toArray, List.set_cons_zero, List.set_cons_succ]
        refine mix_take hK10 (some 66) (.load 3 (.tmp 65)) 3 _ (by kernel_rfl) (by kernel_rfl) (fun w' hS' => by (obtain ⟨s0, s1, _⟩ := HROW.out _ hS'; simp only [opr]; go_simp; try with_reducible rfl)) (fun K11 hK11 => ?_)
        clear hK10 K10
        simp only [Act.put, List.setIfInBounds_toArray, List.set_cons_zero, List.set_cons_succ]
        refine mix_take hK11 (some 67) (.move (.tmp 2)) 22 _ (by kernel_rfl) (by kernel_rfl) (fun w' hS' => by (obtain ⟨s0, s1, _⟩ := HROW.out _ hS'; simp only [opr]; go_simp; try with_reducible rfl)) (fun K12 hK12 => ?_)
        clear hK11 K11
        simp only [Act.put, List.setIfInBounds_toArray, List.set_cons_zero, List.set_cons_succ]
        refine mix_take hK12 (some 68) (.move (.tmp 14)) 3 _ (by kernel_rfl) (by kernel_rfl) (fun w' hS' => by (obtain ⟨s0, s1, _⟩ := HROW.out _ hS'; simp only [opr]; go_simp; try with_reducible rfl)) (fun K13 hK13 => ?_)
        clear hK12 K12
        simp only [Act.put, List.setIfInBounds_toArray, List.set_cons_zero, List.set_cons_succ]
        refine mix_take hK13 (some 69) (.indexAddr 22 (.tmp 67) (.tmp 68)) 0 _ (by kernel_rfl) (by kernel_rfl) (fun w' hS' => by (obtain ⟨s0, s1, _⟩ := HROW.out _ hS'; simp only [opr]; go_simp; try with_reducible rfl)) (fun K14 hK14 => ?_)
        clear hK13 K13
        simp only [Act.put, List.setIfInBounds_toArray, List.set_cons_zero, List.set_cons_succ]
        refine mix_take hK14 (some 70) (.fieldAddr 36 (.tmp 69) 2) 0 _ (by kernel_rfl) (by kernel_rfl) (fun w' hS' => by (obtain ⟨s0, s1, _⟩ := HROW.out _ hS'; simp only [opr]; go_simp; try with_reducible rfl)) (fun K15 hK15 => ?_)
        clear hK14 K14
        simp only [Act.put, List.setIfInBounds_toArray, List.set_cons_zero, List.set_cons_succ]
        refine mix_take hK15 (some 71) (.load 34 (.tmp 70)) 34 _ (by kernel_rfl) (by kernel_rfl) (fun w' hS' => by exact run_load_BoxCAt rfl rfl (HROW.out _ hS').2.2) (fun K16 hK16 => ?_)
        clear hK15 K15
        simp only [Act.put, List.setIfInBounds_toArray, List.set_cons_zero, List.set_cons_succ]
        refine mix_take hK16 (some 73) (.move (.tmp 15)) 4 _ (by kernel_rfl) (by kernel_rfl) (fun w' hS' => by (obtain ⟨s0, s1, _⟩ := HROW.out _ hS'; simp only [opr]; go_simp; try with_reducible rfl)) (fun K17 hK17 => ?_)
        clear hK16 K16
        simp only [Act.put, List.setIfInBounds_toArray, List.set_cons_zero, List.set_cons_succ]
        refine mix_call hK17 (some 72) 9 #[.tmp 56, .tmp 61, .tmp 66, .tmp 71] #[24, 3, 3, 34] 4 _ (by kernel_rfl) (by kernel_rfl) (enters Try.func9 (by kernel_rfl) (by kernel_rfl)) (by go_simp; try with_reducible rfl) (fun K18 hK18 => ?_)
        clear hK17 K17
        refine (HPU.out).mono ?_
        rintro e wm2 ⟨q2, rfl, hf1, hs1⟩
        have hS1 : _ := (show (fun w' => Stay (fun _ => False) w w') wm2 from hf1.stay)
        refine ⟨_, rfl, hS1, ?_⟩
        have HP3 : Hid (PIn w b xb a h q2 r f2 f L L (.slice na nn nc) wm2) := HP2.out.move hf1 hs1
        clear hf1 HP2 HPU
        clear hs1
        simp only [Act.put, List.setIfInBounds_toArray, List.set_cons_zero, List.set_cons_succ]
        refine mix_take hK18 (some 74) (.binOp BinOp.neq 4 (.tmp 72) (.tmp 73) 4) 4 _ (by kernel_rfl) (by kernel_rfl) (fun w' hS' => by (obtain ⟨s0, s1, _⟩ := HROW.out _ hS'; simp only [opr]; go_simp; try with_reducible rfl)) (fun K19 hK19 => ?_)
        clear hK18 K18
        simp only [Act.put, List.setIfInBounds_toArray, List.set_cons_zero, List.set_cons_succ]
        refine hK19 _ _ (mix_nil ?_)
        clear hK19 K19
        clear hS hS1
        have HP5 := HP3
        have HLL2 := HLL
        clear HP3
        go_upto_region 17 with fail
        have HP5' := hide' (HP5.out.keep ((Stay.refl _ _).drew))
        clear HP5
        have HP5 := HP5'
        clear HP5'
        have hS : (fun w' => Stay (fun _ => False) w w') wm2.drew := HP5.out.fin.stay
        refine wp_region_mix (fun w' => Stay (fun _ => False) w w') [(1, true), (2, true), (3, true), (4, true), (5, true), (6, true), (7, true), (8, true), (9, true), (10, true), (11, true), (12, true), (13, true), (14, true), (15, true), (0, false), (16, false), (17, false)] (by kernel_rfl) (by kernel_rfl) (fun _ d _ _ _ h => by cases d <;> exact h) hS ?_
        refine mix_begin (fun K0 hK0 => ?_)
        refine mix_take hK0 (some 84) (.move (.tmp 2)) 22 _ (by kernel_rfl) (by kernel_rfl) (fun w' hS' => by (obtain ⟨s0, s1, _⟩ := HROW.out _ hS'; simp only [opr]; go_simp; try with_reducible rfl)) (fun K1 hK1 => ?_)
        clear hK0 K0
        simp only [Act.put, List.setIfInBounds_toArray, List.set_cons_zero, List.set_cons_succ]
        refine mix_take hK1 (some 85) (.move (.tmp 14)) 3 _ (by kernel_rfl) (by kernel_rfl) (fun w' hS' => by (obtain ⟨s0, s1, _⟩ := HROW.out _ hS'; simp only [opr]; go_simp; try with_reducible rfl)) (fun K2 hK2 => ?_)
        clear hK1 K1
        simp only [Act.put, List.setIfInBounds_toArray, List.set_cons_zero, List.set_cons_succ]
        refine mix_take hK2 (some 86) (.indexAddr 22 (.tmp 84) (.tmp 85)) 0 _ (by kernel_rfl) (by kernel_rfl) (fun w' hS' => by (obtain ⟨s0, s1, _⟩ := HROW.out _ hS'; simp only [opr]; go_simp; try with_reducible rfl)) (fun K3 hK3 => ?_)
        clear hK2 K2
        simp only [Act.put, List.setIfInBounds_toArray, List.set_cons_zero, List.set_cons_succ]
        refine mix_take hK3 (some 87) (.fieldAddr 36 (.tmp 86) 0) 0 _ (by kernel_rfl) (by kernel_rfl) (fun w' hS' => by (obtain ⟨s0, s1, _⟩ := HROW.out _ hS'; simp only [opr]; go_simp; try with_reducible rfl)) (fun K4 hK4 => ?_)
        clear hK3 K3
        simp only [Act.put, List.setIfInBounds_toArray, List.set_cons_zero, List.set_cons_succ]
        refine mix_take hK4 (some 88) (.load 3 (.tmp 87)) 3 _ (by kernel_rfl) (by kernel_rfl) (fun w' hS' => by (obtain ⟨s0, s1, _⟩ := HROW.out _ hS'; simp only [opr]; go_simp; try with_reducible rfl)) (fun K5 hK5 => ?_)
        clear hK4 K4
        simp only [Act.put, List.setIfInBounds_toArray, List.set_cons_zero, List.set_cons_succ]
        refine mix_take hK5 (some 89) (.move (.tmp 2)) 22 _ (by kernel_rfl) (by kernel_rfl) (fun w' hS' => by (obtain ⟨s0, s1, _⟩ := HROW.out _ hS'; simp only [opr]; go_simp; try with_reducible rfl)) (fun K6 hK6 => ?_)
        clear hK5 K5
        simp only [Act.put, List.setIfInBounds_toArray, List.set_cons_zero, List.set_cons_succ]
        refine mix_take hK6 (some 90) (.move (.tmp 14)) 3 _ (by kernel_rfl) (by kernel_rfl) (fun w' hS' => by (obtain ⟨s0, s1, _⟩ := HROW.out _ hS'; simp only [opr]; go_simp; try with_reducible rfl)) (fun K7 hK7 => ?_)
        clear hK6 K6
        simp only [Act.put, List.setIfInBounds_toArray, List.set_cons_zero, List.set_cons_succ]
        refine mix_take hK7 (some 91) (.indexAddr 22 (.tmp 89) (.tmp 90)) 0 _ (by kernel_rfl) (by kernel_rfl) (fun w' hS' => by (obtain ⟨s0, s1, _⟩ := HROW.out _ hS'; simp only [opr]; go_simp; try with_reducible rfl)) (fun K8 hK8 => ?_)
        clear hK7 K7
        simp only [Act.put, List.setIfInBounds_toArray, List.set_cons_zero, List.set_cons_succ]
        refine mix_take hK8 (some 92) (.fieldAddr 36 (.tmp 91) 1) 0 _ (by kernel_rfl) (by kernel_rfl) (fun w' hS' => by (obtain ⟨s0, s1, _⟩ := HROW.out _ hS'; simp only [opr]; go_simp; try with_reducible rfl)) (fun K9 hK9 => ?_)
        clear hK8 K8
        simp only [Act.put, List.setIfInBounds_toArray, List.set_cons_zero, List.set_cons_succ]
        refine mix_take hK9 (some 93) (.load 3 (.tmp 92)) 3 _ (by kernel_rfl) (by kernel_rfl) (fun w' hS' => by (obtain ⟨s0, s1, _⟩ := HROW.out _ hS'; simp only [opr]; go_simp; try with_reducible rfl)) (fun K10 hK10 => ?_)
        clear hK9 K9
        simp only [Act.put, List.setIfInBounds_toArray, List.set_cons_zero, List.set_cons_succ]
        refine mix_take hK10 (some 94) (.move (.tmp 2)) 22 _ (by kernel_rfl) (by kernel_rfl) (fun w' hS' => by (obtain ⟨s0, s1, _⟩ := HROW.out _ hS'; simp only [opr]; go_simp; try with_reducible rfl)) (fun K11 hK11 => ?_)
        clear hK10 K10
        simp only [Act.put, List.setIfInBounds_toArray, List.set_cons_zero, List.set_cons_succ]
        refine mix_take hK11 (some 95) (.move (.tmp 14)) 3 _ (by kernel_rfl) (by kernel_rfl) (fun w' hS' => by (obtain ⟨s0, s1, _⟩ := HROW.out _ hS'; simp only [opr]; go_simp; try with_reducible rfl)) (fun K12 hK12 => ?_)
        clear hK11 K11
        simp only [Act.put, List.setIfInBounds_toArray, List.set_cons_zero, List.set_cons_succ]
        refine mix_take hK12 (some 96) (.indexAddr 22 (.tmp 94) (.tmp 95)) 0 _ (by kernel_rfl) (by kernel_rfl) (fun w' hS' => by (obtain ⟨s0, s1, _⟩ := HROW.out _ hS'; simp only [opr]; go_simp; try with_reducible rfl)) (fun K13 hK13 => ?_)
        clear hK12 K12
        simp only [Act.put, List.setIfInBounds_toArray, List.set_cons_zero, List.set_cons_succ]
        refine mix_take hK13 (some 97) (.fieldAddr 36 (.tmp 96) 2) 0 _ (by kernel_rfl) (by kernel_rfl) (fun w' hS' => by (obtain ⟨s0, s1, _⟩ := HROW.out _ hS'; simp only [opr]; go_simp; try with_reducible rfl)) (fun K14 hK14 => ?_)
        clear hK13 K13
        simp only [Act.put, List.setIfInBounds_toArray, List.set_cons_zero, List.set_cons_succ]
        refine mix_take hK14 (some 98) (.load 34 (.tmp 97)) 34 _ (by kernel_rfl) (by kernel_rfl) (fun w' hS' => by exact run_load_BoxCAt rfl rfl (HROW.out _ hS').2.2) (fun K15 hK15 => ?_)
        clear hK14 K14
        simp only [Act.put, List.setIfInBounds_toArray, List.set_cons_zero, List.set_cons_succ]
        refine mix_chain hK15 (fun K15c hK15c => ?_)
        clear hK15 K15
        refine op_plain (some 83) (.load 28 (.tmp 12)) 28 (by kernel_rfl) (by kernel_rfl) ?_
        obtain ⟨b0, b1, b2, _, _, _⟩ := HP5.out.box
        go_wp2
        clear b0 b1 b2
        have hSl : (fun w' => Stay (fun _ => False) w w') _ := hS
        refine hK15c _ _ hSl (mix_begin fun K16 hK16 => ?_)
        clear hK15c K15c
        try simp only [Act.put, List.setIfInBounds_toArray, List.set_cons_zero, List.set_cons_succ]
        refine mix_call hK16 (some 99) 10 #[.tmp 83, .tmp 88, .tmp 93, .tmp 98] #[28, 3, 3, 34] 28 _ (by kernel_rfl) (by kernel_rfl) (enters Try.func10 (by kernel_rfl) (by kernel_rfl)) (by go_simp; try with_reducible rfl) (fun K17 hK17 => ?_)
        clear hK16 K16
        refine ((HRS.out _ HP5.out.ref)).mono ?_
        rintro e wx ⟨r2, rfl, hs1, hq1, hw1, hh1, hb1⟩
        have hS1 : _ := (show (fun w' => Stay (fun _ => False) w w') wx from hSl.trans hs1)
        refine ⟨_, rfl, hS1, ?_⟩
        have HQ2 := hide' hq1
        have HZ2 := hide' (show r2.w = r.w ∧ r2.h = r.h ∧ wm2.drew.heap.size ≤ r2.b from ⟨hw1.trans HZ.out.1.symm, hh1.trans HZ.out.2.symm, hb1⟩)
        have HSN := hide' hs1
        clear hq1 hw1 hh1 hb1
        clear hs1
        simp only [Act.put, List.setIfInBounds_toArray, List.set_cons_zero, List.set_cons_succ]
        refine mix_chain hK17 (fun K17c hK17c => ?_)
        clear hK17 K17
        refine op_plain none (.store 28 (.tmp 12) (.tmp 99)) 0 (by kernel_rfl) (by kernel_rfl) ?_
        obtain ⟨b0, b1, b2, k0, k1, k2⟩ := (HP5.out.keep HSN.out).box
        have gl : r2.g3.l = .slice (some ⟨r2.b, 0, none⟩) r2.n r2.cap := rfl
        go_wp2
        clear b0 b1 b2 k0 k1 k2 gl
        generalize hW : World.setCell (World.setCell (World.setCell _ _ _) _ _) _ _ = W6
        have HST6 : Hid (Stay (fun j => j = xb) wx W6) := by rw [← hW]; exact (((Stay.refl (fun j => j = xb) _).setCell (p := ⟨xb, 0, none⟩) rfl _).setCell (p := ⟨xb, 1, none⟩) rfl _).setCell (p := ⟨xb, 2, none⟩) rfl _
        have HB6 : Hid (BoxG W6 xb r2.g3) := by rw [← hW]; exact (HP5.out.keep HSN.out).box.put r2.g3
        have HP6 := hide' (HP5.out.other HSN.out HQ2.out HZ2.out.1 HZ2.out.2.1 HZ2.out.2.2 HST6.out HB6.out)
        clear hW HST6 HB6 HQ2
        have hS6 : (fun w' => Stay (fun _ => False) w w') W6 := HP6.out.fin.stay
        refine hK17c _ _ hS6 (mix_begin fun K18 hK18 => ?_)
        clear hK17c K17c
        try simp only [Act.put, List.setIfInBounds_toArray, List.set_cons_zero, List.set_cons_succ]
        refine hK18 _ _ (mix_nil ?_)
        clear hK18 K18
        clear hS hSl hS1 hS6 HP5 HZ2 HSN HRS
        obtain ⟨bz, hbz⟩ : ∃ k, k = ((i : Int) == z) := ⟨_, rfl⟩
        have hbz' := hbz.symm
        clear hbz
        cases bz
        · go_upto_region 22 with fail
          have HP8 := HP6
          clear HP6
          obtain ⟨c, hc⟩ : ∃ c, c = atF a h f2 p.x p.y := ⟨_, rfl⟩
          have HA1 := hide' (at_in p.x p.y c (HP8.out.fin.keep ((Stay.refl _ _).drew)) hc.symm HXY.out.1 HXY.out.2)
          have HA2 : Hid (∀ W, Stay (fun _ => False) W6 W → Calls Try.prog 14 #[.agg #[.int .i64 r2.g3.w, .int .i64 r2.g3.h, r2.g3.l], .int .i64 p.x, .int .i64 p.y] W (Gives (.agg #[.int .i32 c.r, .int .i64 c.fg, .int .i64 c.bg, .int .i64 c.fl]) W)) := fun W hs => by
            have h1 := refAt14 r2 f2 p.x p.y W (HP8.out.ref.keep hs)
            rw [HP8.out.rw', HP8.out.rh', ← hc] at h1
            exact h1
          clear hc
          have hS : (fun w' => Stay (fun _ => False) W6 w') W6.drew := (Stay.refl _ _).drew
          refine wp_region_mix (fun w' => Stay (fun _ => False) W6 w') [(0, true), (1, true), (2, true), (3, true), (4, true), (5, true), (6, true), (7, true), (8, true), (9, true), (10, true), (12, true), (13, true), (14, true), (15, true), (16, true), (17, true), (18, true), (19, true), (20, true), (21, true), (22, true), (11, false), (23, false), (24, true)] (by kernel_rfl) (by kernel_rfl) (fun _ d _ _ _ h => by cases d <;> exact h) hS ?_
          refine mix_begin (fun K0 hK0 => ?_)
          refine mix_take hK0 (some 109) (.move (.tmp 11)) 24 _ (by kernel_rfl) (by kernel_rfl) (fun w' hS' => by (obtain ⟨s0, s1, _⟩ := HROW.out _ (HP8.out.fin.stay.trans hS'); simp only [opr]; go_simp; try with_reducible rfl)) (fun K1 hK1 => ?_)
          clear hK0 K0
          simp only [Act.put, List.setIfInBounds_toArray, List.set_cons_zero, List.set_cons_succ]
          refine mix_take hK1 (some 110) (.move (.tmp 2)) 22 _ (by kernel_rfl) (by kernel_rfl) (fun w' hS' => by (obtain ⟨s0, s1, _⟩ := HROW.out _ (HP8.out.fin.stay.trans hS'); simp only [opr]; go_simp; try with_reducible rfl)) (fun K2 hK2 => ?_)
          clear hK1 K1
          simp only [Act.put, List.setIfInBounds_toArray, List.set_cons_zero, List.set_cons_succ]
          refine mix_take hK2 (some 111) (.move (.tmp 14)) 3 _ (by kernel_rfl) (by kernel_rfl) (fun w' hS' => by (obtain ⟨s0, s1, _⟩ := HROW.out _ (HP8.out.fin.stay.trans hS'); simp only [opr]; go_simp; try with_reducible rfl)) (fun K3 hK3 => ?_)
          clear hK2 K2
          simp only [Act.put, List.setIfInBounds_toArray, List.set_cons_zero, List.set_cons_succ]
          refine mix_take hK3 (some 112) (.indexAddr 22 (.tmp 110) (.tmp 111)) 0 _ (by kernel_rfl) (by kernel_rfl) (fun w' hS' => by (obtain ⟨s0, s1, _⟩ := HROW.out _ (HP8.out.fin.stay.trans hS'); simp only [opr]; go_simp; try with_reducible rfl)) (fun K4 hK4 => ?_)
          clear hK3 K3
          simp only [Act.put, List.setIfInBounds_toArray, List.set_cons_zero, List.set_cons_succ]
          refine mix_take hK4 (some 113) (.fieldAddr 36 (.tmp 112) 0) 0 _ (by kernel_rfl) (by kernel_rfl) (fun w' hS' => by (obtain ⟨s0, s1, _⟩ := HROW.out _ (HP8.out.fin.stay.trans hS'); simp only [opr]; go_simp; try with_reducible rfl)) (fun K5 hK5 => ?_)
          clear hK4 K4
          simp only [Act.put, List.setIfInBounds_toArray, List.set_cons_zero, List.set_cons_succ]
          refine mix_take hK5 (some 114) (.load 3 (.tmp 113)) 3 _ (by kernel_rfl) (by kernel_rfl) (fun w' hS' => by (obtain ⟨s0, s1, _⟩ := HROW.out _ (HP8.out.fin.stay.trans hS'); simp only [opr]; go_simp; try with_reducible rfl)) (fun K6 hK6 => ?_)
          clear hK5 K5
          simp only [Act.put, List.setIfInBounds_toArray, List.set_cons_zero, List.set_cons_succ]
          refine mix_take hK6 (some 115) (.move (.tmp 2)) 22 _ (by kernel_rfl) (by kernel_rfl) (fun w' hS' => by (obtain ⟨s0, s1, _⟩ := HROW.out _ (HP8.out.fin.stay.trans hS'); simp only [opr]; go_simp; try with_reducible rfl)) (fun K7 hK7 => ?_)
          clear hK6 K6
          simp only [Act.put, List.setIfInBounds_toArray, List.set_cons_zero, List.set_cons_succ]
          refine mix_take hK7 (some 116) (.move (.tmp 14)) 3 _ (by kernel_rfl) (by kernel_rfl) (fun w' hS' => by (obtain ⟨s0, s1, _⟩ := HROW.out _ (HP8.out.fin.stay.trans hS'); simp only [opr]; go_simp; try with_reducible rfl)) (fun K8 hK8 => ?_)
          clear hK7 K7
          simp only [Act.put, List.setIfInBounds_toArray, List.set_cons_zero, List.set_cons_succ]
          refine mix_take hK8 (some 117) (.indexAddr 22 (.tmp 115) (.tmp 116)) 0 _ (by kernel_rfl) (by kernel_rfl) (fun w' hS' => by (obtain ⟨s0, s1, _⟩ := HROW.out _ (HP8.out.fin.stay.trans hS'); simp only [opr]; go_simp; try with_reducible rfl)) (fun K9 hK9 => ?_)
          clear hK8 K8
          simp only [Act.put, List.setIfInBounds_toArray, List.set_cons_zero, List.set_cons_succ]
          refine mix_take hK9 (some 118) (.fieldAddr 36 (.tmp 117) 1) 0 _ (by kernel_rfl) (by kernel_rfl) (fun w' hS' => by (obtain ⟨s0, s1, _⟩ := HROW.out _ (HP8.out.fin.stay.trans hS'); simp only [opr]; go_simp; try with_reducible rfl)) (fun K10 hK10 => ?_)
          clear hK9 K9
          simp only [Act.put, List.setIfInBounds_toArray, List.set_cons_zero, List.set_cons_succ]
          refine mix_take hK10 (some 119) (.load 3 (.tmp 118)) 3 _ (by kernel_rfl) (by kernel_rfl) (fun w' hS' => by (obtain ⟨s0, s1, _⟩ := HROW.out _ (HP8.out.fin.stay.trans hS'); simp only [opr]; go_simp; try with_reducible rfl)) (fun K11 hK11 => ?_)
          clear hK10 K10
          simp only [Act.put, List.setIfInBounds_toArray, List.set_cons_zero, List.set_cons_succ]
          refine mix_take hK11 (some 121) (.load 28 (.tmp 12)) 28 _ (by kernel_rfl) (by kernel_rfl) (fun w' hS' => by exact run_load_BoxG rfl rfl (HP8.out.box.keep hS')) (fun K12 hK12 => ?_)
          clear hK11 K11
          simp only [Act.put, List.setIfInBounds_toArray, List.set_cons_zero, List.set_cons_succ]
          refine mix_take hK12 (some 122) (.move (.tmp 2)) 22 _ (by kernel_rfl) (by kernel_rfl) (fun w' hS' => by (obtain ⟨s0, s1, _⟩ := HROW.out _ (HP8.out.fin.stay.trans hS'); simp only [opr]; go_simp; try with_reducible rfl)) (fun K13 hK13 => ?_)
          clear hK12 K12
          simp only [Act.put, List.setIfInBounds_toArray, List.set_cons_zero, List.set_cons_succ]
          refine mix_take hK13 (some 123) (.move (.tmp 14)) 3 _ (by kernel_rfl) (by kernel_rfl) (fun w' hS' => by (obtain ⟨s0, s1, _⟩ := HROW.out _ (HP8.out.fin.stay.trans hS'); simp only [opr]; go_simp; try with_reducible rfl)) (fun K14 hK14 => ?_)
          clear hK13 K13
          simp only [Act.put, List.setIfInBounds_toArray, List.set_cons_zero, List.set_cons_succ]
          refine mix_take hK14 (some 124) (.indexAddr 22 (.tmp 122) (.tmp 123)) 0 _ (by kernel_rfl) (by kernel_rfl) (fun w' hS' => by (obtain ⟨s0, s1, _⟩ := HROW.out _ (HP8.out.fin.stay.trans hS'); simp only [opr]; go_simp; try with_reducible rfl)) (fun K15 hK15 => ?_)
          clear hK14 K14
          simp only [Act.put, List.setIfInBounds_toArray, List.set_cons_zero, List.set_cons_succ]
          refine mix_take hK15 (some 125) (.fieldAddr 36 (.tmp 124) 0) 0 _ (by kernel_rfl) (by kernel_rfl) (fun w' hS' => by (obtain ⟨s0, s1, _⟩ := HROW.out _ (HP8.out.fin.stay.trans hS'); simp only [opr]; go_simp; try with_reducible rfl)) (fun K16 hK16 => ?_)
          clear hK15 K15
          simp only [Act.put, List.setIfInBounds_toArray, List.set_cons_zero, List.set_cons_succ]
          refine mix_take hK16 (some 126) (.load 3 (.tmp 125)) 3 _ (by kernel_rfl) (by kernel_rfl) (fun w' hS' => by (obtain ⟨s0, s1, _⟩ := HROW.out _ (HP8.out.fin.stay.trans hS'); simp only [opr]; go_simp; try with_reducible rfl)) (fun K17 hK17 => ?_)
          clear hK16 K16
          simp only [Act.put, List.setIfInBounds_toArray, List.set_cons_zero, List.set_cons_succ]
          refine mix_take hK17 (some 127) (.move (.tmp 2)) 22 _ (by kernel_rfl) (by kernel_rfl) (fun w' hS' => by (obtain ⟨s0, s1, _⟩ := HROW.out _ (HP8.out.fin.stay.trans hS'); simp only [opr]; go_simp; try with_reducible rfl)) (fun K18 hK18 => ?_)
          clear hK17 K17
          simp only [Act.put, List.setIfInBounds_toArray, List.set_cons_zero, List.set_cons_succ]
          refine mix_take hK18 (some 128) (.move (.tmp 14)) 3 _ (by kernel_rfl) (by kernel_rfl) (fun w' hS' => by (obtain ⟨s0, s1, _⟩ := HROW.out _ (HP8.out.fin.stay.trans hS'); simp only [opr]; go_simp; try with_reducible rfl)) (fun K19 hK19 => ?_)
          clear hK18 K18
          simp only [Act.put, List.setIfInBounds_toArray, List.set_cons_zero, List.set_cons_succ]
          refine mix_take hK19 (some 129) (.indexAddr 22 (.tmp 127) (.tmp 128)) 0 _ (by kernel_rfl) (by kernel_rfl) (fun w' hS' => by (obtain ⟨s0, s1, _⟩ := HROW.out _ (HP8.out.fin.stay.trans hS'); simp only [opr]; go_simp; try with_reducible rfl)) (fun K20 hK20 => ?_)
          clear hK19 K19
          simp only [Act.put, List.setIfInBounds_toArray, List.set_cons_zero, List.set_cons_succ]
          refine mix_take hK20 (some 130) (.fieldAddr 36 (.tmp 129) 1) 0 _ (by kernel_rfl) (by kernel_rfl) (fun w' hS' => by (obtain ⟨s0, s1, _⟩ := HROW.out _ (HP8.out.fin.stay.trans hS'); simp only [opr]; go_simp; try with_reducible rfl)) (fun K21 hK21 => ?_)
          clear hK20 K20
          simp only [Act.put, List.setIfInBounds_toArray, List.set_cons_zero, List.set_cons_succ]
          refine mix_take hK21 (some 131) (.load 3 (.tmp 130)) 3 _ (by kernel_rfl) (by kernel_rfl) (fun w' hS' => by (obtain ⟨s0, s1, _⟩ := HROW.out _ (HP8.out.fin.stay.trans hS'); simp only [opr]; go_simp; try with_reducible rfl)) (fun K22 hK22 => ?_)
          clear hK21 K21
          simp only [Act.put, List.setIfInBounds_toArray, List.set_cons_zero, List.set_cons_succ]
          refine mix_call hK22 (some 120) 13 #[.tmp 109, .tmp 114, .tmp 119] #[24, 3, 3] 34 _ (by kernel_rfl) (by kernel_rfl) (enters Try.func13 (by kernel_rfl) (by kernel_rfl)) (by go_simp; try with_reducible rfl) (fun K23 hK23 => ?_)
          clear hK22 K22
          refine ((HA1.out)).mono ?_
          rintro e wl1 ⟨rfl, hs1⟩
          have hS1 : _ := (show (fun w' => Stay (fun _ => False) W6 w') wl1 from hS.trans hs1)
          refine ⟨_, rfl, hS1, ?_⟩
          have HA3 := hide' (HA2.out _ hS1)
          clear HA1 HA2
          clear hs1
          simp only [Act.put, List.setIfInBounds_toArray, List.set_cons_zero, List.set_cons_succ]
          refine mix_call hK23 (some 132) 14 #[.tmp 121, .tmp 126, .tmp 131] #[28, 3, 3] 34 _ (by kernel_rfl) (by kernel_rfl) (enters Try.func14 (by kernel_rfl) (by kernel_rfl)) (by go_simp; try with_reducible rfl) (fun K24 hK24 => ?_)
          clear hK23 K23
          refine (HA3.out).mono ?_
          rintro e wl2 ⟨rfl, hs2⟩
          have hS2 : _ := (show (fun w' => Stay (fun _ => False) W6 w') wl2 from hS1.trans hs2)
          refine ⟨_, rfl, hS2, ?_⟩
          have HP9 := hide' (HP8.out.keep hS2)
          clear HA3
          clear hs2
          simp only [Act.put, List.setIfInBounds_toArray, List.set_cons_zero, List.set_cons_succ]
          refine mix_take hK24 (some 133) (.binOp BinOp.neq 34 (.tmp 120) (.tmp 132) 34) 4 _ (by kernel_rfl) (by kernel_rfl) (fun w' hS' => by exact neqC_op false _ _ rfl rfl (by simp)) (fun K25 hK25 => ?_)
          clear hK24 K24
          simp only [Act.put, List.setIfInBounds_toArray, List.set_cons_zero, List.set_cons_succ]
          refine hK25 _ _ (mix_nil ?_)
          clear hK25 K25
          clear hS hS1 hS2 HP8
          go_wp2
          go_roundg (n - (i + 1))
          case measure => omega
          case rel => exact ⟨i + 1, L, by omega, rfl, by go_num, (by have h1 := HLN.out; omega), na, nn, nc, rfl, HLL2, _, _, _, HP9⟩
        · have HT := hide' (take_in (n := nn) HP6.out.fin HLL2.out)
          go_wp2_with fail
          refine HT.out.mono ?_
          rintro e w8 ⟨q4, tad, tcap, rfl, hf, hw, hm, _⟩
          have HP7 := hide' (HP6.out.move hf hm)
          have HSM := hide' (same11 tad na tcap nc nn L w8 HLL2.out (by rw [HLL2.out]; exact hw) HP7.out.row (by have h1 := HLN.out; have h2 := HN60.out; omega))
          clear hf hw hm HT HP6
          go_wp2_with fail
          refine HSM.out.mono ?_
          rintro e w9 ⟨rfl, hs⟩
          have HP7' := hide' (HP7.out.keep hs).begins
          clear hs HSM HP7
          go_upto_region 22 with fail
          have HP8 := HP7'
          clear HP7'
          obtain ⟨c, hc⟩ : ∃ c, c = atF a h f2 p.x p.y := ⟨_, rfl⟩
          have HA1 := hide' (at_in p.x p.y c (HP8.out.fin.keep ((Stay.refl _ _).drew)) hc.symm HXY.out.1 HXY.out.2)
          have HA2 : Hid (∀ W, Stay (fun _ => False) w9 W → Calls Try.prog 14 #[.agg #[.int .i64 r2.g3.w, .int .i64 r2.g3.h, r2.g3.l], .int .i64 p.x, .int .i64 p.y] W (Gives (.agg #[.int .i32 c.r, .int .i64 c.fg, .int .i64 c.bg, .int .i64 c.fl]) W)) := fun W hs => by
            have h1 := refAt14 r2 f2 p.x p.y W (HP8.out.ref.keep hs)
            rw [HP8.out.rw', HP8.out.rh', ← hc] at h1
            exact h1
          clear hc
          have hS : (fun w' => Stay (fun _ => False) w9 w') w9.drew := (Stay.refl _ _).drew
          refine wp_region_mix (fun w' => Stay (fun _ => False) w9 w') [(0, true), (1, true), (2, true), (3, true), (4, true), (5, true), (6, true), (7, true), (8, true), (9, true), (10, true), (12, true), (13, true), (14, true), (15, true), (16, true), (17, true), (18, true), (19, true), (20, true), (21, true), (22, true), (11, false), (23, false), (24, true)] (by kernel_rfl) (by kernel_rfl) (fun _ d _ _ _ h => by cases d <;> exact h) hS ?_
          refine mix_begin (fun K0 hK0 => ?_)
          refine mix_take hK0 (some 109) (.move (.tmp 11)) 24 _ (by kernel_rfl) (by kernel_rfl) (fun w' hS' => by (obtain ⟨s0, s1, _⟩ := HROW.out _ (HP8.out.fin.stay.trans hS'); simp only [opr]; go_simp; try with_reducible rfl)) (fun K1 hK1 => ?_)
          clear hK0 K0
          simp only [Act.put, List.setIfInBounds_toArray, List.set_cons_zero, List.set_cons_succ]
          refine mix_take hK1 (some 110) (.move (.tmp 2)) 22 _ (by kernel_rfl) (by kernel_rfl) (fun w' hS' => by (obtain ⟨s0, s1, _⟩ := HROW.out _ (HP8.out.fin.stay.trans hS'); simp only [opr]; go_simp; try with_reducible rfl)) (fun K2 hK2 => ?_)
          clear hK1 K1
          simp only [Act.put, List.setIfInBounds_toArray, List.set_cons_zero, List.set_cons_succ]
          refine mix_take hK2 (some 111) (.move (.tmp 14)) 3 _ (by kernel_rfl) (by kernel_rfl) (fun w' hS' => by (obtain ⟨s0, s1, _⟩ := HROW.out _ (HP8.out.fin.stay.trans hS'); simp only [opr]; go_simp; try with_reducible rfl)) (fun K3 hK3 => ?_)
          clear hK2 K2
          simp only [Act.put, List.setIfInBounds_toArray, List.set_cons_zero, List.set_cons_succ]
          refine mix_take hK3 (some 112) (.indexAddr 22 (.tmp 110) (.tmp 111)) 0 _ (by kernel_rfl) (by kernel_rfl) (fun w' hS' => by (obtain ⟨s0, s1, _⟩ := HROW.out _ (HP8.out.fin.stay.trans hS'); simp only [opr]; go_simp; try with_reducible rfl)) (fun K4 hK4 => ?_)
          clear hK3 K3
          simp only [Act.put, List.setIfInBounds_toArray, List.set_cons_zero, List.set_cons_succ]
          refine mix_take hK4 (some 113) (.fieldAddr 36 (.tmp 112) 0) 0 _ (by kernel_rfl) (by kernel_rfl) (fun w' hS' => by (obtain ⟨s0, s1, _⟩ := HROW.out _ (HP8.out.fin.stay.trans hS'); simp only [opr]; go_simp; try with_reducible rfl)) (fun K5 hK5 => ?_)
          clear hK4 K4
          simp only [Act.put, List.setIfInBounds_toArray, List.set_cons_zero, List.set_cons_succ]
          refine mix_take hK5 (some 114) (.load 3 (.tmp 113)) 3 _ (by kernel_rfl) (by kernel_rfl) (fun w' hS' => by (obtain ⟨s0, s1, _⟩ := HROW.out _ (HP8.out.fin.stay.trans hS'); simp only [opr]; go_simp; try with_reducible rfl)) (fun K6 hK6 => ?_)
          clear hK5 K5
          simp only [Act.put, List.setIfInBounds_toArray, List.set_cons_zero, List.set_cons_succ]
          refine mix_take hK6 (some 115) (.move (.tmp 2)) 22 _ (by kernel_rfl) (by kernel_rfl) (fun w' hS' => by (obtain ⟨s0, s1, _⟩ := HROW.out _ (HP8.out.fin.stay.trans hS'); simp only [opr]; go_simp; try with_reducible rfl)) (fun K7 hK7 => ?_)
          clear hK6 K6
          simp only [Act.put, List.setIfInBounds_toArray, List.set_cons_zero, List.set_cons_succ]
          refine mix_take hK7 (some 116) (.move (.tmp 14)) 3 _ (by kernel_rfl) (by kernel_rfl) (fun w' hS' => by (obtain ⟨s0, s1, _⟩ := HROW.out _ (HP8.out.fin.stay.trans hS'); simp only [opr]; go_simp; try with_reducible rfl)) (fun K8 hK8 => ?_)
          clear hK7 K7
          simp only [Act.put, List.setIfInBounds_toArray, List.set_cons_zero, List.set_cons_succ]
          refine mix_take hK8 (some 117) (.indexAddr 22 (.tmp 115) (.tmp 116)) 0 _ (by kernel_rfl) (by kernel_rfl) (fun w' hS' => by (obtain ⟨s0, s1, _⟩ := HROW.out _ (HP8.out.fin.stay.trans hS'); simp only [opr]; go_simp; try with_reducible rfl)) (fun K9 hK9 => ?_)
          clear hK8 K8
          simp only [Act.put, List.setIfInBounds_toArray, List.set_cons_zero, List.set_cons_succ]
          refine mix_take hK9 (some 118) (.fieldAddr 36 (.tmp 117) 1) 0 _ (by kernel_rfl) (by kernel_rfl) (fun w' hS' => by (obtain ⟨s0, s1, _⟩ := HROW.out _ (HP8.out.fin.stay.trans hS'); simp only [opr]; go_simp; try with_reducible rfl)) (fun K10 hK10 => ?_)
          clear hK9 K9
          simp only [Act.put, List.setIfInBounds_toArray, List.set_cons_zero, List.set_cons_succ]
          refine mix_take hK10 (some 119) (.load 3 (.tmp 118)) 3 _ (by kernel_rfl) (by kernel_rfl) (fun w' hS' => by (obtain ⟨s0, s1, _⟩ := HROW.out _ (HP8.out.fin.stay.trans hS'); simp only [opr]; go_simp; try with_reducible rfl)) (fun K11 hK11 => ?_)
          clear hK10 K10
          simp only [Act.put, List.setIfInBounds_toArray, List.set_cons_zero, List.set_cons_succ]
          refine mix_take hK11 (some 121) (.load 28 (.tmp 12)) 28 _ (by kernel_rfl) (by kernel_rfl) (fun w' hS' => by exact run_load_BoxG rfl rfl (HP8.out.box.keep hS')) (fun K12 hK12 => ?_)
          clear hK11 K11
          simp only [Act.put, List.setIfInBounds_toArray, List.set_cons_zero, List.set_cons_succ]
          refine mix_take hK12 (some 122) (.move (.tmp 2)) 22 _ (by kernel_rfl) (by kernel_rfl) (fun w' hS' => by (obtain ⟨s0, s1, _⟩ := HROW.out _ (HP8.out.fin.stay.trans hS'); simp only [opr]; go_simp; try with_reducible rfl)) (fun K13 hK13 => ?_)
          clear hK12 K12
          simp only [Act.put, List.setIfInBounds_toArray, List.set_cons_zero, List.set_cons_succ]
          refine mix_take hK13 (some 123) (.move (.tmp 14)) 3 _ (by kernel_rfl) (by kernel_rfl) (fun w' hS' => by (obtain ⟨s0, s1, _⟩ := HROW.out _ (HP8.out.fin.stay.trans hS'); simp only [opr]; go_simp; try with_reducible rfl)) (fun K14 hK14 => ?_)
          clear hK13 K13
          simp only [Act.put, List.setIfInBounds_toArray, List.set_cons_zero, List.set_cons_succ]
          refine mix_take hK14 (some 124) (.indexAddr 22 (.tmp 122) (.tmp 123)) 0 _ (by kernel_rfl) (by kernel_rfl) (fun w' hS' => by (obtain ⟨s0, s1, _⟩ := HROW.out _ (HP8.out.fin.stay.trans hS'); simp only [opr]; go_simp; try with_reducible rfl)) (fun K15 hK15 => ?_)
          clear hK14 K14
          simp only [Act.put, List.setIfInBounds_toArray, List.set_cons_zero, List.set_cons_succ]
          refine mix_take hK15 (some 125) (.fieldAddr 36 (.tmp 124) 0) 0 _ (by kernel_rfl) (by kernel_rfl) (fun w' hS' => by (obtain ⟨s0, s1, _⟩ := HROW.out _ (HP8.out.fin.stay.trans hS'); simp only [opr]; go_simp; try with_reducible rfl)) (fun K16 hK16 => ?_)
          clear hK15 K15
          simp only [Act.put, List.setIfInBounds_toArray, List.set_cons_zero, List.set_cons_succ]
          refine mix_take hK16 (some 126) (.load 3 (.tmp 125)) 3 _ (by kernel_rfl) (by kernel_rfl) (fun w' hS' => by (obtain ⟨s0, s1, _⟩ := HROW.out _ (HP8.out.fin.stay.trans hS'); simp only [opr]; go_simp; try with_reducible rfl)) (fun K17 hK17 => ?_)
          clear hK16 K16
          simp only [Act.put, List.setIfInBounds_toArray, List.set_cons_zero, List.set_cons_succ]
          refine mix_take hK17 (some 127) (.move (.tmp 2)) 22 _ (by kernel_rfl) (by kernel_rfl) (fun w' hS' => by (obtain ⟨s0, s1, _⟩ := HROW.out _ (HP8.out.fin.stay.trans hS'); simp only [opr]; go_simp; try with_reducible rfl)) (fun K18 hK18 => ?_)
          clear hK17 K17
          simp only [Act.put, List.setIfInBounds_toArray, List.set_cons_zero, List.set_cons_succ]
          refine mix_take hK18 (some 128) (.move (.tmp 14)) 3 _ (by kernel_rfl) (by kernel_rfl) (fun w' hS' => by (obtain ⟨s0, s1, _⟩ := HROW.out _ (HP8.out.fin.stay.trans hS'); simp only [opr]; go_simp; try with_reducible rfl)) (fun K19 hK19 => ?_)
          clear hK18 K18
          simp only [Act.put, List.setIfInBounds_toArray, List.set_cons_zero, List.set_cons_succ]
          refine mix_take hK19 (some 129) (.indexAddr 22 (.tmp 127) (.tmp 128)) 0 _ (by kernel_rfl) (by kernel_rfl) (fun w' hS' => by (obtain ⟨s0, s1, _⟩ := HROW.out _ (HP8.out.fin.stay.trans hS'); simp only [opr]; go_simp; try with_reducible rfl)) (fun K20 hK20 => ?_)
          clear hK19 K19
          simp only [Act.put, List.setIfInBounds_toArray, List.set_cons_zero, List.set_cons_succ]
          refine mix_take hK20 (some 130) (.fieldAddr 36 (.tmp 129) 1) 0 _ (by kernel_rfl) (by kernel_rfl) (fun w' hS' => by (obtain ⟨s0, s1, _⟩ := HROW.out _ (HP8.out.fin.stay.trans hS'); simp only [opr]; go_simp; try with_reducible rfl)) (fun K21 hK21 => ?_)
          clear hK20 K20
          simp only [Act.put, List.setIfInBounds_toArray, List.set_cons_zero, List.set_cons_succ]
          refine mix_take hK21 (some 131) (.load 3 (.tmp 130)) 3 _ (by kernel_rfl) (by kernel_rfl) (fun w' hS' => by (obtain ⟨s0, s1, _⟩ := HROW.out _ (HP8.out.fin.stay.trans hS'); simp only [opr]; go_simp; try with_reducible rfl)) (fun K22 hK22 => ?_)
          clear hK21 K21
          simp only [Act.put, List.setIfInBounds_toArray, List.set_cons_zero, List.set_cons_succ]
          refine mix_call hK22 (some 120) 13 #[.tmp 109, .tmp 114, .tmp 119] #[24, 3, 3] 34 _ (by kernel_rfl) (by kernel_rfl) (enters Try.func13 (by kernel_rfl) (by kernel_rfl)) (by go_simp; try with_reducible rfl) (fun K23 hK23 => ?_)
          clear hK22 K22
          refine ((HA1.out)).mono ?_
          rintro e wl1 ⟨rfl, hs1⟩
          have hS1 : _ := (show (fun w' => Stay (fun _ => False) w9 w') wl1 from hS.trans hs1)
          refine ⟨_, rfl, hS1, ?_⟩
          have HA3 := hide' (HA2.out _ hS1)
          clear HA1 HA2
          clear hs1
          simp only [Act.put, List.setIfInBounds_toArray, List.set_cons_zero, List.set_cons_succ]
          refine mix_call hK23 (some 132) 14 #[.tmp 121, .tmp 126, .tmp 131] #[28, 3, 3] 34 _ (by kernel_rfl) (by kernel_rfl) (enters Try.func14 (by kernel_rfl) (by kernel_rfl)) (by go_simp; try with_reducible rfl) (fun K24 hK24 => ?_)
          clear hK23 K23
          refine (HA3.out).mono ?_
          rintro e wl2 ⟨rfl, hs2⟩
          have hS2 : _ := (show (fun w' => Stay (fun _ => False) w9 w') wl2 from hS1.trans hs2)
          refine ⟨_, rfl, hS2, ?_⟩
          have HP9 := hide' (HP8.out.keep hS2)
          clear HA3
          clear hs2
          simp only [Act.put, List.setIfInBounds_toArray, List.set_cons_zero, List.set_cons_succ]
          refine mix_take hK24 (some 133) (.binOp BinOp.neq 34 (.tmp 120) (.tmp 132) 34) 4 _ (by kernel_rfl) (by kernel_rfl) (fun w' hS' => by exact neqC_op false _ _ rfl rfl (by simp)) (fun K25 hK25 => ?_)
          clear hK24 K24
          simp only [Act.put, List.setIfInBounds_toArray, List.set_cons_zero, List.set_cons_succ]
          refine hK25 _ _ (mix_nil ?_)
          clear hK25 K25
          clear hS hS1 hS2 HP8
          go_wp2
          go_roundg (n - (i + 1))
          case measure => omega
          case rel => exact ⟨i + 1, [], by omega, rfl, by go_num, Nat.zero_le _, none, 0, 0, rfl, rfl, _, _, _, HP9⟩
      · go_upto_region 12 with fail
        have hS : (fun w' => Stay (fun _ => False) wr w') wr.drew := (Stay.refl _ _).drew
        refine wp_region_mix (fun w' => Stay (fun _ => False) wr w') [(0, true), (1, true), (2, true), (3, true), (4, true), (5, true), (6, true), (7, true), (8, true), (9, true), (10, true), (11, false), (12, true)] (by kernel_rfl) (by kernel_rfl) (fun _ d _ _ _ h => by cases d <;> exact h) hS ?_
        refine mix_begin (fun K0 hK0 => ?_)
        refine mix_take hK0 (some 44) (.load 28 (.tmp 12)) 28 _ (by kernel_rfl) (by kernel_rfl) (fun w' hS' => by exact run_load_BoxG rfl rfl (HP.out.box.keep hS')) (fun K1 hK1 => ?_)
        clear hK0 K0
        simp only [Act.put, List.setIfInBounds_toArray, List.set_cons_zero, List.set_cons_succ]
        refine mix_take hK1 (some 45) (.move (.tmp 2)) 22 _ (by kernel_rfl) (by kernel_rfl) (fun w' hS' => by (obtain ⟨s0, s1, _⟩ := HROW.out _ (HP.out.fin.stay.trans hS'); simp only [opr]; go_simp; try with_reducible rfl)) (fun K2 hK2 => ?_)
        clear hK1 K1
        simp only [Act.put, List.setIfInBounds_toArray, List.set_cons_zero, List.set_cons_succ]
        refine mix_take hK2 (some 46) (.move (.tmp 14)) 3 _ (by kernel_rfl) (by kernel_rfl) (fun w' hS' => by (obtain ⟨s0, s1, _⟩ := HROW.out _ (HP.out.fin.stay.trans hS'); simp only [opr]; go_simp; try with_reducible rfl)) (fun K3 hK3 => ?_)
        clear hK2 K2
        simp only [Act.put, List.setIfInBounds_toArray, List.set_cons_zero, List.set_cons_succ]
        refine mix_take hK3 (some 47) (.indexAddr 22 (.tmp 45) (.tmp 46)) 0 _ (by kernel_rfl) (by kernel_rfl) (fun w' hS' => by (obtain ⟨s0, s1, _⟩ := HROW.out _ (HP.out.fin.stay.trans hS'); simp only [opr]; go_simp; try with_reducible rfl)) (fun K4 hK4 => ?_)
        clear hK3 K3
        simp only [Act.put, List.setIfInBounds_toArray, List.set_cons_zero, List.set_cons_succ]
        refine mix_take hK4 (some 48) (.fieldAddr 36 (.tmp 47) 0) 0 _ (by kernel_rfl) (by kernel_rfl) (fun w' hS' => by (obtain ⟨s0, s1, _⟩ := HROW.out _ (HP.out.fin.stay.trans hS'); simp only [opr]; go_simp; try with_reducible rfl)) (fun K5 hK5 => ?_)
        clear hK4 K4
        simp only [Act.put, List.setIfInBounds_toArray, List.set_cons_zero, List.set_cons_succ]
        refine mix_take hK5 (some 49) (.load 3 (.tmp 48)) 3 _ (by kernel_rfl) (by kernel_rfl) (fun w' hS' => by (obtain ⟨s0, s1, _⟩ := HROW.out _ (HP.out.fin.stay.trans hS'); simp only [opr]; go_simp; try with_reducible rfl)) (fun K6 hK6 => ?_)
        clear hK5 K5
        simp only [Act.put, List.setIfInBounds_toArray, List.set_cons_zero, List.set_cons_succ]
        refine mix_take hK6 (some 50) (.move (.tmp 2)) 22 _ (by kernel_rfl) (by kernel_rfl) (fun w' hS' => by (obtain ⟨s0, s1, _⟩ := HROW.out _ (HP.out.fin.stay.trans hS'); simp only [opr]; go_simp; try with_reducible rfl)) (fun K7 hK7 => ?_)
        clear hK6 K6
        simp only [Act.put, List.setIfInBounds_toArray, List.set_cons_zero, List.set_cons_succ]
        refine mix_take hK7 (some 51) (.move (.tmp 14)) 3 _ (by kernel_rfl) (by kernel_rfl) (fun w' hS' => by (obtain ⟨s0, s1, _⟩ := HROW.out _ (HP.out.fin.stay.trans hS'); simp only [opr]; go_simp; try with_reducible rfl)) (fun K8 hK8 => ?_)
        clear hK7 K7
        simp only [Act.put, List.setIfInBounds_toArray, List.set_cons_zero, List.set_cons_succ]
        refine mix_take hK8 (some 52) (.indexAddr 22 (.tmp 50) (.tmp 51)) 0 _ (by kernel_rfl) (by kernel_rfl) (fun w' hS' => by (obtain ⟨s0, s1, _⟩ := HROW.out _ (HP.out.fin.stay.trans hS'); simp only [opr]; go_simp; try with_reducible rfl)) (fun K9 hK9 => ?_)
        clear hK8 K8
        simp only [Act.put, List.setIfInBounds_toArray, List.set_cons_zero, List.set_cons_succ]
        refine mix_take hK9 (some 53) (.fieldAddr 36 (.tmp 52) 1) 0 _ (by kernel_rfl) (by kernel_rfl) (fun w' hS' => by (obtain ⟨s0, s1, _⟩ := HROW.out _ (HP.out.fin.stay.trans hS'); simp only [opr]; go_simp; try with_reducible rfl)) (fun K10 hK10 => ?_)
        clear hK9 K9
        simp only [Act.put, List.setIfInBounds_toArray, List.set_cons_zero, List.set_cons_succ]
        refine mix_take hK10 (some 54) (.load 3 (.tmp 53)) 3 _ (by kernel_rfl) (by kernel_rfl) (fun w' hS' => by (obtain ⟨s0, s1, _⟩ := HROW.out _ (HP.out.fin.stay.trans hS'); simp only [opr]; go_simp; try with_reducible rfl)) (fun K11 hK11 => ?_)
        clear hK10 K10
        simp only [Act.put, List.setIfInBounds_toArray, List.set_cons_zero, List.set_cons_succ]
        refine mix_call hK11 (some 55) 8 #[.tmp 44, .tmp 49, .tmp 54] #[28, 3, 3] 4 _ (by kernel_rfl) (by kernel_rfl) (enters Try.func8 (by kernel_rfl) (by kernel_rfl)) (by go_simp; try with_reducible rfl) (fun K12 hK12 => ?_)
        clear hK11 K11
        refine ((HIN.out _)).mono ?_
        rintro e wm1 ⟨rfl, hs1⟩
        have hS1 : _ := (show (fun w' => Stay (fun _ => False) wr w') wm1 from hS.trans hs1)
        refine ⟨_, rfl, hS1, ?_⟩
        have HP1 := hide' (HP.out.keep hS1)
        clear hs1
        simp only [Act.put, List.setIfInBounds_toArray, List.set_cons_zero, List.set_cons_succ]
        refine mix_take hK12 (some 15) (.assign (.tmp 55)) 4 _ (by kernel_rfl) (by kernel_rfl) (fun w' hS' => by (obtain ⟨s0, s1, _⟩ := HROW.out _ (HP.out.fin.stay.trans hS'); simp only [opr]; go_simp; try with_reducible rfl)) (fun K13 hK13 => ?_)
        clear hK12 K12
        simp only [Act.put, List.setIfInBounds_toArray, List.set_cons_zero, List.set_cons_succ]
        refine hK13 _ _ (mix_nil ?_)
        clear hK13 K13
        clear hS1 hS HP HIN
        have HP2 := hide' (HP1.out.keep ((Stay.refl _ _).drew))
        clear HP1
        have HPU := hide' (put_in p.x p.y p.cl true HP2.out.fin HOK.out HXY.out.1 HXY.out.2 (by have := HLN.out; have := HN60.out; omega))
        rw [← hf2] at HPU
        clear hf2
        go_upto_region 13 with fail
        have hS : (fun w' => Stay (fun _ => False) w w') wm1.drew := HP2.out.fin.stay
        refine wp_region_mix (fun w' => Stay (fun _ => False) w w') [(0, true), (1, true), (2, true), (3, true), (4, true), (5, true), (6, true), (7, true), (8, true), (9, true), (10, true), (11, true), (12, true), (13, true), (14, true), (15, true), (17, true), (16, false), (18, true)] (by kernel_rfl) (by kernel_rfl) (fun _ d _ _ _ h => by cases d <;> exact h) hS ?_
        refine mix_begin (fun K0 hK0 => ?_)
        refine mix_take hK0 (some 56) (.move (.tmp 11)) 24 _ (by kernel_rfl) (by kernel_rfl) (fun w' hS' => by (obtain ⟨s0, s1, _⟩ := HROW.out _ hS'; simp only [opr]; go_simp; try with_reducible rfl)) (fun K1 hK1 => ?_)
        clear hK0 K0
        simp only [Act.put, List.setIfInBounds_toArray, List.set_cons_zero, List.set_cons_succ]
        refine mix_take hK1 (some 57) (.move (.tmp 2)) 22 _ (by kernel_rfl) (by kernel_rfl) (fun w' hS' => by (obtain ⟨s0, s1, _⟩ := HROW.out _ hS'; simp only [opr]; go_simp; try with_reducible rfl)) (fun K2 hK2 => ?_)
        clear hK1 K1
        simp only [Act.put, List.setIfInBounds_toArray, List.set_cons_zero, List.set_cons_succ]
        refine mix_take hK2 (some 58) (.move (.tmp 14)) 3 _ (by kernel_rfl) (by kernel_rfl) (fun w' hS' => by (obtain ⟨s0, s1, _⟩ := HROW.out _ hS'; simp only [opr]; go_simp; try with_reducible rfl)) (fun K3 hK3 => ?_)
        clear hK2 K2
        simp only [Act.put, List.setIfInBounds_toArray, List.set_cons_zero, List.set_cons_succ]
        refine mix_take hK3 (some 59) (.indexAddr 22 (.tmp 57) (.tmp 58)) 0 _ (by kernel_rfl) (by kernel_rfl) (fun w' hS' => by (obtain ⟨s0, s1, _⟩ := HROW.out _ hS'; simp only [opr]; go_simp; try with_reducible rfl)) (fun K4 hK4 => ?_)
        clear hK3 K3
        simp only [Act.put, List.setIfInBounds_toArray, List.set_cons_zero, List.set_cons_succ]
        refine mix_take hK4 (some 60) (.fieldAddr 36 (.tmp 59) 0) 0 _ (by kernel_rfl) (by kernel_rfl) (fun w' hS' => by (obtain ⟨s0, s1, _⟩ := HROW.out _ hS'; simp only [opr]; go_simp; try with_reducible rfl)) (fun K5 hK5 => ?_)
        clear hK4 K4
        simp only [Act.put, List.setIfInBounds_toArray, List.set_cons_zero, List.set_cons_succ]
        refine mix_take hK5 (some 61) (.load 3 (.tmp 60)) 3 _ (by kernel_rfl) (by kernel_rfl) (fun w' hS' => by (obtain ⟨s0, s1, _⟩ := HROW.out _ hS'; simp only [opr]; go_simp; try with_reducible rfl)) (fun K6 hK6 => ?_)
        clear hK5 K5
        simp only [Act.put, List.setIfInBounds_toArray, List.set_cons_zero, List.set_cons_succ]
        refine mix_take hK6 (some 62) (.move (.tmp 2)) 22 _ (by kernel_rfl) (by kernel_rfl) (fun w' hS' => by (obtain ⟨s0, s1, _⟩ := HROW.out _ hS'; simp only [opr]; go_simp; try with_reducible rfl)) (fun K7 hK7 => ?_)
        clear hK6 K6
        simp only [Act.put, List.setIfInBounds_toArray, List.set_cons_zero, List.set_cons_succ]
        refine mix_take hK7 (some 63) (.move (.tmp 14)) 3 _ (by kernel_rfl) (by kernel_rfl) (fun w' hS' => by (obtain ⟨s0, s1, _⟩ := HROW.out _ hS'; simp only [opr]; go_simp; try with_reducible rfl)) (fun K8 hK8 => ?_)
        clear hK7 K7
        simp only [Act.put, List.setIfInBounds_toArray, List.set_cons_zero, List.set_cons_succ]
        refine mix_take hK8 (some 64) (.indexAddr 22 (.tmp 62) (.tmp 63)) 0 _ (by kernel_rfl) (by kernel_rfl) (fun w' hS' => by (obtain ⟨s0, s1, _⟩ := HROW.out _ hS'; simp only [opr]; go_simp; try with_reducible rfl)) (fun K9 hK9 => ?_)
        clear hK8 K8
        simp only [Act.put, List.setIfInBounds_toArray, List.set_cons_zero, List.set_cons_succ]
        refine mix_take hK9 (some 65) (.fieldAddr 36 (.tmp 64) 1) 0 _ (by kernel_rfl) (by kernel_rfl) (fun w' hS' => by (obtain ⟨s0, s1, _⟩ := HROW.out _ hS'; simp only [opr]; go_simp; try with_reducible rfl)) (fun K10 hK10 => ?_)
        clear hK9 K9
        simp only [Act.put, List.setIfInBounds_toArray, List.set_cons_zero, List.set_cons_succ]
        refine mix_take hK10 (some 66) (.load 3 (.tmp 65)) 3 _ (by kernel_rfl) (by kernel_rfl) (fun w' hS' => by (obtain ⟨s0, s1, _⟩ := HROW.out _ hS'; simp only [opr]; go_simp; try with_reducible rfl)) (fun K11 hK11 => ?_)
        clear hK10 K10
        simp only [Act.put, List.setIfInBounds_toArray, List.set_cons_zero, List.set_cons_succ]
        refine mix_take hK11 (some 67) (.move (.tmp 2)) 22 _ (by kernel_rfl) (by kernel_rfl) (fun w' hS' => by (obtain ⟨s0, s1, _⟩ := HROW.out _ hS'; simp only [opr]; go_simp; try with_reducible rfl)) (fun K12 hK12 => ?_)
        clear hK11 K11
        simp only [Act.put, List.setIfInBounds_toArray, List.set_cons_zero, List.set_cons_succ]
        refine mix_take hK12 (some 68) (.move (.tmp 14)) 3 _ (by kernel_rfl) (by kernel_rfl) (fun w' hS' => by (obtain ⟨s0, s1, _⟩ := HROW.out _ hS'; simp only [opr]; go_simp; try with_reducible rfl)) (fun K13 hK13 => ?_)
        clear hK12 K12
        simp only [Act.put, List.setIfInBounds_toArray, List.set_cons_zero, List.set_cons_succ]
        refine mix_take hK13 (some 69) (.indexAddr 22 (.tmp 67) (.tmp 68)) 0 _ (by kernel_rfl) (by kernel_rfl) (fun w' hS' => by (obtain ⟨s0, s1, _⟩ := HROW.out _ hS'; simp only [opr]; go_simp; try with_reducible rfl)) (fun K14 hK14 => ?_)
        clear hK13 K13
        simp only [Act.put, List.setIfInBounds_toArray, List.set_cons_zero, List.set_cons_succ]
        refine mix_take hK14 (some 70) (.fieldAddr 36 (.tmp 69) 2) 0 _ (by kernel_rfl) (by kernel_rfl) (fun w' hS' => by (obtain ⟨s0, s1, _⟩ := HROW.out _ hS'; simp only [opr]; go_simp; try with_reducible rfl)) (fun K15 hK15 => ?_)
        clear hK14 K14
        simp only [Act.put, List.setIfInBounds_toArray, List.set_cons_zero, List.set_cons_succ]
        refine mix_take hK15 (some 71) (.load 34 (.tmp 70)) 34 _ (by kernel_rfl) (by kernel_rfl) (fun w' hS' => by exact run_load_BoxCAt rfl rfl (HROW.out _ hS').2.2) (fun K16 hK16 => ?_)
        clear hK15 K15
        simp only [Act.put, List.setIfInBounds_toArray, List.set_cons_zero, List.set_cons_succ]
        refine mix_take hK16 (some 73) (.move (.tmp 15)) 4 _ (by kernel_rfl) (by kernel_rfl) (fun w' hS' => by (obtain ⟨s0, s1, _⟩ := HROW.out _ hS'; simp only [opr]; go_simp; try with_reducible rfl)) (fun K17 hK17 => ?_)
        clear hK16 K16
        simp only [Act.put, List.setIfInBounds_toArray, List.set_cons_zero, List.set_cons_succ]
        refine mix_call hK17 (some 72) 9 #[.tmp 56, .tmp 61, .tmp 66, .tmp 71] #[24, 3, 3, 34] 4 _ (by kernel_rfl) (by kernel_rfl) (enters Try.func9 (by kernel_rfl) (by kernel_rfl)) (by go_simp; try with_reducible rfl) (fun K18 hK18 => ?_)
        clear hK17 K17
        refine (HPU.out).mono ?_
        rintro e wm2 ⟨q2, rfl, hf1, hs1⟩
        have hS1 : _ := (show (fun w' => Stay (fun _ => False) w w') wm2 from hf1.stay)
        refine ⟨_, rfl, hS1, ?_⟩
        have HP3 : Hid (PIn w b xb a h q2 r f2 f (L ++ [p]) L (.slice na nn nc) wm2) := HP2.out.move hf1 hs1
        clear hf1 HP2 HPU
        clear hs1
        simp only [Act.put, List.setIfInBounds_toArray, List.set_cons_zero, List.set_cons_succ]
        refine mix_take hK18 (some 74) (.binOp BinOp.neq 4 (.tmp 72) (.tmp 73) 4) 4 _ (by kernel_rfl) (by kernel_rfl) (fun w' hS' => by (obtain ⟨s0, s1, _⟩ := HROW.out _ hS'; simp only [opr]; go_simp; try with_reducible rfl)) (fun K19 hK19 => ?_)
        clear hK18 K18
        simp only [Act.put, List.setIfInBounds_toArray, List.set_cons_zero, List.set_cons_succ]
        refine hK19 _ _ (mix_nil ?_)
        clear hK19 K19
        clear hS hS1
        obtain ⟨c0, c1, c2, c3, c4, c5⟩ := HROWB.out _ HP3.out.fin.stay
        have hst : Stay (fun _ => False) wm2 (wm2.alloc (.cells #[.int .i64 p.x, .int .i64 p.y, .int .i32 p.r, .int .i64 p.fg, .int .i64 p.bg, .int .i64 p.fl] 36)) := (Stay.refl _ _).alloc _
        have HP4 := hide' (HP3.out.keep hst)
        have HSRC : Hid (∀ ad, (some ⟨wm2.heap.size, 0, none⟩ : Option Addr) = some ad → ∀ j u, p.parts[j]? = some u → (wm2.alloc (.cells #[.int .i64 p.x, .int .i64 p.y, .int .i32 p.r, .int .i64 p.fg, .int .i64 p.bg, .int .i64 p.fl] 36)).cell? (ad.add j) = some u) := by
          have hN := isRowS_new wm2 #[.int .i64 p.x, .int .i64 p.y, .int .i32 p.r, .int .i64 p.fg, .int .i64 p.bg, .int .i64 p.fl] 36 6 1 rfl
          rintro ad e j u hu
          rcases hN with ⟨h, _⟩ | ⟨ad', cc, h, _, h3⟩
          · cases h
          · cases h
            cases e
            exact h3 j u hu
        have HRW : Hid (Win (wm2.alloc (.cells #[.int .i64 p.x, .int .i64 p.y, .int .i32 p.r, .int .i64 p.fg, .int .i64 p.bg, .int .i64 p.fl] 36)) 6 (.slice na nn nc) nn (wrs L)) := by
          have h1 := HP4.out.row
          rwa [HLL.out] at h1
        have HNM : Hid (nn + 1 ≤ 1000000) := by have h1 := HLL.out; have h2 := HLN.out; have h3 := HN60.out; show nn + 1 ≤ 1000000; omega
        clear hst HP3
        go_wp2_with (at_builtin; go_must (refine wpList_append_win rfl _ _ 22 rfl Try.underlying22 info36 rfl (by decide) (by decide) HRW.out rfl HNL.out HSRC.out (fun e => by cases e) HONE.out HNM.out rfl ?_; intro vn W5 hwa hsa hba; rw [← HLL.out] at hwa; have HP5 := hide' (HP4.out.noted (p := p) hwa hsa hba); clear hwa hsa hba HSRC HRW HNM HP4 c0 c1 c2 c3 c4 c5))
        go_upto_region 17 with fail
        obtain ⟨na2, nc2, hvn, _, _⟩ := HP5.out.row.shape
        obtain ⟨nn2, hll2⟩ : ∃ n, n = (L ++ [p]).length := ⟨_, rfl⟩
        rw [← hll2] at hvn
        subst hvn
        have HLL2 := hide' hll2.symm
        clear hll2
        have HP5' := hide' (HP5.out.keep ((Stay.refl _ _).drew))
        clear HP5
        have HP5 := HP5'
        clear HP5'
        have hS : (fun w' => Stay (fun _ => False) w w') W5.drew := HP5.out.fin.stay
        refine wp_region_mix (fun w' => Stay (fun _ => False) w w') [(1, true), (2, true), (3, true), (4, true), (5, true), (6, true), (7, true), (8, true), (9, true), (10, true), (11, true), (12, true), (13, true), (14, true), (15, true), (0, false), (16, false), (17, false)] (by kernel_rfl) (by kernel_rfl) (fun _ d _ _ _ h => by cases d <;> exact h) hS ?_
        refine mix_begin (fun K0 hK0 => ?_)
        refine mix_take hK0 (some 84) (.move (.tmp 2)) 22 _ (by kernel_rfl) (by kernel_rfl) (fun w' hS' => by (obtain ⟨s0, s1, _⟩ := HROW.out _ hS'; simp only [opr]; go_simp; try with_reducible rfl)) (fun K1 hK1 => ?_)
        clear hK0 K0
        simp only [Act.put, List.setIfInBounds_toArray, List.set_cons_zero, List.set_cons_succ]
        refine mix_take hK1 (some 85) (.move (.tmp 14)) 3 _ (by kernel_rfl) (by kernel_rfl) (fun w' hS' => by (obtain ⟨s0, s1, _⟩ := HROW.out _ hS'; simp only [opr]; go_simp; try with_reducible rfl)) (fun K2 hK2 => ?_)
        clear hK1 K1
        simp only [Act.put, List.setIfInBounds_toArray, List.set_cons_zero, List.set_cons_succ]
        refine mix_take hK2 (some 86) (.indexAddr 22 (.tmp 84) (.tmp 85)) 0 _ (by kernel_rfl) (by kernel_rfl) (fun w' hS' => by (obtain ⟨s0, s1, _⟩ := HROW.out _ hS'; simp only [opr]; go_simp; try with_reducible rfl)) (fun K3 hK3 => ?_)
        clear hK2 K2
        simp only [Act.put, List.setIfInBounds_toArray, List.set_cons_zero, List.set_cons_succ]
        refine mix_take hK3 (some 87) (.fieldAddr 36 (.tmp 86) 0) 0 _ (by kernel_rfl) (by kernel_rfl) (fun w' hS' => by (obtain ⟨s0, s1, _⟩ := HROW.out _ hS'; simp only [opr]; go_simp; try with_reducible rfl)) (fun K4 hK4 => ?_)
        clear hK3 K3
        simp only [Act.put, List.setIfInBounds_toArray, List.set_cons_zero, List.set_cons_succ]
        refine mix_take hK4 (some 88) (.load 3 (.tmp 87)) 3 _ (by kernel_rfl) (by kernel_rfl) (fun w' hS' => by (obtain ⟨s0, s1, _⟩ := HROW.out _ hS'; simp only [opr]; go_simp; try with_reducible rfl)) (fun K5 hK5 => ?_)
        clear hK4 K4
        simp only [Act.put, List.setIfInBounds_toArray, List.set_cons_zero, List.set_cons_succ]
        refine mix_take hK5 (some 89) (.move (.tmp 2)) 22 _ (by kernel_rfl) (by kernel_rfl) (fun w' hS' => by (obtain ⟨s0, s1, _⟩ := HROW.out _ hS'; simp only [opr]; go_simp; try with_reducible rfl)) (fun K6 hK6 => ?_)
        clear hK5 K5
        simp only [Act.put, List.setIfInBounds_toArray, List.set_cons_zero, List.set_cons_succ]
        refine mix_take hK6 (some 90) (.move (.tmp 14)) 3 _ (by kernel_rfl) (by kernel_rfl) (fun w' hS' => by (obtain ⟨s0, s1, _⟩ := HROW.out _ hS'; simp only [opr]; go_simp; try with_reducible rfl)) (fun K7 hK7 => ?_)
        clear hK6 K6
        simp only [Act.put, List.setIfInBounds_toArray, List.set_cons_zero, List.set_cons_succ]
        refine mix_take hK7 (some 91) (.indexAddr 22 (.tmp 89) (.tmp 90)) 0 _ (by kernel_rfl) (by kernel_rfl) (fun w' hS' => by (obtain ⟨s0, s1, _⟩ := HROW.out _ hS'; simp only [opr]; go_simp; try with_reducible rfl)) (fun K8 hK8 => ?_)
        clear hK7 K7
        simp only [Act.put, List.setIfInBounds_toArray, List.set_cons_zero, List.set_cons_succ]
        refine mix_take hK8 (some 92) (.fieldAddr 36 (.tmp 91) 1) 0 _ (by kernel_rfl) (by kernel_rfl) (fun w' hS' => by (obtain ⟨s0, s1, _⟩ := HROW.out _ hS'; simp only [opr]; go_simp; try with_reducible rfl)) (fun K9 hK9 => ?_)
        clear hK8 K8
        simp only [Act.put, List.setIfInBounds_toArray, List.set_cons_zero, List.set_cons_succ]
        refine mix_take hK9 (some 93) (.load 3 (.tmp 92)) 3 _ (by kernel_rfl) (by kernel_rfl) (fun w' hS' => by (obtain ⟨s0, s1, _⟩ := HROW.out _ hS'; simp only [opr]; go_simp; try with_reducible rfl)) (fun K10 hK10 => ?_)
        clear hK9 K9
        simp only [Act.put, List.setIfInBounds_toArray, List.set_cons_zero, List.set_cons_succ]
        refine mix_take hK10 (some 94) (.move (.tmp 2)) 22 _ (by kernel_rfl) (by kernel_rfl) (fun w' hS' => by (obtain ⟨s0, s1, _⟩ := HROW.out _ hS'; simp only [opr]; go_simp; try with_reducible rfl)) (fun K11 hK11 => ?_)
        clear hK10 K10
        simp only [Act.put, List.setIfInBounds_toArray, List.set_cons_zero, List.set_cons_succ]
        refine mix_take hK11 (some 95) (.move (.tmp 14)) 3 _ (by kernel_rfl) (by kernel_rfl) (fun w' hS' => by (obtain ⟨s0, s1, _⟩ := HROW.out _ hS'; simp only [opr]; go_simp; try with_reducible rfl)) (fun K12 hK12 => ?_)
        clear hK11 K11
        simp only [Act.put, List.setIfInBounds_toArray, List.set_cons_zero, List.set_cons_succ]
        refine mix_take hK12 (some 96) (.indexAddr 22 (.tmp 94) (.tmp 95)) 0 _ (by kernel_rfl) (by kernel_rfl) (fun w' hS' => by (obtain ⟨s0, s1, _⟩ := HROW.out _ hS'; simp only [opr]; go_simp; try with_reducible rfl)) (fun K13 hK13 => ?_)
        clear hK12 K12
        simp only [Act.put, List.setIfInBounds_toArray, List.set_cons_zero, List.set_cons_succ]
        refine mix_take hK13 (some 97) (.fieldAddr 36 (.tmp 96) 2) 0 _ (by kernel_rfl) (by kernel_rfl) (fun w' hS' => by (obtain ⟨s0, s1, _⟩ := HROW.out _ hS'; simp only [opr]; go_simp; try with_reducible rfl)) (fun K14 hK14 => ?_)
        clear hK13 K13
        simp only [Act.put, List.setIfInBounds_toArray, List.set_cons_zero, List.set_cons_succ]
        refine mix_take hK14 (some 98) (.load 34 (.tmp 97)) 34 _ (by kernel_rfl) (by kernel_rfl) (fun w' hS' => by exact run_load_BoxCAt rfl rfl (HROW.out _ hS').2.2) (fun K15 hK15 => ?_)
        clear hK14 K14
        simp only [Act.put, List.setIfInBounds_toArray, List.set_cons_zero, List.set_cons_succ]
        refine mix_chain hK15 (fun K15c hK15c => ?_)
        clear hK15 K15
        refine op_plain (some 83) (.load 28 (.tmp 12)) 28 (by kernel_rfl) (by kernel_rfl) ?_
        obtain ⟨b0, b1, b2, _, _, _⟩ := HP5.out.box
        go_wp2
        clear b0 b1 b2
        have hSl : (fun w' => Stay (fun _ => False) w w') _ := hS
        refine hK15c _ _ hSl (mix_begin fun K16 hK16 => ?_)
        clear hK15c K15c
        try simp only [Act.put, List.setIfInBounds_toArray, List.set_cons_zero, List.set_cons_succ]
        refine mix_call hK16 (some 99) 10 #[.tmp 83, .tmp 88, .tmp 93, .tmp 98] #[28, 3, 3, 34] 28 _ (by kernel_rfl) (by kernel_rfl) (enters Try.func10 (by kernel_rfl) (by kernel_rfl)) (by go_simp; try with_reducible rfl) (fun K17 hK17 => ?_)
        clear hK16 K16
        refine ((HRS.out _ HP5.out.ref)).mono ?_
        rintro e wx ⟨r2, rfl, hs1, hq1, hw1, hh1, hb1⟩
        have hS1 : _ := (show (fun w' => Stay (fun _ => False) w w') wx from hSl.trans hs1)
        refine ⟨_, rfl, hS1, ?_⟩
        have HQ2 := hide' hq1
        have HZ2 := hide' (show r2.w = r.w ∧ r2.h = r.h ∧ W5.drew.heap.size ≤ r2.b from ⟨hw1.trans HZ.out.1.symm, hh1.trans HZ.out.2.symm, hb1⟩)
        have HSN := hide' hs1
        clear hq1 hw1 hh1 hb1
        clear hs1
        simp only [Act.put, List.setIfInBounds_toArray, List.set_cons_zero, List.set_cons_succ]
        refine mix_chain hK17 (fun K17c hK17c => ?_)
        clear hK17 K17
        refine op_plain none (.store 28 (.tmp 12) (.tmp 99)) 0 (by kernel_rfl) (by kernel_rfl) ?_
        obtain ⟨b0, b1, b2, k0, k1, k2⟩ := (HP5.out.keep HSN.out).box
        have gl : r2.g3.l = .slice (some ⟨r2.b, 0, none⟩) r2.n r2.cap := rfl
        go_wp2
        clear b0 b1 b2 k0 k1 k2 gl
        generalize hW : World.setCell (World.setCell (World.setCell _ _ _) _ _) _ _ = W6
        have HST6 : Hid (Stay (fun j => j = xb) wx W6) := by rw [← hW]; exact (((Stay.refl (fun j => j = xb) _).setCell (p := ⟨xb, 0, none⟩) rfl _).setCell (p := ⟨xb, 1, none⟩) rfl _).setCell (p := ⟨xb, 2, none⟩) rfl _
        have HB6 : Hid (BoxG W6 xb r2.g3) := by rw [← hW]; exact (HP5.out.keep HSN.out).box.put r2.g3
        have HP6 := hide' (HP5.out.other HSN.out HQ2.out HZ2.out.1 HZ2.out.2.1 HZ2.out.2.2 HST6.out HB6.out)
        clear hW HST6 HB6 HQ2
        have hS6 : (fun w' => Stay (fun _ => False) w w') W6 := HP6.out.fin.stay
        refine hK17c _ _ hS6 (mix_begin fun K18 hK18 => ?_)
        clear hK17c K17c
        try simp only [Act.put, List.setIfInBounds_toArray, List.set_cons_zero, List.set_cons_succ]
        refine hK18 _ _ (mix_nil ?_)
        clear hK18 K18
        clear hS hSl hS1 hS6 HP5 HZ2 HSN HRS
        obtain ⟨bz, hbz⟩ : ∃ k, k = ((i : Int) == z) := ⟨_, rfl⟩
        have hbz' := hbz.symm
        clear hbz
        cases bz
        · go_upto_region 22 with fail
          have HP8 := HP6
          clear HP6
          obtain ⟨c, hc⟩ : ∃ c, c = atF a h f2 p.x p.y := ⟨_, rfl⟩
          have HA1 := hide' (at_in p.x p.y c (HP8.out.fin.keep ((Stay.refl _ _).drew)) hc.symm HXY.out.1 HXY.out.2)
          have HA2 : Hid (∀ W, Stay (fun _ => False) W6 W → Calls Try.prog 14 #[.agg #[.int .i64 r2.g3.w, .int .i64 r2.g3.h, r2.g3.l], .int .i64 p.x, .int .i64 p.y] W (Gives (.agg #[.int .i32 c.r, .int .i64 c.fg, .int .i64 c.bg, .int .i64 c.fl]) W)) := fun W hs => by
            have h1 := refAt14 r2 f2 p.x p.y W (HP8.out.ref.keep hs)
            rw [HP8.out.rw', HP8.out.rh', ← hc] at h1
            exact h1
          clear hc
          have hS : (fun w' => Stay (fun _ => False) W6 w') W6.drew := (Stay.refl _ _).drew
          refine wp_region_mix (fun w' => Stay (fun _ => False) W6 w') [(0, true), (1, true), (2, true), (3, true), (4, true), (5, true), (6, true), (7, true), (8, true), (9, true), (10, true), (12, true), (13, true), (14, true), (15, true), (16, true), (17, true), (18, true), (19, true), (20, true), (21, true), (22, true), (11, false), (23, false), (24, true)] (by kernel_rfl) (by kernel_rfl) (fun _ d _ _ _ h => by cases d <;> exact h) hS ?_
          refine mix_begin (fun K0 hK0 => ?_)
          refine mix_take hK0 (some 109) (.move (.tmp 11)) 24 _ (by kernel_rfl) (by kernel_rfl) (fun w' hS' => by (obtain ⟨s0, s1, _⟩ := HROW.out _ (HP8.out.fin.stay.trans hS'); simp only [opr]; go_simp; try with_reducible rfl)) (fun K1 hK1 => ?_)
          clear hK0 K0
          simp only [Act.put, List.setIfInBounds_toArray, List.set_cons_zero, List.set_cons_succ]
          refine mix_take hK1 (some 110) (.move (.tmp 2)) 22 _ (by kernel_rfl) (by kernel_rfl) (fun w' hS' => by (obtain ⟨s0, s1, _⟩ := HROW.out _ (HP8.out.fin.stay.trans hS'); simp only [opr]; go_simp; try with_reducible rfl)) (fun K2 hK2 => ?_)
          clear hK1 K1
          simp only [Act.put, List.setIfInBounds_toArray, List.set_cons_zero, List.set_cons_succ]
          refine mix_take hK2 (some 111) (.move (.tmp 14)) 3 _ (by kernel_rfl) (by kernel_rfl) (fun w' hS' => by (obtain ⟨s0, s1, _⟩ := HROW.out _ (HP8.out.fin.stay.trans hS'); simp only [opr]; go_simp; try with_reducible rfl)) (fun K3 hK3 => ?_)
          clear hK2 K2
          simp only [Act.put, List.setIfInBounds_toArray, List.set_cons_zero, List.set_cons_succ]
          refine mix_take hK3 (some 112) (.indexAddr 22 (.tmp 110) (.tmp 111)) 0 _ (by kernel_rfl) (by kernel_rfl) (fun w' hS' => by (obtain ⟨s0, s1, _⟩ := HROW.out _ (HP8.out.fin.stay.trans hS'); simp only [opr]; go_simp; try with_reducible rfl)) (fun K4 hK4 => ?_)
          clear hK3 K3
          simp only [Act.put, List.setIfInBounds_toArray, List.set_cons_zero, List.set_cons_succ]
          refine mix_take hK4 (some 113) (.fieldAddr 36 (.tmp 112) 0) 0 _ (by kernel_rfl) (by kernel_rfl) (fun w' hS' => by (obtain ⟨s0, s1, _⟩ := HROW.out _ (HP8.out.fin.stay.trans hS'); simp only [opr]; go_simp; try with_reducible rfl)) (fun K5 hK5 => ?_)
          clear hK4 K4
          simp only [Act.put, List.setIfInBounds_toArray, List.set_cons_zero, List.set_cons_succ]
          refine mix_take hK5 (some 114) (.load 3 (.tmp 113)) 3 _ (by kernel_rfl) (by kernel_rfl) (fun w' hS' => by (obtain ⟨s0, s1, _⟩ := HROW.out _ (HP8.out.fin.stay.trans hS'); simp only [opr]; go_simp; try with_reducible rfl)) (fun K6 hK6 => ?_)
          clear hK5 K5
          simp only [Act.put, List.setIfInBounds_toArray, List.set_cons_zero, List.set_cons_succ]
          refine mix_take hK6 (some 115) (.move (.tmp 2)) 22 _ (by kernel_rfl) (by kernel_rfl) (fun w' hS' => by (obtain ⟨s0, s1, _⟩ := HROW.out _ (HP8.out.fin.stay.trans hS'); simp only [opr]; go_simp; try with_reducible rfl)) (fun K7 hK7 => ?_)
          clear hK6 K6
          simp only [Act.put, List.setIfInBounds_toArray, List.set_cons_zero, List.set_cons_succ]
          refine mix_take hK7 (some 116) (.move (.tmp 14)) 3 _ (by kernel_rfl) (by kernel_rfl) (fun w' hS' => by (obtain ⟨s0, s1, _⟩ := HROW.out _ (HP8.out.fin.stay.trans hS'); simp only [opr]; go_simp; try with_reducible rfl)) (fun K8 hK8 => ?_)
          clear hK7 K7
          simp only [Act.put, List.setIfInBounds_toArray, List.set_cons_zero, List.set_cons_succ]
          refine mix_take hK8 (some 117) (.indexAddr 22 (.tmp 115) (.tmp 116)) 0 _ (by kernel_rfl) (by kernel_rfl) (fun w' hS' => by (obtain ⟨s0, s1, _⟩ := HROW.out _ (HP8.out.fin.stay.trans hS'); simp only [opr]; go_simp; try with_reducible rfl)) (fun K9 hK9 => ?_)
          clear hK8 K8
          simp only [Act.put, List.setIfInBounds_toArray, List.set_cons_zero, List.set_cons_succ]
          refine mix_take hK9 (some 118) (.fieldAddr 36 (.tmp 117) 1) 0 _ (by kernel_rfl) (by kernel_rfl) (fun w' hS' => by (obtain ⟨s0, s1, _⟩ := HROW.out _ (HP8.out.fin.stay.trans hS'); simp only [opr]; go_simp; try with_reducible rfl)) (fun K10 hK10 => ?_)
          clear hK9 K9
          simp only [Act.put, List.setIfInBounds_toArray, List.set_cons_zero, List.set_cons_succ]
          refine mix_take hK10 (some 119) (.load 3 (.tmp 118)) 3 _ (by kernel_rfl) (by kernel_rfl) (fun w' hS' => by (obtain ⟨s0, s1, _⟩ := HROW.out _ (HP8.out.fin.stay.trans hS'); simp only [opr]; go_simp; try with_reducible rfl)) (fun K11 hK11 => ?_)
          clear hK10 K10
          simp only [Act.put, List.setIfInBounds_toArray, List.set_cons_zero, List.set_cons_succ]
          refine mix_take hK11 (some 121) (.load 28 (.tmp 12)) 28 _ (by kernel_rfl) (by kernel_rfl) (fun w' hS' => by exact run_load_BoxG rfl rfl (HP8.out.box.keep hS')) (fun K12 hK12 => ?_)
          clear hK11 K11
          simp only [Act.put, List.setIfInBounds_toArray, List.set_cons_zero, List.set_cons_succ]
          refine mix_take hK12 (some 122) (.move (.tmp 2)) 22 _ (by kernel_rfl) (by kernel_rfl) (fun w' hS' => by (obtain ⟨s0, s1, _⟩ := HROW.out _ (HP8.out.fin.stay.trans hS'); simp only [opr]; go_simp; try with_reducible rfl)) (fun K13 hK13 => ?_)
          clear hK12 K12
          simp only [Act.put, List.setIfInBounds_toArray, List.set_cons_zero, List.set_cons_succ]
          refine mix_take hK13 (some 123) (.move (.tmp 14)) 3 _ (by kernel_rfl) (by kernel_rfl) (fun w' hS' => by (obtain ⟨s0, s1, _⟩ := HROW.out _ (HP8.out.fin.stay.trans hS'); simp only [opr]; go_simp; try with_reducible rfl)) (fun K14 hK14 => ?_)
          clear hK13 K13
          simp only [Act.put, List.setIfInBounds_toArray, List.set_cons_zero, List.set_cons_succ]
          refine mix_take hK14 (some 124) (.indexAddr 22 (.tmp 122) (.tmp 123)) 0 _ (by kernel_rfl) (by kernel_rfl) (fun w' hS' => by (obtain ⟨s0, s1, _⟩ := HROW.out _ (HP8.out.fin.stay.trans hS'); simp only [opr]; go_simp; try with_reducible rfl)) (fun K15 hK15 => ?_)
          clear hK14 K14
          simp only [Act.put, List.setIfInBounds_toArray, List.set_cons_zero, List.set_cons_succ]
          refine mix_take hK15 (some 125) (.fieldAddr 36 (.tmp 124) 0) 0 _ (by kernel_rfl) (by kernel_rfl) (fun w' hS' => by (obtain ⟨s0, s1, _⟩ := HROW.out _ (HP8.out.fin.stay.trans hS'); simp only [opr]; go_simp; try with_reducible rfl)) (fun K16 hK16 => ?_)
          clear hK15 K15
          simp only [Act.put, List.setIfInBounds_toArray, List.set_cons_zero, List.set_cons_succ]
          refine mix_take hK16 (some 126) (.load 3 (.tmp 125)) 3 _ (by kernel_rfl) (by kernel_rfl) (fun w' hS' => by (obtain ⟨s0, s1, _⟩ := HROW.out _ (HP8.out.fin.stay.trans hS'); simp only [opr]; go_simp; try with_reducible rfl)) (fun K17 hK17 => ?_)
          clear hK16 K16
          simp only [Act.put, List.setIfInBounds_toArray, List.set_cons_zero, List.set_cons_succ]
          refine mix_take hK17 (some 127) (.move (.tmp 2)) 22 _ (by kernel_rfl) (by kernel_rfl) (fun w' hS' => by (obtain ⟨s0, s1, _⟩ := HROW.out _ (HP8.out.fin.stay.trans hS'); simp only [opr]; go_simp; try with_reducible rfl)) (fun K18 hK18 => ?_)
          clear hK17 K17
          simp only [Act.put, List.setIfInBounds_toArray, List.set_cons_zero, List.set_cons_succ]
          refine mix_take hK18 (some 128) (.move (.tmp 14)) 3 _ (by kernel_rfl) (by kernel_rfl) (fun w' hS' => by (obtain ⟨s0, s1, _⟩ := HROW.out _ (HP8.out.fin.stay.trans hS'); simp only [opr]; go_simp; try with_reducible rfl)) (fun K19 hK19 => ?_)
          clear hK18 K18
          simp only [Act.put, List.setIfInBounds_toArray, List.set_cons_zero, List.set_cons_succ]
          refine mix_take hK19 (some 129) (.indexAddr 22 (.tmp 127) (.tmp 128)) 0 _ (by kernel_rfl) (by kernel_rfl) (fun w' hS' => by (obtain ⟨s0, s1, _⟩ := HROW.out _ (HP8.out.fin.stay.trans hS'); simp only [opr]; go_simp; try with_reducible rfl)) (fun K20 hK20 => ?_)
          clear hK19 K19
          simp only [Act.put, List.setIfInBounds_toArray, List.set_cons_zero, List.set_cons_succ]
          refine mix_take hK20 (some 130) (.fieldAddr 36 (.tmp 129) 1) 0 _ (by kernel_rfl) (by kernel_rfl) (fun w' hS' => by (obtain ⟨s0, s1, _⟩ := HROW.out _ (HP8.out.fin.stay.trans hS'); simp only [opr]; go_simp; try with_reducible rfl)) (fun K21 hK21 => ?_)
          clear hK20 K20
          simp only [Act.put, List.setIfInBounds_toArray, List.set_cons_zero, List.set_cons_succ]
          refine mix_take hK21 (some 131) (.load 3 (.tmp 130)) 3 _ (by kernel_rfl) (by kernel_rfl) (fun w' hS' => by (obtain ⟨s0, s1, _⟩ := HROW.out _ (HP8.out.fin.stay.trans hS'); simp only [opr]; go_simp; try with_reducible rfl)) (fun K22 hK22 => ?_)
          clear hK21 K21
          simp only [Act.put, List.setIfInBounds_toArray, List.set_cons_zero, List.set_cons_succ]
          refine mix_call hK22 (some 120) 13 #[.tmp 109, .tmp 114, .tmp 119] #[24, 3, 3] 34 _ (by kernel_rfl) (by kernel_rfl) (enters Try.func13 (by kernel_rfl) (by kernel_rfl)) (by go_simp; try with_reducible rfl) (fun K23 hK23 => ?_)
          clear hK22 K22
          refine ((HA1.out)).mono ?_
          rintro e wl1 ⟨rfl, hs1⟩
          have hS1 : _ := (show (fun w' => Stay (fun _ => False) W6 w') wl1 from hS.trans hs1)
          refine ⟨_, rfl, hS1, ?_⟩
          have HA3 := hide' (HA2.out _ hS1)
          clear HA1 HA2
          clear hs1
          simp only [Act.put, List.setIfInBounds_toArray, List.set_cons_zero, List.set_cons_succ]
          refine mix_call hK23 (some 132) 14 #[.tmp 121, .tmp 126, .tmp 131] #[28, 3, 3] 34 _ (by kernel_rfl) (by kernel_rfl) (enters Try.func14 (by kernel_rfl) (by kernel_rfl)) (by go_simp; try with_reducible rfl) (fun K24 hK24 => ?_)
          clear hK23 K23
          refine (HA3.out).mono ?_
          rintro e wl2 ⟨rfl, hs2⟩
          have hS2 : _ := (show (fun w' => Stay (fun _ => False) W6 w') wl2 from hS1.trans hs2)
          refine ⟨_, rfl, hS2, ?_⟩
          have HP9 := hide' (HP8.out.keep hS2)
          clear HA3
          clear hs2
          simp only [Act.put, List.setIfInBounds_toArray, List.set_cons_zero, List.set_cons_succ]
          refine mix_take hK24 (some 133) (.binOp BinOp.neq 34 (.tmp 120) (.tmp 132) 34) 4 _ (by kernel_rfl) (by kernel_rfl) (fun w' hS' => by exact neqC_op false _ _ rfl rfl (by simp)) (fun K25 hK25 => ?_)
          clear hK24 K24
          simp only [Act.put, List.setIfInBounds_toArray, List.set_cons_zero, List.set_cons_succ]
          refine hK25 _ _ (mix_nil ?_)
          clear hK25 K25
          clear hS hS1 hS2 HP8
          go_wp2
          go_roundg (n - (i + 1))
          case measure => omega
          case rel => exact ⟨i + 1, (L ++ [p]), by omega, rfl, by go_num, (by have h1 := HLN.out; rw [List.length_append]; show L.length + 1 ≤ i + 1; omega), na2, nn2, nc2, rfl, HLL2, _, _, _, HP9⟩
        · have HT := hide' (take_in (n := nn2) HP6.out.fin HLL2.out)
          go_wp2_with fail
          refine HT.out.mono ?_
          rintro e w8 ⟨q4, tad, tcap, rfl, hf, hw, hm, _⟩
          have HP7 := hide' (HP6.out.move hf hm)
          have HSM := hide' (same11 tad na2 tcap nc2 nn2 (L ++ [p]) w8 HLL2.out (by rw [HLL2.out]; exact hw) HP7.out.row (by have h1 := HLN.out; have h2 := HN60.out; rw [List.length_append]; show L.length + 1 ≤ 1000; omega))
          clear hf hw hm HT HP6
          go_wp2_with fail
          refine HSM.out.mono ?_
          rintro e w9 ⟨rfl, hs⟩
          have HP7' := hide' (HP7.out.keep hs).begins
          clear hs HSM HP7
          go_upto_region 22 with fail
          have HP8 := HP7'
          clear HP7'
          obtain ⟨c, hc⟩ : ∃ c, c = atF a h f2 p.x p.y := ⟨_, rfl⟩
          have HA1 := hide' (at_in p.x p.y c (HP8.out.fin.keep ((Stay.refl _ _).drew)) hc.symm HXY.out.1 HXY.out.2)
          have HA2 : Hid (∀ W, Stay (fun _ => False) w9 W → Calls Try.prog 14 #[.agg #[.int .i64 r2.g3.w, .int .i64 r2.g3.h, r2.g3.l], .int .i64 p.x, .int .i64 p.y] W (Gives (.agg #[.int .i32 c.r, .int .i64 c.fg, .int .i64 c.bg, .int .i64 c.fl]) W)) := fun W hs => by
            have h1 := refAt14 r2 f2 p.x p.y W (HP8.out.ref.keep hs)
            rw [HP8.out.rw', HP8.out.rh', ← hc] at h1
            exact h1
          clear hc
          have hS : (fun w' => Stay (fun _ => False) w9 w') w9.drew := (Stay.refl _ _).drew
          refine wp_region_mix (fun w' => Stay (fun _ => False) w9 w') [(0, true), (1, true), (2, true), (3, true), (4, true), (5, true), (6, true), (7, true), (8, true), (9, true), (10, true), (12, true), (13, true), (14, true), (15, true), (16, true), (17, true), (18, true), (19, true), (20, true), (21, true), (22, true), (11, false), (23, false), (24, true)] (by kernel_rfl) (by kernel_rfl) (fun _ d _ _ _ h => by cases d <;> exact h) hS ?_
          refine mix_begin (fun K0 hK0 => ?_)
          refine mix_take hK0 (some 109) (.move (.tmp 11)) 24 _ (by kernel_rfl) (by kernel_rfl) (fun w' hS' => by (obtain ⟨s0, s1, _⟩ := HROW.out _ (HP8.out.fin.stay.trans hS'); simp only [opr]; go_simp; try with_reducible rfl)) (fun K1 hK1 => ?_)
          clear hK0 K0
          simp only [Act.put, List.setIfInBounds_toArray, List.set_cons_zero, List.set_cons_succ]
          refine mix_take hK1 (some 110) (.move (.tmp 2)) 22 _ (by kernel_rfl) (by kernel_rfl) (fun w' hS' => by (obtain ⟨s0, s1, _⟩ := HROW.out _ (HP8.out.fin.stay.trans hS'); simp only [opr]; go_simp; try with_reducible rfl)) (fun K2 hK2 => ?_)
          clear hK1 K1
          simp only [Act.put, List.setIfInBounds_toArray, List.set_cons_zero, List.set_cons_succ]
          refine mix_take hK2 (some 111) (.move (.tmp 14)) 3 _ (by kernel_rfl) (by kernel_rfl) (fun w' hS' => by (obtain ⟨s0, s1, _⟩ := HROW.out _ (HP8.out.fin.stay.trans hS'); simp only [opr]; go_simp; try with_reducible rfl)) (fun K3 hK3 => ?_)
          clear hK2 K2
          simp only [Act.put, List.setIfInBounds_toArray, List.set_cons_zero, List.set_cons_succ]
          refine mix_take hK3 (some 112) (.indexAddr 22 (.tmp 110) (.tmp 111)) 0 _ (by kernel_rfl) (by kernel_rfl) (fun w' hS' => by (obtain ⟨s0, s1, _⟩ := HROW.out _ (HP8.out.fin.stay.trans hS'); simp only [opr]; go_simp; try with_reducible rfl)) (fun K4 hK4 => ?_)
          clear hK3 K3
          simp only [Act.put, List.setIfInBounds_toArray, List.set_cons_zero, List.set_cons_succ]
          refine mix_take hK4 (some 113) (.fieldAddr 36 (.tmp 112) 0) 0 _ (by kernel_rfl) (by kernel_rfl) (fun w' hS' => by (obtain ⟨s0, s1, _⟩ := HROW.out _ (HP8.out.fin.stay.trans hS'); simp only [opr]; go_simp; try with_reducible rfl)) (fun K5 hK5 => ?_)
          clear hK4 K4
          simp only [Act.put, List.setIfInBounds_toArray, List.set_cons_zero, List.set_cons_succ]
          refine mix_take hK5 (some 114) (.load 3 (.tmp 113)) 3 _ (by kernel_rfl) (by kernel_rfl) (fun w' hS' => by (obtain ⟨s0, s1, _⟩ := HROW.out _ (HP8.out.fin.stay.trans hS'); simp only [opr]; go_simp; try with_reducible rfl)) (fun K6 hK6 => ?_)
          clear hK5 K5
          simp only [Act.put, List.setIfInBounds_toArray, List.set_cons_zero, List.set_cons_succ]
          refine mix_take hK6 (some 115) (.move (.tmp 2)) 22 _ (by kernel_rfl) (by kernel_rfl) (fun w' hS' => by (obtain ⟨s0, s1, _⟩ := HROW.out _ (HP8.out.fin.stay.trans hS'); simp only [opr]; go_simp; try with_reducible rfl)) (fun K7 hK7 => ?_)
          clear hK6 K6
          simp only [Act.put, List.setIfInBounds_toArray, List.set_cons_zero, List.set_cons_succ]
          refine mix_take hK7 (some 116) (.move (.tmp 14)) 3 _ (by kernel_rfl) (by kernel_rfl) (fun w' hS' => by (obtain ⟨s0, s1, _⟩ := HROW.out _ (HP8.out.fin.stay.trans hS'); simp only [opr]; go_simp; try with_reducible rfl)) (fun K8 hK8 => ?_)
          clear hK7 K7
          simp only [Act.put, List.setIfInBounds_toArray, List.set_cons_zero, List.set_cons_succ]
          refine mix_take hK8 (some 117) (.indexAddr 22 (.tmp 115) (.tmp 116)) 0 _ (by kernel_rfl) (by kernel_rfl) (fun w' hS' => by (obtain ⟨s0, s1, _⟩ := HROW.out _ (HP8.out.fin.stay.trans hS'); simp only [opr]; go_simp; try with_reducible rfl)) (fun K9 hK9 => ?_)
          clear hK8 K8
          simp only [Act.put, List.setIfInBounds_toArray, List.set_cons_zero, List.set_cons_succ]
          refine mix_take hK9 (some 118) (.fieldAddr 36 (.tmp 117) 1) 0 _ (by kernel_rfl) (by kernel_rfl) (fun w' hS' => by (obtain ⟨s0, s1, _⟩ := HROW.out _ (HP8.out.fin.stay.trans hS'); simp only [opr]; go_simp; try with_reducible rfl)) (fun K10 hK10 => ?_)
          clear hK9 K9
          simp only [Act.put, List.setIfInBounds_toArray, List.set_cons_zero, List.set_cons_succ]
          refine mix_take hK10 (some 119) (.load 3 (.tmp 118)) 3 _ (by kernel_rfl) (by kernel_rfl) (fun w' hS' => by (obtain ⟨s0, s1, _⟩ := HROW.out _ (HP8.out.fin.stay.trans hS'); simp only [opr]; go_simp; try with_reducible rfl)) (fun K11 hK11 => ?_)
          clear hK10 K10
          simp only [Act.put, List.setIfInBounds_toArray, List.set_cons_zero, List.set_cons_succ]
          refine mix_take hK11 (some 121) (.load 28 (.tmp 12)) 28 _ (by kernel_rfl) (by kernel_rfl) (fun w' hS' => by exact run_load_BoxG rfl rfl (HP8.out.box.keep hS')) (fun K12 hK12 => ?_)
          clear hK11 K11
          simp only [Act.put, List.setIfInBounds_toArray, List.set_cons_zero, List.set_cons_succ]
          refine mix_take hK12 (some 122) (.move (.tmp 2)) 22 _ (by kernel_rfl) (by kernel_rfl) (fun w' hS' => by (obtain ⟨s0, s1, _⟩ := HROW.out _ (HP8.out.fin.stay.trans hS'); simp only [opr]; go_simp; try with_reducible rfl)) (fun K13 hK13 => ?_)
          clear hK12 K12
          simp only [Act.put, List.setIfInBounds_toArray, List.set_cons_zero, List.set_cons_succ]
          refine mix_take hK13 (some 123) (.move (.tmp 14)) 3 _ (by kernel_rfl) (by kernel_rfl) (fun w' hS' => by (obtain ⟨s0, s1, _⟩ := HROW.out _ (HP8.out.fin.stay.trans hS'); simp only [opr]; go_simp; try with_reducible rfl)) (fun K14 hK14 => ?_)
          clear hK13 K13
          simp only [Act.put, List.setIfInBounds_toArray, List.set_cons_zero, List.set_cons_succ]
          refine mix_take hK14 (some 124) (.indexAddr 22 (.tmp 122) (.tmp 123)) 0 _ (by kernel_rfl) (by kernel_rfl) (fun w' hS' => by (obtain ⟨s0, s1, _⟩ := HROW.out _ (HP8.out.fin.stay.trans hS'); simp only [opr]; go_simp; try with_reducible rfl)) (fun K15 hK15 => ?_)
          clear hK14 K14
          simp only [Act.put, List.setIfInBounds_toArray, List.set_cons_zero, List.set_cons_succ]
          refine mix_take hK15 (some 125) (.fieldAddr 36 (.tmp 124) 0) 0 _ (by kernel_rfl) (by kernel_rfl) (fun w' hS' => by (obtain ⟨s0, s1, _⟩ := HROW.out _ (HP8.out.fin.stay.trans hS'); simp only [opr]; go_simp; try with_reducible rfl)) (fun K16 hK16 => ?_)
          clear hK15 K15
          simp only [Act.put, List.setIfInBounds_toArray, List.set_cons_zero, List.set_cons_succ]
          refine mix_take hK16 (some 126) (.load 3 (.tmp 125)) 3 _ (by kernel_rfl) (by kernel_rfl) (fun w' hS' => by (obtain ⟨s0, s1, _⟩ := HROW.out _ (HP8.out.fin.stay.trans hS'); simp only [opr]; go_simp; try with_reducible rfl)) (fun K17 hK17 => ?_)
          clear hK16 K16
          simp only [Act.put, List.setIfInBounds_toArray, List.set_cons_zero, List.set_cons_succ]
          refine mix_take hK17 (some 127) (.move (.tmp 2)) 22 _ (by kernel_rfl) (by kernel_rfl) (fun w' hS' => by (obtain ⟨s0, s1, _⟩ := HROW.out _ (HP8.out.fin.stay.trans hS'); simp only [opr]; go_simp; try with_reducible rfl)) (fun K18 hK18 => ?_)
          clear hK17 K17
          simp only [Act.put, List.setIfInBounds_toArray, List.set_cons_zero, List.set_cons_succ]
          refine mix_take hK18 (some 128) (.move (.tmp 14)) 3 _ (by kernel_rfl) (by kernel_rfl) (fun w' hS' => by (obtain ⟨s0, s1, _⟩ := HROW.out _ (HP8.out.fin.stay.trans hS'); simp only [opr]; go_simp; try with_reducible rfl)) (fun K19 hK19 => ?_)
          clear hK18 K18
          simp only [Act.put, List.setIfInBounds_toArray, List.set_cons_zero, List.set_cons_succ]
          refine mix_take hK19 (some 129) (.indexAddr 22 (.tmp 127) (.tmp 128)) 0 _ (by kernel_rfl) (by kernel_rfl) (fun w' hS' => by (obtain ⟨s0, s1, _⟩ := HROW.out _ (HP8.out.fin.stay.trans hS'); simp only [opr]; go_simp; try with_reducible rfl)) (fun K20 hK20 => ?_)
          clear hK19 K19
          simp only [Act.put, List.setIfInBounds_toArray, List.set_cons_zero, List.set_cons_succ]
          refine mix_take hK20 (some 130) (.fieldAddr 36 (.tmp 129) 1) 0 _ (by kernel_rfl) (by kernel_rfl) (fun w' hS' => by (obtain ⟨s0, s1, _⟩ := HROW.out _ (HP8.out.fin.stay.trans hS'); simp only [opr]; go_simp; try with_reducible rfl)) (fun K21 hK21 => ?_)
          clear hK20 K20
          simp only [Act.put, List.setIfInBounds_toArray, List.set_cons_zero, List.set_cons_succ]
          refine mix_take hK21 (some 131) (.load 3 (.tmp 130)) 3 _ (by kernel_rfl) (by kernel_rfl) (fun w' hS' => by (obtain ⟨s0, s1, _⟩ := HROW.out _ (HP8.out.fin.stay.trans hS'); simp only [opr]; go_simp; try with_reducible rfl)) (fun K22 hK22 => ?_)
          clear hK21 K21
          simp only [Act.put, List.setIfInBounds_toArray, List.set_cons_zero, List.set_cons_succ]
          refine mix_call hK22 (some 120) 13 #[.tmp 109, .tmp 114, .tmp 119] #[24, 3, 3] 34 _ (by kernel_rfl) (by kernel_rfl) (enters Try.func13 (by kernel_rfl) (by kernel_rfl)) (by go_simp; try with_reducible rfl) (fun K23 hK23 => ?_)
          clear hK22 K22
          refine ((HA1.out)).mono ?_
          rintro e wl1 ⟨rfl, hs1⟩
          have hS1 : _ := (show (fun w' => Stay (fun _ => False) w9 w') wl1 from hS.trans hs1)
          refine ⟨_, rfl, hS1, ?_⟩
          have HA3 := hide' (HA2.out _ hS1)
          clear HA1 HA2
          clear hs1
          simp only [Act.put, List.setIfInBounds_toArray, List.set_cons_zero, List.set_cons_succ]
          refine mix_call hK23 (some 132) 14 #[.tmp 121, .tmp 126, .tmp 131] #[28, 3, 3] 34 _ (by kernel_rfl) (by kernel_rfl) (enters Try.func14 (by kernel_rfl) (by kernel_rfl)) (by go_simp; try with_reducible rfl) (fun K24 hK24 => ?_)
          clear hK23 K23
          refine (HA3.out).mono ?_
          rintro e wl2 ⟨rfl, hs2⟩
          have hS2 : _ := (show (fun w' => Stay (fun _ => False) w9 w') wl2 from hS1.trans hs2)
          refine ⟨_, rfl, hS2, ?_⟩
          have HP9 := hide' (HP8.out.keep hS2)
          clear HA3
          clear hs2
          simp only [Act.put, List.setIfInBounds_toArray, List.set_cons_zero, List.set_cons_succ]
          refine mix_take hK24 (some 133) (.binOp BinOp.neq 34 (.tmp 120) (.tmp 132) 34) 4 _ (by kernel_rfl) (by kernel_rfl) (fun w' hS' => by exact neqC_op false _ _ rfl rfl (by simp)) (fun K25 hK25 => ?_)
          clear hK24 K24
          simp only [Act.put, List.setIfInBounds_toArray, List.set_cons_zero, List.set_cons_succ]
          refine hK25 _ _ (mix_nil ?_)
          clear hK25 K25
          clear hS hS1 hS2 HP8
          go_wp2
          go_roundg (n - (i + 1))
          case measure => omega
          case rel => exact ⟨i + 1, [], by omega, rfl, by go_num, Nat.zero_le _, none, 0, 0, rfl, rfl, _, _, _, HP9⟩
    · have hin : i = n := by omega
      subst hin
      have HSZ := hide' (size_in HP.out.fin)
      go_wp2_with fail
      refine HSZ.out.mono ?_
      rintro e w5 ⟨rfl, hs⟩
      have HP1 := hide' ((HP.out.keep hs).keep ((Stay.refl _ _).drew))
      clear hs HSZ HP
      have HT := hide' (take_in (n := nn) HP1.out.fin HLL.out)
      have HNZ : Hid (∀ W, Calls Try.prog 6 #[.int .i64 0, .int .i64 (h : Nat)] W (Gives (.pointer none) W)) := fun W => new6_nil 0 h W (by unfold sizeB; simp)
      have HN5 : Hid (∀ W, Calls Try.prog 6 #[.int .i64 (a : Nat), .int .i64 513] W (Gives (.pointer none) W)) := fun W => new6_nil a 513 W (by unfold sizeB; simp)
      go_upto_region 25 with fail
      have hS : (fun w' => Stay (fun _ => False) w w' ∧ BoxG w' xb r.g3) w5.drew := ⟨HP1.out.fin.stay, HP1.out.box⟩
      refine wp_region_mix (fun w' => Stay (fun _ => False) w w' ∧ BoxG w' xb r.g3) [(0, true), (1, true), (2, true), (3, true), (4, true), (5, true), (6, true), (7, true), (8, true), (9, true), (11, true), (10, false), (12, false), (13, true), (14, true), (15, true), (17, true), (16, false), (18, false), (19, true), (20, true), (21, true), (22, true), (23, false), (24, true), (25, true), (26, true), (27, true), (28, false), (29, true), (30, true), (31, true), (32, false), (33, true), (34, true)] (by kernel_rfl) (by kernel_rfl) (fun _ d _ _ _ h => by cases d <;> exact h) hS ?_
      refine mix_begin (fun K0 hK0 => ?_)
      refine mix_take hK0 (some 139) (.move (.tmp 16)) 3 _ (by kernel_rfl) (by kernel_rfl) (fun w' hS' => by (simp only [opr]; go_simp; try with_reducible rfl)) (fun K1 hK1 => ?_)
      clear hK0 K0
      simp only [Act.put, List.setIfInBounds_toArray, List.set_cons_zero, List.set_cons_succ]
      refine mix_take hK1 (some 140) (.move (.tmp 9)) 3 _ (by kernel_rfl) (by kernel_rfl) (fun w' hS' => by (simp only [opr]; go_simp; try with_reducible rfl)) (fun K2 hK2 => ?_)
      clear hK1 K1
      simp only [Act.put, List.setIfInBounds_toArray, List.set_cons_zero, List.set_cons_succ]
      refine mix_take hK2 (some 141) (.binOp BinOp.eql 3 (.tmp 139) (.tmp 140) 3) 4 _ (by kernel_rfl) (by kernel_rfl) (fun w' hS' => by (simp only [opr]; go_simp; try with_reducible rfl)) (fun K3 hK3 => ?_)
      clear hK2 K2
      simp only [Act.put, List.setIfInBounds_toArray, List.set_cons_zero, List.set_cons_succ]
      refine mix_take hK3 (some 142) (.move (.tmp 141)) 4 _ (by kernel_rfl) (by kernel_rfl) (fun w' hS' => by (simp only [opr]; go_simp; try with_reducible rfl)) (fun K4 hK4 => ?_)
      clear hK3 K3
      simp only [Act.put, List.setIfInBounds_toArray, List.set_cons_zero, List.set_cons_succ]
      refine mix_take hK4 (some 143) (.move (.tmp 17)) 3 _ (by kernel_rfl) (by kernel_rfl) (fun w' hS' => by (simp only [opr]; go_simp; try with_reducible rfl)) (fun K5 hK5 => ?_)
      clear hK4 K4
      simp only [Act.put, List.setIfInBounds_toArray, List.set_cons_zero, List.set_cons_succ]
      refine mix_take hK5 (some 144) (.move (.tmp 10)) 3 _ (by kernel_rfl) (by kernel_rfl) (fun w' hS' => by (simp only [opr]; go_simp; try with_reducible rfl)) (fun K6 hK6 => ?_)
      clear hK5 K5
      simp only [Act.put, List.setIfInBounds_toArray, List.set_cons_zero, List.set_cons_succ]
      refine mix_take hK6 (some 145) (.binOp BinOp.eql 3 (.tmp 143) (.tmp 144) 3) 4 _ (by kernel_rfl) (by kernel_rfl) (fun w' hS' => by (simp only [opr]; go_simp; try with_reducible rfl)) (fun K7 hK7 => ?_)
      clear hK6 K6
      simp only [Act.put, List.setIfInBounds_toArray, List.set_cons_zero, List.set_cons_succ]
      refine mix_take hK7 (some 146) (.pick (.tmp 142) (.tmp 145) (.const (Value.bool false))) 4 _ (by kernel_rfl) (by kernel_rfl) (fun w' hS' => by (simp only [opr]; go_simp; try with_reducible rfl)) (fun K8 hK8 => ?_)
      clear hK7 K7
      simp only [Act.put, List.setIfInBounds_toArray, List.set_cons_zero, List.set_cons_succ]
      refine mix_take hK8 (some 147) (.move (.tmp 146)) 4 _ (by kernel_rfl) (by kernel_rfl) (fun w' hS' => by (simp only [opr]; go_simp; try with_reducible rfl)) (fun K9 hK9 => ?_)
      clear hK8 K8
      simp only [Act.put, List.setIfInBounds_toArray, List.set_cons_zero, List.set_cons_succ]
      refine mix_take hK9 (some 148) (.move (.tmp 11)) 24 _ (by kernel_rfl) (by kernel_rfl) (fun w' hS' => by (simp only [opr]; go_simp; try with_reducible rfl)) (fun K10 hK10 => ?_)
      clear hK9 K9
      simp only [Act.put, List.setIfInBounds_toArray, List.set_cons_zero, List.set_cons_succ]
      refine mix_take hK10 (some 150) (.move (.tmp 13)) 22 _ (by kernel_rfl) (by kernel_rfl) (fun w' hS' => by (simp only [opr]; go_simp; try with_reducible rfl)) (fun K11 hK11 => ?_)
      clear hK10 K10
      simp only [Act.put, List.setIfInBounds_toArray, List.set_cons_zero, List.set_cons_succ]
      refine mix_call hK11 (some 149) 12 #[.tmp 148] #[24] 22 _ (by kernel_rfl) (by kernel_rfl) (enters Try.func12 (by kernel_rfl) (by kernel_rfl)) (by go_simp; try with_reducible rfl) (fun K12 hK12 => ?_)
      clear hK11 K11
      refine (HT.out).mono ?_
      rintro e wm1 ⟨q4, tad, tcap, rfl, hf1, hw1, hm1, _⟩
      have hS1 : _ := (show (fun w' => Stay (fun _ => False) w w' ∧ BoxG w' xb r.g3) wm1 from ⟨hf1.stay, hS.2.stay hm1.1 HP1.out.xo⟩)
      refine ⟨_, rfl, hS1, ?_⟩
      have HP2 := hide' (HP1.out.move hf1 hm1)
      have hs1 := hm1
      have HSM := hide' (same11 tad na tcap nc nn L wm1 HLL.out (by rw [HLL.out]; exact hw1) HP2.out.row (by have h1 := HLN.out; have h2 := HN60.out; omega))
      clear hf1 hw1 hm1 HT HP1
      clear hs1
      simp only [Act.put, List.setIfInBounds_toArray, List.set_cons_zero, List.set_cons_succ]
      refine mix_call hK12 (some 151) 11 #[.tmp 149, .tmp 150] #[22, 22] 4 _ (by kernel_rfl) (by kernel_rfl) (enters Try.func11 (by kernel_rfl) (by kernel_rfl)) (by go_simp; try with_reducible rfl) (fun K13 hK13 => ?_)
      clear hK12 K12
      refine (HSM.out).mono ?_
      rintro e wm2 ⟨rfl, hs2⟩
      have hS2 : _ := (show (fun w' => Stay (fun _ => False) w w' ∧ BoxG w' xb r.g3) wm2 from ⟨hS1.1.trans hs2, hS1.2.keep hs2⟩)
      refine ⟨_, rfl, hS2, ?_⟩
      have HP3 := hide' (HP2.out.keep hs2)
      have HG := hide' (grid_in HP3.out.fin)
      clear HP2 HSM
      clear hs2
      simp only [Act.put, List.setIfInBounds_toArray, List.set_cons_zero, List.set_cons_succ]
      refine mix_take hK13 (some 152) (.pick (.tmp 147) (.tmp 151) (.const (Value.bool false))) 4 _ (by kernel_rfl) (by kernel_rfl) (fun w' hS' => by (simp only [opr]; go_simp; try with_reducible rfl)) (fun K14 hK14 => ?_)
      clear hK13 K13
      simp only [Act.put, List.setIfInBounds_toArray, List.set_cons_zero, List.set_cons_succ]
      refine mix_take hK14 (some 153) (.move (.tmp 152)) 4 _ (by kernel_rfl) (by kernel_rfl) (fun w' hS' => by (simp only [opr]; go_simp; try with_reducible rfl)) (fun K15 hK15 => ?_)
      clear hK14 K14
      simp only [Act.put, List.setIfInBounds_toArray, List.set_cons_zero, List.set_cons_succ]
      refine mix_take hK15 (some 154) (.move (.tmp 11)) 24 _ (by kernel_rfl) (by kernel_rfl) (fun w' hS' => by (simp only [opr]; go_simp; try with_reducible rfl)) (fun K16 hK16 => ?_)
      clear hK15 K15
      simp only [Act.put, List.setIfInBounds_toArray, List.set_cons_zero, List.set_cons_succ]
      refine mix_take hK16 (some 156) (.load 28 (.tmp 12)) 28 _ (by kernel_rfl) (by kernel_rfl) (fun w' hS' => by exact run_load_BoxG rfl rfl hS'.2) (fun K17 hK17 => ?_)
      clear hK16 K16
      simp only [Act.put, List.setIfInBounds_toArray, List.set_cons_zero, List.set_cons_succ]
      refine mix_call hK17 (some 155) 17 #[.tmp 154] #[24] 45 _ (by kernel_rfl) (by kernel_rfl) (enters Try.func17 (by kernel_rfl) (by kernel_rfl)) (by go_simp; try with_reducible rfl) (fun K18 hK18 => ?_)
      clear hK17 K17
      refine (HG.out).mono ?_
      rintro e wm3 ⟨G, rfl, hs3, hg3, hgw, hgh, _⟩
      have hS3 : _ := (show (fun w' => Stay (fun _ => False) w w' ∧ BoxG w' xb r.g3) wm3 from ⟨hS2.1.trans hs3, hS2.2.keep hs3⟩)
      refine ⟨_, rfl, hS3, ?_⟩
      have HSH := hide' (shows16 G f r f wm3 hg3 (HP3.out.ref.keep hs3) (HP3.out.rw'.trans hgw.symm) (HP3.out.rh'.trans hgh.symm) (fun _ _ _ _ => rfl))
      clear hg3 hgw hgh HG HP3
      clear hs3
      simp only [Act.put, List.setIfInBounds_toArray, List.set_cons_zero, List.set_cons_succ]
      refine mix_call hK18 (some 157) 16 #[.tmp 155, .tmp 156] #[45, 28] 3 _ (by kernel_rfl) (by kernel_rfl) (enters Try.func16 (by kernel_rfl) (by kernel_rfl)) (by go_simp; try with_reducible rfl) (fun K19 hK19 => ?_)
      clear hK18 K18
      refine (HSH.out).mono ?_
      rintro e wm4 ⟨rfl, hs4⟩
      have hS4 : _ := (show (fun w' => Stay (fun _ => False) w w' ∧ BoxG w' xb r.g3) wm4 from ⟨hS3.1.trans hs4, hS3.2.keep hs4⟩)
      refine ⟨_, rfl, hS4, ?_⟩
      clear HSH
      clear hs4
      simp only [Act.put, List.setIfInBounds_toArray, List.set_cons_zero, List.set_cons_succ]
      refine mix_take hK19 (some 158) (.binOp BinOp.eql 3 (.tmp 157) (.const (Value.int IntKind.i64 0)) 3) 4 _ (by kernel_rfl) (by kernel_rfl) (fun w' hS' => by (simp only [opr]; go_simp; try with_reducible rfl)) (fun K20 hK20 => ?_)
      clear hK19 K19
      simp only [Act.put, List.setIfInBounds_toArray, List.set_cons_zero, List.set_cons_succ]
      refine mix_take hK20 (some 159) (.pick (.tmp 153) (.tmp 158) (.const (Value.bool false))) 4 _ (by kernel_rfl) (by kernel_rfl) (fun w' hS' => by (simp only [opr]; go_simp; try with_reducible rfl)) (fun K21 hK21 => ?_)
      clear hK20 K20
      simp only [Act.put, List.setIfInBounds_toArray, List.set_cons_zero, List.set_cons_succ]
      refine mix_take hK21 (some 160) (.move (.tmp 159)) 4 _ (by kernel_rfl) (by kernel_rfl) (fun w' hS' => by (simp only [opr]; go_simp; try with_reducible rfl)) (fun K22 hK22 => ?_)
      clear hK21 K21
      simp only [Act.put, List.setIfInBounds_toArray, List.set_cons_zero, List.set_cons_succ]
      refine mix_take hK22 (some 161) (.move (.tmp 10)) 3 _ (by kernel_rfl) (by kernel_rfl) (fun w' hS' => by (simp only [opr]; go_simp; try with_reducible rfl)) (fun K23 hK23 => ?_)
      clear hK22 K22
      simp only [Act.put, List.setIfInBounds_toArray, List.set_cons_zero, List.set_cons_succ]
      refine mix_call hK23 (some 162) 6 #[.const (Value.int IntKind.i64 0), .tmp 161] #[3, 3] 24 _ (by kernel_rfl) (by kernel_rfl) (enters Try.func6 (by kernel_rfl) (by kernel_rfl)) (by go_simp; try with_reducible rfl) (fun K24 hK24 => ?_)
      clear hK23 K23
      refine ((HNZ.out _)).mono ?_
      rintro e wm5 ⟨rfl, hs5⟩
      have hS5 : _ := (show (fun w' => Stay (fun _ => False) w w' ∧ BoxG w' xb r.g3) wm5 from ⟨hS4.1.trans hs5, hS4.2.keep hs5⟩)
      refine ⟨_, rfl, hS5, ?_⟩
      clear hs5
      simp only [Act.put, List.setIfInBounds_toArray, List.set_cons_zero, List.set_cons_succ]
      refine mix_take hK24 (some 163) (.binOp BinOp.eql 24 (.tmp 162) (.const (Value.pointer none)) 24) 4 _ (by kernel_rfl) (by kernel_rfl) (fun w' hS' => by (simp only [opr]; go_simp; try with_reducible rfl)) (fun K25 hK25 => ?_)
      clear hK24 K24
      simp only [Act.put, List.setIfInBounds_toArray, List.set_cons_zero, List.set_cons_succ]
      refine mix_take hK25 (some 164) (.pick (.tmp 160) (.tmp 163) (.const (Value.bool false))) 4 _ (by kernel_rfl) (by kernel_rfl) (fun w' hS' => by (simp only [opr]; go_simp; try with_reducible rfl)) (fun K26 hK26 => ?_)
      clear hK25 K25
      simp only [Act.put, List.setIfInBounds_toArray, List.set_cons_zero, List.set_cons_succ]
      refine mix_take hK26 (some 165) (.move (.tmp 164)) 4 _ (by kernel_rfl) (by kernel_rfl) (fun w' hS' => by (simp only [opr]; go_simp; try with_reducible rfl)) (fun K27 hK27 => ?_)
      clear hK26 K26
      simp only [Act.put, List.setIfInBounds_toArray, List.set_cons_zero, List.set_cons_succ]
      refine mix_take hK27 (some 166) (.move (.tmp 9)) 3 _ (by kernel_rfl) (by kernel_rfl) (fun w' hS' => by (simp only [opr]; go_simp; try with_reducible rfl)) (fun K28 hK28 => ?_)
      clear hK27 K27
      simp only [Act.put, List.setIfInBounds_toArray, List.set_cons_zero, List.set_cons_succ]
      refine mix_call hK28 (some 167) 6 #[.tmp 166, .const (Value.int IntKind.i64 513)] #[3, 3] 24 _ (by kernel_rfl) (by kernel_rfl) (enters Try.func6 (by kernel_rfl) (by kernel_rfl)) (by go_simp; try with_reducible rfl) (fun K29 hK29 => ?_)
      clear hK28 K28
      refine ((HN5.out _)).mono ?_
      rintro e wm6 ⟨rfl, hs6⟩
      have hS6 : _ := (show (fun w' => Stay (fun _ => False) w w' ∧ BoxG w' xb r.g3) wm6 from ⟨hS5.1.trans hs6, hS5.2.keep hs6⟩)
      refine ⟨_, rfl, hS6, ?_⟩
      clear hs6
      simp only [Act.put, List.setIfInBounds_toArray, List.set_cons_zero, List.set_cons_succ]
      refine mix_take hK29 (some 168) (.binOp BinOp.eql 24 (.tmp 167) (.const (Value.pointer none)) 24) 4 _ (by kernel_rfl) (by kernel_rfl) (fun w' hS' => by (simp only [opr]; go_simp; try with_reducible rfl)) (fun K30 hK30 => ?_)
      clear hK29 K29
      simp only [Act.put, List.setIfInBounds_toArray, List.set_cons_zero, List.set_cons_succ]
      refine mix_take hK30 (some 169) (.pick (.tmp 165) (.tmp 168) (.const (Value.bool false))) 4 _ (by kernel_rfl) (by kernel_rfl) (fun w' hS' => by (simp only [opr]; go_simp; try with_reducible rfl)) (fun K31 hK31 => ?_)
      clear hK30 K30
      simp only [Act.put, List.setIfInBounds_toArray, List.set_cons_zero, List.set_cons_succ]
      refine mix_take hK31 (some 170) (.move (.tmp 169)) 4 _ (by kernel_rfl) (by kernel_rfl) (fun w' hS' => by (simp only [opr]; go_simp; try with_reducible rfl)) (fun K32 hK32 => ?_)
      clear hK31 K31
      simp only [Act.put, List.setIfInBounds_toArray, List.set_cons_zero, List.set_cons_succ]
      refine mix_call hK32 (some 171) 5 #[] #[] 4 _ (by kernel_rfl) (by kernel_rfl) (enters Try.func5 (by kernel_rfl) (by kernel_rfl)) (by go_simp; try with_reducible rfl) (fun K33 hK33 => ?_)
      clear hK32 K32
      refine ((HAW.out _)).mono ?_
      rintro e wm7 ⟨rfl, hs7⟩
      have hS7 : _ := (show (fun w' => Stay (fun _ => False) w w' ∧ BoxG w' xb r.g3) wm7 from ⟨hS6.1.trans hs7, hS6.2.keep hs7⟩)
      refine ⟨_, rfl, hS7, ?_⟩
      clear hs7
      simp only [Act.put, List.setIfInBounds_toArray, List.set_cons_zero, List.set_cons_succ]
      refine mix_take hK33 (some 172) (.pick (.tmp 170) (.tmp 171) (.const (Value.bool false))) 4 _ (by kernel_rfl) (by kernel_rfl) (fun w' hS' => by (simp only [opr]; go_simp; try with_reducible rfl)) (fun K34 hK34 => ?_)
      clear hK33 K33
      simp only [Act.put, List.setIfInBounds_toArray, List.set_cons_zero, List.set_cons_succ]
      refine mix_take hK34 (some 8) (.assign (.tmp 172)) 4 _ (by kernel_rfl) (by kernel_rfl) (fun w' hS' => by (simp only [opr]; go_simp; try with_reducible rfl)) (fun K35 hK35 => ?_)
      clear hK34 K34
      simp only [Act.put, List.setIfInBounds_toArray, List.set_cons_zero, List.set_cons_succ]
      refine hK35 _ _ (mix_nil ?_)
      clear hK35 K35
      go_wp2
      go_ret
      exact ⟨rfl, hS7.1⟩

end Go.Proofs.Ytcealbdinbfegaa
