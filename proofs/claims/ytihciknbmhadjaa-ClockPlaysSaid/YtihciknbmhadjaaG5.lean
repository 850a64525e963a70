/-
  ClockPlays walked: true of any arguments. No conditions.
-/
import Derived.Test.YtihciknbmhadjaaG4
namespace Go.Proofs.Ytihciknbmhadjaa
open Go.RowKit

/-- What a call that hands out so many timers gives. -/
def NewN (L : List Tm) (n : Nat) (w : World) (e : Ending) (w' : World) : Prop := ∃ a c, e = .returned (.slice a n c) ∧ Stay (fun _ => False) w w' ∧ Rd w' a L ∧ n ≤ c ∧ ∀ k, a.map Addr.block = some k → w.heap.size ≤ k

theorem out_n {a : Option Addr} {n c m : Nat} {L M : List Tm} {e k : Int} {w : World} (h : Rd w a L) (hn : L.length = n) (hm : n ≤ 2048) (hM : outL (outB e k) L = M) (hl : M.length = m) : Calls Try.prog 12 #[.slice a n c, .int .i64 e, .int .i64 k] w (NewN M m w) := by
  subst hM hl
  exact out12 a n c L e k w h hn hm

theorem put_n {a : Option Addr} {n c m : Nat} {L M : List Tm} {t : Tm} {w : World} (h : Rd w a L) (hn : L.length = n) (hm : n ≤ 2048) (hM : insT t L = M) (hl : M.length = m) : Calls Try.prog 11 #[.slice a n c, .agg #[.int .i64 t.en, .int .i64 t.nr, .int .i64 t.du]] w (NewN M m w) := by
  subst hM hl
  exact put11 a n c L t w h hn hm

theorem size26 : (Try.prog.info? (Try.prog.elem 26)).map (·.size) = some 3 := esize26

set_option maxRecDepth 100000 in
set_option maxHeartbeats 8000000 in
theorem plays_go (ad : Option Addr) (n cap : Nat) (F : Nat → Ac) (w : World) (hF : Acts w ad n F) (hn : n ≤ 100) : Calls Try.prog 3 #[.slice ad n cap] w (LawTrue w) := by
  have HAW := hide' awake7
  have n1 : ¬ (100 : Int) < (n : Nat) := by omega
  have HN := hide' (new_in (w0 := w) (Stay.refl _ w))
  have HF := hide' hF
  clear hF
  go_enter Try.func3, Try.ntmps3
  go_wp2_with fail
  refine HN.out.mono ?_
  rintro e w1 ⟨q0, rfl, hi, _⟩
  obtain ⟨b, hb⟩ : ∃ b, b = q0.b := ⟨_, rfl⟩
  rw [← hb] at hi
  rw [← hb]
  have HP0 : Hid (PG w w1 b q0 0 none 0 0 []) := ⟨hi, Rd.nil _ _, rfl, Nat.le_refl _, fun e => absurd rfl e, fun t ht => by cases ht⟩
  clear hi hb HN
  go_wp2_with fail
  go_loopg [4, 5, 6] n (fun gg v4 v5 v6 wr => ∃ (i nw : Nat) (xa : Option Addr) (xn xc : Nat) (q : Cq) (L : List Tm), i ≤ n ∧ nw ≤ i ∧ xn ≤ i ∧ gg = n - i ∧ v4 = .slice xa xn xc ∧ v5 = .int .i64 (nw : Int) ∧ v6 = .int .i64 (i : Int) ∧ Hid (PG w wr b q nw xa xn xc L))
  case atStart => exact ⟨0, 0, none, 0, 0, q0, [], Nat.zero_le _, Nat.zero_le _, Nat.zero_le _, rfl, rfl, rfl, rfl, HP0⟩
  case round =>
    clear HP0
    obtain ⟨i, nw, xa, xn, xc, q, L, hin, hnw, hxn, rfl, rfl, rfl, rfl, HP⟩ := hrel
    by_cases hlt : i < n
    · have i_n : (i : Int) < (n : Nat) := by omega
      obtain ⟨g, o, rfl, hb⟩ := HF.out i hlt
      obtain ⟨D, E, K, X, hact⟩ : ∃ D E K X, F i = ⟨D, E, K, X⟩ := ⟨_, _, _, _, rfl⟩
      rw [hact] at hb
      obtain ⟨m0, m1, m2, m3⟩ := hb.keep HP.out.cin.stay
      simp only at m0 m1 m2 m3
      obtain ⟨B, hB⟩ : ∃ B, B = wr.heap.size := ⟨_, rfl⟩
      obtain ⟨W, hW⟩ : ∃ W, W = wr.alloc (.cells #[.int .i64 D, .int .i64 E, .int .i64 K, .int .i64 X] 28) := ⟨_, rfl⟩
      have hs0 : Stay (fun _ => False) wr W := by rw [hW]; exact (Stay.refl _ _).alloc _
      have HAB : Hid (ABox W B ⟨D, E, K, X⟩) := by rw [hW]; exact ABox.new ⟨D, E, K, X⟩ hB.symm
      have HPW := hide' (HP.out.keep hs0)
      have HBN : Hid (¬ q.own B) := fun e => by have := HP.out.cin.at'.lt B e; omega
      have HWB : Hid (B = wr.heap.size ∧ W = wr.alloc (.cells #[.int .i64 D, .int .i64 E, .int .i64 K, .int .i64 X] 28)) := ⟨hB, hW⟩
      clear hb hact hs0 hB hW HP
      go_upto_region 10 with fail
      obtain ⟨hB, hW⟩ := HWB.out
      rw [← hW, ← hB]
      clear hB hW HWB m0 m1 m2 m3
      obtain ⟨a0, a1, a2, a3, _, _, _, _⟩ := HAB.out
      simp only at a0 a1 a2 a3
      by_cases hD0 : D = 0
      · subst hD0
        by_cases her : setE E K X = 0
        · obtain ⟨e0, k0, x1, x2⟩ := setE_ok her
          have HRS := hide' (fun w => rset9 E K X w)
          rw [her] at HRS
          obtain ⟨M1, hM1⟩ : ∃ M, outL (isB E K) L = M := ⟨_, rfl⟩
          obtain ⟨M, hM⟩ : ∃ M, insT ⟨E, K, (nw : Nat) + X⟩ M1 = M := ⟨_, rfl⟩
          obtain ⟨m1, hm1⟩ : ∃ m, M1.length = m := ⟨_, rfl⟩
          obtain ⟨yn, hyn⟩ : ∃ m, M.length = m := ⟨_, rfl⟩
          have hm1b : m1 ≤ xn := by rw [← hm1, ← hM1, ← HPW.out.len]; exact outL_len _ _
          have hynb : yn ≤ xn + 1 := by rw [← hyn, ← hM, insT_len, hm1]; omega
          have HMN : Hid (∀ t ∈ M, 0 ≤ t.nr) := by
            rw [← hM, ← hM1]
            exact nn_ins (nn_out HPW.out.nn) k0
          have HSI : Hid (∀ W, CIn w W b q (nw : Nat) L → Calls Try.prog 10 #[.pointer (some ⟨b, 0, none⟩), .int .i64 E, .int .i64 K, .int .i64 X] W (Gave w b q (nw : Nat) M (.int .i64 0) W)) := fun W h => set_in E K X h e0 k0 x1 x2 (.inl (by have := HPW.out.len; omega)) (by rw [← hM, ← hM1])
          have HM1 : Hid (outL (outB E K) L = M1) := by rw [outB_is k0]; exact hM1
          have HM := hide' hM
          have HM1L := hide' hm1
          have HML := hide' hyn
          have HM1B : Hid (m1 ≤ 2048) := by show m1 ≤ 2048; omega
          have ew : IntKind.i64.wrap ((nw : Int) + X) = (nw : Int) + X := by rw [IntKind.wrap_i64]; omega
          clear her hM1 hM hm1 hyn e0 k0
          go_wp2_with fail
          refine (HRS.out _).mono ?_
          rintro _ w2 ⟨rfl, hs⟩
          have HP2 := hide' (HPW.out.keep hs)
          have HAB2 := hide' (HAB.out.keep hs)
          clear hs HRS HPW HAB a0 a1 a2 a3
          obtain ⟨a0, a1, a2, a3, _, _, _, _⟩ := HAB2.out
          simp only at a0 a1 a2 a3
          have HS2 := hide' (HSI.out w2 HP2.out.cin)
          go_wp2_with fail
          refine HS2.out.mono ?_
          rintro _ w3 ⟨q3, rfl, hi3, hm3⟩
          have HI3 := hide' hi3
          have HR3 := hide' (HP2.out.moved hm3).1
          have HAB3 := hide' (HAB2.out.turn hm3 HBN.out)
          have HOU : Hid (∀ W, Stay (fun _ => False) w3 W → Calls Try.prog 12 #[.slice xa xn xc, .int .i64 E, .int .i64 K] W (NewN M1 m1 W)) := by
            have hl := HP2.out.len
            exact fun W hs => out_n (HR3.out.keep hs) hl (by omega) HM1.out HM1L.out
          clear hi3 hm3 HS2 HSI HP2 HAB2 HBN a0 a1 a2 a3 HR3 HM1
          go_upto_region 16 with fail
          have hS : (fun w' => Stay (fun _ => False) w3 w') w3.drew := (Stay.refl _ _).drew
          refine wp_region_mix (fun w' => Stay (fun _ => False) w3 w') [(0, true), (1, true), (2, true), (3, true), (4, true), (6, true), (7, true), (8, true), (9, true), (10, true), (11, true), (12, true), (13, true), (14, true), (5, false), (15, false), (16, true)] (by kernel_rfl) (by kernel_rfl) (fun _ d _ _ _ h => by cases d <;> exact h) hS ?_
          refine mix_begin (fun K0 hK0 => ?_)
          refine mix_take hK0 (some 50) (.move (.tmp 4)) 26 _ (by kernel_rfl) (by kernel_rfl) (fun w' hS' => by (have hab := HAB3.out.keep hS'; obtain ⟨a0, a1, a2, a3, _, _, _, _⟩ := hab; simp only at a0 a1 a2 a3; simp only [opr]; go_simp; try with_reducible rfl)) (fun K1 hK1 => ?_)
          clear hK0 K0
          simp only [Act.put, List.setIfInBounds_toArray, List.set_cons_zero, List.set_cons_succ]
          refine mix_take hK1 (some 51) (.fieldAddr 28 (.tmp 7) 1) 0 _ (by kernel_rfl) (by kernel_rfl) (fun w' hS' => by (have hab := HAB3.out.keep hS'; obtain ⟨a0, a1, a2, a3, _, _, _, _⟩ := hab; simp only at a0 a1 a2 a3; simp only [opr]; go_simp; try with_reducible rfl)) (fun K2 hK2 => ?_)
          clear hK1 K1
          simp only [Act.put, List.setIfInBounds_toArray, List.set_cons_zero, List.set_cons_succ]
          refine mix_take hK2 (some 52) (.load 3 (.tmp 51)) 3 _ (by kernel_rfl) (by kernel_rfl) (fun w' hS' => by (have hab := HAB3.out.keep hS'; obtain ⟨a0, a1, a2, a3, _, _, _, _⟩ := hab; simp only at a0 a1 a2 a3; simp only [opr]; go_simp; try with_reducible rfl)) (fun K3 hK3 => ?_)
          clear hK2 K2
          simp only [Act.put, List.setIfInBounds_toArray, List.set_cons_zero, List.set_cons_succ]
          refine mix_take hK3 (some 53) (.fieldAddr 28 (.tmp 7) 2) 0 _ (by kernel_rfl) (by kernel_rfl) (fun w' hS' => by (have hab := HAB3.out.keep hS'; obtain ⟨a0, a1, a2, a3, _, _, _, _⟩ := hab; simp only at a0 a1 a2 a3; simp only [opr]; go_simp; try with_reducible rfl)) (fun K4 hK4 => ?_)
          clear hK3 K3
          simp only [Act.put, List.setIfInBounds_toArray, List.set_cons_zero, List.set_cons_succ]
          refine mix_take hK4 (some 54) (.load 3 (.tmp 53)) 3 _ (by kernel_rfl) (by kernel_rfl) (fun w' hS' => by (have hab := HAB3.out.keep hS'; obtain ⟨a0, a1, a2, a3, _, _, _, _⟩ := hab; simp only at a0 a1 a2 a3; simp only [opr]; go_simp; try with_reducible rfl)) (fun K5 hK5 => ?_)
          clear hK4 K4
          simp only [Act.put, List.setIfInBounds_toArray, List.set_cons_zero, List.set_cons_succ]
          refine mix_take hK5 (some 56) (.fieldAddr 28 (.tmp 7) 1) 0 _ (by kernel_rfl) (by kernel_rfl) (fun w' hS' => by (have hab := HAB3.out.keep hS'; obtain ⟨a0, a1, a2, a3, _, _, _, _⟩ := hab; simp only at a0 a1 a2 a3; simp only [opr]; go_simp; try with_reducible rfl)) (fun K6 hK6 => ?_)
          clear hK5 K5
          simp only [Act.put, List.setIfInBounds_toArray, List.set_cons_zero, List.set_cons_succ]
          refine mix_take hK6 (some 57) (.load 3 (.tmp 56)) 3 _ (by kernel_rfl) (by kernel_rfl) (fun w' hS' => by (have hab := HAB3.out.keep hS'; obtain ⟨a0, a1, a2, a3, _, _, _, _⟩ := hab; simp only at a0 a1 a2 a3; simp only [opr]; go_simp; try with_reducible rfl)) (fun K7 hK7 => ?_)
          clear hK6 K6
          simp only [Act.put, List.setIfInBounds_toArray, List.set_cons_zero, List.set_cons_succ]
          refine mix_take hK7 (some 58) (.fieldAddr 28 (.tmp 7) 2) 0 _ (by kernel_rfl) (by kernel_rfl) (fun w' hS' => by (have hab := HAB3.out.keep hS'; obtain ⟨a0, a1, a2, a3, _, _, _, _⟩ := hab; simp only at a0 a1 a2 a3; simp only [opr]; go_simp; try with_reducible rfl)) (fun K8 hK8 => ?_)
          clear hK7 K7
          simp only [Act.put, List.setIfInBounds_toArray, List.set_cons_zero, List.set_cons_succ]
          refine mix_take hK8 (some 59) (.load 3 (.tmp 58)) 3 _ (by kernel_rfl) (by kernel_rfl) (fun w' hS' => by (have hab := HAB3.out.keep hS'; obtain ⟨a0, a1, a2, a3, _, _, _, _⟩ := hab; simp only at a0 a1 a2 a3; simp only [opr]; go_simp; try with_reducible rfl)) (fun K9 hK9 => ?_)
          clear hK8 K8
          simp only [Act.put, List.setIfInBounds_toArray, List.set_cons_zero, List.set_cons_succ]
          refine mix_take hK9 (some 60) (.move (.tmp 5)) 3 _ (by kernel_rfl) (by kernel_rfl) (fun w' hS' => by (have hab := HAB3.out.keep hS'; obtain ⟨a0, a1, a2, a3, _, _, _, _⟩ := hab; simp only at a0 a1 a2 a3; simp only [opr]; go_simp; try with_reducible rfl)) (fun K10 hK10 => ?_)
          clear hK9 K9
          simp only [Act.put, List.setIfInBounds_toArray, List.set_cons_zero, List.set_cons_succ]
          refine mix_take hK10 (some 61) (.fieldAddr 28 (.tmp 7) 3) 0 _ (by kernel_rfl) (by kernel_rfl) (fun w' hS' => by (have hab := HAB3.out.keep hS'; obtain ⟨a0, a1, a2, a3, _, _, _, _⟩ := hab; simp only at a0 a1 a2 a3; simp only [opr]; go_simp; try with_reducible rfl)) (fun K11 hK11 => ?_)
          clear hK10 K10
          simp only [Act.put, List.setIfInBounds_toArray, List.set_cons_zero, List.set_cons_succ]
          refine mix_take hK11 (some 62) (.load 3 (.tmp 61)) 3 _ (by kernel_rfl) (by kernel_rfl) (fun w' hS' => by (have hab := HAB3.out.keep hS'; obtain ⟨a0, a1, a2, a3, _, _, _, _⟩ := hab; simp only at a0 a1 a2 a3; simp only [opr]; go_simp; try with_reducible rfl)) (fun K12 hK12 => ?_)
          clear hK11 K11
          simp only [Act.put, List.setIfInBounds_toArray, List.set_cons_zero, List.set_cons_succ]
          refine mix_take hK12 (some 63) (.binOp BinOp.add 3 (.tmp 60) (.tmp 62) 3) 3 _ (by kernel_rfl) (by kernel_rfl) (fun w' hS' => by (have hab := HAB3.out.keep hS'; obtain ⟨a0, a1, a2, a3, _, _, _, _⟩ := hab; simp only at a0 a1 a2 a3; simp only [opr]; go_simp; try with_reducible rfl)) (fun K13 hK13 => ?_)
          clear hK12 K12
          simp only [Act.put, List.setIfInBounds_toArray, List.set_cons_zero, List.set_cons_succ]
          refine mix_take hK13 (some 64) (.build 35 #[(0, .tmp 57), (1, .tmp 59), (2, .tmp 63)]) 35 _ (by kernel_rfl) (by kernel_rfl) (fun w' hS' => by (have hab := HAB3.out.keep hS'; obtain ⟨a0, a1, a2, a3, _, _, _, _⟩ := hab; simp only at a0 a1 a2 a3; simp only [opr]; go_simp; try with_reducible rfl)) (fun K14 hK14 => ?_)
          clear hK13 K13
          simp only [Act.put, List.setIfInBounds_toArray, List.set_cons_zero, List.set_cons_succ]
          refine mix_call hK14 (some 55) 12 #[.tmp 50, .tmp 52, .tmp 54] #[26, 3, 3] 26 _ (by kernel_rfl) (by kernel_rfl) (enters Try.func12 (by kernel_rfl) (by kernel_rfl)) (by go_simp; try with_reducible rfl) (fun K15 hK15 => ?_)
          clear hK14 K14
          refine (HOU.out _ hS).mono ?_
          rintro _ wm1 ⟨oa, oc, rfl, hs1, hord, hole, hofr⟩
          have hS1 : _ := (show (fun w' => Stay (fun _ => False) w3 w') wm1 from hS.trans hs1)
          refine ⟨_, rfl, hS1, ?_⟩
          have HPU := hide' (put_n (c := oc) (t := ⟨E, K, (nw : Nat) + X⟩) hord HM1L.out HM1B.out HM.out HML.out)
          clear hord hole hofr
          clear hs1
          simp only [Act.put, List.setIfInBounds_toArray, List.set_cons_zero, List.set_cons_succ]
          refine mix_call hK15 (some 65) 11 #[.tmp 55, .tmp 64] #[26, 35] 26 _ (by kernel_rfl) (by kernel_rfl) (enters Try.func11 (by kernel_rfl) (by kernel_rfl)) (by go_simp; try with_reducible rfl) (fun K16 hK16 => ?_)
          clear hK15 K15
          refine (HPU.out).mono ?_
          rintro _ wm2 ⟨ya, yc, rfl, hs2, hyrd, hyle, hyfr⟩
          have hS2 : _ := (show (fun w' => Stay (fun _ => False) w3 w') wm2 from hS1.trans hs2)
          refine ⟨_, rfl, hS2, ?_⟩
          have HPG : Hid (PG w wm2 b q3 nw ya yn yc M) := PG.of (wr := wm1) ((HI3.out.keep hS1)) hs2 hyrd HML.out hyle hyfr HMN.out
          clear hyrd hyle hyfr HPU
          clear hs2
          simp only [Act.put, List.setIfInBounds_toArray, List.set_cons_zero, List.set_cons_succ]
          refine mix_take hK16 (some 4) (.assign (.tmp 65)) 26 _ (by kernel_rfl) (by kernel_rfl) (fun w' hS' => by (have hab := HAB3.out.keep hS'; obtain ⟨a0, a1, a2, a3, _, _, _, _⟩ := hab; simp only at a0 a1 a2 a3; simp only [opr]; go_simp; try with_reducible rfl)) (fun K17 hK17 => ?_)
          clear hK16 K16
          simp only [Act.put, List.setIfInBounds_toArray, List.set_cons_zero, List.set_cons_succ]
          refine hK17 _ _ (mix_nil ?_)
          clear hK17 K17
          clear hS hS1 hS2 HAB3 HOU HI3 HMN ew HM1L HML HM1B HM
          have HNW := hide' (now_in HPG.out.cin)
          go_wp2_with fail
          refine HNW.out.mono ?_
          rintro _ wt1 ⟨rfl, _, hs⟩
          have HPt := hide' (HPG.out.keep hs)
          have HAL := hide' (all_in (n := yn) HPt.out.cin HPt.out.len)
          clear hs HNW HPG
          go_wp2_with fail
          refine HAL.out.mono ?_
          rintro _ wt2 ⟨q8, a8, c8, rfl, hi8, hm8, ho8⟩
          have HPu : Hid (PG w wt2 b q8 nw ya yn yc M) := ⟨hi8, (HPt.out.moved hm8).1, HPt.out.len, HPt.out.cap, (HPt.out.moved hm8).2, HPt.out.nn⟩
          have HSA := hide' (same14 a8 ya yn c8 yc M wt2 ho8.rd HPu.out.rd HPu.out.len (by omega))
          clear hi8 hm8 ho8 HAL HPt
          go_wp2_with fail
          refine HSA.out.mono ?_
          rintro _ wt3 ⟨rfl, hs⟩
          have HPv := hide' (HPu.out.keep hs)
          clear hs HSA HPu
          go_wp2
          go_roundg (n - (i + 1))
          case measure => omega
          case rel => exact ⟨i + 1, nw, ya, yn, yc, q8, M, by omega, by omega, by omega, rfl, rfl, rfl, by go_num, HPv⟩
        · have HRS := hide' (fun w => rset9 E K X w)
          obtain ⟨er, her2⟩ : ∃ e, e = setE E K X := ⟨_, rfl⟩
          have er0 : ¬ er = 0 := by rw [her2]; exact her
          have HSB : Hid (∀ W, CIn w W b q (nw : Nat) L → Calls Try.prog 10 #[.pointer (some ⟨b, 0, none⟩), .int .i64 E, .int .i64 K, .int .i64 X] W (Left w b q (nw : Nat) L (.int .i64 er) W)) := fun W h => by rw [her2]; exact set_bad E K X h her
          rw [← her2] at HRS
          clear her her2
          go_wp2_with fail
          refine (HRS.out _).mono ?_
          rintro _ w2 ⟨rfl, hs⟩
          have HP2 := hide' (HPW.out.keep hs)
          have hab := HAB.out.keep hs
          clear hs HRS HPW HAB a0 a1 a2 a3
          obtain ⟨a0, a1, a2, a3, _, _, _, _⟩ := hab
          simp only at a0 a1 a2 a3
          have HS2 := hide' (HSB.out w2 HP2.out.cin)
          go_wp2_with fail
          refine HS2.out.mono ?_
          rintro _ w3 ⟨rfl, _, hs⟩
          have HP3 := hide' (HP2.out.keep hs)
          clear hs HS2 HSB HP2 HBN a0 a1 a2 a3
          have HNW := hide' (now_in HP3.out.cin)
          go_wp2_with fail
          refine HNW.out.mono ?_
          rintro _ wt1 ⟨rfl, _, hs⟩
          have HPt := hide' (HP3.out.keep hs)
          have HAL := hide' (all_in (n := xn) HPt.out.cin HPt.out.len)
          clear hs HNW HP3
          go_wp2_with fail
          refine HAL.out.mono ?_
          rintro _ wt2 ⟨q8, a8, c8, rfl, hi8, hm8, ho8⟩
          have HPu : Hid (PG w wt2 b q8 nw xa xn xc L) := ⟨hi8, (HPt.out.moved hm8).1, HPt.out.len, HPt.out.cap, (HPt.out.moved hm8).2, HPt.out.nn⟩
          have HSA := hide' (same14 a8 xa xn c8 xc L wt2 ho8.rd HPu.out.rd HPu.out.len (by omega))
          clear hi8 hm8 ho8 HAL HPt
          go_wp2_with fail
          refine HSA.out.mono ?_
          rintro _ wt3 ⟨rfl, hs⟩
          have HPv := hide' (HPu.out.keep hs)
          clear hs HSA HPu
          go_wp2
          go_roundg (n - (i + 1))
          case measure => omega
          case rel => exact ⟨i + 1, nw, xa, xn, xc, q8, L, by omega, by omega, by omega, rfl, rfl, rfl, by go_num, HPv⟩
      · by_cases hD1 : D = 1
        · subst hD1
          clear hD0
          by_cases hk : 0 ≤ K
          · obtain ⟨M, hM⟩ : ∃ M, outL (isB E K) L = M := ⟨_, rfl⟩
            obtain ⟨yn, hyn⟩ : ∃ m, M.length = m := ⟨_, rfl⟩
            have hynb : yn ≤ xn := by rw [← hyn, ← hM, ← HPW.out.len]; exact outL_len _ _
            have HMN : Hid (∀ t ∈ M, 0 ≤ t.nr) := by rw [← hM]; exact nn_out HPW.out.nn
            obtain ⟨z, hz⟩ : ∃ z, z = decide (0 < goneI (isB E K) L) := ⟨_, rfl⟩
            have hzz : (((yn : Nat) : Int) != ((xn : Nat) : Int)) = z := by rw [hz]; exact gone_ne (isB E K) L (by rw [hM]; exact hyn) HPW.out.len
            have HOU : Hid (Calls Try.prog 12 #[.slice xa xn xc, .int .i64 E, .int .i64 K] W (NewN M yn W)) := out_n HPW.out.rd HPW.out.len (by omega) (by rw [outB_is hk]; exact hM) hyn
            have HCI : Hid (∀ W, CIn w W b q (nw : Nat) L → Calls Try.prog 13 #[.pointer (some ⟨b, 0, none⟩), .int .i64 E, .int .i64 K] W (Gave w b q (nw : Nat) M (.bool z) W)) := fun W h => cancel_in E K h hM.symm hz
            have HML := hide' hyn
            have HZZ := hide' hzz
            clear hM hyn hz hzz
            go_wp2_with fail
            refine HOU.out.mono ?_
            rintro _ w2 ⟨ya, yc, rfl, hs, hyrd, hyle, hyfr⟩
            have HPy : Hid (Rd w2 ya M ∧ yn ≤ yc ∧ ∀ k, ya.map Addr.block = some k → W.heap.size ≤ k) := ⟨hyrd, hyle, hyfr⟩
            have HP2 := hide' (HPW.out.keep hs)
            have hab := HAB.out.keep hs
            have HOFF : Hid (∀ j, ya.map Addr.block = some j → w.heap.size ≤ j ∧ ¬ q.own j) := fun j hj => by
              have h1 := HPy.out.2.2 j hj
              have h2 := HPW.out.cin.stay.size
              refine ⟨by omega, fun e => ?_⟩
              have h3 := HPW.out.cin.at'.lt j e
              omega
            clear hs hyrd hyle hyfr HOU HPW HAB a0 a1 a2 a3
            obtain ⟨a0, a1, a2, a3, _, _, _, _⟩ := hab
            simp only at a0 a1 a2 a3
            have HZ := hide' (HCI.out w2 HP2.out.cin)
            have hzz := HZZ.out
            go_wp2_with fail
            refine HZ.out.mono ?_
            rintro _ w3 ⟨q3, rfl, hi3, hm3⟩
            have HP3 : Hid (PG w w3 b q3 nw ya yn yc M) := by
              by_cases hn : M = []
              · refine ⟨hi3, by rw [hn]; exact Rd.nil _ _, HML.out, HPy.out.2.1, fun e => absurd hn e, HMN.out⟩
              · refine ⟨hi3, HPy.out.1.stay hm3.1 (fun j hj => (HOFF.out j hj).2), HML.out, HPy.out.2.1, fun _ j hj => ⟨(HOFF.out j hj).1, hm3.not (HOFF.out j hj).2 (HPy.out.1.lt hn j hj)⟩, HMN.out⟩
            clear hi3 hm3 HZ HCI HP2 HBN HOFF HPy HMN HML HZZ a0 a1 a2 a3
            cases z
            · go_wp2_with fail
              clear hzz
              have HNW := hide' (now_in HP3.out.cin)
              go_wp2_with fail
              refine HNW.out.mono ?_
              rintro _ wt1 ⟨rfl, _, hs⟩
              have HPt := hide' (HP3.out.keep hs)
              have HAL := hide' (all_in (n := yn) HPt.out.cin HPt.out.len)
              clear hs HNW HP3
              go_wp2_with fail
              refine HAL.out.mono ?_
              rintro _ wt2 ⟨q8, a8, c8, rfl, hi8, hm8, ho8⟩
              have HPu : Hid (PG w wt2 b q8 nw ya yn yc M) := ⟨hi8, (HPt.out.moved hm8).1, HPt.out.len, HPt.out.cap, (HPt.out.moved hm8).2, HPt.out.nn⟩
              have HSA := hide' (same14 a8 ya yn c8 yc M wt2 ho8.rd HPu.out.rd HPu.out.len (by omega))
              clear hi8 hm8 ho8 HAL HPt
              go_wp2_with fail
              refine HSA.out.mono ?_
              rintro _ wt3 ⟨rfl, hs⟩
              have HPv := hide' (HPu.out.keep hs)
              clear hs HSA HPu
              go_wp2
              go_roundg (n - (i + 1))
              case measure => omega
              case rel => exact ⟨i + 1, nw, ya, yn, yc, q8, M, by omega, by omega, by omega, rfl, rfl, rfl, by go_num, HPv⟩
            · go_wp2_with fail
              clear hzz
              have HNW := hide' (now_in HP3.out.cin)
              go_wp2_with fail
              refine HNW.out.mono ?_
              rintro _ wt1 ⟨rfl, _, hs⟩
              have HPt := hide' (HP3.out.keep hs)
              have HAL := hide' (all_in (n := yn) HPt.out.cin HPt.out.len)
              clear hs HNW HP3
              go_wp2_with fail
              refine HAL.out.mono ?_
              rintro _ wt2 ⟨q8, a8, c8, rfl, hi8, hm8, ho8⟩
              have HPu : Hid (PG w wt2 b q8 nw ya yn yc M) := ⟨hi8, (HPt.out.moved hm8).1, HPt.out.len, HPt.out.cap, (HPt.out.moved hm8).2, HPt.out.nn⟩
              have HSA := hide' (same14 a8 ya yn c8 yc M wt2 ho8.rd HPu.out.rd HPu.out.len (by omega))
              clear hi8 hm8 ho8 HAL HPt
              go_wp2_with fail
              refine HSA.out.mono ?_
              rintro _ wt3 ⟨rfl, hs⟩
              have HPv := hide' (HPu.out.keep hs)
              clear hs HSA HPu
              go_wp2
              go_roundg (n - (i + 1))
              case measure => omega
              case rel => exact ⟨i + 1, nw, ya, yn, yc, q8, M, by omega, by omega, by omega, rfl, rfl, rfl, by go_num, HPv⟩
          · have hk : K < 0 := by omega
            have HZ := hide' (cancel_in (M := L) (z := false) E K HPW.out.cin (out_neg HPW.out.nn hk).symm (by unfold goneI; rw [out_neg HPW.out.nn hk]; simp))
            go_wp2_with fail
            refine HZ.out.mono ?_
            rintro _ w3 ⟨q3, rfl, hi3, hm3⟩
            have HP3 : Hid (PG w w3 b q3 nw xa xn xc L) := ⟨hi3, (HPW.out.moved hm3).1, HPW.out.len, HPW.out.cap, (HPW.out.moved hm3).2, HPW.out.nn⟩
            clear hi3 hm3 HZ HPW HAB HBN a0 a1 a2 a3
            have HNW := hide' (now_in HP3.out.cin)
            go_wp2_with fail
            refine HNW.out.mono ?_
            rintro _ wt1 ⟨rfl, _, hs⟩
            have HPt := hide' (HP3.out.keep hs)
            have HAL := hide' (all_in (n := xn) HPt.out.cin HPt.out.len)
            clear hs HNW HP3
            go_wp2_with fail
            refine HAL.out.mono ?_
            rintro _ wt2 ⟨q8, a8, c8, rfl, hi8, hm8, ho8⟩
            have HPu : Hid (PG w wt2 b q8 nw xa xn xc L) := ⟨hi8, (HPt.out.moved hm8).1, HPt.out.len, HPt.out.cap, (HPt.out.moved hm8).2, HPt.out.nn⟩
            have HSA := hide' (same14 a8 xa xn c8 xc L wt2 ho8.rd HPu.out.rd HPu.out.len (by omega))
            clear hi8 hm8 ho8 HAL HPt
            go_wp2_with fail
            refine HSA.out.mono ?_
            rintro _ wt3 ⟨rfl, hs⟩
            have HPv := hide' (HPu.out.keep hs)
            clear hs HSA HPu
            go_wp2
            go_roundg (n - (i + 1))
            case measure => omega
            case rel => exact ⟨i + 1, nw, xa, xn, xc, q8, L, by omega, by omega, by omega, rfl, rfl, rfl, by go_num, HPv⟩
        · by_cases hD2 : D = 2
          · subst hD2
            clear hD0 hD1
            obtain ⟨nw1, hnw1⟩ : ∃ m, m = nw + 1 := ⟨_, rfl⟩
            have e5 : (nw : Int) + 1 = ((nw1 : Nat) : Int) := by omega
            have ew : IntKind.i64.wrap ((nw1 : Nat) : Int) = ((nw1 : Nat) : Int) := by rw [IntKind.wrap_i64]; omega
            have HNN := hide' HPW.out.len
            have HW1 := hide' hnw1
            have nwb : nw1 ≤ i + 1 := by omega
            clear hnw1
            have HL0 : Hid (Stay (fun _ => False) W W ∧ ∀ j a, j < 0 → L[j]? = some a → a.du ≤ ((nw1 : Nat) : Int)) := ⟨Stay.refl _ _, fun j a h => by omega⟩
            clear HAB HBN
            go_wp2_with fail
            clear a0 a1 a2 a3 ew e5
            go_loopg [10] xn (fun gg v10 wr => ∃ k : Nat, k ≤ xn ∧ gg = xn - k ∧ v10 = .int .i64 (k : Int) ∧ Hid (Stay (fun _ => False) W wr ∧ ∀ j a, j < k → L[j]? = some a → a.du ≤ ((nw1 : Nat) : Int)))
            case atStart => exact ⟨0, Nat.zero_le _, rfl, rfl, HL0⟩
            case round =>
              clear HL0
              obtain ⟨k, hk, rfl, rfl, HL⟩ := hrel
              by_cases hgo : k < xn ∧ ∀ t, L[k]? = some t → t.du ≤ ((nw1 : Nat) : Int)
              · obtain ⟨hlt, hdu⟩ := hgo
                have kn : (k : Int) < (xn : Nat) := by omega
                obtain ⟨t, ht⟩ : ∃ t, L[k]? = some t := ⟨_, List.getElem?_eq_getElem (by rw [HNN.out]; exact hlt)⟩
                obtain ⟨g, o, rfl, hb⟩ := (HPW.out.rd.keep HL.out.1) k t ht
                obtain ⟨c0, c1, c2⟩ := hb
                have hd := hdu t ht
                have HN1 : Hid (Stay (fun _ => False) W wr ∧ ∀ j a, j < k + 1 → L[j]? = some a → a.du ≤ ((nw1 : Nat) : Int)) := by
                  refine ⟨HL.out.1, fun j u hj hu => ?_⟩
                  by_cases e : j = k
                  · subst e; exact hdu u hu
                  · exact HL.out.2 j u (by omega) hu
                clear ht hdu HL
                go_wp2_with fail
                clear c0 c1 c2 hd
                go_roundg (xn - (k + 1))
                case measure => omega
                case rel => exact ⟨k + 1, by omega, rfl, by go_num, HN1⟩
              · have HE : Hid (dueN ((nw1 : Nat) : Int) L = k) := by
                  refine dueN_eq (by rw [HNN.out]; exact hk) HL.out.2 (fun a ha => ?_)
                  have hlt : k < xn := by rw [← HNN.out]; exact (List.getElem?_eq_some_iff.1 ha).1
                  apply Classical.byContradiction
                  intro hc
                  exact hgo ⟨hlt, fun t ht => by rw [ha] at ht; cases ht; omega⟩
                by_cases hlt : k < xn
                · have kn : (k : Int) < (xn : Nat) := by omega
                  obtain ⟨t, ht⟩ : ∃ t, L[k]? = some t := ⟨_, List.getElem?_eq_getElem (by rw [HNN.out]; exact hlt)⟩
                  have hd : ¬ t.du ≤ ((nw1 : Nat) : Int) := fun e => hgo ⟨hlt, fun u hu => by rw [ht] at hu; cases hu; exact e⟩
                  obtain ⟨g2, o2, hxa, hb⟩ := (HPW.out.rd.keep HL.out.1) k t ht
                  obtain ⟨c0, c1, c2⟩ := hb
                  subst hxa
                  clear ht hgo
                  have HPD : Hid (PG w wr.drew b q nw (some ⟨g2, o2, none⟩) xn xc L) := HPW.out.keep (HL.out.1.trans (Stay.refl _ _).drew)
                  have HKB : Hid (k ≤ xn ∧ xn ≤ 100) := by show k ≤ xn ∧ xn ≤ 100; omega
                  have HKC : Hid (k ≤ xc) := by have := HPW.out.cap; show k ≤ xc; omega
                  have HTL : Hid ((L.take k).length = k) := by show (L.take k).length = k; rw [List.length_take, HPW.out.len]; omega
                  have HTK := hide' (tick_in (x := (nw1 : Nat)) (n := k) (D := L.take k) (R := L.drop k) HPD.out.cin (by omega) (by have := HW1.out; omega) HE.out rfl rfl)
                  have hsll := fun w => slice_l_eq (P := Try.prog) (sa := some ⟨g2, o2, none⟩) (m := xn) (cap := xc) (k := k) elem26 size26 hk w
                  obtain ⟨va, hva⟩ : ∃ a, a = (if xc = k then (some ⟨g2, o2, none⟩ : Option Addr) else (some ⟨g2, o2, none⟩ : Option Addr).map (·.add (k * 3))) := ⟨_, rfl⟩
                  obtain ⟨vn, hvn⟩ : ∃ n, n = xn - k := ⟨_, rfl⟩
                  obtain ⟨vc, hvc⟩ : ∃ n, n = xc - k := ⟨_, rfl⟩
                  rw [← hva, ← hvn, ← hvc] at hsll
                  have hsl2 : ∀ w, (Instr.slice 26 (.slice (some ⟨g2, o2, none⟩) xn xc) (some (.int .i64 (k : Nat))) none none).run Try.prog w = .ok (.slice va vn vc) w := hsll
                  have HVA : Hid (va = (if xc = k then (some ⟨g2, o2, none⟩ : Option Addr) else (some ⟨g2, o2, none⟩ : Option Addr).map (·.add (k * 3))) ∧ vn = xn - k ∧ vc = xc - k) := ⟨hva, hvn, hvc⟩
                  have vnb : vn ≤ xn := by omega
                  clear hva hvn hvc hsll
                  go_upto_region 29 with fail
                  clear c0 c1 c2 hd
                  have hS : True := trivial
                  refine wp_region_mix (fun _ => True) [(0, true), (2, true), (3, true), (4, true), (1, false), (5, false), (6, true)] (by kernel_rfl) (by kernel_rfl) (fun _ d _ _ _ h => by cases d <;> exact h) hS ?_
                  refine mix_begin (fun K0 hK0 => ?_)
                  refine mix_take hK0 (some 110) (.move (.tmp 3)) 24 _ (by kernel_rfl) (by kernel_rfl) (fun w' hS' => by (simp only [opr]; go_simp; try with_reducible rfl)) (fun K1 hK1 => ?_)
                  clear hK0 K0
                  simp only [Act.put, List.setIfInBounds_toArray, List.set_cons_zero, List.set_cons_succ]
                  refine mix_take hK1 (some 112) (.move (.tmp 4)) 26 _ (by kernel_rfl) (by kernel_rfl) (fun w' hS' => by (simp only [opr]; go_simp; try with_reducible rfl)) (fun K2 hK2 => ?_)
                  clear hK1 K1
                  simp only [Act.put, List.setIfInBounds_toArray, List.set_cons_zero, List.set_cons_succ]
                  refine mix_take hK2 (some 113) (.move (.tmp 10)) 3 _ (by kernel_rfl) (by kernel_rfl) (fun w' hS' => by (simp only [opr]; go_simp; try with_reducible rfl)) (fun K3 hK3 => ?_)
                  clear hK2 K2
                  simp only [Act.put, List.setIfInBounds_toArray, List.set_cons_zero, List.set_cons_succ]
                  refine mix_take hK3 (some 114) (.slice 26 (.tmp 112) none (some (.tmp 113)) none) 26 _ (by kernel_rfl) (by kernel_rfl) (fun w' hS' => by exact slice26_h (k := k) rfl rfl HKC.out _ _ _) (fun K4 hK4 => ?_)
                  clear hK3 K3
                  simp only [Act.put, List.setIfInBounds_toArray, List.set_cons_zero, List.set_cons_succ]
                  refine mix_call hK4 (some 111) 15 #[.tmp 110] #[24] 26 _ (by kernel_rfl) (by kernel_rfl) (enters Try.func15 (by kernel_rfl) (by kernel_rfl)) (by go_simp; try with_reducible rfl) (fun K5 hK5 => ?_)
                  clear hK4 K4
                  refine (HTK.out).mono ?_
                  rintro _ wm1 ⟨q5, a5, c5, rfl, hi5, hs1, ho5⟩
                  have hS1 : _ := (show (fun _ => True) wm1 from trivial)
                  refine ⟨_, rfl, hS1, ?_⟩
                  have HI5 := hide' hi5
                  have HRX := hide' (HPD.out.moved hs1)
                  have HSM := hide' (same14 a5 (some ⟨g2, o2, none⟩) k c5 xc (L.take k) wm1 ho5.rd (HRX.out.1.take k) HTL.out (by have := HKB.out; omega))
                  clear hi5 ho5
                  clear hs1
                  simp only [Act.put, List.setIfInBounds_toArray, List.set_cons_zero, List.set_cons_succ]
                  refine mix_call hK5 (some 115) 14 #[.tmp 111, .tmp 114] #[26, 26] 4 _ (by kernel_rfl) (by kernel_rfl) (enters Try.func14 (by kernel_rfl) (by kernel_rfl)) (by go_simp; try with_reducible rfl) (fun K6 hK6 => ?_)
                  clear hK5 K5
                  refine (HSM.out).mono ?_
                  rintro e wm2 ⟨rfl, hs2⟩
                  have hS2 : _ := (show (fun _ => True) wm2 from trivial)
                  refine ⟨_, rfl, hS2, ?_⟩
                  have HSS := hide' hs2
                  clear hs2
                  simp only [Act.put, List.setIfInBounds_toArray, List.set_cons_zero, List.set_cons_succ]
                  refine mix_take hK6 (some 116) (.unOp UnOp.not 4 (.tmp 115)) 4 _ (by kernel_rfl) (by kernel_rfl) (fun w' hS' => by (simp only [opr]; go_simp; try with_reducible rfl)) (fun K7 hK7 => ?_)
                  clear hK6 K6
                  simp only [Act.put, List.setIfInBounds_toArray, List.set_cons_zero, List.set_cons_succ]
                  refine hK7 _ _ (mix_nil ?_)
                  clear hK7 K7
                  have HP3 : Hid (PG w wm2 b q5 nw1 va vn vc (L.drop k)) := by
                    have hl := HPD.out.len
                    have hc := HPD.out.cap
                    obtain ⟨v1, v2, v3⟩ := HVA.out
                    have hr : Rd wm1 va (L.drop k) := by rw [v1]; exact HRX.out.1.drop (by omega)
                    have hne : L.drop k ≠ [] → L ≠ [] := fun h e => h (by rw [e]; simp)
                    exact ⟨HI5.out.keep HSS.out, hr.keep HSS.out, by rw [List.length_drop, hl, v2], by omega, fun h j hj => HRX.out.2 (hne h) j (Rd.drop_block j (by rw [← v1]; exact hj)), nn_drop HPD.out.nn⟩
                  clear HPD HTK HI5 HRX HSM HSS HVA HTL HKB HKC HPW HL HE
                  go_wp2_with (simp only [hsl2])
                  clear hsl2
                  have HNW := hide' (now_in HP3.out.cin)
                  go_wp2_with fail
                  refine HNW.out.mono ?_
                  rintro _ wt1 ⟨rfl, _, hs⟩
                  have HPt := hide' (HP3.out.keep hs)
                  have HAL := hide' (all_in (n := vn) HPt.out.cin HPt.out.len)
                  clear hs HNW HP3
                  go_wp2_with fail
                  refine HAL.out.mono ?_
                  rintro _ wt2 ⟨q8, a8, c8, rfl, hi8, hm8, ho8⟩
                  have HPu : Hid (PG w wt2 b q8 nw1 va vn vc (L.drop k)) := ⟨hi8, (HPt.out.moved hm8).1, HPt.out.len, HPt.out.cap, (HPt.out.moved hm8).2, HPt.out.nn⟩
                  have HSA := hide' (same14 a8 va vn c8 vc (L.drop k) wt2 ho8.rd HPu.out.rd HPu.out.len (by omega))
                  clear hi8 hm8 ho8 HAL HPt
                  go_wp2_with fail
                  refine HSA.out.mono ?_
                  rintro _ wt3 ⟨rfl, hs⟩
                  have HPv := hide' (HPu.out.keep hs)
                  clear hs HSA HPu
                  go_wp2
                  go_roundg (n - (i + 1))
                  case measure => omega
                  case rel => exact ⟨i + 1, nw1, va, vn, vc, q8, (L.drop k), by omega, by omega, by omega, rfl, rfl, rfl, by go_num, HPv⟩
                · have kn : ¬ (k : Int) < (xn : Nat) := by omega
                  clear hgo
                  have HPD : Hid (PG w wr.drew b q nw xa xn xc L) := HPW.out.keep (HL.out.1.trans (Stay.refl _ _).drew)
                  have HKB : Hid (k ≤ xn ∧ xn ≤ 100) := by show k ≤ xn ∧ xn ≤ 100; omega
                  have HKC : Hid (k ≤ xc) := by have := HPW.out.cap; show k ≤ xc; omega
                  have HTL : Hid ((L.take k).length = k) := by show (L.take k).length = k; rw [List.length_take, HPW.out.len]; omega
                  have HTK := hide' (tick_in (x := (nw1 : Nat)) (n := k) (D := L.take k) (R := L.drop k) HPD.out.cin (by omega) (by have := HW1.out; omega) HE.out rfl rfl)
                  have hsll := fun w => slice_l_eq (P := Try.prog) (sa := xa) (m := xn) (cap := xc) (k := k) elem26 size26 hk w
                  obtain ⟨va, hva⟩ : ∃ a, a = (if xc = k then xa else xa.map (·.add (k * 3))) := ⟨_, rfl⟩
                  obtain ⟨vn, hvn⟩ : ∃ n, n = xn - k := ⟨_, rfl⟩
                  obtain ⟨vc, hvc⟩ : ∃ n, n = xc - k := ⟨_, rfl⟩
                  rw [← hva, ← hvn, ← hvc] at hsll
                  have hsl2 : ∀ w, (Instr.slice 26 (.slice xa xn xc) (some (.int .i64 (k : Nat))) none none).run Try.prog w = .ok (.slice va vn vc) w := hsll
                  have HVA : Hid (va = (if xc = k then xa else xa.map (·.add (k * 3))) ∧ vn = xn - k ∧ vc = xc - k) := ⟨hva, hvn, hvc⟩
                  have vnb : vn ≤ xn := by omega
                  clear hva hvn hvc hsll
                  go_upto_region 29 with fail
                  have hS : True := trivial
                  refine wp_region_mix (fun _ => True) [(0, true), (2, true), (3, true), (4, true), (1, false), (5, false), (6, true)] (by kernel_rfl) (by kernel_rfl) (fun _ d _ _ _ h => by cases d <;> exact h) hS ?_
                  refine mix_begin (fun K0 hK0 => ?_)
                  refine mix_take hK0 (some 110) (.move (.tmp 3)) 24 _ (by kernel_rfl) (by kernel_rfl) (fun w' hS' => by (simp only [opr]; go_simp; try with_reducible rfl)) (fun K1 hK1 => ?_)
                  clear hK0 K0
                  simp only [Act.put, List.setIfInBounds_toArray, List.set_cons_zero, List.set_cons_succ]
                  refine mix_take hK1 (some 112) (.move (.tmp 4)) 26 _ (by kernel_rfl) (by kernel_rfl) (fun w' hS' => by (simp only [opr]; go_simp; try with_reducible rfl)) (fun K2 hK2 => ?_)
                  clear hK1 K1
                  simp only [Act.put, List.setIfInBounds_toArray, List.set_cons_zero, List.set_cons_succ]
                  refine mix_take hK2 (some 113) (.move (.tmp 10)) 3 _ (by kernel_rfl) (by kernel_rfl) (fun w' hS' => by (simp only [opr]; go_simp; try with_reducible rfl)) (fun K3 hK3 => ?_)
                  clear hK2 K2
                  simp only [Act.put, List.setIfInBounds_toArray, List.set_cons_zero, List.set_cons_succ]
                  refine mix_take hK3 (some 114) (.slice 26 (.tmp 112) none (some (.tmp 113)) none) 26 _ (by kernel_rfl) (by kernel_rfl) (fun w' hS' => by exact slice26_h (k := k) rfl rfl HKC.out _ _ _) (fun K4 hK4 => ?_)
                  clear hK3 K3
                  simp only [Act.put, List.setIfInBounds_toArray, List.set_cons_zero, List.set_cons_succ]
                  refine mix_call hK4 (some 111) 15 #[.tmp 110] #[24] 26 _ (by kernel_rfl) (by kernel_rfl) (enters Try.func15 (by kernel_rfl) (by kernel_rfl)) (by go_simp; try with_reducible rfl) (fun K5 hK5 => ?_)
                  clear hK4 K4
                  refine (HTK.out).mono ?_
                  rintro _ wm1 ⟨q5, a5, c5, rfl, hi5, hs1, ho5⟩
                  have hS1 : _ := (show (fun _ => True) wm1 from trivial)
                  refine ⟨_, rfl, hS1, ?_⟩
                  have HI5 := hide' hi5
                  have HRX := hide' (HPD.out.moved hs1)
                  have HSM := hide' (same14 a5 xa k c5 xc (L.take k) wm1 ho5.rd (HRX.out.1.take k) HTL.out (by have := HKB.out; omega))
                  clear hi5 ho5
                  clear hs1
                  simp only [Act.put, List.setIfInBounds_toArray, List.set_cons_zero, List.set_cons_succ]
                  refine mix_call hK5 (some 115) 14 #[.tmp 111, .tmp 114] #[26, 26] 4 _ (by kernel_rfl) (by kernel_rfl) (enters Try.func14 (by kernel_rfl) (by kernel_rfl)) (by go_simp; try with_reducible rfl) (fun K6 hK6 => ?_)
                  clear hK5 K5
                  refine (HSM.out).mono ?_
                  rintro e wm2 ⟨rfl, hs2⟩
                  have hS2 : _ := (show (fun _ => True) wm2 from trivial)
                  refine ⟨_, rfl, hS2, ?_⟩
                  have HSS := hide' hs2
                  clear hs2
                  simp only [Act.put, List.setIfInBounds_toArray, List.set_cons_zero, List.set_cons_succ]
                  refine mix_take hK6 (some 116) (.unOp UnOp.not 4 (.tmp 115)) 4 _ (by kernel_rfl) (by kernel_rfl) (fun w' hS' => by (simp only [opr]; go_simp; try with_reducible rfl)) (fun K7 hK7 => ?_)
                  clear hK6 K6
                  simp only [Act.put, List.setIfInBounds_toArray, List.set_cons_zero, List.set_cons_succ]
                  refine hK7 _ _ (mix_nil ?_)
                  clear hK7 K7
                  have HP3 : Hid (PG w wm2 b q5 nw1 va vn vc (L.drop k)) := by
                    have hl := HPD.out.len
                    have hc := HPD.out.cap
                    obtain ⟨v1, v2, v3⟩ := HVA.out
                    have hr : Rd wm1 va (L.drop k) := by rw [v1]; exact HRX.out.1.drop (by omega)
                    have hne : L.drop k ≠ [] → L ≠ [] := fun h e => h (by rw [e]; simp)
                    exact ⟨HI5.out.keep HSS.out, hr.keep HSS.out, by rw [List.length_drop, hl, v2], by omega, fun h j hj => HRX.out.2 (hne h) j (Rd.drop_block j (by rw [← v1]; exact hj)), nn_drop HPD.out.nn⟩
                  clear HPD HTK HI5 HRX HSM HSS HVA HTL HKB HKC HPW HL HE
                  go_wp2_with (simp only [hsl2])
                  clear hsl2
                  have HNW := hide' (now_in HP3.out.cin)
                  go_wp2_with fail
                  refine HNW.out.mono ?_
                  rintro _ wt1 ⟨rfl, _, hs⟩
                  have HPt := hide' (HP3.out.keep hs)
                  have HAL := hide' (all_in (n := vn) HPt.out.cin HPt.out.len)
                  clear hs HNW HP3
                  go_wp2_with fail
                  refine HAL.out.mono ?_
                  rintro _ wt2 ⟨q8, a8, c8, rfl, hi8, hm8, ho8⟩
                  have HPu : Hid (PG w wt2 b q8 nw1 va vn vc (L.drop k)) := ⟨hi8, (HPt.out.moved hm8).1, HPt.out.len, HPt.out.cap, (HPt.out.moved hm8).2, HPt.out.nn⟩
                  have HSA := hide' (same14 a8 va vn c8 vc (L.drop k) wt2 ho8.rd HPu.out.rd HPu.out.len (by omega))
                  clear hi8 hm8 ho8 HAL HPt
                  go_wp2_with fail
                  refine HSA.out.mono ?_
                  rintro _ wt3 ⟨rfl, hs⟩
                  have HPv := hide' (HPu.out.keep hs)
                  clear hs HSA HPu
                  go_wp2
                  go_roundg (n - (i + 1))
                  case measure => omega
                  case rel => exact ⟨i + 1, nw1, va, vn, vc, q8, (L.drop k), by omega, by omega, by omega, rfl, rfl, rfl, by go_num, HPv⟩
          · by_cases hD3 : D = 3
            · subst hD3
              clear hD0 hD1 hD2
              obtain ⟨M, hM⟩ : ∃ M, outL (ofB E) L = M := ⟨_, rfl⟩
              obtain ⟨yn, hyn⟩ : ∃ m, M.length = m := ⟨_, rfl⟩
              have hynb : yn ≤ xn := by rw [← hyn, ← hM, ← HPW.out.len]; exact outL_len _ _
              have HMN : Hid (∀ t ∈ M, 0 ≤ t.nr) := by rw [← hM]; exact nn_out HPW.out.nn
              obtain ⟨z, hz⟩ : ∃ z, z = goneI (ofB E) L := ⟨_, rfl⟩
              have hzz : z = (xn : Int) - (yn : Int) := by rw [hz]; unfold goneI; rw [hM, hyn, HPW.out.len]
              have hzw : IntKind.i64.wrap ((xn : Int) - (yn : Int)) = z := by rw [IntKind.wrap_i64]; omega
              have HOU : Hid (Calls Try.prog 12 #[.slice xa xn xc, .int .i64 E, .int .i64 (-1)] W (NewN M yn W)) := out_n HPW.out.rd HPW.out.len (by omega) (by rw [outB_of]; exact hM) hyn
              have HCI : Hid (∀ W, CIn w W b q (nw : Nat) L → Calls Try.prog 16 #[.pointer (some ⟨b, 0, none⟩), .int .i64 E] W (Gave w b q (nw : Nat) M (.int .i64 z) W)) := fun W h => kill_in E h hM.symm hz
              have HML := hide' hyn
              have HZW := hide' hzw
              have HZZ := hide' hzz
              clear hM hyn hz hzz hzw
              go_wp2_with fail
              refine HOU.out.mono ?_
              rintro _ w2 ⟨ya, yc, rfl, hs, hyrd, hyle, hyfr⟩
              have HPy : Hid (Rd w2 ya M ∧ yn ≤ yc ∧ ∀ k, ya.map Addr.block = some k → W.heap.size ≤ k) := ⟨hyrd, hyle, hyfr⟩
              have HP2 := hide' (HPW.out.keep hs)
              have hab := HAB.out.keep hs
              have HOFF : Hid (∀ j, ya.map Addr.block = some j → w.heap.size ≤ j ∧ ¬ q.own j) := fun j hj => by
                have h1 := HPy.out.2.2 j hj
                have h2 := HPW.out.cin.stay.size
                refine ⟨by omega, fun e => ?_⟩
                have h3 := HPW.out.cin.at'.lt j e
                omega
              clear hs hyrd hyle hyfr HOU HPW HAB a0 a1 a2 a3
              obtain ⟨a0, a1, a2, a3, _, _, _, _⟩ := hab
              simp only at a0 a1 a2 a3
              have HZ := hide' (HCI.out w2 HP2.out.cin)
              have hzz := HZZ.out
              have hyz : (yn : Int) ≤ (xn : Nat) := by omega
              go_wp2_with fail
              refine HZ.out.mono ?_
              rintro _ w3 ⟨q3, rfl, hi3, hm3⟩
              have HP3 : Hid (PG w w3 b q3 nw ya yn yc M) := by
                by_cases hn : M = []
                · refine ⟨hi3, by rw [hn]; exact Rd.nil _ _, HML.out, HPy.out.2.1, fun e => absurd hn e, HMN.out⟩
                · refine ⟨hi3, HPy.out.1.stay hm3.1 (fun j hj => (HOFF.out j hj).2), HML.out, HPy.out.2.1, fun _ j hj => ⟨(HOFF.out j hj).1, hm3.not (HOFF.out j hj).2 (HPy.out.1.lt hn j hj)⟩, HMN.out⟩
              clear hi3 hm3 HZ HCI HP2 HBN HOFF HPy HMN HML HZZ HZW a0 a1 a2 a3
              go_wp2_with fail
              clear hzz hyz
              have HNW := hide' (now_in HP3.out.cin)
              go_wp2_with fail
              refine HNW.out.mono ?_
              rintro _ wt1 ⟨rfl, _, hs⟩
              have HPt := hide' (HP3.out.keep hs)
              have HAL := hide' (all_in (n := yn) HPt.out.cin HPt.out.len)
              clear hs HNW HP3
              go_wp2_with fail
              refine HAL.out.mono ?_
              rintro _ wt2 ⟨q8, a8, c8, rfl, hi8, hm8, ho8⟩
              have HPu : Hid (PG w wt2 b q8 nw ya yn yc M) := ⟨hi8, (HPt.out.moved hm8).1, HPt.out.len, HPt.out.cap, (HPt.out.moved hm8).2, HPt.out.nn⟩
              have HSA := hide' (same14 a8 ya yn c8 yc M wt2 ho8.rd HPu.out.rd HPu.out.len (by omega))
              clear hi8 hm8 ho8 HAL HPt
              go_wp2_with fail
              refine HSA.out.mono ?_
              rintro _ wt3 ⟨rfl, hs⟩
              have HPv := hide' (HPu.out.keep hs)
              clear hs HSA HPu
              go_wp2
              go_roundg (n - (i + 1))
              case measure => omega
              case rel => exact ⟨i + 1, nw, ya, yn, yc, q8, M, by omega, by omega, by omega, rfl, rfl, rfl, by go_num, HPv⟩
            · clear HBN HAB
              have HNW := hide' (now_in HPW.out.cin)
              go_wp2_with fail
              refine HNW.out.mono ?_
              rintro _ wt1 ⟨rfl, _, hs⟩
              have HPt := hide' (HPW.out.keep hs)
              have HAL := hide' (all_in (n := xn) HPt.out.cin HPt.out.len)
              clear hs HNW HPW
              go_wp2_with fail
              refine HAL.out.mono ?_
              rintro _ wt2 ⟨q8, a8, c8, rfl, hi8, hm8, ho8⟩
              have HPu : Hid (PG w wt2 b q8 nw xa xn xc L) := ⟨hi8, (HPt.out.moved hm8).1, HPt.out.len, HPt.out.cap, (HPt.out.moved hm8).2, HPt.out.nn⟩
              have HSA := hide' (same14 a8 xa xn c8 xc L wt2 ho8.rd HPu.out.rd HPu.out.len (by omega))
              clear hi8 hm8 ho8 HAL HPt
              go_wp2_with fail
              refine HSA.out.mono ?_
              rintro _ wt3 ⟨rfl, hs⟩
              have HPv := hide' (HPu.out.keep hs)
              clear hs HSA HPu
              go_wp2
              go_roundg (n - (i + 1))
              case measure => omega
              case rel => exact ⟨i + 1, nw, xa, xn, xc, q8, L, by omega, by omega, by omega, rfl, rfl, rfl, by go_num, HPv⟩
    · have e : i = n := by omega
      subst e
      have HS := hide' HP.out.cin.stay
      clear HP
      go_wp2_with fail
      refine (HAW.out _).mono ?_
      rintro e w9 ⟨rfl, hs⟩
      have HE := hide' (HS.out.trans hs)
      clear hs
      go_wp2
      go_ret
      exact ⟨rfl, HE.out⟩

end Go.Proofs.Ytihciknbmhadjaa
