/-
  A name that is stale stays so: walked. No conditions.
-/
import Derived.Test.YtlhfpnfiamgmlaaR2
import Derived.Deep.DeepCutAuto
namespace Go.Proofs.Ytlhfpnfiamgmlaa
open Go.RowKit

/-- While names go stale. -/
structure ZIn (w w1 : World) (T B n i : Nat) (v : Value) (wr : World) : Prop where
  tab : TIn w T B n 10 (fS i) ((i : Nat) + 1) wr
  row : wr.ownsRow w1.heap.size 30 2 v i (nms (oldL i))
  size : w1.heap.size ≤ wr.heap.size

set_option maxHeartbeats 8000000 in
set_option maxRecDepth 100000 in
theorem stale5 (ro so : Int) (w : World) (r0 : 0 ≤ ro) (r1 : ro < 256) (s0 : 0 ≤ so) (s1 : so < 256) : Calls Try.prog 5 #[.int .u8 ro, .int .u8 so] w (LawTrue w) := by
  obtain ⟨n, hn⟩ : ∃ n : Nat, 1 + so % 3 = (n : Nat) := ⟨(1 + so % 3).toNat, by omega⟩
  obtain ⟨R, hR⟩ : ∃ R : Nat, ro % 30 = (R : Nat) := ⟨(ro % 30).toNat, by omega⟩
  have hn1 : 1 ≤ n := by omega
  have hn3 : n ≤ 3 := by omega
  have hR30 : R < 30 := by omega
  have HNN := hide' (show 1 ≤ n ∧ n ≤ 3 ∧ R < 30 from ⟨hn1, hn3, hR30⟩)
  have HN := hide' (new_in (w0 := w) n 10 (Stay.refl _ w) hn1 (by omega) (by decide))
  have hRz : (R : Int) < 30 := by omega
  have r2 : ro < 256 := r1
  go_enter Try.func5, Try.ntmps5
  go_wp2_with fail
  refine HN.out.mono ?_
  rintro _ w1 ⟨T, B, rfl, ht1, _, hT, hB⟩
  have hT1 : T < w1.heap.size := ht1.at'.lt
  have hB1 : B < w1.heap.size := ht1.at'.ltB
  have HTB := hide' (show T < w1.heap.size ∧ B < w1.heap.size ∧ w.heap.size ≤ w1.heap.size from ⟨hT1, hB1, ht1.stay.size⟩)
  have HZ : Hid (ZIn w w1 T B n 0 (.slice none 0 0) w1) := ⟨by rw [fS_zero]; exact ht1, ⟨rfl, .inl ⟨rfl, rfl⟩⟩, Nat.le_refl _⟩
  clear ht1 hT hB hT1 hB1 HN hn1 hn3 hR30
  go_wp2
  go_loopg [6, 7] R (fun gg v6 v7 wr => ∃ (i : Nat) (v : Value), i ≤ R ∧ gg = R - i ∧ v7 = .int .i64 (i : Int) ∧ v = v6 ∧ Hid (ZIn w w1 T B n i v wr))
  case atStart => exact ⟨0, _, Nat.zero_le _, rfl, rfl, rfl, HZ⟩
  case round =>
    clear HZ
    obtain ⟨i, v, hi, rfl, rfl, hv, HZ⟩ := hrel
    subst hv
    by_cases hlt : i < R
    · have iR : (i : Int) < (R : Nat) := by omega
      have hm := mint_in 1 3 (i : Nat) 7 HZ.out.tab
      rw [mint_S i n HNN.out.1] at hm
      have HM := hide' hm
      clear hm
      go_wp2_with fail
      refine HM.out.mono ?_
      rintro _ w2 ⟨rfl, ht2, hs2⟩
      have h2 : TIn w T B n 10 (gS i) ((i : Nat) + 1) w2 := ht2
      have hrow2 := hs2.owns HZ.out.row (fun k hk e => by have := (HZ.out.row.lt k hk).1; have := HTB.out; omega)
      have HSZ : Hid (w1.heap.size ≤ w2.heap.size) := Nat.le_trans HZ.out.size hs2.size
      go_upto_region 9 with fail
      obtain ⟨bc, hbc⟩ : ∃ b, b = w2.heap.size := ⟨_, rfl⟩
      obtain ⟨w3, hw3⟩ : ∃ W, W = w2.alloc (.cells #[.int .i64 0, .int .i64 ((i : Nat) + 1)] 30) := ⟨_, rfl⟩
      have hs3 : Stay (fun _ => False) w2 w3 := by rw [hw3]; exact (Stay.refl _ _).alloc _
      have HT3 := hide' (h2.keep hs3)
      have HR3 := hide' (hs3.owns hrow2 (fun _ _ h => h))
      have HC3 : Hid (NBox w3 bc ⟨0, (i : Nat) + 1⟩) := by rw [hw3]; exact NBox.new ⟨0, (i : Nat) + 1⟩ hbc.symm
      have HBC : Hid (w1.heap.size ≤ bc ∧ w1.heap.size ≤ w3.heap.size) := ⟨by have := HSZ.out; omega, Nat.le_trans HSZ.out hs3.size⟩
      rw [← hw3, ← hbc]
      clear hw3 hbc hs3 h2 ht2 hs2 hrow2 HM HZ HSZ
      obtain ⟨ad, cp, rfl⟩ := owns_sliceS HR3.out
      go_wp2
      go_loopg [10] i (fun gg v10 wr => ∃ k : Nat, k ≤ i ∧ gg = i - k ∧ v10 = .int .i64 (k : Int) ∧ Hid (Stay (fun _ => False) w3 wr))
      case atStart => exact ⟨0, Nat.zero_le _, rfl, rfl, Stay.refl _ _⟩
      case round =>
        obtain ⟨k, hk, rfl, rfl, HS⟩ := hrel
        by_cases hki : k < i
        · have kiz : (k : Int) < (i : Nat) := by omega
          obtain ⟨g, hg, hgb, hat⟩ := names_at (HS.out.owns HR3.out (fun _ _ h => h)) (oldL_len i) k _ (oldL_get i k hki)
          subst hg
          have HAT := hide' hat
          have hck := check_in 1 0 ((k : Nat) + 1) 3 0 (HT3.out.keep HS.out) (by unfold W64; omega)
          rw [check_S i k n hki] at hck
          have HCK := hide' hck
          have HCW := hide' (HC3.out.keep HS.out)
          obtain ⟨a0, a1⟩ := hat
          simp only at a0 a1
          clear hck
          go_wp2_with fail
          refine HCK.out.mono ?_
          rintro _ wi ⟨rfl, hsi⟩
          have HRO := hide' (HAT.out.keep hsi)
          have HCB := hide' (HCW.out.keep hsi)
          have HS4 := hide' (HS.out.trans hsi)
          clear a0 a1 hsi HAT HCK HCW
          go_upto_region 15 with fail
          have hS : (fun w' => Stay (fun _ => False) wi w') wi.drew := (Stay.refl _ _).drew
          refine wp_region_mix (fun w' => Stay (fun _ => False) wi w') [(0, true), (1, true), (2, true), (3, true), (4, true), (5, true), (6, true), (7, true), (8, true), (9, true)] (by kernel_rfl) (by kernel_rfl) (fun _ d _ _ _ h => by cases d <;> exact h) hS ?_
          refine mix_begin (fun K0 hK0 => ?_)
          refine mix_take hK0 (some 52) (.move (.tmp 12)) 36 _ (by kernel_rfl) (by kernel_rfl) (fun w' hS' => by (have r := HRO.out.keep hS'; obtain ⟨a0, a1⟩ := r; obtain ⟨b0, b1, _, _⟩ := HCB.out.keep hS'; simp only at a0 a1 b0 b1; simp only [opr]; go_simp; try with_reducible rfl)) (fun K1 hK1 => ?_)
          clear hK0 K0
          simp only [Act.put, List.setIfInBounds_toArray, List.set_cons_zero, List.set_cons_succ]
          refine mix_take hK1 (some 53) (.binOp BinOp.neq 36 (.tmp 52) (.const (Value.int IntKind.i64 9)) 36) 4 _ (by kernel_rfl) (by kernel_rfl) (fun w' hS' => by (have r := HRO.out.keep hS'; obtain ⟨a0, a1⟩ := r; obtain ⟨b0, b1, _, _⟩ := HCB.out.keep hS'; simp only at a0 a1 b0 b1; simp only [opr]; go_simp; try with_reducible rfl)) (fun K2 hK2 => ?_)
          clear hK1 K1
          simp only [Act.put, List.setIfInBounds_toArray, List.set_cons_zero, List.set_cons_succ]
          refine mix_take hK2 (some 54) (.move (.tmp 53)) 4 _ (by kernel_rfl) (by kernel_rfl) (fun w' hS' => by (have r := HRO.out.keep hS'; obtain ⟨a0, a1⟩ := r; obtain ⟨b0, b1, _, _⟩ := HCB.out.keep hS'; simp only at a0 a1 b0 b1; simp only [opr]; go_simp; try with_reducible rfl)) (fun K3 hK3 => ?_)
          clear hK2 K2
          simp only [Act.put, List.setIfInBounds_toArray, List.set_cons_zero, List.set_cons_succ]
          refine mix_take hK3 (some 55) (.move (.tmp 6)) 28 _ (by kernel_rfl) (by kernel_rfl) (fun w' hS' => by (have r := HRO.out.keep hS'; obtain ⟨a0, a1⟩ := r; obtain ⟨b0, b1, _, _⟩ := HCB.out.keep hS'; simp only at a0 a1 b0 b1; simp only [opr]; go_simp; try with_reducible rfl)) (fun K4 hK4 => ?_)
          clear hK3 K3
          simp only [Act.put, List.setIfInBounds_toArray, List.set_cons_zero, List.set_cons_succ]
          refine mix_take hK4 (some 56) (.move (.tmp 10)) 3 _ (by kernel_rfl) (by kernel_rfl) (fun w' hS' => by (have r := HRO.out.keep hS'; obtain ⟨a0, a1⟩ := r; obtain ⟨b0, b1, _, _⟩ := HCB.out.keep hS'; simp only at a0 a1 b0 b1; simp only [opr]; go_simp; try with_reducible rfl)) (fun K5 hK5 => ?_)
          clear hK4 K4
          simp only [Act.put, List.setIfInBounds_toArray, List.set_cons_zero, List.set_cons_succ]
          refine mix_take hK5 (some 57) (.indexAddr 28 (.tmp 55) (.tmp 56)) 0 _ (by kernel_rfl) (by kernel_rfl) (fun w' hS' => by (have r := HRO.out.keep hS'; obtain ⟨a0, a1⟩ := r; obtain ⟨b0, b1, _, _⟩ := HCB.out.keep hS'; simp only at a0 a1 b0 b1; simp only [opr]; go_simp; try with_reducible rfl)) (fun K6 hK6 => ?_)
          clear hK5 K5
          simp only [Act.put, List.setIfInBounds_toArray, List.set_cons_zero, List.set_cons_succ]
          refine mix_take hK6 (some 58) (.load 30 (.tmp 57)) 30 _ (by kernel_rfl) (by kernel_rfl) (fun w' hS' => by exact run_load_NBoxAt rfl rfl (HRO.out.keep hS')) (fun K7 hK7 => ?_)
          clear hK6 K6
          simp only [Act.put, List.setIfInBounds_toArray, List.set_cons_zero, List.set_cons_succ]
          refine mix_take hK7 (some 59) (.load 30 (.tmp 8)) 30 _ (by kernel_rfl) (by kernel_rfl) (fun w' hS' => by exact run_load_NBox rfl rfl (HCB.out.keep hS')) (fun K8 hK8 => ?_)
          clear hK7 K7
          simp only [Act.put, List.setIfInBounds_toArray, List.set_cons_zero, List.set_cons_succ]
          refine mix_take hK8 (some 60) (.binOp BinOp.eql 30 (.tmp 58) (.tmp 59) 30) 4 _ (by kernel_rfl) (by kernel_rfl) (fun w' hS' => by exact eqlN_op false ⟨0, ((k : Nat) : Int) + 1⟩ ⟨0, ((i : Nat) : Int) + 1⟩ rfl rfl (by rw [beq_eq_false_iff_ne.2 (show ((k : Nat) : Int) + 1 ≠ ((i : Nat) : Int) + 1 by omega), Bool.and_false])) (fun K9 hK9 => ?_)
          clear hK8 K8
          simp only [Act.put, List.setIfInBounds_toArray, List.set_cons_zero, List.set_cons_succ]
          refine mix_take hK9 (some 61) (.pick (.tmp 54) (.const (Value.bool true)) (.tmp 60)) 4 _ (by kernel_rfl) (by kernel_rfl) (fun w' hS' => by (have r := HRO.out.keep hS'; obtain ⟨a0, a1⟩ := r; obtain ⟨b0, b1, _, _⟩ := HCB.out.keep hS'; simp only at a0 a1 b0 b1; simp only [opr]; go_simp; try with_reducible rfl)) (fun K10 hK10 => ?_)
          clear hK9 K9
          simp only [Act.put, List.setIfInBounds_toArray, List.set_cons_zero, List.set_cons_succ]
          refine hK10 _ _ (mix_nil ?_)
          clear hK10 K10
          have HS5 := hide' (HS4.out.trans ((Stay.refl (fun _ => False) wi).drew))
          clear hS HRO HCB
          go_wp2
          go_roundg (i - (k + 1))
          case measure => omega
          case rel => exact ⟨k + 1, by omega, rfl, by go_num, HS5.out⟩
        · have hke : k = i := by omega
          subst hke
          have hdr := drop_in 1 0 ((k : Nat) + 1) (HT3.out.keep HS.out) (by have := HNN.out; omega)
          rw [own_S k n HNN.out.1] at hdr
          have HDR := hide' hdr
          have HCW := hide' (HC3.out.keep HS.out)
          have HRW := hide' (HS.out.owns HR3.out (fun _ _ h => h))
          have HSZ : Hid (w1.heap.size ≤ wr.heap.size) := Nat.le_trans HBC.out.2 HS.out.size
          obtain ⟨b0, b1, _, _⟩ := HCW.out
          simp only at b0 b1
          clear hdr HS
          go_wp2_with fail
          refine HDR.out.mono ?_
          rintro _ w5 ⟨f', c, rfl, h5, hs5, _, hc⟩
          obtain ⟨M, hM, rfl, rfl⟩ := hc rfl
          obtain ⟨hf, hcn⟩ := drop_S HNN.out.1 hM
          rw [hcn]
          rw [hf] at h5
          have hNB : ¬ bc = B := fun e => by have := HBC.out; have := HTB.out; omega
          obtain ⟨b0', b1', _, _⟩ := HCW.out.stay hs5 hNB
          simp only at b0' b1'
          have hst : Stay (fun _ => False) w5 (w5.alloc (.cells #[.int .i64 0, .int .i64 ((k : Nat) + 1)] 30)) := (Stay.refl _ _).alloc _
          have HT6 := hide' (h5.keep hst)
          have HO : Hid ((w5.alloc (.cells #[.int .i64 0, .int .i64 ((k : Nat) + 1)] 30)).ownsRow w1.heap.size 30 2 (.slice ad k cp) k (nms (oldL k))) :=
            hst.owns (hs5.owns HRW.out (fun j hj e => by have := (HRW.out.lt j hj).1; have := HTB.out; omega)) (fun _ _ h => h)
          have HSRC := hide' (isRowS_new w5 #[.int .i64 0, .int .i64 ((k : Nat) + 1)] 30 2 1 rfl)
          have HON : Hid (∀ u ∈ [Value.int .i64 0, Value.int .i64 ((k : Nat) + 1)], u.oneCell' = true) := by
            intro u hu
            simp only [List.mem_cons, List.not_mem_nil, or_false] at hu
            rcases hu with rfl | rfl <;> rfl
          have HNM : Hid (k + 1 ≤ 1000000) := by have := HNN.out; show k + 1 ≤ 1000000; omega
          have HBS : Hid (w1.heap.size ≤ (w5.alloc (.cells #[.int .i64 0, .int .i64 ((k : Nat) + 1)] 30)).heap.size) := Nat.le_trans (Nat.le_trans HSZ.out hs5.size) hst.size
          clear b0 b1 hM hf hcn h5 hs5 hc hst HDR HRW HCW HSZ hNB
          go_wp2_with (at_builtin; go_must (refine appS rfl _ _ 28 rfl Try.underlying28 info30 rfl (by decide) (by decide) HO.out rfl HSRC.out rfl HON.out HNM.out HBS.out ?_; intro v5 W5 ho hst hb; have HZ5 : Hid (ZIn w w1 T B n (k + 1) v5 W5) := ⟨(HT6.out.beside hst (fun j hj e => by have := (HO.out.lt j e).1; have := HTB.out; omega) (fun e => by have := (HO.out.lt T e).1; have := HTB.out; omega) (fun e => by have := (HO.out.lt B e).1; have := HTB.out; omega)).le (by omega), by rw [oldL_succ, nms_append]; exact ho, Nat.le_trans HBS.out hst.size⟩; clear ho hst hb HO HSRC HT6 b0' b1'))
          go_roundg (R - (k + 1))
          case measure => omega
          case rel => exact ⟨k + 1, _, by omega, rfl, by go_num, rfl, HZ5⟩
    · have hie : i = R := by omega
      subst hie
      have hct := count_in 1 HZ.out.tab
      rw [fS_cnt] at hct
      have HCT := hide' hct
      have HST := hide' HZ.out.tab.stay
      clear hct HZ
      go_wp2_with fail
      refine HCT.out.mono ?_
      rintro _ w2 ⟨rfl, hs2⟩
      have HS2 := hide' (HST.out.trans hs2)
      clear hs2 HCT HST
      go_wp2_with fail
      refine (awake7 w2).mono ?_
      rintro _ w3 ⟨rfl, hs3⟩
      have HS3 := hide' (HS2.out.trans hs3)
      clear hs3 HS2
      go_wp2
      go_ret
      exact ⟨rfl, HS3.out⟩

end Go.Proofs.Ytlhfpnfiamgmlaa
