/-
  ScanAlt: walked. No conditions.
-/
import Derived.Test.YtjficpcfdpbegaaF4
namespace Go.Proofs.Ytjficpcfdpbegaa
open Go.RowKit

/-- What stands while ScanAlt is worked out. -/
def Three (w : World) (c m : Int) (A B : Nat) (m0 m1 : Int) (W : World) : Prop := Newer w W ∧ KBox W A ⟨c, m0⟩ ∧ KBox W B ⟨c, m1⟩ ∧ KBox W w.heap.size ⟨c, m⟩

theorem Three.keep {w W W1 : World} {c m m0 m1 : Int} {A B : Nat} (h : Three w c m A B m0 m1 W) (hs : Stay (fun _ => False) W W1) : Three w c m A B m0 m1 W1 := ⟨h.1.keep hs, h.2.1.keep hs, h.2.2.1.keep hs, h.2.2.2.keep hs⟩

def Made (w : World) (c m : Int) (A B : Nat) (W : World) : Prop := Three w c m A B m m W ∧ A ≠ B ∧ w.heap.size < A ∧ w.heap.size < B

theorem made_world (w : World) (c m : Int) : Made w c m (w.heap.size + 1) (w.heap.size + 1 + 1) (((w.alloc (.cells #[.int .i64 c, .int .i64 m] 27)).alloc (.cells #[.int .i64 c, .int .i64 m] 27)).alloc (.cells #[.int .i64 c, .int .i64 m] 27)).drew :=
  ⟨Three.keep ⟨(((Newer.refl w).alloc _).alloc _).alloc _, (KBox.new ⟨c, m⟩ (by simp)).alloc _, KBox.new ⟨c, m⟩ (by simp), ((KBox.new ⟨c, m⟩ rfl).alloc _).alloc _⟩ (Stay.refl _ _).drew, by omega, by omega, by omega⟩

theorem Made.swap {w W : World} {c m : Int} {A B : Nat} (h : Made w c m A B W) : Made w c m B A W := ⟨⟨h.1.1, h.1.2.2.1, h.1.2.1, h.1.2.2.2⟩, fun e => h.2.1 e.symm, h.2.2.2, h.2.2.1⟩

theorem Newer.set {w W : World} {b o : Nat} {v : Value} (h : Newer w W) (hb : w.heap.size ≤ b) : Newer w (W.setCell ⟨b, o, none⟩ v) := Stay.setCell (S := fun j => w.heap.size ≤ j) h hb v

set_option maxHeartbeats 2000000 in
theorem alt_run5 (c m : Int) (app : Bool) (w : World) : Calls Try.prog 5 #[.agg #[.int .i64 c, .int .i64 m], .bool app] w (LawTrue w) := by
  have HB0 := hide' (KBox.new (w := w) ⟨c, m⟩ rfl)
  have HM := hide' (made_world w c m)
  have H13a := hide' (bytes13 c (bits .andNot .i64 m 4) app)
  have H13b := hide' (bytes13 c (bits .or .i64 m 4) app)
  have H13c := hide' (bytes13 118 m app)
  rw [kb_attention] at H13c
  rw [kb_gone] at H13a
  rw [kb_set] at H13b
  have HLE := hide' (wa_len c (bitB m 1) (bitB m 2) app)
  obtain ⟨l, hl⟩ : ∃ l, l = waL c (bitB m 1) (bitB m 2) app := ⟨_, rfl⟩
  rw [← hl] at H13a H13b HLE
  clear hl
  obtain ⟨c0, c1, _⟩ := HB0.out
  go_enter Try.func5, Try.ntmps5
  go_upto_region 1 with fail
  go_cut [5, 6] (fun s5 s6 wx => ∃ A B, s5 = .pointer (some ⟨A, 0, none⟩) ∧ s6 = .pointer (some ⟨B, 0, none⟩) ∧ Hid (Made w c m A B wx))
  case first =>
    go_region
    all_goals
      go_wp2_with fail
      go_meet
      first | exact ⟨_, _, rfl, rfl, HM⟩ | exact ⟨_, _, rfl, rfl, hide' HM.out.swap⟩
  case rest =>
    obtain ⟨A, B, rfl, rfl, HX⟩ := hcut
    clear HB0 HM c0 c1
    obtain ⟨hN, hA, hB, hK⟩ := HX.out.1
    have hAB := HX.out.2.1
    have hA1 := HX.out.2.2.1
    have hB1 := HX.out.2.2.2
    have n1 : w.heap.size ≠ A := by omega
    have n2 : w.heap.size ≠ B := by omega
    have HY : Hid (Three w c m A B (bits .andNot .i64 m 4) m (wc.setCell ⟨A, 1, none⟩ (.int .i64 (bits .andNot .i64 m 4)))) := ⟨Newer.set hN (by omega), hA.put1 rfl, hB.other hAB, hK.other n1.symm⟩
    obtain ⟨k0, k1, _⟩ := hK
    obtain ⟨a0, a1, a2, a3⟩ := hA
    clear hB hN
    go_upto_region 3 with fail
    obtain ⟨W1, hW1⟩ : ∃ W1, W1 = wc.setCell ⟨A, 1, none⟩ (.int .i64 (bits .andNot .i64 m 4)) := ⟨_, rfl⟩
    rw [← hW1] at HY ⊢
    clear hW1 k0 k1 a0 a1 a2 a3 HX
    obtain ⟨hN, hA, hB, hK⟩ := HY.out
    have HZ : Hid (Three w c m A B (bits .andNot .i64 m 4) (bits .or .i64 m 4) (W1.setCell ⟨B, 1, none⟩ (.int .i64 (bits .or .i64 m 4)))) := ⟨Newer.set hN (by omega), hA.other hAB.symm, hB.put1 rfl, hK.other n2.symm⟩
    obtain ⟨k0, k1, _⟩ := hK
    obtain ⟨a0, a1, a2, a3⟩ := hB
    clear hA hN HY
    go_upto_region 4 with fail
    obtain ⟨W2, hW2⟩ : ∃ W2, W2 = W1.setCell ⟨B, 1, none⟩ (.int .i64 (bits .or .i64 m 4)) := ⟨_, rfl⟩
    rw [← hW2] at HZ ⊢
    clear hW2 k0 k1 a0 a1 a2 a3 n1 n2 hAB hA1 hB1
    have hS := HZ.out.keep (Stay.refl _ _).drew
    clear HZ
    refine wp_region_mix (fun w' => Three w c m A B (bits .andNot .i64 m 4) (bits .or .i64 m 4) w') [(0, true), (1, true), (3, true), (4, true), (2, false), (5, false), (6, true), (7, true)] (by kernel_rfl) (by kernel_rfl) (fun _ d _ _ _ h => by cases d <;> exact h) hS ?_
    refine mix_begin (fun K0 hK0 => ?_)
    refine mix_take hK0 (some 19) (.load 27 (.tmp 5)) 27 _ (by kernel_rfl) (by kernel_rfl) (fun w' hS' => by first | exact run_load_KBox rfl rfl hS'.2.1 | exact run_load_KBox rfl rfl hS'.2.2.1) (fun K1 hK1 => ?_)
    clear hK0 K0
    simp only [Act.put, List.setIfInBounds_toArray, List.set_cons_zero, List.set_cons_succ]
    refine mix_take hK1 (some 20) (.move (.tmp 1)) 4 _ (by kernel_rfl) (by kernel_rfl) (fun w' hS' => by simp only [opr]; go_simp; try with_reducible rfl) (fun K2 hK2 => ?_)
    clear hK1 K1
    simp only [Act.put, List.setIfInBounds_toArray, List.set_cons_zero, List.set_cons_succ]
    refine mix_take hK2 (some 22) (.load 27 (.tmp 6)) 27 _ (by kernel_rfl) (by kernel_rfl) (fun w' hS' => by first | exact run_load_KBox rfl rfl hS'.2.1 | exact run_load_KBox rfl rfl hS'.2.2.1) (fun K3 hK3 => ?_)
    clear hK2 K2
    simp only [Act.put, List.setIfInBounds_toArray, List.set_cons_zero, List.set_cons_succ]
    refine mix_take hK3 (some 23) (.move (.tmp 1)) 4 _ (by kernel_rfl) (by kernel_rfl) (fun w' hS' => by simp only [opr]; go_simp; try with_reducible rfl) (fun K4 hK4 => ?_)
    clear hK3 K3
    simp only [Act.put, List.setIfInBounds_toArray, List.set_cons_zero, List.set_cons_succ]
    refine mix_call hK4 (some 21) 13 #[.tmp 19, .tmp 20] #[27, 4] 22 _ (by kernel_rfl) (by kernel_rfl) (enters Try.func13 (by kernel_rfl) (by kernel_rfl)) (by go_simp; try with_reducible rfl) (fun K5 hK5 => ?_)
    clear hK4 K4
    refine (H13a.out _).mono ?_
    rintro e wm1 ⟨v1, rfl, hb1, hs1⟩
    have HV1 := hide' hb1
    clear hb1
    have hS1 : _ := (Three.keep hS hs1)
    refine ⟨_, rfl, hS1, ?_⟩
    clear hs1
    simp only [Act.put, List.setIfInBounds_toArray, List.set_cons_zero, List.set_cons_succ]
    refine mix_call hK5 (some 24) 13 #[.tmp 22, .tmp 23] #[27, 4] 22 _ (by kernel_rfl) (by kernel_rfl) (enters Try.func13 (by kernel_rfl) (by kernel_rfl)) (by go_simp; try with_reducible rfl) (fun K6 hK6 => ?_)
    clear hK5 K5
    refine (H13b.out _).mono ?_
    rintro e wm2 ⟨v2, rfl, hb2, hs2⟩
    have HV2 := hide' hb2
    have HW1 := hide' (HV1.out.keep hs2)
    clear hb2 HV1
    have hS2 : _ := (Three.keep hS1 hs2)
    refine ⟨_, rfl, hS2, ?_⟩
    clear hs2
    simp only [Act.put, List.setIfInBounds_toArray, List.set_cons_zero, List.set_cons_succ]
    refine mix_take hK6 (some 7) (.assign (.tmp 21)) 22 _ (by kernel_rfl) (by kernel_rfl) (fun w' hS' => by simp only [opr]; go_simp; try with_reducible rfl) (fun K7 hK7 => ?_)
    clear hK6 K6
    simp only [Act.put, List.setIfInBounds_toArray, List.set_cons_zero, List.set_cons_succ]
    refine mix_take hK7 (some 8) (.assign (.tmp 24)) 22 _ (by kernel_rfl) (by kernel_rfl) (fun w' hS' => by simp only [opr]; go_simp; try with_reducible rfl) (fun K8 hK8 => ?_)
    clear hK7 K7
    simp only [Act.put, List.setIfInBounds_toArray, List.set_cons_zero, List.set_cons_succ]
    refine hK8 _ _ (mix_nil ?_)
    clear hK8 K8
    have HS := hide' hS2
    clear hS2
    by_cases hl : l = []
    · subst hl
      obtain ⟨a1, k1, rfl, _, _⟩ := HW1.out
      obtain ⟨a2, k2, rfl, _, _⟩ := HV2.out
      clear H13a H13b
      go_wp2_with fail
      refine (awake8 _).mono ?_
      rintro e w5 ⟨rfl, hs⟩
      have HF := hide' (HS.out.1.keep hs)
      clear hs
      go_wp2
      go_ret
      exact ⟨by simp, HF.out.out⟩
    · have he : l.isEmpty = false := by simpa using hl
      rw [he] at HV2
      obtain ⟨n, hn⟩ : ∃ n, n = l.length := ⟨_, rfl⟩
      have hn1 : 1 ≤ n := by rw [hn]; exact List.length_pos_iff.2 hl
      have hn2 : n ≤ 4 := by rw [hn]; exact HLE.out
      have hp : Bs wm2 v2 (27 :: l) := HV2.out
      have HQ := hide' HW1.out
      obtain ⟨a1, k1, rfl, g1, _⟩ := HW1.out
      obtain ⟨a2, k2, rfl, g2, g3⟩ := hp
      obtain ⟨b2, o2, rfl, g4⟩ := g3 (by simp)
      have HT := hide' (bs_tail (cp := k2 - 1) (n := n) g4 (by simp at g2; omega) hn)
      have x1 : wm2.cell? ⟨b2, o2, none⟩ = some (.int .u8 27) := g4 0 (by simp)
      have x2 : ¬ (k2 = 1) := by simp at g2; omega
      have x3 : 1 ≤ k2 := by simp at g2; omega
      have x4 : n + 1 ≤ k2 := by simp at g2; omega
      rw [List.length_cons]
      rw [← hn] at HQ ⊢
      have HLN : Hid (l.length = n) := hn.symm
      have n0 : ((n : Nat) : Int) ≤ 4 := by omega
      have en0 : ((n : Int) == 0) = false := beq_f (by omega)
      clear HV2 HW1 g1 g2 g3 g4 H13a H13b he hl hn
      go_wp2_with fail
      refine (same12 _ _ l _ HT.out HQ.out (by rw [HLN.out]; omega)).mono ?_
      rintro e w5 ⟨rfl, hs⟩
      have HS5 := hide' (HS.out.keep hs)
      clear hs HS HT HQ x1
      obtain ⟨y0, y1, _⟩ := HS5.out.2.2.2
      go_wp2_with fail
      refine (H13c.out _).mono ?_
      rintro e w6 ⟨v6, rfl, hb, hs⟩
      have HS6 := hide' (HS5.out.keep hs)
      obtain ⟨a6, k6, rfl, _, _⟩ := hb
      clear hs HS5 y0 y1
      go_wp2_with fail
      refine (awake8 _).mono ?_
      rintro e w7 ⟨rfl, hs⟩
      have HF := hide' (HS6.out.1.keep hs)
      clear hs HS6
      go_wp2
      go_ret
      exact ⟨by simp, HF.out.out⟩

end Go.Proofs.Ytjficpcfdpbegaa
