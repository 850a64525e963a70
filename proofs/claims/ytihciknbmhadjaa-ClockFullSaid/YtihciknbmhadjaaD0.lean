/-
  Numbers and timers compared: walked. No conditions.
-/
import Derived.Test.YtihciknbmhadjaaC1
import Derived.Deep.DeepCutAuto
import Derived.BigQuiet
namespace Go.Proofs.Ytihciknbmhadjaa
open Go.RowKit

theorem nan35 (x : Int) (w : World) : Calls Try.prog 35 #[.int .i64 x] w (Gives (.bool false) w) := by
  have HS := hide' (Stay.refl (fun _ => False) w)
  go_enter Try.func35, Try.ntmps35
  go_wp2
  go_ret
  exact ⟨by simp, HS.out⟩

theorem compare32 (x y : Int) (w : World) : Calls Try.prog 32 #[.int .i64 x, .int .i64 y] w (Gives (.int .i64 (cI x y)) w) := by
  obtain ⟨c, hc⟩ : ∃ c, c = cI x y := ⟨_, rfl⟩
  have hx := cI_cases x y
  rw [← hc] at hx
  rw [← hc]
  have HX := hide' hx
  have HA := hide' (nan35 x)
  have HB := hide' (nan35 y)
  clear hc hx
  go_enter Try.func32, Try.ntmps32
  go_wp2_with fail
  refine (HA.out _).mono ?_
  rintro e w1 ⟨rfl, hs⟩
  have HS1 := hide' hs
  clear hs
  go_wp2_with fail
  refine (HB.out _).mono ?_
  rintro e w2 ⟨rfl, hs⟩
  have HS2 := hide' (HS1.out.trans hs)
  clear hs HS1
  by_cases h1 : x < y
  · have e : c = -1 := by have := HX.out; omega
    subst e
    go_wp2
    go_ret
    exact ⟨rfl, HS2.out⟩
  · by_cases h2 : y < x
    · have e : c = 1 := by have := HX.out; omega
      subst e
      go_wp2
      go_ret
      exact ⟨rfl, HS2.out⟩
    · have e : c = 0 := by have := HX.out; omega
      subst e
      go_wp2
      go_ret
      exact ⟨rfl, HS2.out⟩

theorem or31 (B : Nat) (x y z : Int) (w : World) (c0 : w.cell? ⟨B, 0, none⟩ = some (.int .i64 x)) (c1 : w.cell? ⟨B, 1, none⟩ = some (.int .i64 y)) (c2 : w.cell? ⟨B, 2, none⟩ = some (.int .i64 z)) : Calls Try.prog 31 #[.slice (some ⟨B, 0, none⟩) 3 3] w (Gives (.int .i64 (orI x y z)) w) := by
  obtain ⟨c, hc⟩ : ∃ c, c = orI x y z := ⟨_, rfl⟩
  rw [← hc]
  unfold orI at hc
  have HC := hide' hc
  have HS := hide' (Stay.refl (fun _ => False) w)
  have HK := hide' (And.intro c0 (And.intro c1 c2))
  clear hc c0 c1 c2
  go_enter Try.func31, Try.ntmps31
  go_wp2
  go_loopg [8] 3 (fun gg v8 wr => ∃ k : Nat, k ≤ 3 ∧ gg = 3 - k ∧ v8 = .int .i64 (k : Int) ∧ Hid (Stay (fun _ => False) w wr ∧ (1 ≤ k → x = 0) ∧ (2 ≤ k → y = 0) ∧ (3 ≤ k → z = 0)))
  case atStart => exact ⟨0, Nat.zero_le _, rfl, rfl, HS.out, fun h => by omega, fun h => by omega, fun h => by omega⟩
  case round =>
    clear HS
    obtain ⟨k, hk, rfl, rfl, HR⟩ := hrel
    by_cases hlt : k < 3
    · obtain ⟨v, hv⟩ : ∃ v : Int, v = (if k = 0 then x else if k = 1 then y else z) := ⟨_, rfl⟩
      have kn : (k : Int) < 3 := by omega
      have hcell : wr.cell? ⟨B, k, none⟩ = some (.int .i64 v) := by
        obtain ⟨g0, g1, g2⟩ := HK.out
        rw [hv]
        have : k = 0 ∨ k = 1 ∨ k = 2 := by omega
        rcases this with rfl | rfl | rfl
        · exact keep_cell HR.out.1 g0
        · exact keep_cell HR.out.1 g1
        · exact keep_cell HR.out.1 g2
      have HV := hide' hv
      clear hv
      by_cases h0 : v = 0
      · subst h0
        have HN : Hid (Stay (fun _ => False) w wr ∧ (1 ≤ k + 1 → x = 0) ∧ (2 ≤ k + 1 → y = 0) ∧ (3 ≤ k + 1 → z = 0)) := by
          have hv := HV.out
          have hr := HR.out.2
          refine ⟨HR.out.1, fun h => ?_, fun h => ?_, fun h => ?_⟩
          · by_cases e : k = 0
            · rw [if_pos e] at hv; exact hv.symm
            · exact hr.1 (by omega)
          · by_cases e : k = 1
            · rw [if_neg (by omega), if_pos e] at hv; exact hv.symm
            · exact hr.2.1 (by omega)
          · rw [if_neg (by omega), if_neg (by omega)] at hv; exact hv.symm
        clear HR HV
        go_wp2
        go_roundg (3 - (k + 1))
        case measure => omega
        case rel => exact ⟨k + 1, by omega, rfl, by go_num, HN⟩
      · have HN : Hid (v = c ∧ Stay (fun _ => False) w wr) := by
          have hv := HV.out
          have hr := HR.out.2
          refine ⟨?_, HR.out.1⟩
          rw [HC.out]
          have : k = 0 ∨ k = 1 ∨ k = 2 := by omega
          rcases this with rfl | rfl | rfl
          · rw [if_pos rfl] at hv
            rw [if_neg (by omega)]; exact hv
          · rw [if_neg (by omega), if_pos rfl] at hv
            rw [if_pos (hr.1 (by omega)), if_neg (by omega)]; exact hv
          · rw [if_neg (by omega), if_neg (by omega)] at hv
            rw [if_pos (hr.1 (by omega)), if_pos (hr.2.1 (by omega))]; exact hv
        clear HR HV HC
        go_wp2
        go_ret
        exact ⟨by rw [HN.out.1]; rfl, HN.out.2⟩
    · have e : k = 3 := by omega
      subst e
      have HN : Hid (c = 0 ∧ Stay (fun _ => False) w wr) := by
        obtain ⟨h, h1, h2, h3⟩ := HR.out
        refine ⟨?_, h⟩
        rw [HC.out, if_pos (h1 (by omega)), if_pos (h2 (by omega)), h3 (by omega)]
      clear HR HC
      go_wp2
      go_ret
      exact ⟨by rw [HN.out.1]; rfl, HN.out.2⟩

/-- Two boxes that were made behind a world. -/
def Two (w : World) (ba bb : Nat) (a b : Tm) (w' : World) : Prop := Stay (fun _ => False) w w' ∧ TBox w' ba a ∧ TBox w' bb b

theorem Two.keep {w W w1 : World} {ba bb : Nat} {a b : Tm} (h : Two w ba bb a b W) (hs : Stay (fun _ => False) W w1) : Two w ba bb a b w1 := ⟨h.1.trans hs, h.2.1.keep hs, h.2.2.keep hs⟩

theorem order30 (a b : Tm) (w : World) : Calls Try.prog 30 #[.agg #[.int .i64 a.en, .int .i64 a.nr, .int .i64 a.du], .agg #[.int .i64 b.en, .int .i64 b.nr, .int .i64 b.du]] w (Gives (.int .i64 (cT a b)) w) := by
  obtain ⟨ba, hba⟩ : ∃ b, b = w.heap.size := ⟨_, rfl⟩
  obtain ⟨bb, hbb⟩ : ∃ b, b = ba + 1 := ⟨_, rfl⟩
  obtain ⟨W0, hW0⟩ : ∃ W, W = (w.alloc (.cells #[.int .i64 a.en, .int .i64 a.nr, .int .i64 a.du] 35)).alloc (.cells #[.int .i64 b.en, .int .i64 b.nr, .int .i64 b.du] 35) := ⟨_, rfl⟩
  have HT : Hid (Two w ba bb a b W0) := by
    rw [hW0]
    exact ⟨((Stay.refl _ _).alloc _).alloc _, (TBox.new a hba.symm).alloc _, TBox.new b (by rw [hbb, hba]; simp)⟩
  obtain ⟨x, hx⟩ : ∃ x, x = cI a.du b.du := ⟨_, rfl⟩
  obtain ⟨y, hy⟩ : ∃ x, x = cI a.en b.en := ⟨_, rfl⟩
  obtain ⟨z, hz⟩ : ∃ x, x = cI a.nr b.nr := ⟨_, rfl⟩
  have HX := hide' (compare32 a.du b.du)
  have HY := hide' (compare32 a.en b.en)
  have HZ := hide' (compare32 a.nr b.nr)
  unfold cT
  rw [← hx] at HX
  rw [← hy] at HY
  rw [← hz] at HZ
  rw [← hx, ← hy, ← hz]
  clear hx hy hz
  go_enter Try.func30, Try.ntmps30
  go_upto_region 1 with fail
  rw [← hW0, ← hba]
  rw [← hbb]
  clear hW0 hba hbb
  have hS : (Two w ba bb a b) W0.drew := HT.out.keep (Stay.refl _ _).drew
  refine wp_region_mix (Two w ba bb a b) [(0, true), (1, true), (2, true), (3, true), (5, true), (6, true), (7, true), (8, true), (10, true), (11, true), (12, true), (13, true), (4, false), (9, false), (14, false), (15, false), (16, false), (17, true)] (by kernel_rfl) (by kernel_rfl) (fun _ d _ _ _ h => by cases d <;> exact h) hS ?_
  refine mix_begin (fun K0 hK0 => ?_)
  refine mix_take hK0 (some 5) (.fieldAddr 35 (.tmp 2) 2) 0 _ (by kernel_rfl) (by kernel_rfl) (fun w' hS' => by (obtain ⟨_, s1, s2⟩ := hS'; obtain ⟨a0, a1, a2, _, _, _⟩ := s1; obtain ⟨b0, b1, b2, _, _, _⟩ := s2; simp only [opr]; go_simp; try with_reducible rfl)) (fun K1 hK1 => ?_)
  clear hK0 K0
  simp only [Act.put, List.setIfInBounds_toArray, List.set_cons_zero, List.set_cons_succ]
  refine mix_take hK1 (some 6) (.load 3 (.tmp 5)) 3 _ (by kernel_rfl) (by kernel_rfl) (fun w' hS' => by (obtain ⟨_, s1, s2⟩ := hS'; obtain ⟨a0, a1, a2, _, _, _⟩ := s1; obtain ⟨b0, b1, b2, _, _, _⟩ := s2; simp only [opr]; go_simp; try with_reducible rfl)) (fun K2 hK2 => ?_)
  clear hK1 K1
  simp only [Act.put, List.setIfInBounds_toArray, List.set_cons_zero, List.set_cons_succ]
  refine mix_take hK2 (some 7) (.fieldAddr 35 (.tmp 3) 2) 0 _ (by kernel_rfl) (by kernel_rfl) (fun w' hS' => by (obtain ⟨_, s1, s2⟩ := hS'; obtain ⟨a0, a1, a2, _, _, _⟩ := s1; obtain ⟨b0, b1, b2, _, _, _⟩ := s2; simp only [opr]; go_simp; try with_reducible rfl)) (fun K3 hK3 => ?_)
  clear hK2 K2
  simp only [Act.put, List.setIfInBounds_toArray, List.set_cons_zero, List.set_cons_succ]
  refine mix_take hK3 (some 8) (.load 3 (.tmp 7)) 3 _ (by kernel_rfl) (by kernel_rfl) (fun w' hS' => by (obtain ⟨_, s1, s2⟩ := hS'; obtain ⟨a0, a1, a2, _, _, _⟩ := s1; obtain ⟨b0, b1, b2, _, _, _⟩ := s2; simp only [opr]; go_simp; try with_reducible rfl)) (fun K4 hK4 => ?_)
  clear hK3 K3
  simp only [Act.put, List.setIfInBounds_toArray, List.set_cons_zero, List.set_cons_succ]
  refine mix_take hK4 (some 10) (.fieldAddr 35 (.tmp 2) 0) 0 _ (by kernel_rfl) (by kernel_rfl) (fun w' hS' => by (obtain ⟨_, s1, s2⟩ := hS'; obtain ⟨a0, a1, a2, _, _, _⟩ := s1; obtain ⟨b0, b1, b2, _, _, _⟩ := s2; simp only [opr]; go_simp; try with_reducible rfl)) (fun K5 hK5 => ?_)
  clear hK4 K4
  simp only [Act.put, List.setIfInBounds_toArray, List.set_cons_zero, List.set_cons_succ]
  refine mix_take hK5 (some 11) (.load 3 (.tmp 10)) 3 _ (by kernel_rfl) (by kernel_rfl) (fun w' hS' => by (obtain ⟨_, s1, s2⟩ := hS'; obtain ⟨a0, a1, a2, _, _, _⟩ := s1; obtain ⟨b0, b1, b2, _, _, _⟩ := s2; simp only [opr]; go_simp; try with_reducible rfl)) (fun K6 hK6 => ?_)
  clear hK5 K5
  simp only [Act.put, List.setIfInBounds_toArray, List.set_cons_zero, List.set_cons_succ]
  refine mix_take hK6 (some 12) (.fieldAddr 35 (.tmp 3) 0) 0 _ (by kernel_rfl) (by kernel_rfl) (fun w' hS' => by (obtain ⟨_, s1, s2⟩ := hS'; obtain ⟨a0, a1, a2, _, _, _⟩ := s1; obtain ⟨b0, b1, b2, _, _, _⟩ := s2; simp only [opr]; go_simp; try with_reducible rfl)) (fun K7 hK7 => ?_)
  clear hK6 K6
  simp only [Act.put, List.setIfInBounds_toArray, List.set_cons_zero, List.set_cons_succ]
  refine mix_take hK7 (some 13) (.load 3 (.tmp 12)) 3 _ (by kernel_rfl) (by kernel_rfl) (fun w' hS' => by (obtain ⟨_, s1, s2⟩ := hS'; obtain ⟨a0, a1, a2, _, _, _⟩ := s1; obtain ⟨b0, b1, b2, _, _, _⟩ := s2; simp only [opr]; go_simp; try with_reducible rfl)) (fun K8 hK8 => ?_)
  clear hK7 K7
  simp only [Act.put, List.setIfInBounds_toArray, List.set_cons_zero, List.set_cons_succ]
  refine mix_take hK8 (some 15) (.fieldAddr 35 (.tmp 2) 1) 0 _ (by kernel_rfl) (by kernel_rfl) (fun w' hS' => by (obtain ⟨_, s1, s2⟩ := hS'; obtain ⟨a0, a1, a2, _, _, _⟩ := s1; obtain ⟨b0, b1, b2, _, _, _⟩ := s2; simp only [opr]; go_simp; try with_reducible rfl)) (fun K9 hK9 => ?_)
  clear hK8 K8
  simp only [Act.put, List.setIfInBounds_toArray, List.set_cons_zero, List.set_cons_succ]
  refine mix_take hK9 (some 16) (.load 3 (.tmp 15)) 3 _ (by kernel_rfl) (by kernel_rfl) (fun w' hS' => by (obtain ⟨_, s1, s2⟩ := hS'; obtain ⟨a0, a1, a2, _, _, _⟩ := s1; obtain ⟨b0, b1, b2, _, _, _⟩ := s2; simp only [opr]; go_simp; try with_reducible rfl)) (fun K10 hK10 => ?_)
  clear hK9 K9
  simp only [Act.put, List.setIfInBounds_toArray, List.set_cons_zero, List.set_cons_succ]
  refine mix_take hK10 (some 17) (.fieldAddr 35 (.tmp 3) 1) 0 _ (by kernel_rfl) (by kernel_rfl) (fun w' hS' => by (obtain ⟨_, s1, s2⟩ := hS'; obtain ⟨a0, a1, a2, _, _, _⟩ := s1; obtain ⟨b0, b1, b2, _, _, _⟩ := s2; simp only [opr]; go_simp; try with_reducible rfl)) (fun K11 hK11 => ?_)
  clear hK10 K10
  simp only [Act.put, List.setIfInBounds_toArray, List.set_cons_zero, List.set_cons_succ]
  refine mix_take hK11 (some 18) (.load 3 (.tmp 17)) 3 _ (by kernel_rfl) (by kernel_rfl) (fun w' hS' => by (obtain ⟨_, s1, s2⟩ := hS'; obtain ⟨a0, a1, a2, _, _, _⟩ := s1; obtain ⟨b0, b1, b2, _, _, _⟩ := s2; simp only [opr]; go_simp; try with_reducible rfl)) (fun K12 hK12 => ?_)
  clear hK11 K11
  simp only [Act.put, List.setIfInBounds_toArray, List.set_cons_zero, List.set_cons_succ]
  refine mix_call hK12 (some 9) 32 #[.tmp 6, .tmp 8] #[3, 3] 3 _ (by kernel_rfl) (by kernel_rfl) (enters Try.func32 (by kernel_rfl) (by kernel_rfl)) (by go_simp; try with_reducible rfl) (fun K13 hK13 => ?_)
  clear hK12 K12
  refine (HX.out _).mono ?_
  rintro e wm1 ⟨rfl, hs1⟩
  have hS1 : _ := hS.keep hs1
  refine ⟨_, rfl, hS1, ?_⟩
  clear hs1
  simp only [Act.put, List.setIfInBounds_toArray, List.set_cons_zero, List.set_cons_succ]
  refine mix_call hK13 (some 14) 32 #[.tmp 11, .tmp 13] #[3, 3] 3 _ (by kernel_rfl) (by kernel_rfl) (enters Try.func32 (by kernel_rfl) (by kernel_rfl)) (by go_simp; try with_reducible rfl) (fun K14 hK14 => ?_)
  clear hK13 K13
  refine (HY.out _).mono ?_
  rintro e wm2 ⟨rfl, hs2⟩
  have hS2 : _ := hS1.keep hs2
  refine ⟨_, rfl, hS2, ?_⟩
  clear hs2
  simp only [Act.put, List.setIfInBounds_toArray, List.set_cons_zero, List.set_cons_succ]
  refine mix_call hK14 (some 19) 32 #[.tmp 16, .tmp 18] #[3, 3] 3 _ (by kernel_rfl) (by kernel_rfl) (enters Try.func32 (by kernel_rfl) (by kernel_rfl)) (by go_simp; try with_reducible rfl) (fun K15 hK15 => ?_)
  clear hK14 K14
  refine (HZ.out _).mono ?_
  rintro e wm3 ⟨rfl, hs3⟩
  have hS3 : _ := hS2.keep hs3
  refine ⟨_, rfl, hS3, ?_⟩
  clear hs3
  simp only [Act.put, List.setIfInBounds_toArray, List.set_cons_zero, List.set_cons_succ]
  refine mix_chain hK15 (fun K15c hK15c => ?_)
  clear hK15 K15
  refine op_plain (some 20) (.buildSlice 64 3 #[(0, .tmp 9), (1, .tmp 14), (2, .tmp 19)]) 64 (by kernel_rfl) (by kernel_rfl) ?_
  go_wp2
  obtain ⟨w4, hw4⟩ : ∃ W, W = wm3.alloc (.cells #[.int .i64 x, .int .i64 y, .int .i64 z] 3) := ⟨_, rfl⟩
  have hs4 : Stay (fun _ => False) wm3 w4 := by rw [hw4]; exact (Stay.refl _ _).alloc _
  have c0 : w4.cell? ⟨wm3.heap.size, 0, none⟩ = some (.int .i64 x) := by rw [hw4]; simp
  have c1 : w4.cell? ⟨wm3.heap.size, 1, none⟩ = some (.int .i64 y) := by rw [hw4]; simp
  have c2 : w4.cell? ⟨wm3.heap.size, 2, none⟩ = some (.int .i64 z) := by rw [hw4]; simp
  have HOR := hide' (or31 wm3.heap.size x y z w4 c0 c1 c2)
  rw [← hw4]
  clear hw4 c0 c1 c2
  have hSb : (Two w ba bb a b) w4 := hS3.keep hs4
  refine hK15c _ _ hSb (mix_begin fun K16 hK16 => ?_)
  clear hK15c K15c
  try simp only [Act.put, List.setIfInBounds_toArray, List.set_cons_zero, List.set_cons_succ]
  refine mix_call hK16 (some 21) 31 #[.tmp 20] #[64] 3 _ (by kernel_rfl) (by kernel_rfl) (enters Try.func31 (by kernel_rfl) (by kernel_rfl)) (by go_simp; try with_reducible rfl) (fun K17 hK17 => ?_)
  clear hK16 K16
  refine (HOR.out).mono ?_
  rintro e wm4 ⟨rfl, hs4⟩
  have hS4 : _ := hSb.keep hs4
  refine ⟨_, rfl, hS4, ?_⟩
  clear hs4
  simp only [Act.put, List.setIfInBounds_toArray, List.set_cons_zero, List.set_cons_succ]
  refine mix_take hK17 (some 4) (.assign (.tmp 21)) 3 _ (by kernel_rfl) (by kernel_rfl) (fun w' hS' => by (obtain ⟨_, s1, s2⟩ := hS'; obtain ⟨a0, a1, a2, _, _, _⟩ := s1; obtain ⟨b0, b1, b2, _, _, _⟩ := s2; simp only [opr]; go_simp; try with_reducible rfl)) (fun K18 hK18 => ?_)
  clear hK17 K17
  simp only [Act.put, List.setIfInBounds_toArray, List.set_cons_zero, List.set_cons_succ]
  refine hK18 _ _ (mix_nil ?_)
  clear hK18 K18
  go_wp2
  go_ret
  exact ⟨rfl, hS4.1⟩

theorem ahead22 (a b : Tm) (w : World) : Calls Try.prog 22 #[.agg #[.int .i64 a.en, .int .i64 a.nr, .int .i64 a.du], .agg #[.int .i64 b.en, .int .i64 b.nr, .int .i64 b.du]] w (Gives (.bool (ahB a b)) w) := by
  obtain ⟨ba, hba⟩ : ∃ b, b = w.heap.size := ⟨_, rfl⟩
  obtain ⟨bb, hbb⟩ : ∃ b, b = ba + 1 := ⟨_, rfl⟩
  obtain ⟨W0, hW0⟩ : ∃ W, W = (w.alloc (.cells #[.int .i64 a.en, .int .i64 a.nr, .int .i64 a.du] 35)).alloc (.cells #[.int .i64 b.en, .int .i64 b.nr, .int .i64 b.du] 35) := ⟨_, rfl⟩
  have HT : Hid (Two w ba bb a b W0) := by
    rw [hW0]
    exact ⟨((Stay.refl _ _).alloc _).alloc _, (TBox.new a hba.symm).alloc _, TBox.new b (by rw [hbb, hba]; simp)⟩
  obtain ⟨_, s1, s2⟩ := HT.out
  obtain ⟨a0, a1, a2, _, _, _⟩ := s1
  obtain ⟨b0, b1, b2, _, _, _⟩ := s2
  unfold ahB
  go_enter Try.func22, Try.ntmps22
  go_upto_region 1 with fail
  rw [← hW0, ← hba]
  rw [← hbb]
  clear hW0 hba hbb
  by_cases h0 : a.du = b.du
  · by_cases h1 : a.en = b.en
    · rw [if_pos h0, if_pos h1]
      have d0 : (a.du != b.du) = false := by rw [h0]; simp
      have d1 : (a.en != b.en) = false := by rw [h1]; simp
      go_wp2
      go_ret
      exact ⟨rfl, HT.out.1⟩
    · rw [if_pos h0, if_neg h1]
      have d0 : (a.du != b.du) = false := by rw [h0]; simp
      have d1 : (a.en != b.en) = true := bne_iff_ne.2 h1
      go_wp2
      go_ret
      exact ⟨rfl, HT.out.1⟩
  · rw [if_neg h0]
    have d0 : (a.du != b.du) = true := bne_iff_ne.2 h0
    go_wp2
    go_ret
    exact ⟨rfl, HT.out.1⟩

/-- A closure that asks of timers what a test tells. -/
theorem is28 (t : Tm) (bx bz : Nat) (e k : Int) (w : World) (h0 : w.cell? ⟨bx, 0, none⟩ = some (.int .i64 e)) (h1 : w.cell? ⟨bz, 0, none⟩ = some (.int .i64 k)) : Calls Try.prog 28 #[.agg #[.int .i64 t.en, .int .i64 t.nr, .int .i64 t.du], .pointer (some ⟨bx, 0, none⟩), .pointer (some ⟨bz, 0, none⟩)] w (Gives (.bool (isB e k t)) w) := by
  obtain ⟨bt, hbt⟩ : ∃ b, b = w.heap.size := ⟨_, rfl⟩
  obtain ⟨W0, hW0⟩ : ∃ W, W = w.alloc (.cells #[.int .i64 t.en, .int .i64 t.nr, .int .i64 t.du] 35) := ⟨_, rfl⟩
  have hs : Stay (fun _ => False) w W0 := by rw [hW0]; exact (Stay.refl _ _).alloc _
  have hb : TBox W0 bt t := by rw [hW0]; exact TBox.new t hbt.symm
  have k0 := keep_cell hs h0
  have k1 := keep_cell hs h1
  have HS := hide' hs
  obtain ⟨c0, c1, c2, _, _, _⟩ := hb
  unfold isB
  clear hs h0 h1
  go_enter Try.func28, Try.ntmps28
  go_upto_region 1 with fail
  rw [← hW0, ← hbt]
  clear hW0 hbt
  by_cases he : t.en = e
  · have d0 : (t.en == e) = true := beq_iff_eq.2 he
    rw [d0]
    go_wp2
    go_ret
    exact ⟨by simp [he], HS.out⟩
  · have d0 : (t.en == e) = false := beq_eq_false_iff_ne.2 he
    rw [d0]
    go_wp2
    go_ret
    exact ⟨by simp [he], HS.out⟩

theorem kill26 (t : Tm) (bx : Nat) (e : Int) (w : World) (h0 : w.cell? ⟨bx, 0, none⟩ = some (.int .i64 e)) : Calls Try.prog 26 #[.agg #[.int .i64 t.en, .int .i64 t.nr, .int .i64 t.du], .pointer (some ⟨bx, 0, none⟩)] w (Gives (.bool (ofB e t)) w) := by
  obtain ⟨bt, hbt⟩ : ∃ b, b = w.heap.size := ⟨_, rfl⟩
  obtain ⟨W0, hW0⟩ : ∃ W, W = w.alloc (.cells #[.int .i64 t.en, .int .i64 t.nr, .int .i64 t.du] 35) := ⟨_, rfl⟩
  have hs : Stay (fun _ => False) w W0 := by rw [hW0]; exact (Stay.refl _ _).alloc _
  have hb : TBox W0 bt t := by rw [hW0]; exact TBox.new t hbt.symm
  have k0 := keep_cell hs h0
  have HS := hide' hs
  obtain ⟨c0, c1, c2, _, _, _⟩ := hb
  unfold ofB
  clear hs h0
  go_enter Try.func26, Try.ntmps26
  go_upto_region 1 with fail
  rw [← hW0, ← hbt]
  clear hW0 hbt
  go_wp2
  go_ret
  exact ⟨rfl, HS.out⟩

/-- What a closure over two boxes is. -/
def IsFn (e k : Int) (v : Value) (w : World) : Prop := ∃ bx bz : Nat, v = .func (.func 28) #[] #[.pointer (some ⟨bx, 0, none⟩), .pointer (some ⟨bz, 0, none⟩)] ∧ w.cell? ⟨bx, 0, none⟩ = some (.int .i64 e) ∧ w.cell? ⟨bz, 0, none⟩ = some (.int .i64 k)

theorem makes20 (e k : Int) (w : World) : Calls Try.prog 20 #[.int .i64 e, .int .i64 k] w (fun E w' => ∃ bx bz : Nat, E = .returned (.func (.func 28) #[] #[.pointer (some ⟨bx, 0, none⟩), .pointer (some ⟨bz, 0, none⟩)]) ∧ Stay (fun _ => False) w w' ∧ w'.cell? ⟨bx, 0, none⟩ = some (.int .i64 e) ∧ w'.cell? ⟨bz, 0, none⟩ = some (.int .i64 k) ∧ w.heap.size ≤ bx ∧ w.heap.size ≤ bz) := by
  obtain ⟨bx, hbx⟩ : ∃ b, b = w.heap.size := ⟨_, rfl⟩
  obtain ⟨bz, hby⟩ : ∃ b, b = bx + 1 := ⟨_, rfl⟩
  obtain ⟨W0, hW0⟩ : ∃ W, W = (w.alloc (.cells #[.int .i64 e] 3)).alloc (.cells #[.int .i64 k] 3) := ⟨_, rfl⟩
  have HF : Hid (Stay (fun _ => False) w W0 ∧ W0.cell? ⟨bx, 0, none⟩ = some (.int .i64 e) ∧ W0.cell? ⟨bz, 0, none⟩ = some (.int .i64 k) ∧ w.heap.size ≤ bx ∧ w.heap.size ≤ bz) := by
    have h1 : (w.alloc (.cells #[.int .i64 e] 3)).cell? ⟨bx, 0, none⟩ = some (.int .i64 e) := by rw [hbx]; simp
    refine ⟨by rw [hW0]; exact ((Stay.refl _ _).alloc _).alloc _, by rw [hW0]; exact keep_cell ((Stay.refl _ _).alloc _) h1, by rw [hW0, hby, hbx]; simp, by omega, by omega⟩
  go_enter Try.func20, Try.ntmps20
  go_upto_region 1 with fail
  rw [← hW0, ← hbx]
  rw [← hby]
  clear hW0 hbx hby
  go_wp2
  go_ret
  exact ⟨bx, bz, rfl, HF.out⟩

end Go.Proofs.Ytihciknbmhadjaa
