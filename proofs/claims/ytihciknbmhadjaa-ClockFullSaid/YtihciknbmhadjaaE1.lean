/-
  A timer is put among others: walked. No conditions.
-/
import Derived.Test.YtihciknbmhadjaaE0
namespace Go.Proofs.Ytihciknbmhadjaa
open Go.RowKit

/-- What a clock is behind a call that turned its timers. -/
def TurnC (q : Cq) (now : Int) (L : List Tm) (x : Value) (w : World) (e : Ending) (w' : World) : Prop := ∃ v, e = .returned x ∧ CAt w' ⟨q.b, v⟩ now L ∧ Moved q ⟨q.b, v⟩ w w'

theorem extract0 (x y : Value) (w : World) : (Instr.extract (.tuple #[x, y]) 0).run Try.prog w = .ok x w := rfl

theorem extract1 (x y : Value) (w : World) : (Instr.extract (.tuple #[x, y]) 1).run Try.prog w = .ok y w := rfl

attribute [local go_sem] extract0 extract1

set_option maxHeartbeats 4000000 in
theorem put21 (q : Cq) (now : Int) (L : List Tm) (t : Tm) (w : World) (h : CAt w q now L) (hl : L.length < 1024) (hn : ∀ a ∈ L, a ≠ t) : Calls Try.prog 21 #[.pointer (some ⟨q.b, 0, none⟩), .agg #[.int .i64 t.en, .int .i64 t.nr, .int .i64 t.du]] w (TurnC q now (insT t L) (.tuple #[]) w) := by
  obtain ⟨b, v⟩ := q
  obtain ⟨a, cap, hv, hw, h0⟩ := h.row
  simp only at hv
  subst hv
  obtain ⟨bt, hbt⟩ : ∃ b, b = w.heap.size := ⟨_, rfl⟩
  obtain ⟨W0, hW0⟩ : ∃ W, W = w.alloc (.cells #[.int .i64 t.en, .int .i64 t.nr, .int .i64 t.du] 35) := ⟨_, rfl⟩
  have hs0 : Stay (fun _ => False) w W0 := by rw [hW0]; exact (Stay.refl _ _).alloc _
  have hb0 : TBox W0 bt t := by rw [hW0]; exact TBox.new t hbt.symm
  obtain ⟨n, hnn⟩ : ∃ n, n = L.length := ⟨_, rfl⟩
  have hq0 : CAt W0 ⟨b, .slice a n cap⟩ now L := by rw [hnn]; exact h.keep hs0
  have HSE : Hid (∀ w', Stay (fun _ => False) W0 w' → Calls Try.prog 29 #[.slice a n cap, .agg #[.int .i64 t.en, .int .i64 t.nr, .int .i64 t.du], .func (.func 30) #[] #[]] w' (FoundT t L w')) := fun w' hs => search29 a n cap L t w' ((hw.rd.keep hs0).keep hs) hnn.symm (by omega) h.srt
  have HQ0 := hide' hq0
  have HS0 := hide' hs0
  have HBF : Hid (¬ bt = b ∧ ¬ (Value.slice a n cap).ownBlock = some bt) := by
    have h1 := h.lt
    refine ⟨fun e => ?_, fun e => ?_⟩
    · have := h1 b (.inl rfl); omega
    · rw [hnn] at e
      have := h1 bt (.inr e); omega
  have HLT : Hid (L.length + 1 ≤ 1024) := hl
  have HLM : Hid (L.length ≤ 2048) := by show L.length ≤ 2048; omega
  have HNE := hide' hn
  have HNN := hide' hnn
  have hS0 : (fun w' => KBox w' b ⟨now, .slice a n cap⟩ ∧ TBox w' bt t ∧ Stay (fun _ => False) W0 w') W0.drew := ⟨hq0.box.keep (Stay.refl _ _).drew, hb0.keep (Stay.refl _ _).drew, (Stay.refl _ _).drew⟩
  have HB0 := hide' hb0
  rw [← hnn]
  clear h hw h0 hl hn hs0 hq0 hb0 hnn
  go_enter Try.func21, Try.ntmps21
  go_upto_region 1 with fail
  rw [← hW0, ← hbt]
  clear hW0 hbt
  have hS : (fun w' => KBox w' b ⟨now, .slice a n cap⟩ ∧ TBox w' bt t ∧ Stay (fun _ => False) W0 w') W0.drew := hS0
  clear hS0
  refine wp_region_mix (fun w' => KBox w' b ⟨now, .slice a n cap⟩ ∧ TBox w' bt t ∧ Stay (fun _ => False) W0 w') [(0, true), (1, true), (2, true), (3, true), (4, true), (5, false), (6, true), (7, true), (8, true), (9, true), (10, true)] (by kernel_rfl) (by kernel_rfl) (fun _ d _ _ _ h => by cases d <;> exact h) hS ?_
  refine mix_begin (fun K0 hK0 => ?_)
  refine mix_take hK0 (some 7) (.move (.tmp 0)) 24 _ (by kernel_rfl) (by kernel_rfl) (fun w' hS' => by (obtain ⟨s1, s2, _⟩ := hS'; obtain ⟨g0, g1, _, _⟩ := s1; obtain ⟨b0, b1, b2, _, _, _⟩ := s2; simp only at g0 g1; simp only [opr]; go_simp; try with_reducible rfl)) (fun K1 hK1 => ?_)
  clear hK0 K0
  simp only [Act.put, List.setIfInBounds_toArray, List.set_cons_zero, List.set_cons_succ]
  refine mix_take hK1 (some 8) (.nilCheck (.tmp 7)) 0 _ (by kernel_rfl) (by kernel_rfl) (fun w' hS' => by (obtain ⟨s1, s2, _⟩ := hS'; obtain ⟨g0, g1, _, _⟩ := s1; obtain ⟨b0, b1, b2, _, _, _⟩ := s2; simp only at g0 g1; simp only [opr]; go_simp; try with_reducible rfl)) (fun K2 hK2 => ?_)
  clear hK1 K1
  simp only [Act.put, List.setIfInBounds_toArray, List.set_cons_zero, List.set_cons_succ]
  refine mix_take hK2 (some 9) (.fieldAddr 47 (.tmp 8) 1) 0 _ (by kernel_rfl) (by kernel_rfl) (fun w' hS' => by (obtain ⟨s1, s2, _⟩ := hS'; obtain ⟨g0, g1, _, _⟩ := s1; obtain ⟨b0, b1, b2, _, _, _⟩ := s2; simp only at g0 g1; simp only [opr]; go_simp; try with_reducible rfl)) (fun K3 hK3 => ?_)
  clear hK2 K2
  simp only [Act.put, List.setIfInBounds_toArray, List.set_cons_zero, List.set_cons_succ]
  refine mix_take hK3 (some 10) (.load 26 (.tmp 9)) 26 _ (by kernel_rfl) (by kernel_rfl) (fun w' hS' => by (obtain ⟨s1, s2, _⟩ := hS'; obtain ⟨g0, g1, _, _⟩ := s1; obtain ⟨b0, b1, b2, _, _, _⟩ := s2; simp only at g0 g1; simp only [opr]; go_simp; try with_reducible rfl)) (fun K4 hK4 => ?_)
  clear hK3 K3
  simp only [Act.put, List.setIfInBounds_toArray, List.set_cons_zero, List.set_cons_succ]
  refine mix_take hK4 (some 11) (.load 35 (.tmp 3)) 35 _ (by kernel_rfl) (by kernel_rfl) (fun w' hS' => by exact run_load_TBox rfl rfl hS'.2.1) (fun K5 hK5 => ?_)
  clear hK4 K4
  simp only [Act.put, List.setIfInBounds_toArray, List.set_cons_zero, List.set_cons_succ]
  refine mix_call hK5 (some 12) 29 #[.tmp 10, .tmp 11, .func 30] #[26, 35, 60] 56 _ (by kernel_rfl) (by kernel_rfl) (enters Try.func29 (by kernel_rfl) (by kernel_rfl)) (by go_simp; try with_reducible rfl) (fun K6 hK6 => ?_)
  clear hK5 K5
  refine (HSE.out _ hS.2.2).mono ?_
  rintro e wm1 ⟨i, fb, rfl, hile, hspl, hs1⟩
  have hS1 : _ := (show (fun w' => KBox w' b ⟨now, .slice a n cap⟩ ∧ TBox w' bt t ∧ Stay (fun _ => False) W0 w') wm1 from ⟨hS.1.keep hs1, hS.2.1.keep hs1, hS.2.2.trans hs1⟩)
  refine ⟨_, rfl, hS1, ?_⟩
  have HIL := hide' hile
  have HSP := hide' hspl
  clear hile hspl
  clear hs1
  simp only [Act.put, List.setIfInBounds_toArray, List.set_cons_zero, List.set_cons_succ]
  refine mix_take hK6 (some 6) (.move (.tmp 12)) 56 _ (by kernel_rfl) (by kernel_rfl) (fun w' hS' => by (obtain ⟨s1, s2, _⟩ := hS'; obtain ⟨g0, g1, _, _⟩ := s1; obtain ⟨b0, b1, b2, _, _, _⟩ := s2; simp only at g0 g1; simp only [opr]; go_simp; try with_reducible rfl)) (fun K7 hK7 => ?_)
  clear hK6 K6
  simp only [Act.put, List.setIfInBounds_toArray, List.set_cons_zero, List.set_cons_succ]
  refine mix_take hK7 (some 13) (.extract (.tmp 6) 0) 3 _ (by kernel_rfl) (by kernel_rfl) (fun w' hS' => by (obtain ⟨s1, s2, _⟩ := hS'; obtain ⟨g0, g1, _, _⟩ := s1; obtain ⟨b0, b1, b2, _, _, _⟩ := s2; simp only at g0 g1; simp only [opr]; go_simp; try with_reducible rfl)) (fun K8 hK8 => ?_)
  clear hK7 K7
  simp only [Act.put, List.setIfInBounds_toArray, List.set_cons_zero, List.set_cons_succ]
  refine mix_take hK8 (some 14) (.extract (.tmp 6) 1) 4 _ (by kernel_rfl) (by kernel_rfl) (fun w' hS' => by (obtain ⟨s1, s2, _⟩ := hS'; obtain ⟨g0, g1, _, _⟩ := s1; obtain ⟨b0, b1, b2, _, _, _⟩ := s2; simp only at g0 g1; simp only [opr]; go_simp; try with_reducible rfl)) (fun K9 hK9 => ?_)
  clear hK8 K8
  simp only [Act.put, List.setIfInBounds_toArray, List.set_cons_zero, List.set_cons_succ]
  refine mix_take hK9 (some 4) (.assign (.tmp 13)) 3 _ (by kernel_rfl) (by kernel_rfl) (fun w' hS' => by (obtain ⟨s1, s2, _⟩ := hS'; obtain ⟨g0, g1, _, _⟩ := s1; obtain ⟨b0, b1, b2, _, _, _⟩ := s2; simp only at g0 g1; simp only [opr]; go_simp; try with_reducible rfl)) (fun K10 hK10 => ?_)
  clear hK9 K9
  simp only [Act.put, List.setIfInBounds_toArray, List.set_cons_zero, List.set_cons_succ]
  refine mix_take hK10 (some 5) (.assign (.tmp 14)) 4 _ (by kernel_rfl) (by kernel_rfl) (fun w' hS' => by (obtain ⟨s1, s2, _⟩ := hS'; obtain ⟨g0, g1, _, _⟩ := s1; obtain ⟨b0, b1, b2, _, _, _⟩ := s2; simp only at g0 g1; simp only [opr]; go_simp; try with_reducible rfl)) (fun K11 hK11 => ?_)
  clear hK10 K10
  simp only [Act.put, List.setIfInBounds_toArray, List.set_cons_zero, List.set_cons_succ]
  refine hK11 _ _ (mix_nil ?_)
  clear hK11 K11
  have HQ1 := hide' (HQ0.out.keep hS1.2.2)
  have HB1 := hide' hS1.2.1
  have HS1 := hide' (HS0.out.trans hS1.2.2)
  clear hS hS1 HQ0 HS0 HSE HB0
  go_upto_region 2 with fail
  refine any_begin (fun w' => TBox w' bt t) (by kernel_rfl) (fun K0 hK0 => ?_)
  obtain ⟨W2, hW2⟩ : ∃ W, W = wm1.drew := ⟨_, rfl⟩
  have hst : Stay (fun _ => False) wm1 W2 := by rw [hW2]; exact (Stay.refl _ _).drew
  have HFA := hide' (HQ1.out.keep hst)
  have HBC := hide' (HB1.out.keep hst)
  have HST := hide' (HS1.out.trans hst)
  rw [← hW2]
  clear hW2 hst HQ1 HB1 HS1
  obtain ⟨M, hM⟩ : ∃ M, M = L.take i ++ t :: L.drop i := ⟨_, rfl⟩
  have HM := hide' hM
  clear hM
  refine any_take (i := 0) hK0 (some 15) (.move (.tmp 0)) 24 _ (by kernel_rfl) (fun _ d _ _ _ h => by cases d <;> exact h) (by kernel_rfl) (by kernel_rfl) (fun w' hS' => by simp only [opr]; go_simp; try with_reducible rfl) HBC.out (fun K1 hK1 => ?_)
  clear hK0 K0
  try simp only [Act.put, List.setIfInBounds_toArray, List.set_cons_zero, List.set_cons_succ]
  refine any_take (i := 1) hK1 (some 16) (.move (.tmp 0)) 24 _ (by kernel_rfl) (fun _ d _ _ _ h => by cases d <;> exact h) (by kernel_rfl) (by kernel_rfl) (fun w' hS' => by simp only [opr]; go_simp; try with_reducible rfl) HBC.out (fun K2 hK2 => ?_)
  clear hK1 K1
  try simp only [Act.put, List.setIfInBounds_toArray, List.set_cons_zero, List.set_cons_succ]
  refine any_take (i := 2) hK2 (some 17) (.nilCheck (.tmp 16)) 0 _ (by kernel_rfl) (fun _ d _ _ _ h => by cases d <;> exact h) (by kernel_rfl) (by kernel_rfl) (fun w' hS' => by simp only [opr]; go_simp; try with_reducible rfl) HBC.out (fun K3 hK3 => ?_)
  clear hK2 K2
  try simp only [Act.put, List.setIfInBounds_toArray, List.set_cons_zero, List.set_cons_succ]
  refine any_take (i := 3) hK3 (some 18) (.fieldAddr 47 (.tmp 17) 1) 0 _ (by kernel_rfl) (fun _ d _ _ _ h => by cases d <;> exact h) (by kernel_rfl) (by kernel_rfl) (fun w' hS' => by simp only [opr]; go_simp; try with_reducible rfl) HBC.out (fun K4 hK4 => ?_)
  clear hK3 K3
  try simp only [Act.put, List.setIfInBounds_toArray, List.set_cons_zero, List.set_cons_succ]
  refine any_take (i := 5) hK4 (some 20) (.move (.tmp 4)) 3 _ (by kernel_rfl) (fun _ d _ _ _ h => by cases d <;> exact h) (by kernel_rfl) (by kernel_rfl) (fun w' hS' => by simp only [opr]; go_simp; try with_reducible rfl) HBC.out (fun K5 hK5 => ?_)
  clear hK4 K4
  try simp only [Act.put, List.setIfInBounds_toArray, List.set_cons_zero, List.set_cons_succ]
  refine any_take (i := 6) hK5 (some 21) (.load 35 (.tmp 3)) 35 _ (by kernel_rfl) (fun _ d _ _ _ h => by cases d <;> exact h) (by kernel_rfl) (by kernel_rfl) (fun w' hS' => by exact run_load_TBox rfl rfl hS') HBC.out (fun K6 hK6 => ?_)
  clear hK5 K5
  try simp only [Act.put, List.setIfInBounds_toArray, List.set_cons_zero, List.set_cons_succ]
  refine any_pick (rs := [4, 7]) hK6 (by kernel_rfl) (fun K7 hK7 => ?_)
  clear hK6 K6
  intro i hi
  simp only [List.mem_cons, List.not_mem_nil, or_false] at hi
  rcases hi with rfl | rfl
  · refine op_plain (some 19) (.load 26 (.tmp 18)) 26 (by kernel_rfl) (by kernel_rfl) ?_
    obtain ⟨g0, g1, k0, k1⟩ := HFA.out.box
    simp only at g0 g1
    go_wp2
    clear g0 g1 k0 k1
    refine hK7 4 (by simp) _ _ HBC.out (any_more fun K8 hK8 => ?_)
    clear hK7 K7
    refine any_pick (rs := [7]) hK8 (by kernel_rfl) (fun K9 hK9 => ?_)
    clear hK8 K8
    intro i hi
    simp only [List.mem_cons, List.not_mem_nil, or_false] at hi
    rcases hi with rfl
    refine op_plain (some 22) (.buildSlice 26 1 #[(0, .tmp 21)]) 26 (by kernel_rfl) (by kernel_rfl) ?_
    obtain ⟨vk2, hV⟩ : ∃ B, B = W2.heap.size := ⟨_, rfl⟩
    obtain ⟨Wk1, hW⟩ : ∃ Wq, Wq = (W2.alloc (.cells #[.int .i64 t.en, .int .i64 t.nr, .int .i64 t.du] 35)) := ⟨_, rfl⟩
    go_wp2
    rw [← hW, ← hV]
    have hst : Stay (fun _ => False) W2 Wk1 := by rw [hW]; exact (Stay.refl _ _).alloc _
    have HFA' := hide' (HFA.out.keep hst)
    have HBC' := hide' (HBC.out.keep hst)
    have HST' := hide' (HST.out.trans hst)
    have HV : Hid (TBox Wk1 vk2 t ∧ (∃ c e, Wk1.heap[vk2]? = some (.cells c e)) ∧ ¬ (Value.slice a n cap).ownBlock = some vk2 ∧ w.heap.size ≤ vk2 ∧ ¬ vk2 = bt) := by
      refine ⟨by rw [hW]; exact TBox.new t hV.symm, ⟨#[.int .i64 t.en, .int .i64 t.nr, .int .i64 t.du], 35, by rw [hW, hV]; exact heap_alloc_new _ _⟩, fun e => ?_, ?_, ?_⟩
      · have h1 := HFA.out.row.lt vk2 e
        omega
      · have h1 := HST.out.size
        omega
      · have h1 := HBC.out.lt
        omega
    clear hst hW hV
    clear HFA
    have HFA := HFA'
    clear HFA'
    clear HBC
    have HBC := HBC'
    clear HBC'
    clear HST
    have HST := HST'
    clear HST'
    refine hK9 7 (by simp) _ _ HBC.out (any_more fun K10 hK10 => ?_)
    clear hK9 K9
    refine any_pick (rs := [8]) hK10 (by kernel_rfl) (fun K11 hK11 => ?_)
    clear hK10 K10
    intro i hi
    simp only [List.mem_cons, List.not_mem_nil, or_false] at hi
    rcases hi with rfl
    refine op_plain (some 23) (.call { callee := Callee.value (.func 33), args := #[.tmp 19, .tmp 20, .tmp 22], argTypes := #[26, 3, 26] }) 26 (by kernel_rfl) (by kernel_rfl) ?_
    have HIN := hide' (insert33 (.slice a n cap) vk2 i L t Wk1 HFA.out.row HIL.out HLM.out HV.out.1 HV.out.2.1 HV.out.2.2.1)
    go_wp2_with fail
    refine HIN.out.mono ?_
    rintro _ Wk3 ⟨vn, rfl, hwv, hst, hnb⟩
    rw [← HM.out] at hwv
    obtain ⟨na, nc, hvn, hws, h00⟩ := hwv
    subst hvn
    have HWS := hide' hws
    have H00 := hide' h00
    have HKB : Hid (KBox Wk3 b ⟨now, .slice a n cap⟩) := HFA.out.box.stay hst (fun e => HFA.out.vb b e rfl)
    have HBC' := hide' (HBC.out.stay hst (fun e => by have h1 := HBF.out; exact h1.2 e))
    have HNB := hide' hnb
    have HSI := hide' hst
    have HFZ := hide' (show Wk1.heap.size ≤ Wk1.heap.size ∧ w.heap.size ≤ Wk1.heap.size ∧ b < Wk1.heap.size from ⟨Nat.le_refl _, HST.out.size, HFA.out.box.lt⟩)
    clear hws h00 hst hnb HIN HV
    clear HBC
    have HBC := HBC'
    clear HBC'
    go_wp2
    refine hK11 8 (by simp) _ _ HBC.out (any_more fun K12 hK12 => ?_)
    clear hK11 K11
    refine any_take (i := 9) hK12 (some 24) (.nilCheck (.tmp 15)) 0 _ (by kernel_rfl) (fun _ d _ _ _ h => by cases d <;> exact h) (by kernel_rfl) (by kernel_rfl) (fun w' hS' => by simp only [opr]; go_simp; try with_reducible rfl) HBC.out (fun K13 hK13 => ?_)
    clear hK12 K12
    try simp only [Act.put, List.setIfInBounds_toArray, List.set_cons_zero, List.set_cons_succ]
    refine any_take (i := 10) hK13 (some 25) (.fieldAddr 47 (.tmp 24) 1) 0 _ (by kernel_rfl) (fun _ d _ _ _ h => by cases d <;> exact h) (by kernel_rfl) (by kernel_rfl) (fun w' hS' => by simp only [opr]; go_simp; try with_reducible rfl) HBC.out (fun K14 hK14 => ?_)
    clear hK13 K13
    try simp only [Act.put, List.setIfInBounds_toArray, List.set_cons_zero, List.set_cons_succ]
    refine any_pick (rs := [11]) hK14 (by kernel_rfl) (fun K15 hK15 => ?_)
    clear hK14 K14
    intro i hi
    simp only [List.mem_cons, List.not_mem_nil, or_false] at hi
    rcases hi with rfl
    refine op_plain none (.store 26 (.tmp 25) (.tmp 23)) 0 (by kernel_rfl) (by kernel_rfl) ?_
    obtain ⟨g0, g1, k0, k1⟩ := HKB.out
    simp only at g0 g1
    go_wp2
    clear g0 g1 k0 k1
    obtain ⟨Wk4, hW⟩ : ∃ Wq, Wq = (Wk3.setCell ⟨b, 1, none⟩ (.slice na M.length nc)) := ⟨_, rfl⟩
    have hs5 : Stay (fun j => j = b) Wk3 Wk4 := by rw [hW]; exact (Stay.refl (fun j => j = b) Wk3).setCell (p := ⟨b, 1, none⟩) rfl _
    have HBC' := hide' (HBC.out.stay hs5 (fun e => HBF.out.1 e))
    have HKF : Hid (KBox Wk4 b ⟨now, .slice na M.length nc⟩) := by rw [hW]; exact HKB.out.put1 rfl
    have HS5 := hide' hs5
    rw [← hW]
    clear hW hs5
    clear HBC
    have HBC := HBC'
    clear HBC'
    refine hK15 11 (by simp) _ _ HBC.out (any_more fun K16 hK16 => ?_)
    clear hK15 K15
    refine any_done hK16 (by kernel_rfl) ?_
    clear hK16 K16
    go_wp2
    go_returns
    have hnb : ∀ j, (Value.slice na M.length nc).ownBlock = some j → ¬ j = b := fun j hj e => by
      rcases HNB.out j hj with h | h
      · exact HFA.out.vb j h e
      · have := HFZ.out.2.2
        omega
    have hwf : Wv Wk4 (.slice na M.length nc) M := Wv.stay ⟨na, nc, rfl, HWS.out, H00.out⟩ HS5.out (fun j hj e => hnb j hj e)
    refine ⟨.slice na M.length nc, rfl, ?_, ?_, fun j hj => ?_⟩
    · have e := HM.out.trans (ins_at HIL.out HSP.out.1 HSP.out.2 HNE.out)
      rw [e] at hwf hnb
      have hkf := HKF.out
      rw [e] at hkf
      rw [e]
      exact ⟨hkf, hwf, hnb, HFA.out.srt.ins HNE.out, by rw [insT_len]; exact HLT.out, HFA.out.n0, HFA.out.n1⟩
    · have h1 : Stay (Cq.own ⟨b, .slice a n cap⟩) w _ := (HST.out.mono (fun _ _ h => h.elim)).trans2 HSI.out (fun j hj e => .inr e)
      exact h1.trans2 HS5.out (fun j hj e => .inl e)
    · rcases hj with h | h
      · exact .inl (.inl h)
      · rcases HNB.out j h with h1 | h1
        · exact .inl (.inr h1)
        · exact .inr (by have := HFZ.out.2.1; omega)
  · refine op_plain (some 22) (.buildSlice 26 1 #[(0, .tmp 21)]) 26 (by kernel_rfl) (by kernel_rfl) ?_
    obtain ⟨vk6, hV⟩ : ∃ B, B = W2.heap.size := ⟨_, rfl⟩
    obtain ⟨Wk5, hW⟩ : ∃ Wq, Wq = (W2.alloc (.cells #[.int .i64 t.en, .int .i64 t.nr, .int .i64 t.du] 35)) := ⟨_, rfl⟩
    go_wp2
    rw [← hW, ← hV]
    have hst : Stay (fun _ => False) W2 Wk5 := by rw [hW]; exact (Stay.refl _ _).alloc _
    have HFA' := hide' (HFA.out.keep hst)
    have HBC' := hide' (HBC.out.keep hst)
    have HST' := hide' (HST.out.trans hst)
    have HV : Hid (TBox Wk5 vk6 t ∧ (∃ c e, Wk5.heap[vk6]? = some (.cells c e)) ∧ ¬ (Value.slice a n cap).ownBlock = some vk6 ∧ w.heap.size ≤ vk6 ∧ ¬ vk6 = bt) := by
      refine ⟨by rw [hW]; exact TBox.new t hV.symm, ⟨#[.int .i64 t.en, .int .i64 t.nr, .int .i64 t.du], 35, by rw [hW, hV]; exact heap_alloc_new _ _⟩, fun e => ?_, ?_, ?_⟩
      · have h1 := HFA.out.row.lt vk6 e
        omega
      · have h1 := HST.out.size
        omega
      · have h1 := HBC.out.lt
        omega
    clear hst hW hV
    clear HFA
    have HFA := HFA'
    clear HFA'
    clear HBC
    have HBC := HBC'
    clear HBC'
    clear HST
    have HST := HST'
    clear HST'
    refine hK7 7 (by simp) _ _ HBC.out (any_more fun K8 hK8 => ?_)
    clear hK7 K7
    refine any_pick (rs := [4]) hK8 (by kernel_rfl) (fun K9 hK9 => ?_)
    clear hK8 K8
    intro i hi
    simp only [List.mem_cons, List.not_mem_nil, or_false] at hi
    rcases hi with rfl
    refine op_plain (some 19) (.load 26 (.tmp 18)) 26 (by kernel_rfl) (by kernel_rfl) ?_
    obtain ⟨g0, g1, k0, k1⟩ := HFA.out.box
    simp only at g0 g1
    go_wp2
    clear g0 g1 k0 k1
    refine hK9 4 (by simp) _ _ HBC.out (any_more fun K10 hK10 => ?_)
    clear hK9 K9
    refine any_pick (rs := [8]) hK10 (by kernel_rfl) (fun K11 hK11 => ?_)
    clear hK10 K10
    intro i hi
    simp only [List.mem_cons, List.not_mem_nil, or_false] at hi
    rcases hi with rfl
    refine op_plain (some 23) (.call { callee := Callee.value (.func 33), args := #[.tmp 19, .tmp 20, .tmp 22], argTypes := #[26, 3, 26] }) 26 (by kernel_rfl) (by kernel_rfl) ?_
    have HIN := hide' (insert33 (.slice a n cap) vk6 i L t Wk5 HFA.out.row HIL.out HLM.out HV.out.1 HV.out.2.1 HV.out.2.2.1)
    go_wp2_with fail
    refine HIN.out.mono ?_
    rintro _ Wk7 ⟨vn, rfl, hwv, hst, hnb⟩
    rw [← HM.out] at hwv
    obtain ⟨na, nc, hvn, hws, h00⟩ := hwv
    subst hvn
    have HWS := hide' hws
    have H00 := hide' h00
    have HKB : Hid (KBox Wk7 b ⟨now, .slice a n cap⟩) := HFA.out.box.stay hst (fun e => HFA.out.vb b e rfl)
    have HBC' := hide' (HBC.out.stay hst (fun e => by have h1 := HBF.out; exact h1.2 e))
    have HNB := hide' hnb
    have HSI := hide' hst
    have HFZ := hide' (show Wk5.heap.size ≤ Wk5.heap.size ∧ w.heap.size ≤ Wk5.heap.size ∧ b < Wk5.heap.size from ⟨Nat.le_refl _, HST.out.size, HFA.out.box.lt⟩)
    clear hws h00 hst hnb HIN HV
    clear HBC
    have HBC := HBC'
    clear HBC'
    go_wp2
    refine hK11 8 (by simp) _ _ HBC.out (any_more fun K12 hK12 => ?_)
    clear hK11 K11
    refine any_take (i := 9) hK12 (some 24) (.nilCheck (.tmp 15)) 0 _ (by kernel_rfl) (fun _ d _ _ _ h => by cases d <;> exact h) (by kernel_rfl) (by kernel_rfl) (fun w' hS' => by simp only [opr]; go_simp; try with_reducible rfl) HBC.out (fun K13 hK13 => ?_)
    clear hK12 K12
    try simp only [Act.put, List.setIfInBounds_toArray, List.set_cons_zero, List.set_cons_succ]
    refine any_take (i := 10) hK13 (some 25) (.fieldAddr 47 (.tmp 24) 1) 0 _ (by kernel_rfl) (fun _ d _ _ _ h => by cases d <;> exact h) (by kernel_rfl) (by kernel_rfl) (fun w' hS' => by simp only [opr]; go_simp; try with_reducible rfl) HBC.out (fun K14 hK14 => ?_)
    clear hK13 K13
    try simp only [Act.put, List.setIfInBounds_toArray, List.set_cons_zero, List.set_cons_succ]
    refine any_pick (rs := [11]) hK14 (by kernel_rfl) (fun K15 hK15 => ?_)
    clear hK14 K14
    intro i hi
    simp only [List.mem_cons, List.not_mem_nil, or_false] at hi
    rcases hi with rfl
    refine op_plain none (.store 26 (.tmp 25) (.tmp 23)) 0 (by kernel_rfl) (by kernel_rfl) ?_
    obtain ⟨g0, g1, k0, k1⟩ := HKB.out
    simp only at g0 g1
    go_wp2
    clear g0 g1 k0 k1
    obtain ⟨Wk8, hW⟩ : ∃ Wq, Wq = (Wk7.setCell ⟨b, 1, none⟩ (.slice na M.length nc)) := ⟨_, rfl⟩
    have hs5 : Stay (fun j => j = b) Wk7 Wk8 := by rw [hW]; exact (Stay.refl (fun j => j = b) Wk7).setCell (p := ⟨b, 1, none⟩) rfl _
    have HBC' := hide' (HBC.out.stay hs5 (fun e => HBF.out.1 e))
    have HKF : Hid (KBox Wk8 b ⟨now, .slice na M.length nc⟩) := by rw [hW]; exact HKB.out.put1 rfl
    have HS5 := hide' hs5
    rw [← hW]
    clear hW hs5
    clear HBC
    have HBC := HBC'
    clear HBC'
    refine hK15 11 (by simp) _ _ HBC.out (any_more fun K16 hK16 => ?_)
    clear hK15 K15
    refine any_done hK16 (by kernel_rfl) ?_
    clear hK16 K16
    go_wp2
    go_returns
    have hnb : ∀ j, (Value.slice na M.length nc).ownBlock = some j → ¬ j = b := fun j hj e => by
      rcases HNB.out j hj with h | h
      · exact HFA.out.vb j h e
      · have := HFZ.out.2.2
        omega
    have hwf : Wv Wk8 (.slice na M.length nc) M := Wv.stay ⟨na, nc, rfl, HWS.out, H00.out⟩ HS5.out (fun j hj e => hnb j hj e)
    refine ⟨.slice na M.length nc, rfl, ?_, ?_, fun j hj => ?_⟩
    · have e := HM.out.trans (ins_at HIL.out HSP.out.1 HSP.out.2 HNE.out)
      rw [e] at hwf hnb
      have hkf := HKF.out
      rw [e] at hkf
      rw [e]
      exact ⟨hkf, hwf, hnb, HFA.out.srt.ins HNE.out, by rw [insT_len]; exact HLT.out, HFA.out.n0, HFA.out.n1⟩
    · have h1 : Stay (Cq.own ⟨b, .slice a n cap⟩) w _ := (HST.out.mono (fun _ _ h => h.elim)).trans2 HSI.out (fun j hj e => .inr e)
      exact h1.trans2 HS5.out (fun j hj e => .inl e)
    · rcases hj with h | h
      · exact .inl (.inl h)
      · rcases HNB.out j h with h1 | h1
        · exact .inl (.inr h1)
        · exact .inr (by have := HFZ.out.2.1; omega)

end Go.Proofs.Ytihciknbmhadjaa
