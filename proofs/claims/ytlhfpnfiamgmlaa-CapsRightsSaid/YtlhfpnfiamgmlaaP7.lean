/-
  Mint: walked. No conditions.
-/
import Derived.Test.YtlhfpnfiamgmlaaP6
import Derived.Deep.DeepCutAuto
namespace Go.Proofs.Ytlhfpnfiamgmlaa
open Go.RowKit

set_option maxHeartbeats 2000000 in
theorem mint12 (T B n : Nat) (q : Int) (f : Nat → Sl) (env kind obj rights : Int) (w : World) (ht : TAt w T B n q f) : Calls Try.prog 12 #[.pointer (some ⟨T, 0, none⟩), .int .i64 env, .int .i64 kind, .int .i64 obj, .int .i64 rights] w (POut T B n q (mintS n q f env kind obj rights) w) := by
  obtain ⟨W0, hW0⟩ : ∃ W, W = w.alloc (.cells #[.int .i64 0, .int .i64 0] 30) := ⟨_, rfl⟩
  obtain ⟨bn, hbn⟩ : ∃ b, b = w.heap.size := ⟨_, rfl⟩
  have hs0 : Stay (fun _ => False) w W0 := by rw [hW0]; exact (Stay.refl _ _).alloc _
  have HS0 := hide' hs0
  have HBN : Hid (NBox W0 bn ⟨0, 0⟩) := by rw [hW0]; exact NBox.new ⟨0, 0⟩ hbn.symm
  have HT := hide' (ht.keep hs0)
  have HNB : Hid (bn = w.heap.size ∧ T < w.heap.size ∧ B < w.heap.size ∧ T ≠ B) := ⟨hbn, ht.lt, ht.ltB, ht.ne⟩
  clear hs0 ht
  by_cases h1 : env < 0
  · have HM : Hid (mintS n q f env kind obj rights = (f, 0, 0, 1)) := by show mintS n q f env kind obj rights = (f, 0, 0, 1); unfold mintS; rw [if_pos (by unfold badArgs; omega)]
    obtain ⟨m0, m1, m2, m3⟩ := HBN.out
    simp only at m0 m1
    go_enter Try.func12, Try.ntmps12
    go_upto_region 1 with fail
    rw [← hW0, ← hbn]
    clear hW0 hbn
    go_wp2
    clear m0 m1 m2 m3
    generalize hWr : World.setCell (World.setCell _ _ _) _ _ = W5
    have HN6 : Hid (NBox W5 bn ⟨0, 0⟩) := by rw [← hWr]; exact HBN.out.put ⟨0, 0⟩
    have hst5 : Stay (fun j => j = bn) W0 W5 := by rw [← hWr]; exact ((Stay.refl (fun j => j = bn) _).setCell (p := ⟨bn, 0, none⟩) rfl _).setCell (p := ⟨bn, 1, none⟩) rfl _
    refine bodyPost_ret (results_ct rfl _ _ _ ⟨0, 0⟩ _ rfl rfl HN6.out) rfl ?_
    rw [HM.out]
    refine ⟨rfl, ?_, ?_⟩
    · have := HNB.out
      exact ((HS0.out.mono (T := fun j => bn = j) (fun _ _ h => h.elim)).trans (hst5.mono (T := fun j => bn = j) (fun j _ e => e.symm))).mono (fun j hj h => by omega)
    · have := HNB.out
      exact HT.out.stay hst5 (by omega) (by omega)
  · have d1 : decide (env < 0) = false := decide_eq_false h1
    by_cases h2 : obj < 0
    · have HM : Hid (mintS n q f env kind obj rights = (f, 0, 0, 1)) := by show mintS n q f env kind obj rights = (f, 0, 0, 1); unfold mintS; rw [if_pos (by unfold badArgs; omega)]
      have d2 : decide (obj < 0) = true := decide_eq_true h2
      obtain ⟨m0, m1, m2, m3⟩ := HBN.out
      simp only at m0 m1
      go_enter Try.func12, Try.ntmps12
      go_upto_region 1 with fail
      rw [← hW0, ← hbn]
      clear hW0 hbn
      go_wp2
      clear m0 m1 m2 m3
      generalize hWr : World.setCell (World.setCell _ _ _) _ _ = W5
      have HN6 : Hid (NBox W5 bn ⟨0, 0⟩) := by rw [← hWr]; exact HBN.out.put ⟨0, 0⟩
      have hst5 : Stay (fun j => j = bn) W0 W5 := by rw [← hWr]; exact ((Stay.refl (fun j => j = bn) _).setCell (p := ⟨bn, 0, none⟩) rfl _).setCell (p := ⟨bn, 1, none⟩) rfl _
      refine bodyPost_ret (results_ct rfl _ _ _ ⟨0, 0⟩ _ rfl rfl HN6.out) rfl ?_
      rw [HM.out]
      refine ⟨rfl, ?_, ?_⟩
      · have := HNB.out
        exact ((HS0.out.mono (T := fun j => bn = j) (fun _ _ h => h.elim)).trans (hst5.mono (T := fun j => bn = j) (fun j _ e => e.symm))).mono (fun j hj h => by omega)
      · have := HNB.out
        exact HT.out.stay hst5 (by omega) (by omega)
    · have d2 : decide (obj < 0) = false := decide_eq_false h2
      by_cases h3 : 1 ≤ kind ∧ kind ≤ 3
      · have d3 : decide (1 ≤ kind ∧ kind ≤ 3) = true := decide_eq_true h3
        by_cases h4 : 1 ≤ rights ∧ rights ≤ 7
        · have d4 : decide (1 ≤ rights ∧ rights ≤ 7) = true := decide_eq_true h4
          have D3 := hide' d3
          have D4 := hide' d4
          clear d3 d4
          have hM : mintS n q f env kind obj rights = addS n q f ⟨0, env, kind, obj, rights, -1⟩ := by unfold mintS; rw [if_neg (by unfold badArgs; omega)]
          have HPT := hide' (fun w (h : TAt w T B n q f) => put31 T B n q f ⟨0, env, kind, obj, rights, -1⟩ w h (.inr ⟨by show 0 ≤ env; omega, by show 1 ≤ kind; omega, by show kind ≤ 3; omega, by show 0 ≤ obj; omega, by show 1 ≤ rights; omega, by show rights ≤ 7; omega, by show (-1 : Int) ≤ -1; omega, by show (-1 : Int) < (n : Nat); omega⟩) (by show 0 ≤ env; omega) (fun j hj => by have hj' : (-1 : Int) = (j : Nat) := hj; omega))
          rw [← hM] at HPT
          obtain ⟨y, hy⟩ : ∃ y, y = mintS n q f env kind obj rights := ⟨_, rfl⟩
          rw [← hy] at HPT ⊢
          clear hy hM
          clear h3 h4
          obtain ⟨m0, m1, m2, m3⟩ := HBN.out
          simp only at m0 m1
          go_enter Try.func12, Try.ntmps12
          go_upto_region 1 with fail
          rw [← hW0, ← hbn]
          clear hW0 hbn
          go_wp2_with fail
          refine (kind29 _ _).mono ?_
          rintro _ w1 ⟨rfl, hs1⟩
          rw [D3.out]
          obtain ⟨m0', m1', m2', m3'⟩ := HBN.out.keep hs1
          have HBN1 := hide' (HBN.out.keep hs1)
          have HT1 := hide' (HT.out.keep hs1)
          have HS1 := hide' (HS0.out.trans hs1)
          clear m0 m1 m2 m3 hs1
          have m0 := m0'
          have m1 := m1'
          have m2 := m2'
          have m3 := m3'
          clear m0' m1' m2' m3'
          simp only at m0 m1
          go_wp2_with fail
          refine (rights30 _ _).mono ?_
          rintro _ w2 ⟨rfl, hs2⟩
          rw [D4.out]
          obtain ⟨m0', m1', m2', m3'⟩ := HBN1.out.keep hs2
          have HBN2 := hide' (HBN1.out.keep hs2)
          have HT2 := hide' (HT1.out.keep hs2)
          have HS2 := hide' (HS1.out.trans hs2)
          clear m0 m1 m2 m3 hs2
          have m0 := m0'
          have m1 := m1'
          have m2 := m2'
          have m3 := m3'
          clear m0' m1' m2' m3'
          simp only at m0 m1
          go_wp2_with fail
          refine (HPT.out _ HT2.out).mono ?_
          rintro _ w3 ⟨rfl, hs3, ht3⟩
          have HNE : Hid (¬ bn = B) := by have := HNB.out; show ¬ bn = B; omega
          have HBN3 := hide' (HBN2.out.stay hs3 HNE.out)
          have HT3 := hide' ht3
          have HS3 := hide' hs3
          clear hs3 ht3 m0 m1 m2 m3 HPT
          obtain ⟨m0, m1, m2, m3⟩ := HBN3.out
          simp only at m0 m1
          go_wp2
          clear m0 m1 m2 m3
          generalize hWr : World.setCell (World.setCell _ _ _) _ _ = W5
          have HN6 : Hid (NBox W5 bn ⟨y.2.1, y.2.2.1⟩) := by rw [← hWr]; exact HBN3.out.put ⟨y.2.1, y.2.2.1⟩
          have hst5 : Stay (fun j => j = bn) w3 W5 := by rw [← hWr]; exact ((Stay.refl (fun j => j = bn) _).setCell (p := ⟨bn, 0, none⟩) rfl _).setCell (p := ⟨bn, 1, none⟩) rfl _
          refine bodyPost_ret (results_ct rfl _ _ _ ⟨y.2.1, y.2.2.1⟩ _ rfl rfl HN6.out) rfl ?_
          refine ⟨rfl, ?_, ?_⟩
          · have := HNB.out
            exact ((HS2.out.mono (T := fun j => bn = j ∨ j = B) (fun _ _ h => h.elim)).trans ((HS3.out.mono (T := fun j => bn = j ∨ j = B) (fun _ _ h => .inr h)).trans (hst5.mono (T := fun j => bn = j ∨ j = B) (fun j _ e => .inl e.symm)))).mono (fun j hj h => by omega)
          · have := HNB.out
            exact HT3.out.stay hst5 (by omega) (by omega)
        · have HM : Hid (mintS n q f env kind obj rights = (f, 0, 0, 1)) := by show mintS n q f env kind obj rights = (f, 0, 0, 1); unfold mintS; rw [if_pos (by unfold badArgs; omega)]
          have D3 := hide' d3
          have D4 := hide' (decide_eq_false h4)
          clear d3 h3 h4
          obtain ⟨m0, m1, m2, m3⟩ := HBN.out
          simp only at m0 m1
          go_enter Try.func12, Try.ntmps12
          go_upto_region 1 with fail
          rw [← hW0, ← hbn]
          clear hW0 hbn
          go_wp2_with fail
          refine (kind29 _ _).mono ?_
          rintro _ w1 ⟨rfl, hs1⟩
          rw [D3.out]
          obtain ⟨m0', m1', m2', m3'⟩ := HBN.out.keep hs1
          have HBN1 := hide' (HBN.out.keep hs1)
          have HT1 := hide' (HT.out.keep hs1)
          have HS1 := hide' (HS0.out.trans hs1)
          clear m0 m1 m2 m3 hs1
          have m0 := m0'
          have m1 := m1'
          have m2 := m2'
          have m3 := m3'
          clear m0' m1' m2' m3'
          simp only at m0 m1
          go_wp2_with fail
          refine (rights30 _ _).mono ?_
          rintro _ w2 ⟨rfl, hs2⟩
          rw [D4.out]
          obtain ⟨m0', m1', m2', m3'⟩ := HBN1.out.keep hs2
          have HBN2 := hide' (HBN1.out.keep hs2)
          have HT2 := hide' (HT1.out.keep hs2)
          have HS2 := hide' (HS1.out.trans hs2)
          clear m0 m1 m2 m3 hs2
          have m0 := m0'
          have m1 := m1'
          have m2 := m2'
          have m3 := m3'
          clear m0' m1' m2' m3'
          simp only at m0 m1
          go_wp2
          clear m0 m1 m2 m3
          generalize hWr : World.setCell (World.setCell _ _ _) _ _ = W5
          have HN6 : Hid (NBox W5 bn ⟨0, 0⟩) := by rw [← hWr]; exact HBN2.out.put ⟨0, 0⟩
          have hst5 : Stay (fun j => j = bn) w2 W5 := by rw [← hWr]; exact ((Stay.refl (fun j => j = bn) _).setCell (p := ⟨bn, 0, none⟩) rfl _).setCell (p := ⟨bn, 1, none⟩) rfl _
          refine bodyPost_ret (results_ct rfl _ _ _ ⟨0, 0⟩ _ rfl rfl HN6.out) rfl ?_
          rw [HM.out]
          refine ⟨rfl, ?_, ?_⟩
          · have := HNB.out
            exact ((HS2.out.mono (T := fun j => bn = j) (fun _ _ h => h.elim)).trans (hst5.mono (T := fun j => bn = j) (fun j _ e => e.symm))).mono (fun j hj h => by omega)
          · have := HNB.out
            exact HT2.out.stay hst5 (by omega) (by omega)
      · have HM : Hid (mintS n q f env kind obj rights = (f, 0, 0, 1)) := by show mintS n q f env kind obj rights = (f, 0, 0, 1); unfold mintS; rw [if_pos (by unfold badArgs; omega)]
        have D3 := hide' (decide_eq_false h3)
        clear h3
        obtain ⟨m0, m1, m2, m3⟩ := HBN.out
        simp only at m0 m1
        go_enter Try.func12, Try.ntmps12
        go_upto_region 1 with fail
        rw [← hW0, ← hbn]
        clear hW0 hbn
        go_wp2_with fail
        refine (kind29 _ _).mono ?_
        rintro _ w1 ⟨rfl, hs1⟩
        rw [D3.out]
        obtain ⟨m0', m1', m2', m3'⟩ := HBN.out.keep hs1
        have HBN1 := hide' (HBN.out.keep hs1)
        have HT1 := hide' (HT.out.keep hs1)
        have HS1 := hide' (HS0.out.trans hs1)
        clear m0 m1 m2 m3 hs1
        have m0 := m0'
        have m1 := m1'
        have m2 := m2'
        have m3 := m3'
        clear m0' m1' m2' m3'
        simp only at m0 m1
        go_wp2
        clear m0 m1 m2 m3
        generalize hWr : World.setCell (World.setCell _ _ _) _ _ = W5
        have HN6 : Hid (NBox W5 bn ⟨0, 0⟩) := by rw [← hWr]; exact HBN1.out.put ⟨0, 0⟩
        have hst5 : Stay (fun j => j = bn) w1 W5 := by rw [← hWr]; exact ((Stay.refl (fun j => j = bn) _).setCell (p := ⟨bn, 0, none⟩) rfl _).setCell (p := ⟨bn, 1, none⟩) rfl _
        refine bodyPost_ret (results_ct rfl _ _ _ ⟨0, 0⟩ _ rfl rfl HN6.out) rfl ?_
        rw [HM.out]
        refine ⟨rfl, ?_, ?_⟩
        · have := HNB.out
          exact ((HS1.out.mono (T := fun j => bn = j) (fun _ _ h => h.elim)).trans (hst5.mono (T := fun j => bn = j) (fun j _ e => e.symm))).mono (fun j hj h => by omega)
        · have := HNB.out
          exact HT1.out.stay hst5 (by omega) (by omega)

end Go.Proofs.Ytlhfpnfiamgmlaa
