/-
  Share: walked. No conditions.
-/
import Derived.Test.YtlhfpnfiamgmlaaP8
import Derived.Deep.DeepCutAuto
namespace Go.Proofs.Ytlhfpnfiamgmlaa
open Go.RowKit

set_option maxHeartbeats 4000000 in
theorem share14 (T B n : Nat) (q : Int) (f : Nat → Sl) (env sl gn tw rights : Int) (w : World) (ht : TAt w T B n q f) : Calls Try.prog 14 #[.pointer (some ⟨T, 0, none⟩), .int .i64 env, .agg #[.int .i64 sl, .int .i64 gn], .int .i64 tw, .int .i64 rights] w (POut T B n q (shareS n q f env sl gn tw rights) w) := by
  obtain ⟨W0, hW0⟩ : ∃ W, W = (w.alloc (.cells #[.int .i64 sl, .int .i64 gn] 30)).alloc (.cells #[.int .i64 0, .int .i64 0] 30) := ⟨_, rfl⟩
  obtain ⟨bc, hbc⟩ : ∃ b, b = w.heap.size := ⟨_, rfl⟩
  obtain ⟨bn, hbn⟩ : ∃ b, b = bc + 1 := ⟨_, rfl⟩
  have hs0 : Stay (fun _ => False) w W0 := by rw [hW0]; exact ((Stay.refl _ _).alloc _).alloc _
  have HS0 := hide' hs0
  have hnb : NBox W0 bc ⟨sl, gn⟩ := by rw [hW0]; exact (NBox.new ⟨sl, gn⟩ hbc.symm).alloc _
  have HCB := hide' hnb
  have HBN : Hid (NBox W0 bn ⟨0, 0⟩) := by rw [hW0]; exact NBox.new ⟨0, 0⟩ (by rw [hbn, hbc]; simp)
  have HT := hide' (ht.keep hs0)
  have HNB : Hid (w.heap.size ≤ bn ∧ T < w.heap.size ∧ B < w.heap.size ∧ T ≠ B) := ⟨by omega, ht.lt, ht.ltB, ht.ne⟩
  have HN4 := hide' (fun w (h : TAt w T B n q f) => named34 T B n q f env sl gn w h)
  clear hs0 hnb
  by_cases he : ownE n f env sl gn 0 = 0
  · have h2 := ownE_rights n f env sl gn 2
    rw [if_pos he] at h2
    rw [he] at HN4
    obtain ⟨k, rfl, hk, hu, _⟩ := ownE_zero he
    rw [show nptr B 0 (k : Nat) = .pointer (some ⟨B, k * 6, none⟩) by unfold nptr; rw [if_pos rfl, Int.toNat_natCast]] at HN4
    rw [Int.toNat_natCast] at h2
    have hok : 1 ≤ (f k).kind ∧ (f k).kind ≤ 3 ∧ 0 ≤ (f k).obj ∧ 1 ≤ (f k).rights ∧ (f k).rights ≤ 7 := by rcases ht.ok.1 k hk with e | e <;> omega
    obtain ⟨x, hx⟩ : ∃ x, x = (f k).kind := ⟨_, rfl⟩
    obtain ⟨o, ho⟩ : ∃ x, x = (f k).obj := ⟨_, rfl⟩
    obtain ⟨y, hy⟩ : ∃ x, x = (f k).rights := ⟨_, rfl⟩
    have HPX : Hid (∀ w, TAt w T B n q f → w.cell? ⟨B, k * 6 + 2, none⟩ = some (.int .i64 x) ∧ w.cell? ⟨B, k * 6 + 3, none⟩ = some (.int .i64 o) ∧ w.cell? ⟨B, k * 6 + 4, none⟩ = some (.int .i64 y)) := fun w h => by
      rw [hx, ho, hy]
      exact ⟨(h.at hk).c2, (h.at hk).c3, (h.at hk).c4⟩
    have HK := hide' hk
    have HU := hide' hu
    have HXO : Hid (x = (f k).kind ∧ o = (f k).obj) := ⟨hx, ho⟩
    have HC0 : Hid (shareS n q f env (k : Nat) gn tw rights = if ownE n f env (k : Nat) gn 2 = 0 then (if tw < 0 ∨ rights < 1 ∨ 7 < rights then (f, 0, 0, 1) else if hasB y rights = true then addS n q f ⟨0, tw, x, o, rights, (k : Nat)⟩ else (f, 0, 0, 8)) else (f, 0, 0, ownE n f env (k : Nat) gn 2)) := by
      show shareS n q f env (k : Nat) gn tw rights = _
      unfold shareS
      rw [Int.toNat_natCast, ← hx, ← ho, ← hy]
    rw [← hy] at h2
    rw [← hx, ← ho, ← hy] at hok
    have HOK := hide' hok
    clear hx ho hy he ht hk hu
    have hh2 := (has_of (r := 0) (by omega) hok.2.2.2.2 (by decide) (by decide)).2.1
    cases h2b : hasB y 2
    · rw [h2b, if_neg (by decide)] at h2
      have HM : Hid (shareS n q f env (k : Nat) gn tw rights = (f, 0, 0, 8)) := by have h := HC0.out; rw [h2, if_neg (by decide)] at h; exact h
      rw [h2b] at hh2
      have hz : bits .and .i64 y 2 = 0 := beq_iff_eq.1 (hh2.trans rfl)
      clear h2 h2b hh2 HC0 hok
      obtain ⟨b0, b1, _, _⟩ := HCB.out
      simp only at b0 b1
      go_enter Try.func14, Try.ntmps14
      go_upto_region 1 with fail
      rw [← hW0, ← hbc]
      rw [← hbn]
      clear hW0 hbc hbn
      go_wp2_with fail
      refine (HN4.out _ HT.out).mono ?_
      rintro _ w1 ⟨rfl, hs1⟩
      have HS1 := hide' (HS0.out.trans hs1)
      have HT1 := hide' (HT.out.keep hs1)
      have HBN1 := hide' (HBN.out.keep hs1)
      clear hs1 HN4 HCB HBN b0 b1
      obtain ⟨m0, m1, m2, m3⟩ := HBN1.out
      simp only at m0 m1
      obtain ⟨x2, x3, x4⟩ := HPX.out _ HT1.out
      go_wp2
      clear m0 m1 m2 m3
      generalize hWr : World.setCell (World.setCell _ _ _) _ _ = W5
      have HN6 : Hid (NBox W5 bn ⟨0, 0⟩) := by rw [← hWr]; exact HBN1.out.put ⟨0, 0⟩
      have hst5 : Stay (fun j => j = bn) w1 W5 := by rw [← hWr]; exact ((Stay.refl (fun j => j = bn) _).setCell (p := ⟨bn, 0, none⟩) rfl _).setCell (p := ⟨bn, 1, none⟩) rfl _
      refine bodyPost_ret (results_ct rfl _ _ _ ⟨0, 0⟩ _ rfl rfl HN6.out) rfl ?_
      rw [HM.out]
      refine ⟨rfl, ?_, ?_⟩
      · have := HNB.out
        exact ((HS1.out.mono (T := fun j => bn = j) (fun _ _ h => h.elim)).trans (hst5.mono (T := fun j => bn = j) (fun j _ e => e.symm))).mono (fun j hj h => by omega)
      · have := HNB.out
        exact HT1.out.stay hst5 (by omega) (by omega)
    · rw [h2b, if_pos rfl] at h2
      have HC : Hid (shareS n q f env (k : Nat) gn tw rights = if tw < 0 ∨ rights < 1 ∨ 7 < rights then (f, 0, 0, 1) else if hasB y rights = true then addS n q f ⟨0, tw, x, o, rights, (k : Nat)⟩ else (f, 0, 0, 8)) := by have h := HC0.out; rw [h2, if_pos rfl] at h; exact h
      rw [h2b] at hh2
      have hz : (bits .and .i64 y 2 == 0) = false := hh2.trans rfl
      have hzn : ¬ bits .and .i64 y 2 = 0 := beq_eq_false_iff_ne.1 hz
      clear h2 h2b hh2 HC0
      by_cases ht0 : tw < 0
      · have HM : Hid (shareS n q f env (k : Nat) gn tw rights = (f, 0, 0, 1)) := by have h := HC.out; rw [if_pos (.inl ht0)] at h; exact h
        clear HC
        obtain ⟨b0, b1, _, _⟩ := HCB.out
        simp only at b0 b1
        go_enter Try.func14, Try.ntmps14
        go_upto_region 1 with fail
        rw [← hW0, ← hbc]
        rw [← hbn]
        clear hW0 hbc hbn
        go_wp2_with fail
        refine (HN4.out _ HT.out).mono ?_
        rintro _ w1 ⟨rfl, hs1⟩
        have HS1 := hide' (HS0.out.trans hs1)
        have HT1 := hide' (HT.out.keep hs1)
        have HBN1 := hide' (HBN.out.keep hs1)
        clear hs1 HN4 HCB HBN b0 b1
        obtain ⟨m0, m1, m2, m3⟩ := HBN1.out
        simp only at m0 m1
        obtain ⟨x2, x3, x4⟩ := HPX.out _ HT1.out
        go_wp2
        clear m0 m1 m2 m3
        generalize hWr : World.setCell (World.setCell _ _ _) _ _ = W5
        have HN6 : Hid (NBox W5 bn ⟨0, 0⟩) := by rw [← hWr]; exact HBN1.out.put ⟨0, 0⟩
        have hst5 : Stay (fun j => j = bn) w1 W5 := by rw [← hWr]; exact ((Stay.refl (fun j => j = bn) _).setCell (p := ⟨bn, 0, none⟩) rfl _).setCell (p := ⟨bn, 1, none⟩) rfl _
        refine bodyPost_ret (results_ct rfl _ _ _ ⟨0, 0⟩ _ rfl rfl HN6.out) rfl ?_
        rw [HM.out]
        refine ⟨rfl, ?_, ?_⟩
        · have := HNB.out
          exact ((HS1.out.mono (T := fun j => bn = j) (fun _ _ h => h.elim)).trans (hst5.mono (T := fun j => bn = j) (fun j _ e => e.symm))).mono (fun j hj h => by omega)
        · have := HNB.out
          exact HT1.out.stay hst5 (by omega) (by omega)
      · have dt : decide (tw < 0) = false := decide_eq_false ht0
        by_cases h4 : 1 ≤ rights ∧ rights ≤ 7
        · have D4 := hide' (decide_eq_true h4)
          have hhr := (has_of (r := rights) (by omega) hok.2.2.2.2 (by omega) h4.2).1
          cases hb : hasB y rights
          · have HM : Hid (shareS n q f env (k : Nat) gn tw rights = (f, 0, 0, 8)) := by have h := HC.out; rw [if_neg (by omega), if_neg (by rw [hb]; decide)] at h; exact h
            rw [hb] at hhr
            have hr1 : ¬ bits .andNot .i64 rights y = 0 := beq_eq_false_iff_ne.1 hhr
            have hr2 : (bits .andNot .i64 rights y != 0) = true := bne_iff_ne.2 hr1
            clear HC hb hhr h4 hok
            obtain ⟨b0, b1, _, _⟩ := HCB.out
            simp only at b0 b1
            go_enter Try.func14, Try.ntmps14
            go_upto_region 1 with fail
            rw [← hW0, ← hbc]
            rw [← hbn]
            clear hW0 hbc hbn
            go_wp2_with fail
            refine (HN4.out _ HT.out).mono ?_
            rintro _ w1 ⟨rfl, hs1⟩
            have HS1 := hide' (HS0.out.trans hs1)
            have HT1 := hide' (HT.out.keep hs1)
            have HBN1 := hide' (HBN.out.keep hs1)
            clear hs1 HN4 HCB HBN b0 b1
            obtain ⟨m0, m1, m2, m3⟩ := HBN1.out
            simp only at m0 m1
            obtain ⟨x2, x3, x4⟩ := HPX.out _ HT1.out
            go_wp2_with fail
            refine (rights30 _ _).mono ?_
            rintro _ w2 ⟨rfl, hs2⟩
            rw [D4.out]
            have HS2 := hide' (HS1.out.trans hs2)
            have HT2 := hide' (HT1.out.keep hs2)
            have HBN2 := hide' (HBN1.out.keep hs2)
            clear hs2 m0 m1 m2 m3 x2 x3 x4 HS1 HT1 HBN1
            obtain ⟨m0, m1, m2, m3⟩ := HBN2.out
            simp only at m0 m1
            obtain ⟨x2, x3, x4⟩ := HPX.out _ HT2.out
            go_wp2
            clear m0 m1 m2 m3
            generalize hWr : World.setCell (World.setCell _ _ _) _ _ = W5
            have HN6 : Hid (NBox W5 bn ⟨0, 0⟩) := by rw [← hWr]; exact HBN2.out.put ⟨0, 0⟩
            have hst5 : Stay (fun j => j = bn) w2 W5 := by rw [← hWr]; exact ((Stay.refl (fun j => j = bn) _).setCell (p := ⟨bn, 0, none⟩) rfl _).setCell (p := ⟨bn, 1, none⟩) rfl _
            refine bodyPost_ret (results_ct rfl _ _ _ ⟨0, 0⟩ _ rfl rfl HN6.out) rfl ?_
            rw [HM.out]
            refine ⟨rfl, ?_, ?_⟩
            · have := HNB.out
              exact ((HS2.out.mono (T := fun j => bn = j) (fun _ _ h => h.elim)).trans (hst5.mono (T := fun j => bn = j) (fun j _ e => e.symm))).mono (fun j hj h => by omega)
            · have := HNB.out
              exact HT2.out.stay hst5 (by omega) (by omega)
          · rw [hb] at hhr
            have hr1 : bits .andNot .i64 rights y = 0 := beq_iff_eq.1 hhr
            have hr2 : (bits .andNot .i64 rights y != 0) = false := by rw [hr1]; rfl
            have hrw : IntKind.i64.wrap rights = rights := by rw [IntKind.wrap_i64]; omega
            have hM : shareS n q f env (k : Nat) gn tw rights = addS n q f ⟨0, tw, x, o, rights, (k : Nat)⟩ := by have h := HC.out; rw [if_neg (by omega), if_pos hb] at h; exact h
            have hOKk := HOK.out
            have HPT := hide' (fun w (h : TAt w T B n q f) => put31 T B n q f ⟨0, tw, x, o, rights, (k : Nat)⟩ w h (.inr ⟨by show 0 ≤ tw; omega, hOKk.1, hOKk.2.1, hOKk.2.2.1, by show 1 ≤ rights; omega, by show rights ≤ 7; omega, by show (-1 : Int) ≤ (k : Nat); omega, by show ((k : Nat) : Int) < (n : Nat); have := HK.out; omega⟩) (by show 0 ≤ tw; omega) (fun j hj => by have hj' : ((k : Nat) : Int) = (j : Nat) := hj; have hkj : k = j := (by omega); subst hkj; exact ⟨HK.out, HU.out⟩))
            have hpk : ptrOf B ((k : Nat) : Int) = .pointer (some ⟨B, k * 6, none⟩) := by unfold ptrOf; rw [if_neg (by omega), Int.toNat_natCast]
            simp only [hpk] at HPT
            have HKP : Hid (∀ w', TAt w' T B n q (addS n q f ⟨0, tw, x, o, rights, (k : Nat)⟩).1 → w'.cell? ⟨B, k * 6 + 2, none⟩ = some (.int .i64 x) ∧ w'.cell? ⟨B, k * 6 + 3, none⟩ = some (.int .i64 o)) := fun w' h => by
              have hk1 : (addS n q f ⟨0, tw, x, o, rights, (k : Nat)⟩).1 k = f k := by
                unfold addS
                split
                · rfl
                · split
                  · rename_i hlt
                    show putF f _ _ k = f k
                    unfold putF
                    rw [if_neg (fun e => by have h1 := (freeIx_spec f n).2.2 hlt; rw [← e] at h1; have := HU.out; omega)]
                  · rfl
              have ha := h.at HK.out
              rw [hk1] at ha
              have hq := HXO.out
              rw [hq.1, hq.2]
              exact ⟨ha.c2, ha.c3⟩
            rw [← hM] at HPT HKP
            obtain ⟨y2, hy2⟩ : ∃ y, y = shareS n q f env (k : Nat) gn tw rights := ⟨_, rfl⟩
            rw [← hy2] at HPT HKP ⊢
            clear hy2 hM hpk hOKk
            clear HC hb hhr h4 hok
            obtain ⟨b0, b1, _, _⟩ := HCB.out
            simp only at b0 b1
            go_enter Try.func14, Try.ntmps14
            go_upto_region 1 with fail
            rw [← hW0, ← hbc]
            rw [← hbn]
            clear hW0 hbc hbn
            go_wp2_with fail
            refine (HN4.out _ HT.out).mono ?_
            rintro _ w1 ⟨rfl, hs1⟩
            have HS1 := hide' (HS0.out.trans hs1)
            have HT1 := hide' (HT.out.keep hs1)
            have HBN1 := hide' (HBN.out.keep hs1)
            clear hs1 HN4 HCB HBN b0 b1
            obtain ⟨m0, m1, m2, m3⟩ := HBN1.out
            simp only at m0 m1
            obtain ⟨x2, x3, x4⟩ := HPX.out _ HT1.out
            go_wp2_with fail
            refine (rights30 _ _).mono ?_
            rintro _ w2 ⟨rfl, hs2⟩
            rw [D4.out]
            have HS2 := hide' (HS1.out.trans hs2)
            have HT2 := hide' (HT1.out.keep hs2)
            have HBN2 := hide' (HBN1.out.keep hs2)
            clear hs2 m0 m1 m2 m3 x2 x3 x4 HS1 HT1 HBN1
            obtain ⟨m0, m1, m2, m3⟩ := HBN2.out
            simp only at m0 m1
            obtain ⟨x2, x3, x4⟩ := HPX.out _ HT2.out
            go_upto_region 10 with fail
            have hS : (fun w' => w'.cell? ⟨B, k * 6 + 2, none⟩ = some (.int .i64 x) ∧ w'.cell? ⟨B, k * 6 + 3, none⟩ = some (.int .i64 o)) w2.drew := ⟨keep_cell (Stay.refl _ _).drew x2, keep_cell (Stay.refl _ _).drew x3⟩
            have HNE : Hid (¬ bn = B) := by have := HNB.out; show ¬ bn = B; omega
            clear m0 m1 m2 m3 x2 x3 x4
            refine wp_region_mix (fun w' => w'.cell? ⟨B, k * 6 + 2, none⟩ = some (.int .i64 x) ∧ w'.cell? ⟨B, k * 6 + 3, none⟩ = some (.int .i64 o)) [(0, true), (1, true), (2, true), (3, true), (4, true), (5, true), (6, true), (7, true), (8, true), (9, true), (10, true), (11, true), (12, true), (13, false), (14, true), (15, true), (16, false), (17, true)] (by kernel_rfl) (by kernel_rfl) (fun _ d _ _ _ h => by cases d <;> exact h) hS ?_
            refine mix_begin (fun K0 hK0 => ?_)
            refine mix_take hK0 (some 52) (.move (.tmp 0)) 24 _ (by kernel_rfl) (by kernel_rfl) (fun w' hS' => by (obtain ⟨g2, g3⟩ := hS'; simp only [opr]; go_simp; try with_reducible rfl)) (fun K1 hK1 => ?_)
            clear hK0 K0
            simp only [Act.put, List.setIfInBounds_toArray, List.set_cons_zero, List.set_cons_succ]
            refine mix_take hK1 (some 53) (.move (.tmp 3)) 3 _ (by kernel_rfl) (by kernel_rfl) (fun w' hS' => by (obtain ⟨g2, g3⟩ := hS'; simp only [opr]; go_simp; try with_reducible rfl)) (fun K2 hK2 => ?_)
            clear hK1 K1
            simp only [Act.put, List.setIfInBounds_toArray, List.set_cons_zero, List.set_cons_succ]
            refine mix_take hK2 (some 54) (.move (.tmp 12)) 62 _ (by kernel_rfl) (by kernel_rfl) (fun w' hS' => by (obtain ⟨g2, g3⟩ := hS'; simp only [opr]; go_simp; try with_reducible rfl)) (fun K3 hK3 => ?_)
            clear hK2 K2
            simp only [Act.put, List.setIfInBounds_toArray, List.set_cons_zero, List.set_cons_succ]
            refine mix_take hK3 (some 55) (.nilCheck (.tmp 54)) 0 _ (by kernel_rfl) (by kernel_rfl) (fun w' hS' => by (obtain ⟨g2, g3⟩ := hS'; simp only [opr]; go_simp; try with_reducible rfl)) (fun K4 hK4 => ?_)
            clear hK3 K3
            simp only [Act.put, List.setIfInBounds_toArray, List.set_cons_zero, List.set_cons_succ]
            refine mix_take hK4 (some 56) (.fieldAddr 64 (.tmp 55) 2) 0 _ (by kernel_rfl) (by kernel_rfl) (fun w' hS' => by (obtain ⟨g2, g3⟩ := hS'; simp only [opr]; go_simp; try with_reducible rfl)) (fun K5 hK5 => ?_)
            clear hK4 K4
            simp only [Act.put, List.setIfInBounds_toArray, List.set_cons_zero, List.set_cons_succ]
            refine mix_take hK5 (some 57) (.load 3 (.tmp 56)) 3 _ (by kernel_rfl) (by kernel_rfl) (fun w' hS' => by (obtain ⟨g2, g3⟩ := hS'; simp only [opr]; go_simp; try with_reducible rfl)) (fun K6 hK6 => ?_)
            clear hK5 K5
            simp only [Act.put, List.setIfInBounds_toArray, List.set_cons_zero, List.set_cons_succ]
            refine mix_take hK6 (some 58) (.move (.tmp 12)) 62 _ (by kernel_rfl) (by kernel_rfl) (fun w' hS' => by (obtain ⟨g2, g3⟩ := hS'; simp only [opr]; go_simp; try with_reducible rfl)) (fun K7 hK7 => ?_)
            clear hK6 K6
            simp only [Act.put, List.setIfInBounds_toArray, List.set_cons_zero, List.set_cons_succ]
            refine mix_take hK7 (some 59) (.nilCheck (.tmp 58)) 0 _ (by kernel_rfl) (by kernel_rfl) (fun w' hS' => by (obtain ⟨g2, g3⟩ := hS'; simp only [opr]; go_simp; try with_reducible rfl)) (fun K8 hK8 => ?_)
            clear hK7 K7
            simp only [Act.put, List.setIfInBounds_toArray, List.set_cons_zero, List.set_cons_succ]
            refine mix_take hK8 (some 60) (.fieldAddr 64 (.tmp 59) 3) 0 _ (by kernel_rfl) (by kernel_rfl) (fun w' hS' => by (obtain ⟨g2, g3⟩ := hS'; simp only [opr]; go_simp; try with_reducible rfl)) (fun K9 hK9 => ?_)
            clear hK8 K8
            simp only [Act.put, List.setIfInBounds_toArray, List.set_cons_zero, List.set_cons_succ]
            refine mix_take hK9 (some 61) (.load 3 (.tmp 60)) 3 _ (by kernel_rfl) (by kernel_rfl) (fun w' hS' => by (obtain ⟨g2, g3⟩ := hS'; simp only [opr]; go_simp; try with_reducible rfl)) (fun K10 hK10 => ?_)
            clear hK9 K9
            simp only [Act.put, List.setIfInBounds_toArray, List.set_cons_zero, List.set_cons_succ]
            refine mix_take hK10 (some 62) (.move (.tmp 4)) 3 _ (by kernel_rfl) (by kernel_rfl) (fun w' hS' => by (obtain ⟨g2, g3⟩ := hS'; simp only [opr]; go_simp; try with_reducible rfl)) (fun K11 hK11 => ?_)
            clear hK10 K10
            simp only [Act.put, List.setIfInBounds_toArray, List.set_cons_zero, List.set_cons_succ]
            refine mix_take hK11 (some 63) (.move (.tmp 12)) 62 _ (by kernel_rfl) (by kernel_rfl) (fun w' hS' => by (obtain ⟨g2, g3⟩ := hS'; simp only [opr]; go_simp; try with_reducible rfl)) (fun K12 hK12 => ?_)
            clear hK11 K11
            simp only [Act.put, List.setIfInBounds_toArray, List.set_cons_zero, List.set_cons_succ]
            refine mix_take hK12 (some 64) (.build 64 #[(1, .tmp 53), (2, .tmp 57), (3, .tmp 61), (4, .tmp 62), (5, .tmp 63)]) 64 _ (by kernel_rfl) (by kernel_rfl) (fun w' hS' => by (obtain ⟨g2, g3⟩ := hS'; simp only [opr]; go_simp; try with_reducible rfl)) (fun K13 hK13 => ?_)
            clear hK12 K12
            simp only [Act.put, List.setIfInBounds_toArray, List.set_cons_zero, List.set_cons_succ]
            refine mix_call hK13 (some 65) 31 #[.tmp 52, .tmp 64] #[24, 64] 37 _ (by kernel_rfl) (by kernel_rfl) (enters Try.func31 (by kernel_rfl) (by kernel_rfl)) (by go_simp; try with_reducible rfl) (fun K14 hK14 => ?_)
            clear hK13 K13
            refine ((HPT.out _ (HT2.out.keep (Stay.refl _ _).drew))).mono ?_
            rintro e wm1 ⟨rfl, hs1, ht1⟩
            have hS1 : _ := (show (fun w' => w'.cell? ⟨B, k * 6 + 2, none⟩ = some (.int .i64 x) ∧ w'.cell? ⟨B, k * 6 + 3, none⟩ = some (.int .i64 o)) wm1 from HKP.out _ ht1)
            refine ⟨_, rfl, hS1, ?_⟩
            have HSM := hide' hs1
            have HTM := hide' ht1
            clear hs1
            simp only [Act.put, List.setIfInBounds_toArray, List.set_cons_zero, List.set_cons_succ]
            refine mix_take hK14 (some 66) (.extract (.tmp 65) 0) 30 _ (by kernel_rfl) (by kernel_rfl) (fun w' hS' => by (obtain ⟨g2, g3⟩ := hS'; simp only [opr]; go_simp; try with_reducible rfl)) (fun K15 hK15 => ?_)
            clear hK14 K14
            simp only [Act.put, List.setIfInBounds_toArray, List.set_cons_zero, List.set_cons_succ]
            refine mix_take hK15 (some 67) (.extract (.tmp 65) 1) 36 _ (by kernel_rfl) (by kernel_rfl) (fun w' hS' => by (obtain ⟨g2, g3⟩ := hS'; simp only [opr]; go_simp; try with_reducible rfl)) (fun K16 hK16 => ?_)
            clear hK15 K15
            simp only [Act.put, List.setIfInBounds_toArray, List.set_cons_zero, List.set_cons_succ]
            refine mix_chain hK16 (fun K16c hK16c => ?_)
            clear hK16 K16
            refine op_plain none (.store 30 (.tmp 10) (.tmp 66)) 0 (by kernel_rfl) (by kernel_rfl) ?_
            have HN5 := hide' (((HBN2.out.keep (Stay.refl _ _).drew)).stay HSM.out HNE.out)
            obtain ⟨m0, m1, m2, m3⟩ := HN5.out
            simp only at m0 m1
            go_wp2
            clear m0 m1 m2 m3
            generalize hWr : World.setCell (World.setCell _ _ _) _ _ = W5
            have HN6 : Hid (NBox W5 bn ⟨y2.2.1, y2.2.2.1⟩) := by rw [← hWr]; exact HN5.out.put ⟨y2.2.1, y2.2.2.1⟩
            have HST5 : Hid (Stay (fun j => j = bn) wm1 W5) := by rw [← hWr]; exact ((Stay.refl (fun j => j = bn) _).setCell (p := ⟨bn, 0, none⟩) rfl _).setCell (p := ⟨bn, 1, none⟩) rfl _
            have HT5 : Hid (TAt W5 T B n q y2.1) := HTM.out.stay HST5.out (by have := HNB.out; omega) (by have := HNB.out; omega)
            clear hWr
            have hSr : (fun w' => w'.cell? ⟨B, k * 6 + 2, none⟩ = some (.int .i64 x) ∧ w'.cell? ⟨B, k * 6 + 3, none⟩ = some (.int .i64 o)) W5 := HKP.out _ HT5.out
            refine hK16c _ _ hSr (mix_begin fun K17 hK17 => ?_)
            clear hK16c K16c
            try simp only [Act.put, List.setIfInBounds_toArray, List.set_cons_zero, List.set_cons_succ]
            refine mix_take hK17 (some 11) (.assign (.tmp 67)) 36 _ (by kernel_rfl) (by kernel_rfl) (fun w' hS' => by (simp only [opr]; go_simp; try with_reducible rfl)) (fun K18 hK18 => ?_)
            clear hK17 K17
            simp only [Act.put, List.setIfInBounds_toArray, List.set_cons_zero, List.set_cons_succ]
            refine hK18 _ _ (mix_nil ?_)
            clear hK18 K18
            clear hS hSr
            go_wp2
            refine bodyPost_ret (results_ct rfl _ _ _ ⟨y2.2.1, y2.2.2.1⟩ _ rfl rfl HN6.out) rfl ⟨rfl, ?_, HT5.out⟩
            have := HNB.out
            exact ((HS2.out.mono (T := fun j => bn = j ∨ j = B) (fun _ _ h => h.elim)).trans ((((Stay.refl _ _).drew : Stay (fun _ => False) w2 w2.drew).mono (T := fun j => bn = j ∨ j = B) (fun _ _ h => h.elim)).trans ((HSM.out.mono (T := fun j => bn = j ∨ j = B) (fun _ _ h => .inr h)).trans (HST5.out.mono (T := fun j => bn = j ∨ j = B) (fun j _ e => .inl e.symm))))).mono (fun j hj h => by omega)
        · have HM : Hid (shareS n q f env (k : Nat) gn tw rights = (f, 0, 0, 1)) := by have h := HC.out; rw [if_pos (by omega)] at h; exact h
          have D4 := hide' (decide_eq_false h4)
          clear HC h4 hok
          obtain ⟨b0, b1, _, _⟩ := HCB.out
          simp only at b0 b1
          go_enter Try.func14, Try.ntmps14
          go_upto_region 1 with fail
          rw [← hW0, ← hbc]
          rw [← hbn]
          clear hW0 hbc hbn
          go_wp2_with fail
          refine (HN4.out _ HT.out).mono ?_
          rintro _ w1 ⟨rfl, hs1⟩
          have HS1 := hide' (HS0.out.trans hs1)
          have HT1 := hide' (HT.out.keep hs1)
          have HBN1 := hide' (HBN.out.keep hs1)
          clear hs1 HN4 HCB HBN b0 b1
          obtain ⟨m0, m1, m2, m3⟩ := HBN1.out
          simp only at m0 m1
          obtain ⟨x2, x3, x4⟩ := HPX.out _ HT1.out
          go_wp2_with fail
          refine (rights30 _ _).mono ?_
          rintro _ w2 ⟨rfl, hs2⟩
          rw [D4.out]
          have HS2 := hide' (HS1.out.trans hs2)
          have HT2 := hide' (HT1.out.keep hs2)
          have HBN2 := hide' (HBN1.out.keep hs2)
          clear hs2 m0 m1 m2 m3 x2 x3 x4 HS1 HT1 HBN1
          obtain ⟨m0, m1, m2, m3⟩ := HBN2.out
          simp only at m0 m1
          obtain ⟨x2, x3, x4⟩ := HPX.out _ HT2.out
          go_wp2
          clear m0 m1 m2 m3
          generalize hWr : World.setCell (World.setCell _ _ _) _ _ = W5
          have HN6 : Hid (NBox W5 bn ⟨0, 0⟩) := by rw [← hWr]; exact HBN2.out.put ⟨0, 0⟩
          have hst5 : Stay (fun j => j = bn) w2 W5 := by rw [← hWr]; exact ((Stay.refl (fun j => j = bn) _).setCell (p := ⟨bn, 0, none⟩) rfl _).setCell (p := ⟨bn, 1, none⟩) rfl _
          refine bodyPost_ret (results_ct rfl _ _ _ ⟨0, 0⟩ _ rfl rfl HN6.out) rfl ?_
          rw [HM.out]
          refine ⟨rfl, ?_, ?_⟩
          · have := HNB.out
            exact ((HS2.out.mono (T := fun j => bn = j) (fun _ _ h => h.elim)).trans (hst5.mono (T := fun j => bn = j) (fun j _ e => e.symm))).mono (fun j hj h => by omega)
          · have := HNB.out
            exact HT2.out.stay hst5 (by omega) (by omega)
  · have h2 := ownE_rights n f env sl gn 2
    rw [if_neg he] at h2
    have HM : Hid (shareS n q f env sl gn tw rights = (f, 0, 0, ownE n f env sl gn 0)) := by
      show shareS n q f env sl gn tw rights = _
      unfold shareS
      rw [h2, if_neg he]
    obtain ⟨e, hee⟩ : ∃ e, e = ownE n f env sl gn 0 := ⟨_, rfl⟩
    rw [← hee] at HN4 HM he
    have hen : (e != 0) = true := bne_iff_ne.2 he
    rw [show nptr B e sl = .pointer none from if_neg he] at HN4
    clear hee ht h2
    obtain ⟨b0, b1, _, _⟩ := HCB.out
    simp only at b0 b1
    go_enter Try.func14, Try.ntmps14
    go_upto_region 1 with fail
    rw [← hW0, ← hbc]
    rw [← hbn]
    clear hW0 hbc hbn
    go_wp2_with fail
    refine (HN4.out _ HT.out).mono ?_
    rintro _ w1 ⟨rfl, hs1⟩
    have HS1 := hide' (HS0.out.trans hs1)
    have HT1 := hide' (HT.out.keep hs1)
    have HBN1 := hide' (HBN.out.keep hs1)
    clear hs1 HN4 HCB HBN b0 b1
    obtain ⟨m0, m1, m2, m3⟩ := HBN1.out
    simp only at m0 m1
    go_wp2
    clear m0 m1 m2 m3
    generalize hWr : World.setCell (World.setCell _ _ _) _ _ = W5
    have HN6 : Hid (NBox W5 bn ⟨0, 0⟩) := by rw [← hWr]; exact HBN1.out.put ⟨0, 0⟩
    have hst5 : Stay (fun j => j = bn) w1 W5 := by rw [← hWr]; exact ((Stay.refl (fun j => j = bn) _).setCell (p := ⟨bn, 0, none⟩) rfl _).setCell (p := ⟨bn, 1, none⟩) rfl _
    refine bodyPost_ret (results_ct rfl _ _ _ ⟨0, 0⟩ _ rfl rfl HN6.out) rfl ?_
    rw [HM.out]
    refine ⟨rfl, ?_, ?_⟩
    · have := HNB.out
      exact ((HS1.out.mono (T := fun j => bn = j) (fun _ _ h => h.elim)).trans (hst5.mono (T := fun j => bn = j) (fun j _ e => e.symm))).mono (fun j hj h => by omega)
    · have := HNB.out
      exact HT1.out.stay hst5 (by omega) (by omega)

end Go.Proofs.Ytlhfpnfiamgmlaa
