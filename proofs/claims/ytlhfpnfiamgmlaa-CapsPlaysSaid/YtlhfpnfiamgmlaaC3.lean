/-
  The document's Mint and Share: walked. No conditions.
-/
import Derived.Test.YtlhfpnfiamgmlaaC2
namespace Go.Proofs.Ytlhfpnfiamgmlaa
open Go.RowKit

theorem extract3_0 (x y z : Value) (w : World) : (Instr.extract (.tuple #[x, y, z]) 0).run Try.prog w = .ok x w := rfl
theorem extract3_1 (x y z : Value) (w : World) : (Instr.extract (.tuple #[x, y, z]) 1).run Try.prog w = .ok y w := rfl
theorem extract3_2 (x y z : Value) (w : World) : (Instr.extract (.tuple #[x, y, z]) 2).run Try.prog w = .ok z w := rfl

attribute [local go_sem] extract3_0 extract3_1 extract3_2

def badArgs (env kind obj rights : Int) : Prop := env < 0 ∨ obj < 0 ∨ kind < 1 ∨ 3 < kind ∨ rights < 1 ∨ 7 < rights

instance (env kind obj rights : Int) : Decidable (badArgs env kind obj rights) := by unfold badArgs; infer_instance

/-- Mint, by the document. -/
def mintS (n : Nat) (q : Int) (f : Nat → Sl) (env kind obj rights : Int) : (Nat → Sl) × Int × Int × Int := if badArgs env kind obj rights then (f, 0, 0, 1) else addS n q f ⟨0, env, kind, obj, rights, -1⟩

/-- Share, by the document. -/
def shareS (n : Nat) (q : Int) (f : Nat → Sl) (env sl gn tw rights : Int) : (Nat → Sl) × Int × Int × Int :=
  if ownE n f env sl gn 2 = 0 then (if tw < 0 ∨ rights < 1 ∨ 7 < rights then (f, 0, 0, 1) else if hasB (f sl.toNat).rights rights = true then addS n q f ⟨0, tw, (f sl.toNat).kind, (f sl.toNat).obj, rights, sl⟩ else (f, 0, 0, 8)) else (f, 0, 0, ownE n f env sl gn 2)

set_option maxHeartbeats 1000000 in
theorem mint11 (g n cap : Nat) (q : Int) (f : Nat → Sl) (env kind obj rights : Int) (w : World) (hr : Rd w g n f) (hg : g < w.heap.size) (hn : n ≤ 4096) : Calls Try.prog 11 #[.slice (some ⟨g, 0, none⟩) n cap, .int .i64 q, .int .i64 env, .int .i64 kind, .int .i64 obj, .int .i64 rights] w (TOut n g (mintS n q f env kind obj rights) w) := by
  obtain ⟨W0, hW0⟩ : ∃ W, W = w.alloc (.cells #[.int .i64 0, .int .i64 0] 30) := ⟨_, rfl⟩
  obtain ⟨bn, hbn⟩ : ∃ b, b = w.heap.size := ⟨_, rfl⟩
  have hs0 : Stay (fun _ => False) w W0 := by rw [hW0]; exact (Stay.refl _ _).alloc _
  have HS := hide' hs0
  have HBN : Hid (NBox W0 bn ⟨0, 0⟩) := by rw [hW0]; exact NBox.new ⟨0, 0⟩ hbn.symm
  have HRD := hide' (hr.keep hs0)
  have HNB : Hid (bn = w.heap.size ∧ g < w.heap.size ∧ n ≤ 4096 ∧ g < W0.heap.size ∧ bn < W0.heap.size) := ⟨hbn, hg, hn, Nat.lt_of_lt_of_le hg hs0.size, HBN.out.lt⟩
  obtain ⟨y, hy⟩ : ∃ y, y = mintS n q f env kind obj rights := ⟨_, rfl⟩
  rw [← hy]
  have HY := hide' hy
  clear hs0 hr hg hn hy
  go_enter Try.func11, Try.ntmps11
  go_upto_region 1 with fail
  rw [← hW0, ← hbn]
  clear hW0 hbn
  by_cases h0 : env < 0
  · have hyy := HY.out
    unfold mintS at hyy
    rw [if_pos (.inl h0)] at hyy
    subst hyy
    clear HY
    obtain ⟨m0, m1, m2, m3⟩ := HBN.out
    simp only at m0 m1
    go_wp2
    refine bodyPost_ret (results_tct rfl _ _ _ ⟨0, 0⟩ _ _ rfl rfl rfl (HBN.out.put ⟨0, 0⟩)) rfl ⟨g, cap, rfl, ?_, ?_, .inl rfl⟩
    · have := HNB.out
      exact NBox.stay_put HS.out (by omega) _ _
    · have := HNB.out
      exact HRD.out.stay (((Stay.refl (fun k => k = bn) W0).setCell (p := ⟨bn, 0, none⟩) rfl _).setCell (p := ⟨bn, 1, none⟩) rfl _) (by omega)
  have d0 : decide (env < 0) = false := decide_eq_false h0
  by_cases h1 : obj < 0
  · have hyy := HY.out
    unfold mintS at hyy
    rw [if_pos (.inr (.inl h1))] at hyy
    subst hyy
    clear HY
    obtain ⟨m0, m1, m2, m3⟩ := HBN.out
    simp only at m0 m1
    go_wp2
    refine bodyPost_ret (results_tct rfl _ _ _ ⟨0, 0⟩ _ _ rfl rfl rfl (HBN.out.put ⟨0, 0⟩)) rfl ⟨g, cap, rfl, ?_, ?_, .inl rfl⟩
    · have := HNB.out
      exact NBox.stay_put HS.out (by omega) _ _
    · have := HNB.out
      exact HRD.out.stay (((Stay.refl (fun k => k = bn) W0).setCell (p := ⟨bn, 0, none⟩) rfl _).setCell (p := ⟨bn, 1, none⟩) rfl _) (by omega)
  have d1 : decide (obj < 0) = false := decide_eq_false h1
  by_cases h2 : kind < 1
  · have hyy := HY.out
    unfold mintS at hyy
    rw [if_pos (.inr (.inr (.inl h2)))] at hyy
    subst hyy
    clear HY
    obtain ⟨m0, m1, m2, m3⟩ := HBN.out
    simp only at m0 m1
    go_wp2
    refine bodyPost_ret (results_tct rfl _ _ _ ⟨0, 0⟩ _ _ rfl rfl rfl (HBN.out.put ⟨0, 0⟩)) rfl ⟨g, cap, rfl, ?_, ?_, .inl rfl⟩
    · have := HNB.out
      exact NBox.stay_put HS.out (by omega) _ _
    · have := HNB.out
      exact HRD.out.stay (((Stay.refl (fun k => k = bn) W0).setCell (p := ⟨bn, 0, none⟩) rfl _).setCell (p := ⟨bn, 1, none⟩) rfl _) (by omega)
  have d2 : decide (kind < 1) = false := decide_eq_false h2
  by_cases h3 : 3 < kind
  · have hyy := HY.out
    unfold mintS at hyy
    rw [if_pos (.inr (.inr (.inr (.inl h3))))] at hyy
    subst hyy
    clear HY
    obtain ⟨m0, m1, m2, m3⟩ := HBN.out
    simp only at m0 m1
    go_wp2
    refine bodyPost_ret (results_tct rfl _ _ _ ⟨0, 0⟩ _ _ rfl rfl rfl (HBN.out.put ⟨0, 0⟩)) rfl ⟨g, cap, rfl, ?_, ?_, .inl rfl⟩
    · have := HNB.out
      exact NBox.stay_put HS.out (by omega) _ _
    · have := HNB.out
      exact HRD.out.stay (((Stay.refl (fun k => k = bn) W0).setCell (p := ⟨bn, 0, none⟩) rfl _).setCell (p := ⟨bn, 1, none⟩) rfl _) (by omega)
  have d3 : decide (3 < kind) = false := decide_eq_false h3
  by_cases h4 : rights < 1
  · have hyy := HY.out
    unfold mintS at hyy
    rw [if_pos (.inr (.inr (.inr (.inr (.inl h4)))))] at hyy
    subst hyy
    clear HY
    obtain ⟨m0, m1, m2, m3⟩ := HBN.out
    simp only at m0 m1
    go_wp2
    refine bodyPost_ret (results_tct rfl _ _ _ ⟨0, 0⟩ _ _ rfl rfl rfl (HBN.out.put ⟨0, 0⟩)) rfl ⟨g, cap, rfl, ?_, ?_, .inl rfl⟩
    · have := HNB.out
      exact NBox.stay_put HS.out (by omega) _ _
    · have := HNB.out
      exact HRD.out.stay (((Stay.refl (fun k => k = bn) W0).setCell (p := ⟨bn, 0, none⟩) rfl _).setCell (p := ⟨bn, 1, none⟩) rfl _) (by omega)
  have d4 : decide (rights < 1) = false := decide_eq_false h4
  by_cases h5 : 7 < rights
  · have hyy := HY.out
    unfold mintS at hyy
    rw [if_pos (.inr (.inr (.inr (.inr (.inr h5)))))] at hyy
    subst hyy
    clear HY
    obtain ⟨m0, m1, m2, m3⟩ := HBN.out
    simp only at m0 m1
    go_wp2
    refine bodyPost_ret (results_tct rfl _ _ _ ⟨0, 0⟩ _ _ rfl rfl rfl (HBN.out.put ⟨0, 0⟩)) rfl ⟨g, cap, rfl, ?_, ?_, .inl rfl⟩
    · have := HNB.out
      exact NBox.stay_put HS.out (by omega) _ _
    · have := HNB.out
      exact HRD.out.stay (((Stay.refl (fun k => k = bn) W0).setCell (p := ⟨bn, 0, none⟩) rfl _).setCell (p := ⟨bn, 1, none⟩) rfl _) (by omega)
  have d5 : decide (7 < rights) = false := decide_eq_false h5
  have hyy := HY.out
  unfold mintS at hyy
  rw [if_neg (by unfold badArgs; omega)] at hyy
  have HYY := hide' hyy
  have HAD := hide' (add28 g n cap q f ⟨0, env, kind, obj, rights, -1⟩ W0 HRD.out HNB.out.2.2.2.1 HNB.out.2.2.1)
  rw [← HYY.out] at HAD
  clear hyy HY
  go_wp2_with fail
  refine HAD.out.mono ?_
  rintro _ w2 ⟨g', cap', rfl, hs, hrd, hg'⟩
  have HS2 := hide' (HS.out.trans hs)
  have HN2 := hide' (HBN.out.keep hs)
  have HR2 := hide' hrd
  have HG2 := hide' hg'
  have HG3 := hide' (show W0.heap.size ≤ w2.heap.size ∧ ∀ i, i < n → g' < w2.heap.size from ⟨hs.size, fun i hi => World.block_lt_of_cell? _ _ (hrd i hi).c0⟩)
  clear hs hrd hg' HS HBN HRD HAD
  obtain ⟨m0, m1, m2, m3⟩ := HN2.out
  simp only at m0 m1
  go_wp2
  refine bodyPost_ret (results_tct rfl _ _ _ ⟨y.2.1, y.2.2.1⟩ _ _ rfl rfl rfl (HN2.out.put ⟨y.2.1, y.2.2.1⟩)) rfl ⟨g', cap', rfl, ?_, ?_, ?_⟩
  · have := HNB.out
    exact NBox.stay_put HS2.out (by omega) _ _
  · have h1 := HNB.out
    have h2 := HG2.out
    exact HR2.out.stay (((Stay.refl (fun k => k = bn) w2).setCell (p := ⟨bn, 0, none⟩) rfl _).setCell (p := ⟨bn, 1, none⟩) rfl _) (by rcases h2 with h2 | h2 <;> omega)
  · have h1 := HNB.out
    have h2 := HG2.out
    rcases h2 with h2 | h2
    · exact .inl h2
    · exact .inr (by omega)

set_option maxHeartbeats 1000000 in
theorem share13 (g n cap : Nat) (q : Int) (f : Nat → Sl) (env sl gn tw rights : Int) (w : World) (hr : Rd w g n f) (hg : g < w.heap.size) (hn : n ≤ 4096) (hsl : I64 sl) : Calls Try.prog 13 #[.slice (some ⟨g, 0, none⟩) n cap, .int .i64 q, .int .i64 env, .agg #[.int .i64 sl, .int .i64 gn], .int .i64 tw, .int .i64 rights] w (TOut n g (shareS n q f env sl gn tw rights) w) := by
  obtain ⟨bm, hbm⟩ : ∃ b, b = w.heap.size := ⟨_, rfl⟩
  obtain ⟨bn, hbn⟩ : ∃ b, b = bm + 1 := ⟨_, rfl⟩
  obtain ⟨W0, hW0⟩ : ∃ W, W = (w.alloc (.cells #[.int .i64 sl, .int .i64 gn] 30)).alloc (.cells #[.int .i64 0, .int .i64 0] 30) := ⟨_, rfl⟩
  have hs0 : Stay (fun _ => False) w W0 := by rw [hW0]; exact ((Stay.refl _ _).alloc _).alloc _
  have HS := hide' hs0
  have HBM : Hid (NBox W0 bm ⟨sl, gn⟩) := by rw [hW0]; exact (NBox.new ⟨sl, gn⟩ hbm.symm).alloc _
  have HBN : Hid (NBox W0 bn ⟨0, 0⟩) := by rw [hW0]; exact NBox.new ⟨0, 0⟩ (by rw [hbn, hbm]; simp)
  have HRD := hide' (hr.keep hs0)
  have HOW := hide' (fun w h => own32 g n cap f env sl gn 2 w h hsl)
  obtain ⟨y, hy⟩ : ∃ y, y = shareS n q f env sl gn tw rights := ⟨_, rfl⟩
  rw [← hy]
  unfold shareS at hy
  obtain ⟨e, he⟩ : ∃ e, e = ownE n f env sl gn 2 := ⟨_, rfl⟩
  rw [← he] at hy HOW
  have HY := hide' hy
  have HE := hide' he
  have HZ0 : Hid (bn < W0.heap.size) := HBN.out.lt
  have HNB0 : Hid (bm = w.heap.size ∧ bn = w.heap.size + 1 ∧ g < w.heap.size ∧ n ≤ 4096) := ⟨hbm, by omega, hg, hn⟩
  clear hs0 hr hg hn hsl hy he
  obtain ⟨b0, b1, _, _⟩ := HBM.out
  simp only at b0 b1
  go_enter Try.func13, Try.ntmps13
  go_upto_region 1 with fail
  rw [← hW0, ← hbm, ← hbn]
  clear hW0 hbm hbn
  go_wp2_with fail
  refine (HOW.out _ HRD.out).mono ?_
  rintro _ w2 ⟨rfl, hs⟩
  have HS2 := hide' (HS.out.trans hs)
  have HM2 := hide' (HBM.out.keep hs)
  have HN2 := hide' (HBN.out.keep hs)
  have HR2 := hide' (HRD.out.keep hs)
  have HNB : Hid (bn = w.heap.size + 1 ∧ g < w.heap.size ∧ n ≤ 4096 ∧ w.heap.size + 1 < w2.heap.size) := ⟨HNB0.out.2.1, HNB0.out.2.2.1, HNB0.out.2.2.2, by have := HNB0.out; have := HZ0.out; have := hs.size; omega⟩
  clear hs HS HBM HBN HRD HOW HZ0 HNB0 b0 b1
  by_cases h0 : e = 0
  · subst h0
    obtain ⟨k, rfl, hk, _, _, _, _⟩ := ownE_zero HE.out.symm
    have hy := HY.out
    rw [if_pos rfl, Int.toNat_natCast] at hy
    have kn : (k : Int) < (n : Nat) := by omega
    obtain ⟨p, hp⟩ : ∃ p, p = f k := ⟨_, rfl⟩
    obtain ⟨r0, r1, r2, r3, r4, r5⟩ := HR2.out k hk
    rw [← hp] at hy r0 r1 r2 r3 r4 r5
    have HYY := hide' hy
    obtain ⟨b0, b1, _, _⟩ := HM2.out
    simp only at b0 b1
    clear hy hp HY HE
    go_upto_region 5 with fail
    obtain ⟨bp, hbp⟩ : ∃ b, b = w2.heap.size := ⟨_, rfl⟩
    obtain ⟨w3, hw3⟩ : ∃ W, W = w2.alloc (.cells #[.int .i64 p.gen, .int .i64 p.env, .int .i64 p.kind, .int .i64 p.obj, .int .i64 p.rights, .int .i64 p.of] 70) := ⟨_, rfl⟩
    have hs3 : Stay (fun _ => False) w2 w3 := by rw [hw3]; exact (Stay.refl _ _).alloc _
    have HP3 : Hid (SBox w3 bp p) := by rw [hw3]; exact SBox.new p hbp.symm
    have HS3 := hide' (HS2.out.trans hs3)
    have HM3 := hide' (HM2.out.keep hs3)
    have HN3 := hide' (HN2.out.keep hs3)
    have HR3 := hide' (HR2.out.keep hs3)
    have HNB' : Hid (bn = w.heap.size + 1 ∧ g < w.heap.size ∧ n ≤ 4096 ∧ w.heap.size + 1 < w3.heap.size) := ⟨HNB.out.1, HNB.out.2.1, HNB.out.2.2.1, by have := HNB.out; have := hs3.size; omega⟩
    rw [← hw3, ← hbp]
    clear hw3 hbp hs3 HS2 HM2 HN2 HR2 HNB r0 r1 r2 r3 r4 r5 b0 b1
    have HNB := HNB'
    clear HNB'
    by_cases h0 : tw < 0
    · have hyy := HYY.out
      rw [if_pos (.inl h0)] at hyy
      subst hyy
      clear HYY
      obtain ⟨m0, m1, m2, m3⟩ := HN3.out
      simp only at m0 m1
      go_wp2
      refine bodyPost_ret (results_tct rfl _ _ _ ⟨0, 0⟩ _ _ rfl rfl rfl (HN3.out.put ⟨0, 0⟩)) rfl ⟨g, cap, rfl, ?_, ?_, .inl rfl⟩
      · have := HNB.out
        exact NBox.stay_put HS3.out (by omega) _ _
      · have := HNB.out
        exact HR3.out.stay (((Stay.refl (fun k => k = bn) w3).setCell (p := ⟨bn, 0, none⟩) rfl _).setCell (p := ⟨bn, 1, none⟩) rfl _) (by omega)
    have d0 : decide (tw < 0) = false := decide_eq_false h0
    by_cases h1 : rights < 1
    · have hyy := HYY.out
      rw [if_pos (.inr (.inl h1))] at hyy
      subst hyy
      clear HYY
      obtain ⟨m0, m1, m2, m3⟩ := HN3.out
      simp only at m0 m1
      go_wp2
      refine bodyPost_ret (results_tct rfl _ _ _ ⟨0, 0⟩ _ _ rfl rfl rfl (HN3.out.put ⟨0, 0⟩)) rfl ⟨g, cap, rfl, ?_, ?_, .inl rfl⟩
      · have := HNB.out
        exact NBox.stay_put HS3.out (by omega) _ _
      · have := HNB.out
        exact HR3.out.stay (((Stay.refl (fun k => k = bn) w3).setCell (p := ⟨bn, 0, none⟩) rfl _).setCell (p := ⟨bn, 1, none⟩) rfl _) (by omega)
    have d1 : decide (rights < 1) = false := decide_eq_false h1
    by_cases h2 : 7 < rights
    · have hyy := HYY.out
      rw [if_pos (.inr (.inr h2))] at hyy
      subst hyy
      clear HYY
      obtain ⟨m0, m1, m2, m3⟩ := HN3.out
      simp only at m0 m1
      go_wp2
      refine bodyPost_ret (results_tct rfl _ _ _ ⟨0, 0⟩ _ _ rfl rfl rfl (HN3.out.put ⟨0, 0⟩)) rfl ⟨g, cap, rfl, ?_, ?_, .inl rfl⟩
      · have := HNB.out
        exact NBox.stay_put HS3.out (by omega) _ _
      · have := HNB.out
        exact HR3.out.stay (((Stay.refl (fun k => k = bn) w3).setCell (p := ⟨bn, 0, none⟩) rfl _).setCell (p := ⟨bn, 1, none⟩) rfl _) (by omega)
    have d2 : decide (7 < rights) = false := decide_eq_false h2
    have hyy := HYY.out
    rw [if_neg (by omega)] at hyy
    have HYZ := hide' hyy
    clear hyy HYY
    obtain ⟨hb, hhb⟩ : ∃ b, b = hasB p.rights rights := ⟨_, rfl⟩
    have HHB := hide' hhb
    have HHA := hide' (fun w => has33 p.rights rights w)
    rw [← hhb] at HHA
    clear hhb
    obtain ⟨q0, q1, q2, q3, q4, q5, _⟩ := HP3.out
    go_wp2_with fail
    refine (HHA.out _).mono ?_
    rintro _ w4 ⟨rfl, hs⟩
    have HS4 := hide' (HS3.out.trans hs)
    have HN4 := hide' (HN3.out.keep hs)
    have HM4 := hide' (HM3.out.keep hs)
    have HP4 := hide' (HP3.out.keep hs)
    have HR4 := hide' (HR3.out.keep hs)
    have HZ4 := hide' hs.size
    clear hs HS3 HN3 HM3 HP3 HR3 HHA q0 q1 q2 q3 q4 q5
    cases hb
    · have hyy := HYZ.out
      rw [if_neg (by rw [← HHB.out]; decide)] at hyy
      subst hyy
      clear HYZ
      obtain ⟨m0, m1, m2, m3⟩ := HN4.out
      simp only at m0 m1
      go_wp2
      refine bodyPost_ret (results_tct rfl _ _ _ ⟨0, 0⟩ _ _ rfl rfl rfl (HN4.out.put ⟨0, 0⟩)) rfl ⟨g, cap, rfl, ?_, ?_, .inl rfl⟩
      · have := HNB.out
        exact NBox.stay_put HS4.out (by omega) _ _
      · have := HNB.out
        exact HR4.out.stay (((Stay.refl (fun k => k = bn) w4).setCell (p := ⟨bn, 0, none⟩) rfl _).setCell (p := ⟨bn, 1, none⟩) rfl _) (by omega)
    · have hyy := HYZ.out
      rw [if_pos HHB.out.symm] at hyy
      have HYW := hide' hyy
      have HAD := hide' (add28 g n cap q f ⟨0, tw, p.kind, p.obj, rights, (k : Nat)⟩ w4 HR4.out (by have := HNB.out; have := HZ4.out; omega) HNB.out.2.2.1)
      rw [← HYW.out] at HAD
      clear hyy HYZ
      obtain ⟨q0, q1, q2, q3, q4, q5, _⟩ := HP4.out
      obtain ⟨b0, b1, _, _⟩ := HM4.out
      simp only at b0 b1
      go_wp2_with fail
      refine HAD.out.mono ?_
      rintro _ w5 ⟨g', cap', rfl, hs, hrd, hg'⟩
      have HS5 := hide' (HS4.out.trans hs)
      have HN5 := hide' (HN4.out.keep hs)
      have HR5 := hide' hrd
      have HG5 := hide' hg'
      clear hs hrd hg' HS4 HN4 HM4 HP4 HR4 HAD q0 q1 q2 q3 q4 q5 b0 b1
      obtain ⟨m0, m1, m2, m3⟩ := HN5.out
      simp only at m0 m1
      go_wp2
      refine bodyPost_ret (results_tct rfl _ _ _ ⟨y.2.1, y.2.2.1⟩ _ _ rfl rfl rfl (HN5.out.put ⟨y.2.1, y.2.2.1⟩)) rfl ⟨g', cap', rfl, ?_, ?_, ?_⟩
      · have := HNB.out
        exact NBox.stay_put HS5.out (by omega) _ _
      · have h1 := HNB.out
        have h2 := HG5.out
        have h3 := HZ4.out
        exact HR5.out.stay (((Stay.refl (fun k => k = bn) w5).setCell (p := ⟨bn, 0, none⟩) rfl _).setCell (p := ⟨bn, 1, none⟩) rfl _) (by rcases h2 with h2 | h2 <;> omega)
      · have h1 := HNB.out
        have h2 := HG5.out
        have h3 := HZ4.out
        rcases h2 with h2 | h2
        · exact .inl h2
        · exact .inr (by omega)
  · have hyy := HY.out
    rw [if_neg h0] at hyy
    have e0 : (e != 0) = true := by simpa using h0
    subst hyy
    clear HY HE h0
    obtain ⟨m0, m1, m2, m3⟩ := HN2.out
    simp only at m0 m1
    go_wp2
    refine bodyPost_ret (results_tct rfl _ _ _ ⟨0, 0⟩ _ _ rfl rfl rfl (HN2.out.put ⟨0, 0⟩)) rfl ⟨g, cap, rfl, ?_, ?_, .inl rfl⟩
    · have := HNB.out
      exact NBox.stay_put HS2.out (by omega) _ _
    · have := HNB.out
      exact HR2.out.stay (((Stay.refl (fun k => k = bn) w2).setCell (p := ⟨bn, 0, none⟩) rfl _).setCell (p := ⟨bn, 1, none⟩) rfl _) (by omega)

end Go.Proofs.Ytlhfpnfiamgmlaa
