/-
  Whatever is done with a table: walked. No conditions.
-/
import Derived.Test.YtlhfpnfiamgmlaaH1
import Derived.Test.YtlhfpnfiamgmlaaH2
import Derived.Test.YtlhfpnfiamgmlaaH3
import Derived.Test.YtlhfpnfiamgmlaaH4
import Derived.Test.YtlhfpnfiamgmlaaH5
import Derived.Test.YtlhfpnfiamgmlaaH6
import Derived.Test.YtlhfpnfiamgmlaaH7
namespace Go.Proofs.Ytlhfpnfiamgmlaa
open Go.RowKit

set_option maxHeartbeats 32000000 in
set_option maxRecDepth 100000 in
theorem plays3 (n : Nat) (q : Int) (ad : Option Addr) (ll cap : Nat) (F : Nat → Ac) (w : World) (hA : ARows w ad ll F) (hl : ll ≤ 40) (h1 : 1 ≤ n) (h12 : n ≤ 12) (hq : 1 ≤ q) (hq12 : q ≤ 12) : Calls Try.prog 3 #[.int .i64 (n : Nat), .int .i64 q, .slice ad ll cap] w (LawTrue w) := by
  have HA := hide' hA
  have HN12 := hide' (show 0 < n ∧ n ≤ 12 from ⟨h1, h12⟩)
  have HL40 := hide' hl
  have HN := hide' (new_in (w0 := w) n q (Stay.refl _ w) h1 (by omega) hq)
  have HRN := hide' (fun w' => new9 n w' h1 (by omega))
  have l40 : ¬ (40 : Int) < (ll : Nat) := by omega
  have d40 : decide ((40 : Int) < (ll : Nat)) = false := decide_eq_false l40
  have d12 : decide ((12 : Int) < (n : Nat)) = false := decide_eq_false (by omega)
  have dq12 : decide ((12 : Int) < q) = false := decide_eq_false (by omega)
  have dn1 : decide ((1 : Int) ≤ (n : Nat)) = true := decide_eq_true (by omega)
  have dq1 : decide ((1 : Int) ≤ q) = true := decide_eq_true hq
  have hlz : (ll : Int) ≤ 40 := by omega
  clear hA h1 h12 hl
  go_enter Try.func3, Try.ntmps3
  go_wp2_with fail
  refine HN.out.mono ?_
  rintro _ w1 ⟨T, B, rfl, ht1, _, _, _⟩
  have HTB := hide' (show T < w1.heap.size ∧ B < w1.heap.size ∧ w.heap.size ≤ w1.heap.size from ⟨ht1.at'.lt, ht1.at'.ltB, ht1.stay.size⟩)
  have HT1 := hide' ht1
  clear ht1 HN
  go_wp2_with fail
  refine (HRN.out _).mono ?_
  rintro _ wa ⟨g0, xc0, rfl, hsa, hta, hga⟩
  have HR0 : Hid (RIn w w1 T B n q (fun _ => Sl.fresh) 1 g0 [] (.slice none 0 0) wa) := ⟨HT1.out.keep hsa, hta.rd, ⟨hga, World.block_lt_of_cell? _ _ (hta.rd 0 HN12.out.1).c0⟩, ⟨rfl, .inl ⟨rfl, rfl⟩⟩, (fun k h => by cases h), hsa.size, (fun i _ => by show (0 : Int) < 1000; decide), (fun p h => by cases h)⟩
  clear hsa hta hga HT1 HRN dn1 dq1 d12 dq12 d40
  go_wp2
  go_loopg [8, 9, 10] ll (fun gg v8 v9 v10 wr => ∃ (i : Nat) (f : Nat → Sl) (g xc : Nat) (N : List Nm) (mv : Value), i ≤ ll ∧ gg = ll - i ∧ v8 = .slice (some ⟨g, 0, none⟩) n xc ∧ mv = v9 ∧ v10 = .int .i64 (i : Int) ∧ Hid (N.length ≤ i) ∧ Hid (RIn w w1 T B n q f ((i : Nat) + 1) g N mv wr))
  case atStart => exact ⟨0, _, g0, xc0, [], _, Nat.zero_le _, rfl, rfl, rfl, rfl, Nat.le_refl _, HR0⟩
  case round =>
    clear HR0
    obtain ⟨i, f, g, xc, N, mv, hi, rfl, rfl, hmv, rfl, HLN, HR⟩ := hrel
    subst hmv
    by_cases hlt : i < ll
    · have iL : (i : Int) < (ll : Nat) := by omega
      obtain ⟨b, o, hab, hac, hsl, hrt⟩ := (HA.out.keep HR.out.tab.stay) i hlt
      obtain ⟨A, hAe⟩ : ∃ A, A = F i := ⟨_, rfl⟩
      rw [← hAe] at hac hsl hrt
      subst hab
      have HAR := hide' hrt
      have HASL := hide' hsl
      obtain ⟨ad2, cp2, rfl⟩ := owns_sliceS HR.out.row
      obtain ⟨K, hK⟩ : ∃ K : Int, K = (i : Nat) + 1 := ⟨_, rfl⟩
      rw [← hK] at HR
      have HKE := hide' hK
      have HKB : Hid (K ≤ 41) := by have := HL40.out; show K ≤ 41; omega
      obtain ⟨ab, hab⟩ : ∃ x, x = wr.heap.size := ⟨_, rfl⟩
      obtain ⟨wb, hwb⟩ : ∃ W, W = wr.alloc (.cells #[.int .i64 A.d, .int .i64 A.env, .int .i64 A.tw, .int .i64 A.kind, .int .i64 A.obj, .int .i64 A.rights, .int .i64 A.which, .int .i64 A.slot, .int .i64 A.gen] 32) := ⟨_, rfl⟩
      have hsb : Stay (fun _ => False) wr wb := by rw [hwb]; exact (Stay.refl _ _).alloc _
      have HAB : Hid (ABox wb ab A) := by rw [hwb]; exact ABox.new A hab.symm
      have HRB := hide' (HR.out.keep hsb)
      have HABG : Hid (w1.heap.size ≤ ab ∧ ab ≠ g ∧ ∀ k, (Value.slice ad2 N.length cp2).ownBlock = some k → k ≠ ab) := ⟨by have := HR.out.size; omega, by have := HR.out.vg.2; omega, fun k hk e => by have := (HR.out.row.lt k hk).2; omega⟩
      obtain ⟨k0, k1, k2, k3, k4, k5, k6, k7, k8⟩ := hac
      clear hAe hrt hsl hK
      go_upto_region 14 with fail
      rw [← hwb, ← hab]
      clear hwb hab hsb HR k0 k1 k2 k3 k4 k5 k6 k7 k8
      obtain ⟨a0, a1, a2, a3, a4, a5, a6, a7, a8, _⟩ := HAB.out
      by_cases ho : 1000 ≤ A.obj
      · have do1 : decide (1000 ≤ A.obj) = true := decide_eq_true ho
        have HST := hide' HRB.out.tab.stay
        clear HRB HAB
        go_wp2_with fail
        refine (awake7 _).mono ?_
        rintro _ w9 ⟨rfl, hs9⟩
        have HS9 := hide' (HST.out.trans hs9)
        clear hs9 HST
        go_wp2
        go_ret
        exact ⟨rfl, HS9.out⟩
      · have do1 : decide (1000 ≤ A.obj) = false := decide_eq_false ho
        have HAO : Hid (A.obj < 1000) := by show A.obj < 1000; omega
        have HNA := hide' (name_any (A := A) HRB.out.row (by have := HLN.out; have := HL40.out; omega))
        go_wp2_with fail
        refine HNA.out.mono ?_
        rintro _ wc0 ⟨rfl, hsc⟩
        have HRC := hide' (HRB.out.keep hsc)
        have HAC := hide' (HAB.out.keep hsc)
        obtain ⟨c, hc⟩ : ∃ c, c = nameR N A := ⟨_, rfl⟩
        rw [← hc]
        have HCS : Hid (I64 c.slot) := by rw [hc]; exact nameR_i64 HRC.out.nl HASL.out
        clear hc hsc HNA HRB HAB a0 a1 a2 a3 a4 a5 a6 a7 a8
        go_upto_region 17 with fail
        obtain ⟨nb, hnb⟩ : ∃ x, x = wc0.heap.size := ⟨_, rfl⟩
        obtain ⟨w2, hw2⟩ : ∃ W, W = wc0.alloc (.cells #[.int .i64 c.slot, .int .i64 c.gen] 30) := ⟨_, rfl⟩
        have hs2 : Stay (fun _ => False) wc0 w2 := by rw [hw2]; exact (Stay.refl _ _).alloc _
        have HQ : Hid (QIn w w1 T B n q f f K g N (.slice ad2 N.length cp2) A ab c nb w2) := ⟨HRC.out.tab.keep hs2, HRC.out.ref.keep hs2, ⟨HRC.out.vg.1, Nat.lt_of_lt_of_le HRC.out.vg.2 hs2.size⟩, hs2.owns HRC.out.row (fun _ _ h => h), fun k hk => ⟨HRC.out.ap k hk, HABG.out.2.2 k hk, fun e => by have := (HRC.out.row.lt k hk).2; omega⟩, HAC.out.keep hs2, (by rw [hw2]; exact NBox.new c hnb.symm), ⟨HABG.out.1, by have := HRC.out.size; omega⟩, Nat.le_trans HRC.out.size hs2.size⟩
        have HOB := hide' HRC.out.ob
        have HNL := hide' HRC.out.nl
        have HIL : Hid (i < ll ∧ ll ≤ 40) := ⟨hlt, HL40.out⟩
        rw [← hw2, ← hnb]
        clear hw2 hnb hs2 HRC HAC HABG
        obtain ⟨mv, hmv⟩ : ∃ v, v = Value.slice ad2 N.length cp2 := ⟨_, rfl⟩
        rw [← hmv] at HQ ⊢
        clear hmv
        obtain ⟨a0, a1, a2, a3, a4, a5, a6, a7, a8, _⟩ := HQ.out.act
        go_upto_block 2 with fail
        clear a0 a1 a2 a3 a4 a5 a6 a7 a8
        go_cut [8, 9, 86] (fun s8 s9 s86 wx => ∃ (f2 : Nat → Sl) (g2 xc2 : Nat) (N2 : List Nm) (mv2 : Value), s8 = .slice (some ⟨g2, 0, none⟩) n xc2 ∧ s9 = mv2 ∧ Hid (RIn w w1 T B n q f2 (K + 1) g2 N2 mv2 wx ∧ QIn w w1 T B n q f2 f2 (K + 1) g2 N2 mv2 A ab c nb wx ∧ N2.length ≤ i + 1))
        case first =>
          by_cases h0 : A.d = 0
          · exact plays_do0 (by kernel_rfl) h0 HQ HOB HNL HLN HIL HTB HN12 HKB HCS HAR HAO (by assumption) (by assumption)
          by_cases h1 : A.d = 1
          · exact plays_do1 (by kernel_rfl) h1 HQ HOB HNL HLN HIL HTB HN12 HKB HCS HAR HAO (by assumption) (by assumption)
          by_cases h2 : A.d = 2
          · exact plays_do2 (by kernel_rfl) h2 HQ HOB HNL HLN HIL HTB HN12 HKB HCS HAR HAO (by assumption) (by assumption)
          by_cases h3 : A.d = 3
          · exact plays_do3 (by kernel_rfl) h3 HQ HOB HNL HLN HIL HTB HN12 HKB HCS HAR HAO (by assumption) (by assumption)
          by_cases h4 : A.d = 4
          · exact plays_do4 (by kernel_rfl) h4 HQ HOB HNL HLN HIL HTB HN12 HKB HCS HAR HAO (by assumption) (by assumption)
          by_cases h5 : A.d = 5
          · exact plays_do5 (by kernel_rfl) h5 HQ HOB HNL HLN HIL HTB HN12 HKB HCS HAR HAO (by assumption) (by assumption)
          exact plays_do6 (by kernel_rfl) h0 h1 h2 h3 h4 h5 HQ HOB HNL HLN HIL HTB HN12 HKB HCS HAR HAO (by assumption) (by assumption)
        case rest =>
          obtain ⟨f2, g2, xc2, N2, mv2, rfl, rfl, HX⟩ := hcut
          have HRI := hide' HX.out.1
          have HLN2 := hide' HX.out.2.2
          have HACTc := hide' HX.out.2.1.act
          clear HX
          have HACT := HACTc
          clear HACTc
          obtain ⟨LO, hLO⟩ : ∃ L, L = objs f2 n A.env A.kind 1000 := ⟨_, rfl⟩
          obtain ⟨cN, hcN⟩ : ∃ x, x = cnt (isOf f2 A.env) n := ⟨_, rfl⟩
          have HLO : Hid (LO.length ≤ 1000) := by rw [hLO]; exact objs_len _ _ _ _ _
          have HC1 : Hid (∀ w', Stay (fun _ => False) wc w' → Calls Try.prog 23 #[.pointer (some ⟨T, 0, none⟩), .int .i64 A.env] w' (Gives (.int .i64 (cN : Nat)) w')) := fun w' h => by rw [hcN]; exact count_in A.env (HRI.out.tab.keep h)
          have HC2 : Hid (∀ w', Stay (fun _ => False) wc w' → Calls Try.prog 24 #[.slice (some ⟨g2, 0, none⟩) n xc2, .int .i64 A.env] w' (Gives (.int .i64 (cN : Nat)) w')) := fun w' h => by rw [hcN]; exact count24 g2 n xc2 f2 A.env w' (HRI.out.ref.keep h) (by have := HN12.out; omega)
          have HO1 : Hid (∀ w', Stay (fun _ => False) wc w' → Calls Try.prog 26 #[.pointer (some ⟨T, 0, none⟩), .int .i64 A.env, .int .i64 A.kind] w' (NOut LO w')) := fun w' h => by rw [hLO]; exact objects_in A.env A.kind (HRI.out.tab.keep h) HN12.out.2 HRI.out.ob
          have HO2 : Hid (∀ w', Stay (fun _ => False) wc w' → Calls Try.prog 27 #[.slice (some ⟨g2, 0, none⟩) n xc2, .int .i64 A.env, .int .i64 A.kind] w' (OOut LO w')) := fun w' h => by rw [hLO]; exact objects27 g2 n xc2 f2 A.env A.kind w' (HRI.out.ref.keep h) (Nat.lt_of_lt_of_le HRI.out.vg.2 h.size) (by have := HN12.out; omega)
          clear hLO hcN
          go_upto_region 56 with fail
          have HS : (fun w' => Stay (fun _ => False) wc w') wc.drew := (Stay.refl _ _).drew
          refine wp_region_mix (fun w' => Stay (fun _ => False) wc w') [(0, true), (1, true), (2, true), (4, true), (5, true), (6, true), (3, false), (7, false), (8, true), (9, true), (10, true), (11, true), (12, true), (13, true), (14, true), (16, true), (17, true), (18, true), (19, true), (20, true), (15, false), (21, false), (22, false), (23, true), (24, true)] (by kernel_rfl) (by kernel_rfl) (fun _ d _ _ _ h => by cases d <;> exact h) HS ?_
          refine mix_begin (fun K0 hK0 => ?_)
          refine mix_take hK0 (some 281) (.move (.tmp 7)) 24 _ (by kernel_rfl) (by kernel_rfl) (fun w' hS' => by (obtain ⟨a0, a1, a2, a3, a4, a5, a6, a7, a8, _⟩ := HACT.out.keep hS'; simp only [opr]; go_simp; try with_reducible rfl)) (fun K1 hK1 => ?_)
          clear hK0 K0
          simp only [Act.put, List.setIfInBounds_toArray, List.set_cons_zero, List.set_cons_succ]
          refine mix_take hK1 (some 282) (.fieldAddr 32 (.tmp 11) 1) 0 _ (by kernel_rfl) (by kernel_rfl) (fun w' hS' => by (obtain ⟨a0, a1, a2, a3, a4, a5, a6, a7, a8, _⟩ := HACT.out.keep hS'; simp only [opr]; go_simp; try with_reducible rfl)) (fun K2 hK2 => ?_)
          clear hK1 K1
          simp only [Act.put, List.setIfInBounds_toArray, List.set_cons_zero, List.set_cons_succ]
          refine mix_take hK2 (some 283) (.load 3 (.tmp 282)) 3 _ (by kernel_rfl) (by kernel_rfl) (fun w' hS' => by (obtain ⟨a0, a1, a2, a3, a4, a5, a6, a7, a8, _⟩ := HACT.out.keep hS'; simp only [opr]; go_simp; try with_reducible rfl)) (fun K3 hK3 => ?_)
          clear hK2 K2
          simp only [Act.put, List.setIfInBounds_toArray, List.set_cons_zero, List.set_cons_succ]
          refine mix_take hK3 (some 285) (.move (.tmp 8)) 26 _ (by kernel_rfl) (by kernel_rfl) (fun w' hS' => by (obtain ⟨a0, a1, a2, a3, a4, a5, a6, a7, a8, _⟩ := HACT.out.keep hS'; simp only [opr]; go_simp; try with_reducible rfl)) (fun K4 hK4 => ?_)
          clear hK3 K3
          simp only [Act.put, List.setIfInBounds_toArray, List.set_cons_zero, List.set_cons_succ]
          refine mix_take hK4 (some 286) (.fieldAddr 32 (.tmp 11) 1) 0 _ (by kernel_rfl) (by kernel_rfl) (fun w' hS' => by (obtain ⟨a0, a1, a2, a3, a4, a5, a6, a7, a8, _⟩ := HACT.out.keep hS'; simp only [opr]; go_simp; try with_reducible rfl)) (fun K5 hK5 => ?_)
          clear hK4 K4
          simp only [Act.put, List.setIfInBounds_toArray, List.set_cons_zero, List.set_cons_succ]
          refine mix_take hK5 (some 287) (.load 3 (.tmp 286)) 3 _ (by kernel_rfl) (by kernel_rfl) (fun w' hS' => by (obtain ⟨a0, a1, a2, a3, a4, a5, a6, a7, a8, _⟩ := HACT.out.keep hS'; simp only [opr]; go_simp; try with_reducible rfl)) (fun K6 hK6 => ?_)
          clear hK5 K5
          simp only [Act.put, List.setIfInBounds_toArray, List.set_cons_zero, List.set_cons_succ]
          refine mix_call hK6 (some 284) 23 #[.tmp 281, .tmp 283] #[24, 3] 3 _ (by kernel_rfl) (by kernel_rfl) (enters Try.func23 (by kernel_rfl) (by kernel_rfl)) (by go_simp; try with_reducible rfl) (fun K7 hK7 => ?_)
          clear hK6 K6
          refine ((HC1.out _ HS)).mono ?_
          rintro e wm1 ⟨rfl, hs1⟩
          have hS1 : _ := (HS.trans hs1)
          refine ⟨_, rfl, hS1, ?_⟩
          clear hs1
          simp only [Act.put, List.setIfInBounds_toArray, List.set_cons_zero, List.set_cons_succ]
          refine mix_call hK7 (some 288) 24 #[.tmp 285, .tmp 287] #[26, 3] 3 _ (by kernel_rfl) (by kernel_rfl) (enters Try.func24 (by kernel_rfl) (by kernel_rfl)) (by go_simp; try with_reducible rfl) (fun K8 hK8 => ?_)
          clear hK7 K7
          refine ((HC2.out _ hS1)).mono ?_
          rintro e wm2 ⟨rfl, hs2⟩
          have hS2 : _ := (hS1.trans hs2)
          refine ⟨_, rfl, hS2, ?_⟩
          clear hs2
          simp only [Act.put, List.setIfInBounds_toArray, List.set_cons_zero, List.set_cons_succ]
          refine mix_take hK8 (some 289) (.binOp BinOp.neq 3 (.tmp 284) (.tmp 288) 3) 4 _ (by kernel_rfl) (by kernel_rfl) (fun w' hS' => by exact neqI_same _ rfl rfl) (fun K9 hK9 => ?_)
          clear hK8 K8
          simp only [Act.put, List.setIfInBounds_toArray, List.set_cons_zero, List.set_cons_succ]
          refine mix_take hK9 (some 290) (.move (.tmp 289)) 4 _ (by kernel_rfl) (by kernel_rfl) (fun w' hS' => by (obtain ⟨a0, a1, a2, a3, a4, a5, a6, a7, a8, _⟩ := HACT.out.keep hS'; simp only [opr]; go_simp; try with_reducible rfl)) (fun K10 hK10 => ?_)
          clear hK9 K9
          simp only [Act.put, List.setIfInBounds_toArray, List.set_cons_zero, List.set_cons_succ]
          refine mix_take hK10 (some 291) (.move (.tmp 7)) 24 _ (by kernel_rfl) (by kernel_rfl) (fun w' hS' => by (obtain ⟨a0, a1, a2, a3, a4, a5, a6, a7, a8, _⟩ := HACT.out.keep hS'; simp only [opr]; go_simp; try with_reducible rfl)) (fun K11 hK11 => ?_)
          clear hK10 K10
          simp only [Act.put, List.setIfInBounds_toArray, List.set_cons_zero, List.set_cons_succ]
          refine mix_take hK11 (some 292) (.fieldAddr 32 (.tmp 11) 1) 0 _ (by kernel_rfl) (by kernel_rfl) (fun w' hS' => by (obtain ⟨a0, a1, a2, a3, a4, a5, a6, a7, a8, _⟩ := HACT.out.keep hS'; simp only [opr]; go_simp; try with_reducible rfl)) (fun K12 hK12 => ?_)
          clear hK11 K11
          simp only [Act.put, List.setIfInBounds_toArray, List.set_cons_zero, List.set_cons_succ]
          refine mix_take hK12 (some 293) (.load 3 (.tmp 292)) 3 _ (by kernel_rfl) (by kernel_rfl) (fun w' hS' => by (obtain ⟨a0, a1, a2, a3, a4, a5, a6, a7, a8, _⟩ := HACT.out.keep hS'; simp only [opr]; go_simp; try with_reducible rfl)) (fun K13 hK13 => ?_)
          clear hK12 K12
          simp only [Act.put, List.setIfInBounds_toArray, List.set_cons_zero, List.set_cons_succ]
          refine mix_take hK13 (some 294) (.fieldAddr 32 (.tmp 11) 3) 0 _ (by kernel_rfl) (by kernel_rfl) (fun w' hS' => by (obtain ⟨a0, a1, a2, a3, a4, a5, a6, a7, a8, _⟩ := HACT.out.keep hS'; simp only [opr]; go_simp; try with_reducible rfl)) (fun K14 hK14 => ?_)
          clear hK13 K13
          simp only [Act.put, List.setIfInBounds_toArray, List.set_cons_zero, List.set_cons_succ]
          refine mix_take hK14 (some 295) (.load 3 (.tmp 294)) 3 _ (by kernel_rfl) (by kernel_rfl) (fun w' hS' => by (obtain ⟨a0, a1, a2, a3, a4, a5, a6, a7, a8, _⟩ := HACT.out.keep hS'; simp only [opr]; go_simp; try with_reducible rfl)) (fun K15 hK15 => ?_)
          clear hK14 K14
          simp only [Act.put, List.setIfInBounds_toArray, List.set_cons_zero, List.set_cons_succ]
          refine mix_take hK15 (some 297) (.move (.tmp 8)) 26 _ (by kernel_rfl) (by kernel_rfl) (fun w' hS' => by (obtain ⟨a0, a1, a2, a3, a4, a5, a6, a7, a8, _⟩ := HACT.out.keep hS'; simp only [opr]; go_simp; try with_reducible rfl)) (fun K16 hK16 => ?_)
          clear hK15 K15
          simp only [Act.put, List.setIfInBounds_toArray, List.set_cons_zero, List.set_cons_succ]
          refine mix_take hK16 (some 298) (.fieldAddr 32 (.tmp 11) 1) 0 _ (by kernel_rfl) (by kernel_rfl) (fun w' hS' => by (obtain ⟨a0, a1, a2, a3, a4, a5, a6, a7, a8, _⟩ := HACT.out.keep hS'; simp only [opr]; go_simp; try with_reducible rfl)) (fun K17 hK17 => ?_)
          clear hK16 K16
          simp only [Act.put, List.setIfInBounds_toArray, List.set_cons_zero, List.set_cons_succ]
          refine mix_take hK17 (some 299) (.load 3 (.tmp 298)) 3 _ (by kernel_rfl) (by kernel_rfl) (fun w' hS' => by (obtain ⟨a0, a1, a2, a3, a4, a5, a6, a7, a8, _⟩ := HACT.out.keep hS'; simp only [opr]; go_simp; try with_reducible rfl)) (fun K18 hK18 => ?_)
          clear hK17 K17
          simp only [Act.put, List.setIfInBounds_toArray, List.set_cons_zero, List.set_cons_succ]
          refine mix_take hK18 (some 300) (.fieldAddr 32 (.tmp 11) 3) 0 _ (by kernel_rfl) (by kernel_rfl) (fun w' hS' => by (obtain ⟨a0, a1, a2, a3, a4, a5, a6, a7, a8, _⟩ := HACT.out.keep hS'; simp only [opr]; go_simp; try with_reducible rfl)) (fun K19 hK19 => ?_)
          clear hK18 K18
          simp only [Act.put, List.setIfInBounds_toArray, List.set_cons_zero, List.set_cons_succ]
          refine mix_take hK19 (some 301) (.load 3 (.tmp 300)) 3 _ (by kernel_rfl) (by kernel_rfl) (fun w' hS' => by (obtain ⟨a0, a1, a2, a3, a4, a5, a6, a7, a8, _⟩ := HACT.out.keep hS'; simp only [opr]; go_simp; try with_reducible rfl)) (fun K20 hK20 => ?_)
          clear hK19 K19
          simp only [Act.put, List.setIfInBounds_toArray, List.set_cons_zero, List.set_cons_succ]
          refine mix_call hK20 (some 296) 26 #[.tmp 291, .tmp 293, .tmp 295] #[24, 3, 3] 53 _ (by kernel_rfl) (by kernel_rfl) (enters Try.func26 (by kernel_rfl) (by kernel_rfl)) (by go_simp; try with_reducible rfl) (fun K21 hK21 => ?_)
          clear hK20 K20
          refine ((HO1.out _ hS2)).mono ?_
          rintro e wm3 ⟨oa, oc, rfl, hs3, ho3⟩
          have hS3 : _ := (hS2.trans hs3)
          refine ⟨_, rfl, hS3, ?_⟩
          have HOR := hide' ho3
          clear hs3
          simp only [Act.put, List.setIfInBounds_toArray, List.set_cons_zero, List.set_cons_succ]
          refine mix_call hK21 (some 302) 27 #[.tmp 297, .tmp 299, .tmp 301] #[26, 3, 3] 53 _ (by kernel_rfl) (by kernel_rfl) (enters Try.func27 (by kernel_rfl) (by kernel_rfl)) (by go_simp; try with_reducible rfl) (fun K22 hK22 => ?_)
          clear hK21 K21
          refine ((HO2.out _ hS3)).mono ?_
          rintro e wm4 ⟨ov, rfl, hs4, ho4⟩
          have hS4 : _ := (hS3.trans hs4)
          refine ⟨_, rfl, hS4, ?_⟩
          have HOV := hide' ho4
          have HOR2 : Hid (LO ≠ [] → ∃ g, oa = some ⟨g, 0, none⟩ ∧ IsRowS wm4 1 (.slice oa LO.length oc) LO.length (LO.map (.int .i64 ·))) := fun h => by
            obtain ⟨g, e, hr⟩ := HOR.out h
            exact ⟨g, e, hr.stay hs4 (fun _ _ h => h)⟩
          clear hs4
          simp only [Act.put, List.setIfInBounds_toArray, List.set_cons_zero, List.set_cons_succ]
          refine mix_call hK22 (some 303) 25 #[.tmp 296, .tmp 302] #[53, 53] 4 _ (by kernel_rfl) (by kernel_rfl) (enters Try.func25 (by kernel_rfl) (by kernel_rfl)) (by go_simp; try with_reducible rfl) (fun K23 hK23 => ?_)
          clear hK22 K22
          refine ((same_any HLO.out HOR2.out HOV.out)).mono ?_
          rintro e wm5 ⟨rfl, hs5⟩
          have hS5 : _ := (hS4.trans hs5)
          refine ⟨_, rfl, hS5, ?_⟩
          clear hs5
          simp only [Act.put, List.setIfInBounds_toArray, List.set_cons_zero, List.set_cons_succ]
          refine mix_take hK23 (some 304) (.unOp UnOp.not 4 (.tmp 303)) 4 _ (by kernel_rfl) (by kernel_rfl) (fun w' hS' => by (obtain ⟨a0, a1, a2, a3, a4, a5, a6, a7, a8, _⟩ := HACT.out.keep hS'; simp only [opr]; go_simp; try with_reducible rfl)) (fun K24 hK24 => ?_)
          clear hK23 K23
          simp only [Act.put, List.setIfInBounds_toArray, List.set_cons_zero, List.set_cons_succ]
          refine mix_take hK24 (some 305) (.pick (.tmp 290) (.const (Value.bool true)) (.tmp 304)) 4 _ (by kernel_rfl) (by kernel_rfl) (fun w' hS' => by (obtain ⟨a0, a1, a2, a3, a4, a5, a6, a7, a8, _⟩ := HACT.out.keep hS'; simp only [opr]; go_simp; try with_reducible rfl)) (fun K25 hK25 => ?_)
          clear hK24 K24
          simp only [Act.put, List.setIfInBounds_toArray, List.set_cons_zero, List.set_cons_succ]
          refine hK25 _ _ (mix_nil ?_)
          clear hK25 K25
          have HSF : Hid (Stay (fun _ => False) wc wm5) := hS5
          clear HS hS1 hS2 hS3 hS4 hS5 HC1 HC2 HO1 HO2 HLO HOR HOV HOR2 HACT
          go_wp2
          go_roundg (ll - (i + 1))
          case measure => omega
          case rel => exact ⟨i + 1, f2, g2, xc2, N2, _, by omega, rfl, rfl, rfl, by go_num, HLN2, by rw [show (((i + 1 : Nat) : Int) + 1) = K + 1 by have := HKE.out; omega]; exact HRI.out.keep HSF.out⟩
    · have hie : i = ll := by omega
      subst hie
      have HST := hide' HR.out.tab.stay
      clear HR
      go_wp2_with fail
      refine (awake7 _).mono ?_
      rintro _ w9 ⟨rfl, hs9⟩
      have HS9 := hide' (HST.out.trans hs9)
      clear hs9 HST
      go_wp2
      go_ret
      exact ⟨rfl, HS9.out⟩

end Go.Proofs.Ytlhfpnfiamgmlaa
