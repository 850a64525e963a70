/-
  IpcPlays walked: true of any arguments. No conditions.
-/
import Derived.Test.YtabalnjbfhngnaaE4
namespace Go.Proofs.Ytabalnjbfhngnaa
open Go.RowKit

attribute [local go_sem] extract0 extract1

set_option maxRecDepth 100000 in
set_option maxHeartbeats 8000000 in
theorem plays_go (ad : Option Addr) (n cap r : Nat) (D : Nat → Int) (A : Nat → Option Addr) (K : Nat → List Int) (C : Nat → Nat) (w : World) (hM : Msgs w ad n D A K C) (hn : n ≤ 80) (h1 : 1 ≤ r) (h2 : r ≤ 20) : Calls Try.prog 3 #[.int .i64 (r : Nat), .slice ad n cap] w (LawTrue w) := by
  have HAW := hide' awake7
  have n1 : ¬ (80 : Int) < (n : Nat) := by omega
  have n2 : ¬ (20 : Int) < (r : Nat) := by omega
  have n3 : (1 : Int) ≤ (r : Nat) := by omega
  have HN := hide' (new_in (w0 := w) r (Stay.refl _ w) h1 (by omega))
  have HM := hide' hM
  clear hM
  go_enter Try.func3, Try.ntmps3
  go_wp2_with fail
  refine HN.out.mono ?_
  rintro e w1 ⟨q0, rfl, hi, _, _⟩
  obtain ⟨b, hb⟩ : ∃ b, b = q0.b := ⟨_, rfl⟩
  rw [← hb] at hi
  rw [← hb]
  have HP0 : Hid (PG w w1 b r q0 (.slice none 0 0) []) := ⟨hi, Win.nil _ _, (fun j hj => by cases hj), (fun p hp => by cases hp)⟩
  clear hi hb HN
  go_wp2_with fail
  go_loopg [6, 7] n (fun gg v6 v7 wr => ∃ (i : Nat) (xa : Option Addr) (xn xc : Nat) (q : Rg) (X : List Dm), i ≤ n ∧ gg = n - i ∧ v6 = .slice xa xn xc ∧ v7 = .int .i64 (i : Int) ∧ Hid (X.length = xn) ∧ Hid (PG w wr b r q (.slice xa xn xc) X))
  case atStart => exact ⟨0, none, 0, 0, q0, [], Nat.zero_le _, rfl, rfl, rfl, rfl, HP0⟩
  case round =>
    clear HP0
    obtain ⟨i, xa, xn, xc, q, X, hin, rfl, rfl, rfl, HXN, HP⟩ := hrel
    have xr : xn ≤ r := by have h1 := HP.out.len; have h2 := HXN.out; omega
    by_cases hlt : i < n
    · have i_n : (i : Int) < (n : Nat) := by omega
      obtain ⟨g, o, rfl, k0, k1, hI⟩ := HM.out i hlt
      obtain ⟨fr, hfr⟩ : ∃ x, x = D i := ⟨_, rfl⟩
      obtain ⟨a0, ha0⟩ : ∃ x, x = A i := ⟨_, rfl⟩
      obtain ⟨l, hl0⟩ : ∃ x, x = K i := ⟨_, rfl⟩
      obtain ⟨c0, hc0⟩ : ∃ x, x = C i := ⟨_, rfl⟩
      rw [← ha0, ← hl0, ← hc0] at hI k1
      rw [← hfr] at k0
      obtain ⟨ln, hln⟩ : ∃ n, n = l.length := ⟨_, rfl⟩
      rw [← hln] at hI k1
      have HLN := hide' hln
      have HIARG := hide' hI
      have HIA : Hid (Bs w (.slice a0 ln c0) l) := bs_arg hI
      have M0 := hide' k0
      have M1 := hide' k1
      have HWS := hide' HP.out.rin.stay
      have m0 := keep_cell HWS.out k0
      have m1 := keep_cell HWS.out k1
      have lnb : ln ≤ 9223372036854775807 := by
        have h1 := hI.lenLe
        have h2 := hI.capLe
        unfold maxLen at h2
        omega
      clear hI k0 k1 hfr ha0 hl0 hc0 hln
      by_cases hz : 5000 < ln
      · have z1 : (5000 : Int) < (ln : Nat) := by omega
        clear HP
        go_wp2_with fail
        refine (HAW.out _).mono ?_
        rintro e w9 ⟨rfl, hs⟩
        have HE := hide' (HWS.out.trans hs)
        clear hs
        go_wp2
        go_returns
        exact ⟨rfl, HE.out⟩
      · have z1 : ¬ (5000 : Int) < (ln : Nat) := by omega
        by_cases hfm : fr = -1
        · subst hfm
          cases X with
          | nil =>
            obtain rfl : xn = 0 := HXN.out.symm
            have HT := hide' (take_none HP.out.rin)
            go_wp2_with fail
            refine HT.out.mono ?_
            rintro e w2 ⟨rfl, _, hs⟩
            obtain ⟨B8, hB8⟩ : ∃ B, B = w2.heap.size := ⟨_, rfl⟩
            obtain ⟨W2, hW2⟩ : ∃ W, W = w2.alloc (.cells #[.int .i64 0, .slice none 0 0] 28) := ⟨_, rfl⟩
            have hst2 : Stay (fun _ => False) w2 W2 := by rw [hW2]; exact (Stay.refl _ _).alloc _
            have HMB : Hid (MBox W2 B8 ⟨0, .slice none 0 0⟩) := by rw [hW2]; exact MBox.new ⟨0, .slice none 0 0⟩ hB8.symm
            have HW2 : Hid (B8 = w2.heap.size ∧ W2 = w2.alloc (.cells #[.int .i64 0, .slice none 0 0] 28)) := ⟨hB8, hW2⟩
            have HP2 := hide' (HP.out.keep (hs.trans hst2))
            clear hs hB8 hW2 hst2 HT HP m0 m1
            go_upto_region 16 with fail
            obtain ⟨hB8, hW2⟩ := HW2.out
            rw [← hW2, ← hB8]
            clear hB8 hW2 HW2
            have hS : (fun w' => Stay (fun _ => False) W2 w') W2.drew := (Stay.refl _ _).drew
            refine wp_region_mix (fun w' => Stay (fun _ => False) W2 w') [(0, true), (1, true), (2, true), (3, true), (4, true), (5, true), (6, true), (7, true), (8, true), (9, true), (10, true), (11, true), (12, false), (13, true), (14, true), (15, true), (16, true), (17, true), (18, true), (19, true), (20, true), (21, true), (22, true), (23, true), (24, true), (25, true), (26, true), (27, true), (28, true), (29, true), (30, true)] (by kernel_rfl) (by kernel_rfl) (fun _ d _ _ _ h => by cases d <;> exact h) hS ?_
            refine mix_begin (fun K0 hK0 => ?_)
            refine mix_take hK0 (some 56) (.move (.tmp 9)) 4 _ (by kernel_rfl) (by kernel_rfl) (fun w' hS' => by (have d0 := keep_cell hS' HMB.out.c0; have d1 := keep_cell hS' HMB.out.c1; simp only at d0 d1; simp only [opr]; go_simp; try with_reducible rfl)) (fun K1 hK1 => ?_)
            clear hK0 K0
            simp only [Act.put, List.setIfInBounds_toArray, List.set_cons_zero, List.set_cons_succ]
            refine mix_take hK1 (some 57) (.move (.tmp 6)) 22 _ (by kernel_rfl) (by kernel_rfl) (fun w' hS' => by (have d0 := keep_cell hS' HMB.out.c0; have d1 := keep_cell hS' HMB.out.c1; simp only at d0 d1; simp only [opr]; go_simp; try with_reducible rfl)) (fun K2 hK2 => ?_)
            clear hK1 K1
            simp only [Act.put, List.setIfInBounds_toArray, List.set_cons_zero, List.set_cons_succ]
            refine mix_take hK2 (some 58) (.call { callee := Callee.builtin Builtin.len, args := #[.tmp 57], argTypes := #[22] }) 3 _ (by kernel_rfl) (by kernel_rfl) (fun w' hS' => by (have d0 := keep_cell hS' HMB.out.c0; have d1 := keep_cell hS' HMB.out.c1; simp only at d0 d1; simp only [opr]; go_simp; try with_reducible rfl)) (fun K3 hK3 => ?_)
            clear hK2 K2
            simp only [Act.put, List.setIfInBounds_toArray, List.set_cons_zero, List.set_cons_succ]
            refine mix_take hK3 (some 59) (.binOp BinOp.gtr 3 (.tmp 58) (.const (Value.int IntKind.i64 0)) 3) 4 _ (by kernel_rfl) (by kernel_rfl) (fun w' hS' => by (have d0 := keep_cell hS' HMB.out.c0; have d1 := keep_cell hS' HMB.out.c1; simp only at d0 d1; simp only [opr]; go_simp; try with_reducible rfl)) (fun K4 hK4 => ?_)
            clear hK3 K3
            simp only [Act.put, List.setIfInBounds_toArray, List.set_cons_zero, List.set_cons_succ]
            refine mix_take hK4 (some 60) (.binOp BinOp.neq 4 (.tmp 56) (.tmp 59) 4) 4 _ (by kernel_rfl) (by kernel_rfl) (fun w' hS' => by (have d0 := keep_cell hS' HMB.out.c0; have d1 := keep_cell hS' HMB.out.c1; simp only at d0 d1; simp only [opr]; go_simp; try with_reducible rfl)) (fun K5 hK5 => ?_)
            clear hK4 K4
            simp only [Act.put, List.setIfInBounds_toArray, List.set_cons_zero, List.set_cons_succ]
            refine mix_take hK5 (some 61) (.move (.tmp 60)) 4 _ (by kernel_rfl) (by kernel_rfl) (fun w' hS' => by (have d0 := keep_cell hS' HMB.out.c0; have d1 := keep_cell hS' HMB.out.c1; simp only at d0 d1; simp only [opr]; go_simp; try with_reducible rfl)) (fun K6 hK6 => ?_)
            clear hK5 K5
            simp only [Act.put, List.setIfInBounds_toArray, List.set_cons_zero, List.set_cons_succ]
            refine mix_take hK6 (some 62) (.move (.tmp 9)) 4 _ (by kernel_rfl) (by kernel_rfl) (fun w' hS' => by (have d0 := keep_cell hS' HMB.out.c0; have d1 := keep_cell hS' HMB.out.c1; simp only at d0 d1; simp only [opr]; go_simp; try with_reducible rfl)) (fun K7 hK7 => ?_)
            clear hK6 K6
            simp only [Act.put, List.setIfInBounds_toArray, List.set_cons_zero, List.set_cons_succ]
            refine mix_take hK7 (some 63) (.move (.tmp 62)) 4 _ (by kernel_rfl) (by kernel_rfl) (fun w' hS' => by (have d0 := keep_cell hS' HMB.out.c0; have d1 := keep_cell hS' HMB.out.c1; simp only at d0 d1; simp only [opr]; go_simp; try with_reducible rfl)) (fun K8 hK8 => ?_)
            clear hK7 K7
            simp only [Act.put, List.setIfInBounds_toArray, List.set_cons_zero, List.set_cons_succ]
            refine mix_skip hK8 (some 64) (by kernel_rfl) (by kernel_rfl) hS (fun K9 hK9 => ?_)
            clear hK8 K8
            simp only [Act.put, List.setIfInBounds_toArray, List.set_cons_zero, List.set_cons_succ]
            refine mix_skip hK9 (some 65) (by kernel_rfl) (by kernel_rfl) hS (fun K10 hK10 => ?_)
            clear hK9 K9
            simp only [Act.put, List.setIfInBounds_toArray, List.set_cons_zero, List.set_cons_succ]
            refine mix_skip hK10 (some 66) (by kernel_rfl) (by kernel_rfl) hS (fun K11 hK11 => ?_)
            clear hK10 K10
            simp only [Act.put, List.setIfInBounds_toArray, List.set_cons_zero, List.set_cons_succ]
            refine mix_skip hK11 (some 67) (by kernel_rfl) (by kernel_rfl) hS (fun K12 hK12 => ?_)
            clear hK11 K11
            simp only [Act.put, List.setIfInBounds_toArray, List.set_cons_zero, List.set_cons_succ]
            refine mix_skip hK12 (some 68) (by kernel_rfl) (by kernel_rfl) hS (fun K13 hK13 => ?_)
            clear hK12 K12
            simp only [Act.put, List.setIfInBounds_toArray, List.set_cons_zero, List.set_cons_succ]
            refine mix_skip hK13 (some 69) (by kernel_rfl) (by kernel_rfl) hS (fun K14 hK14 => ?_)
            clear hK13 K13
            simp only [Act.put, List.setIfInBounds_toArray, List.set_cons_zero, List.set_cons_succ]
            refine mix_take hK14 (some 70) (.pick (.tmp 63) (.tmp 69) (.const (Value.bool false))) 4 _ (by kernel_rfl) (by kernel_rfl) (fun w' hS' => by (have d0 := keep_cell hS' HMB.out.c0; have d1 := keep_cell hS' HMB.out.c1; simp only at d0 d1; simp only [opr]; go_simp; try with_reducible rfl)) (fun K15 hK15 => ?_)
            clear hK14 K14
            simp only [Act.put, List.setIfInBounds_toArray, List.set_cons_zero, List.set_cons_succ]
            refine mix_take hK15 (some 71) (.pick (.tmp 61) (.const (Value.bool true)) (.tmp 70)) 4 _ (by kernel_rfl) (by kernel_rfl) (fun w' hS' => by (have d0 := keep_cell hS' HMB.out.c0; have d1 := keep_cell hS' HMB.out.c1; simp only at d0 d1; simp only [opr]; go_simp; try with_reducible rfl)) (fun K16 hK16 => ?_)
            clear hK15 K15
            simp only [Act.put, List.setIfInBounds_toArray, List.set_cons_zero, List.set_cons_succ]
            refine mix_take hK16 (some 72) (.move (.tmp 71)) 4 _ (by kernel_rfl) (by kernel_rfl) (fun w' hS' => by (have d0 := keep_cell hS' HMB.out.c0; have d1 := keep_cell hS' HMB.out.c1; simp only at d0 d1; simp only [opr]; go_simp; try with_reducible rfl)) (fun K17 hK17 => ?_)
            clear hK16 K16
            simp only [Act.put, List.setIfInBounds_toArray, List.set_cons_zero, List.set_cons_succ]
            refine mix_take hK17 (some 73) (.move (.tmp 9)) 4 _ (by kernel_rfl) (by kernel_rfl) (fun w' hS' => by (have d0 := keep_cell hS' HMB.out.c0; have d1 := keep_cell hS' HMB.out.c1; simp only at d0 d1; simp only [opr]; go_simp; try with_reducible rfl)) (fun K18 hK18 => ?_)
            clear hK17 K17
            simp only [Act.put, List.setIfInBounds_toArray, List.set_cons_zero, List.set_cons_succ]
            refine mix_take hK18 (some 74) (.unOp UnOp.not 4 (.tmp 73)) 4 _ (by kernel_rfl) (by kernel_rfl) (fun w' hS' => by (have d0 := keep_cell hS' HMB.out.c0; have d1 := keep_cell hS' HMB.out.c1; simp only at d0 d1; simp only [opr]; go_simp; try with_reducible rfl)) (fun K19 hK19 => ?_)
            clear hK18 K18
            simp only [Act.put, List.setIfInBounds_toArray, List.set_cons_zero, List.set_cons_succ]
            refine mix_take hK19 (some 75) (.move (.tmp 74)) 4 _ (by kernel_rfl) (by kernel_rfl) (fun w' hS' => by (have d0 := keep_cell hS' HMB.out.c0; have d1 := keep_cell hS' HMB.out.c1; simp only at d0 d1; simp only [opr]; go_simp; try with_reducible rfl)) (fun K20 hK20 => ?_)
            clear hK19 K19
            simp only [Act.put, List.setIfInBounds_toArray, List.set_cons_zero, List.set_cons_succ]
            refine mix_take hK20 (some 76) (.fieldAddr 28 (.tmp 8) 0) 0 _ (by kernel_rfl) (by kernel_rfl) (fun w' hS' => by (have d0 := keep_cell hS' HMB.out.c0; have d1 := keep_cell hS' HMB.out.c1; simp only at d0 d1; simp only [opr]; go_simp; try with_reducible rfl)) (fun K21 hK21 => ?_)
            clear hK20 K20
            simp only [Act.put, List.setIfInBounds_toArray, List.set_cons_zero, List.set_cons_succ]
            refine mix_take hK21 (some 77) (.load 3 (.tmp 76)) 3 _ (by kernel_rfl) (by kernel_rfl) (fun w' hS' => by (have d0 := keep_cell hS' HMB.out.c0; have d1 := keep_cell hS' HMB.out.c1; simp only at d0 d1; simp only [opr]; go_simp; try with_reducible rfl)) (fun K22 hK22 => ?_)
            clear hK21 K21
            simp only [Act.put, List.setIfInBounds_toArray, List.set_cons_zero, List.set_cons_succ]
            refine mix_take hK22 (some 78) (.binOp BinOp.neq 3 (.tmp 77) (.const (Value.int IntKind.i64 0)) 3) 4 _ (by kernel_rfl) (by kernel_rfl) (fun w' hS' => by (have d0 := keep_cell hS' HMB.out.c0; have d1 := keep_cell hS' HMB.out.c1; simp only at d0 d1; simp only [opr]; go_simp; try with_reducible rfl)) (fun K23 hK23 => ?_)
            clear hK22 K22
            simp only [Act.put, List.setIfInBounds_toArray, List.set_cons_zero, List.set_cons_succ]
            refine mix_take hK23 (some 79) (.move (.tmp 78)) 4 _ (by kernel_rfl) (by kernel_rfl) (fun w' hS' => by (have d0 := keep_cell hS' HMB.out.c0; have d1 := keep_cell hS' HMB.out.c1; simp only at d0 d1; simp only [opr]; go_simp; try with_reducible rfl)) (fun K24 hK24 => ?_)
            clear hK23 K23
            simp only [Act.put, List.setIfInBounds_toArray, List.set_cons_zero, List.set_cons_succ]
            refine mix_take hK24 (some 80) (.fieldAddr 28 (.tmp 8) 1) 0 _ (by kernel_rfl) (by kernel_rfl) (fun w' hS' => by (have d0 := keep_cell hS' HMB.out.c0; have d1 := keep_cell hS' HMB.out.c1; simp only at d0 d1; simp only [opr]; go_simp; try with_reducible rfl)) (fun K25 hK25 => ?_)
            clear hK24 K24
            simp only [Act.put, List.setIfInBounds_toArray, List.set_cons_zero, List.set_cons_succ]
            refine mix_take hK25 (some 81) (.load 26 (.tmp 80)) 26 _ (by kernel_rfl) (by kernel_rfl) (fun w' hS' => by (have d0 := keep_cell hS' HMB.out.c0; have d1 := keep_cell hS' HMB.out.c1; simp only at d0 d1; simp only [opr]; go_simp; try with_reducible rfl)) (fun K26 hK26 => ?_)
            clear hK25 K25
            simp only [Act.put, List.setIfInBounds_toArray, List.set_cons_zero, List.set_cons_succ]
            refine mix_take hK26 (some 82) (.call { callee := Callee.builtin Builtin.len, args := #[.tmp 81], argTypes := #[26] }) 3 _ (by kernel_rfl) (by kernel_rfl) (fun w' hS' => by (have d0 := keep_cell hS' HMB.out.c0; have d1 := keep_cell hS' HMB.out.c1; simp only at d0 d1; simp only [opr]; go_simp; try with_reducible rfl)) (fun K27 hK27 => ?_)
            clear hK26 K26
            simp only [Act.put, List.setIfInBounds_toArray, List.set_cons_zero, List.set_cons_succ]
            refine mix_take hK27 (some 83) (.binOp BinOp.gtr 3 (.tmp 82) (.const (Value.int IntKind.i64 0)) 3) 4 _ (by kernel_rfl) (by kernel_rfl) (fun w' hS' => by (have d0 := keep_cell hS' HMB.out.c0; have d1 := keep_cell hS' HMB.out.c1; simp only at d0 d1; simp only [opr]; go_simp; try with_reducible rfl)) (fun K28 hK28 => ?_)
            clear hK27 K27
            simp only [Act.put, List.setIfInBounds_toArray, List.set_cons_zero, List.set_cons_succ]
            refine mix_take hK28 (some 84) (.pick (.tmp 79) (.const (Value.bool true)) (.tmp 83)) 4 _ (by kernel_rfl) (by kernel_rfl) (fun w' hS' => by (have d0 := keep_cell hS' HMB.out.c0; have d1 := keep_cell hS' HMB.out.c1; simp only at d0 d1; simp only [opr]; go_simp; try with_reducible rfl)) (fun K29 hK29 => ?_)
            clear hK28 K28
            simp only [Act.put, List.setIfInBounds_toArray, List.set_cons_zero, List.set_cons_succ]
            refine mix_take hK29 (some 85) (.pick (.tmp 75) (.tmp 84) (.const (Value.bool false))) 4 _ (by kernel_rfl) (by kernel_rfl) (fun w' hS' => by (have d0 := keep_cell hS' HMB.out.c0; have d1 := keep_cell hS' HMB.out.c1; simp only at d0 d1; simp only [opr]; go_simp; try with_reducible rfl)) (fun K30 hK30 => ?_)
            clear hK29 K29
            simp only [Act.put, List.setIfInBounds_toArray, List.set_cons_zero, List.set_cons_succ]
            refine mix_take hK30 (some 86) (.pick (.tmp 72) (.const (Value.bool true)) (.tmp 85)) 4 _ (by kernel_rfl) (by kernel_rfl) (fun w' hS' => by (have d0 := keep_cell hS' HMB.out.c0; have d1 := keep_cell hS' HMB.out.c1; simp only at d0 d1; simp only [opr]; go_simp; try with_reducible rfl)) (fun K31 hK31 => ?_)
            clear hK30 K30
            simp only [Act.put, List.setIfInBounds_toArray, List.set_cons_zero, List.set_cons_succ]
            refine hK31 _ _ (mix_nil ?_)
            clear hK31 K31
            have HP3 := hide' (HP2.out.keep (Stay.refl _ _).drew)
            clear hS HMB HP2
            go_wp2
            go_roundg (n - (i + 1))
            case measure => omega
            case rel => exact ⟨i + 1, xa, 0, xc, q, [], by omega, rfl, rfl, by go_num, HXN, HP3⟩
          | cons p X =>
            obtain ⟨pf, pa, pl, pc⟩ := p
            have hxn := HXN.out
            rw [List.length_cons] at hxn
            have x1 : (0 : Int) < (xn : Nat) := by omega
            have x1n : 0 < xn := by omega
            obtain ⟨pn, hpn⟩ : ∃ n, n = pl.length := ⟨_, rfl⟩
            obtain ⟨xg, xo, rfl, hx0, hx1⟩ := HP.out.first
            simp only at hx0 hx1
            rw [← hpn] at hx1
            have hgd := HP.out.good _ (List.mem_cons_self ..)
            simp only at hgd
            rw [← hpn] at hgd
            have HGD : Hid (Bs w (.slice pa pn pc) pl ∧ pn ≤ 4096) := hgd
            have HPN := hide' hpn
            have HT := hide' (take_in (show RIn w wr b r q ((pf, pl) :: md X) from HP.out.rin))
            have hsll := fun w => slice_l_eq (P := Try.prog) (sa := some ⟨xg, xo, none⟩) (m := xn) (cap := xc) (k := 1) elem22 size22 (by omega) w
            obtain ⟨va, hva⟩ : ∃ a, a = (if xc = 1 then (some ⟨xg, xo, none⟩ : Option Addr) else (some ⟨xg, xo, none⟩ : Option Addr).map (·.add (1 * 2))) := ⟨_, rfl⟩
            obtain ⟨nl, hnl⟩ : ∃ n, n = xn - 1 := ⟨_, rfl⟩
            obtain ⟨nc, hnc⟩ : ∃ n, n = xc - 1 := ⟨_, rfl⟩
            rw [← hva, ← hnl, ← hnc] at hsll
            have HVA : Hid (Value.slice va nl nc = Value.slice (if xc = 1 then (some ⟨xg, xo, none⟩ : Option Addr) else (some ⟨xg, xo, none⟩ : Option Addr).map (·.add (1 * 2))) (xn - 1) (xc - 1)) := by rw [hva, hnl, hnc]; exact rfl
            have hsll1 : ∀ w, (Instr.slice 22 (.slice (some ⟨xg, xo, none⟩) xn xc) (some (.int .i64 1)) none none).run Try.prog w = .ok (.slice va nl nc) w := hsll
            clear hva hnl hnc hsll hpn hgd hxn
            go_wp2_with fail
            refine HT.out.mono ?_
            rintro e w2 ⟨q2, za, zk, zc, rfl, hi, hm, hh, _⟩
            obtain ⟨B8, hB8⟩ : ∃ B, B = w2.heap.size := ⟨_, rfl⟩
            obtain ⟨W2, hW2⟩ : ∃ W, W = w2.alloc (.cells #[.int .i64 pf, .slice za zk zc] 28) := ⟨_, rfl⟩
            have hst2 : Stay (fun _ => False) w2 W2 := by rw [hW2]; exact (Stay.refl _ _).alloc _
            have HMB : Hid (MBox W2 B8 ⟨pf, .slice za zk zc⟩) := by rw [hW2]; exact MBox.new ⟨pf, .slice za zk zc⟩ hB8.symm
            have HW2 : Hid (B8 = w2.heap.size ∧ W2 = w2.alloc (.cells #[.int .i64 pf, .slice za zk zc] 28)) := ⟨hB8, hW2⟩
            have HP2 : Hid (X.length = nl ∧ PG w W2 b r q2 (.slice va nl nc) X) := by
              have h := HP.out.took HXN.out hi hm HVA.out
              exact ⟨h.1, h.2.keep hst2⟩
            have hwin := (HP.out.moved hm).1.stay hst2 (fun _ _ h => h)
            have HX0 : Hid (W2.cell? ⟨xg, xo, none⟩ = some (.int .i64 pf) ∧ W2.cell? ⟨xg, xo + 1, none⟩ = some (.slice pa pn pc)) := by
              rcases hwin.2 with ⟨_, h0⟩ | ⟨g, o, cp, e, _, _, _, h3, _⟩
              · cases h0
              · cases e
                rw [HPN.out]
                exact ⟨h3 0 _ rfl, h3 1 _ rfl⟩
            have hzb := (hh.keep hst2).bs
            have hsw : Stay (fun _ => False) w W2 := hi.stay.trans hst2
            have HSM : Hid (∀ w', Stay (fun _ => False) W2 w' → Calls Try.prog 10 #[.agg #[.int .i64 pf, .slice za zk zc], .agg #[.int .i64 pf, .slice pa pn pc]] w' (Gives (.bool true) w')) := fun w' hs => same10 pf _ _ pl w' (hzb.keep hs) (HGD.out.1.keep (hsw.trans hs)) (by have h1 := HGD.out.2; have h2 := HPN.out; omega)
            clear hi hm hh hB8 hW2 hst2 hwin hzb hsw hx0 hx1 HT HP m0 m1
            go_upto_region 16 with fail
            obtain ⟨hB8, hW2⟩ := HW2.out
            rw [← hW2, ← hB8]
            clear hB8 hW2 HW2
            have hS : (fun w' => Stay (fun _ => False) W2 w') W2.drew := (Stay.refl _ _).drew
            refine wp_region_mix (fun w' => Stay (fun _ => False) W2 w') [(0, true), (1, true), (2, true), (3, true), (4, true), (5, true), (6, true), (7, true), (8, true), (9, true), (10, true), (11, true), (12, false), (13, true), (14, true), (15, true), (16, true), (17, true), (18, true), (19, true), (20, true), (21, true), (22, true), (23, true), (24, true), (25, true), (26, true), (27, true), (28, true), (29, true), (30, true)] (by kernel_rfl) (by kernel_rfl) (fun _ d _ _ _ h => by cases d <;> exact h) hS ?_
            refine mix_begin (fun K0 hK0 => ?_)
            refine mix_take hK0 (some 56) (.move (.tmp 9)) 4 _ (by kernel_rfl) (by kernel_rfl) (fun w' hS' => by (have d0 := keep_cell hS' HMB.out.c0; have d1 := keep_cell hS' HMB.out.c1; simp only at d0 d1; simp only [opr]; go_simp; try with_reducible rfl)) (fun K1 hK1 => ?_)
            clear hK0 K0
            simp only [Act.put, List.setIfInBounds_toArray, List.set_cons_zero, List.set_cons_succ]
            refine mix_take hK1 (some 57) (.move (.tmp 6)) 22 _ (by kernel_rfl) (by kernel_rfl) (fun w' hS' => by (have d0 := keep_cell hS' HMB.out.c0; have d1 := keep_cell hS' HMB.out.c1; simp only at d0 d1; simp only [opr]; go_simp; try with_reducible rfl)) (fun K2 hK2 => ?_)
            clear hK1 K1
            simp only [Act.put, List.setIfInBounds_toArray, List.set_cons_zero, List.set_cons_succ]
            refine mix_take hK2 (some 58) (.call { callee := Callee.builtin Builtin.len, args := #[.tmp 57], argTypes := #[22] }) 3 _ (by kernel_rfl) (by kernel_rfl) (fun w' hS' => by (have d0 := keep_cell hS' HMB.out.c0; have d1 := keep_cell hS' HMB.out.c1; simp only at d0 d1; simp only [opr]; go_simp; try with_reducible rfl)) (fun K3 hK3 => ?_)
            clear hK2 K2
            simp only [Act.put, List.setIfInBounds_toArray, List.set_cons_zero, List.set_cons_succ]
            refine mix_take hK3 (some 59) (.binOp BinOp.gtr 3 (.tmp 58) (.const (Value.int IntKind.i64 0)) 3) 4 _ (by kernel_rfl) (by kernel_rfl) (fun w' hS' => by (have d0 := keep_cell hS' HMB.out.c0; have d1 := keep_cell hS' HMB.out.c1; simp only at d0 d1; simp only [opr]; go_simp; try with_reducible rfl)) (fun K4 hK4 => ?_)
            clear hK3 K3
            simp only [Act.put, List.setIfInBounds_toArray, List.set_cons_zero, List.set_cons_succ]
            refine mix_take hK4 (some 60) (.binOp BinOp.neq 4 (.tmp 56) (.tmp 59) 4) 4 _ (by kernel_rfl) (by kernel_rfl) (fun w' hS' => by (have d0 := keep_cell hS' HMB.out.c0; have d1 := keep_cell hS' HMB.out.c1; simp only at d0 d1; simp only [opr]; go_simp; try with_reducible rfl)) (fun K5 hK5 => ?_)
            clear hK4 K4
            simp only [Act.put, List.setIfInBounds_toArray, List.set_cons_zero, List.set_cons_succ]
            refine mix_take hK5 (some 61) (.move (.tmp 60)) 4 _ (by kernel_rfl) (by kernel_rfl) (fun w' hS' => by (have d0 := keep_cell hS' HMB.out.c0; have d1 := keep_cell hS' HMB.out.c1; simp only at d0 d1; simp only [opr]; go_simp; try with_reducible rfl)) (fun K6 hK6 => ?_)
            clear hK5 K5
            simp only [Act.put, List.setIfInBounds_toArray, List.set_cons_zero, List.set_cons_succ]
            refine mix_take hK6 (some 62) (.move (.tmp 9)) 4 _ (by kernel_rfl) (by kernel_rfl) (fun w' hS' => by (have d0 := keep_cell hS' HMB.out.c0; have d1 := keep_cell hS' HMB.out.c1; simp only at d0 d1; simp only [opr]; go_simp; try with_reducible rfl)) (fun K7 hK7 => ?_)
            clear hK6 K6
            simp only [Act.put, List.setIfInBounds_toArray, List.set_cons_zero, List.set_cons_succ]
            refine mix_take hK7 (some 63) (.move (.tmp 62)) 4 _ (by kernel_rfl) (by kernel_rfl) (fun w' hS' => by (have d0 := keep_cell hS' HMB.out.c0; have d1 := keep_cell hS' HMB.out.c1; simp only at d0 d1; simp only [opr]; go_simp; try with_reducible rfl)) (fun K8 hK8 => ?_)
            clear hK7 K7
            simp only [Act.put, List.setIfInBounds_toArray, List.set_cons_zero, List.set_cons_succ]
            refine mix_take hK8 (some 64) (.load 28 (.tmp 8)) 28 _ (by kernel_rfl) (by kernel_rfl) (fun w' hS' => by exact run_load_MBox rfl rfl (HMB.out.keep hS')) (fun K9 hK9 => ?_)
            clear hK8 K8
            simp only [Act.put, List.setIfInBounds_toArray, List.set_cons_zero, List.set_cons_succ]
            refine mix_take hK9 (some 65) (.move (.tmp 6)) 22 _ (by kernel_rfl) (by kernel_rfl) (fun w' hS' => by (have d0 := keep_cell hS' HMB.out.c0; have d1 := keep_cell hS' HMB.out.c1; simp only at d0 d1; simp only [opr]; go_simp; try with_reducible rfl)) (fun K10 hK10 => ?_)
            clear hK9 K9
            simp only [Act.put, List.setIfInBounds_toArray, List.set_cons_zero, List.set_cons_succ]
            refine mix_take hK10 (some 66) (.indexAddr 22 (.tmp 65) (.const (Value.int IntKind.i64 0))) 0 _ (by kernel_rfl) (by kernel_rfl) (fun w' hS' => by (have d0 := keep_cell hS' HMB.out.c0; have d1 := keep_cell hS' HMB.out.c1; simp only at d0 d1; simp only [opr]; go_simp; try with_reducible rfl)) (fun K11 hK11 => ?_)
            clear hK10 K10
            simp only [Act.put, List.setIfInBounds_toArray, List.set_cons_zero, List.set_cons_succ]
            refine mix_take hK11 (some 67) (.load 28 (.tmp 66)) 28 _ (by kernel_rfl) (by kernel_rfl) (fun w' hS' => by exact run_load_MBoxAt (g := xg) (o := xo) (r := ⟨pf, .slice pa pn pc⟩) rfl rfl ⟨keep_cell hS' HX0.out.1, keep_cell hS' HX0.out.2⟩) (fun K12 hK12 => ?_)
            clear hK11 K11
            simp only [Act.put, List.setIfInBounds_toArray, List.set_cons_zero, List.set_cons_succ]
            refine mix_call hK12 (some 68) 10 #[.tmp 64, .tmp 67] #[28, 28] 4 _ (by kernel_rfl) (by kernel_rfl) (enters Try.func10 (by kernel_rfl) (by kernel_rfl)) (by go_simp; try with_reducible rfl) (fun K13 hK13 => ?_)
            clear hK12 K12
            refine (HSM.out _ hS).mono ?_
            rintro e wm1 ⟨rfl, hs1⟩
            have hS1 : _ := (show (fun w' => Stay (fun _ => False) W2 w') wm1 from hS.trans hs1)
            refine ⟨_, rfl, hS1, ?_⟩
            clear hs1
            simp only [Act.put, List.setIfInBounds_toArray, List.set_cons_zero, List.set_cons_succ]
            refine mix_take hK13 (some 69) (.unOp UnOp.not 4 (.tmp 68)) 4 _ (by kernel_rfl) (by kernel_rfl) (fun w' hS' => by (have d0 := keep_cell hS' HMB.out.c0; have d1 := keep_cell hS' HMB.out.c1; simp only at d0 d1; simp only [opr]; go_simp; try with_reducible rfl)) (fun K14 hK14 => ?_)
            clear hK13 K13
            simp only [Act.put, List.setIfInBounds_toArray, List.set_cons_zero, List.set_cons_succ]
            refine mix_take hK14 (some 70) (.pick (.tmp 63) (.tmp 69) (.const (Value.bool false))) 4 _ (by kernel_rfl) (by kernel_rfl) (fun w' hS' => by (have d0 := keep_cell hS' HMB.out.c0; have d1 := keep_cell hS' HMB.out.c1; simp only at d0 d1; simp only [opr]; go_simp; try with_reducible rfl)) (fun K15 hK15 => ?_)
            clear hK14 K14
            simp only [Act.put, List.setIfInBounds_toArray, List.set_cons_zero, List.set_cons_succ]
            refine mix_take hK15 (some 71) (.pick (.tmp 61) (.const (Value.bool true)) (.tmp 70)) 4 _ (by kernel_rfl) (by kernel_rfl) (fun w' hS' => by (have d0 := keep_cell hS' HMB.out.c0; have d1 := keep_cell hS' HMB.out.c1; simp only at d0 d1; simp only [opr]; go_simp; try with_reducible rfl)) (fun K16 hK16 => ?_)
            clear hK15 K15
            simp only [Act.put, List.setIfInBounds_toArray, List.set_cons_zero, List.set_cons_succ]
            refine mix_take hK16 (some 72) (.move (.tmp 71)) 4 _ (by kernel_rfl) (by kernel_rfl) (fun w' hS' => by (have d0 := keep_cell hS' HMB.out.c0; have d1 := keep_cell hS' HMB.out.c1; simp only at d0 d1; simp only [opr]; go_simp; try with_reducible rfl)) (fun K17 hK17 => ?_)
            clear hK16 K16
            simp only [Act.put, List.setIfInBounds_toArray, List.set_cons_zero, List.set_cons_succ]
            refine mix_take hK17 (some 73) (.move (.tmp 9)) 4 _ (by kernel_rfl) (by kernel_rfl) (fun w' hS' => by (have d0 := keep_cell hS' HMB.out.c0; have d1 := keep_cell hS' HMB.out.c1; simp only at d0 d1; simp only [opr]; go_simp; try with_reducible rfl)) (fun K18 hK18 => ?_)
            clear hK17 K17
            simp only [Act.put, List.setIfInBounds_toArray, List.set_cons_zero, List.set_cons_succ]
            refine mix_take hK18 (some 74) (.unOp UnOp.not 4 (.tmp 73)) 4 _ (by kernel_rfl) (by kernel_rfl) (fun w' hS' => by (have d0 := keep_cell hS' HMB.out.c0; have d1 := keep_cell hS' HMB.out.c1; simp only at d0 d1; simp only [opr]; go_simp; try with_reducible rfl)) (fun K19 hK19 => ?_)
            clear hK18 K18
            simp only [Act.put, List.setIfInBounds_toArray, List.set_cons_zero, List.set_cons_succ]
            refine mix_take hK19 (some 75) (.move (.tmp 74)) 4 _ (by kernel_rfl) (by kernel_rfl) (fun w' hS' => by (have d0 := keep_cell hS' HMB.out.c0; have d1 := keep_cell hS' HMB.out.c1; simp only at d0 d1; simp only [opr]; go_simp; try with_reducible rfl)) (fun K20 hK20 => ?_)
            clear hK19 K19
            simp only [Act.put, List.setIfInBounds_toArray, List.set_cons_zero, List.set_cons_succ]
            refine mix_skip hK20 (some 76) (by kernel_rfl) (by kernel_rfl) hS1 (fun K21 hK21 => ?_)
            clear hK20 K20
            simp only [Act.put, List.setIfInBounds_toArray, List.set_cons_zero, List.set_cons_succ]
            refine mix_skip hK21 (some 77) (by kernel_rfl) (by kernel_rfl) hS1 (fun K22 hK22 => ?_)
            clear hK21 K21
            simp only [Act.put, List.setIfInBounds_toArray, List.set_cons_zero, List.set_cons_succ]
            refine mix_skip hK22 (some 78) (by kernel_rfl) (by kernel_rfl) hS1 (fun K23 hK23 => ?_)
            clear hK22 K22
            simp only [Act.put, List.setIfInBounds_toArray, List.set_cons_zero, List.set_cons_succ]
            refine mix_skip hK23 (some 79) (by kernel_rfl) (by kernel_rfl) hS1 (fun K24 hK24 => ?_)
            clear hK23 K23
            simp only [Act.put, List.setIfInBounds_toArray, List.set_cons_zero, List.set_cons_succ]
            refine mix_skip hK24 (some 80) (by kernel_rfl) (by kernel_rfl) hS1 (fun K25 hK25 => ?_)
            clear hK24 K24
            simp only [Act.put, List.setIfInBounds_toArray, List.set_cons_zero, List.set_cons_succ]
            refine mix_skip hK25 (some 81) (by kernel_rfl) (by kernel_rfl) hS1 (fun K26 hK26 => ?_)
            clear hK25 K25
            simp only [Act.put, List.setIfInBounds_toArray, List.set_cons_zero, List.set_cons_succ]
            refine mix_skip hK26 (some 82) (by kernel_rfl) (by kernel_rfl) hS1 (fun K27 hK27 => ?_)
            clear hK26 K26
            simp only [Act.put, List.setIfInBounds_toArray, List.set_cons_zero, List.set_cons_succ]
            refine mix_skip hK27 (some 83) (by kernel_rfl) (by kernel_rfl) hS1 (fun K28 hK28 => ?_)
            clear hK27 K27
            simp only [Act.put, List.setIfInBounds_toArray, List.set_cons_zero, List.set_cons_succ]
            refine mix_skip hK28 (some 84) (by kernel_rfl) (by kernel_rfl) hS1 (fun K29 hK29 => ?_)
            clear hK28 K28
            simp only [Act.put, List.setIfInBounds_toArray, List.set_cons_zero, List.set_cons_succ]
            refine mix_take hK29 (some 85) (.pick (.tmp 75) (.tmp 84) (.const (Value.bool false))) 4 _ (by kernel_rfl) (by kernel_rfl) (fun w' hS' => by (have d0 := keep_cell hS' HMB.out.c0; have d1 := keep_cell hS' HMB.out.c1; simp only at d0 d1; simp only [opr]; go_simp; try with_reducible rfl)) (fun K30 hK30 => ?_)
            clear hK29 K29
            simp only [Act.put, List.setIfInBounds_toArray, List.set_cons_zero, List.set_cons_succ]
            refine mix_take hK30 (some 86) (.pick (.tmp 72) (.const (Value.bool true)) (.tmp 85)) 4 _ (by kernel_rfl) (by kernel_rfl) (fun w' hS' => by (have d0 := keep_cell hS' HMB.out.c0; have d1 := keep_cell hS' HMB.out.c1; simp only at d0 d1; simp only [opr]; go_simp; try with_reducible rfl)) (fun K31 hK31 => ?_)
            clear hK30 K30
            simp only [Act.put, List.setIfInBounds_toArray, List.set_cons_zero, List.set_cons_succ]
            refine hK31 _ _ (mix_nil ?_)
            clear hK31 K31
            have HP3 : Hid (X.length = nl ∧ PG w wm1 b r q2 (.slice va nl nc) X) := ⟨HP2.out.1, HP2.out.2.keep hS1⟩
            clear hS hS1 HMB HP2 HSM HX0
            go_wp2
            go_roundg (n - (i + 1))
            case measure => omega
            case rel => exact ⟨i + 1, va, nl, nc, q2, X, by omega, rfl, rfl, by go_num, HP3.out.1, HP3.out.2⟩
        · by_cases h4 : 4096 < ln
          · obtain ⟨ec, hec⟩ : ∃ e : Int, e = 10 := ⟨_, rfl⟩
            have ec0 : ¬ ec = 0 := by omega
            have HREF := hide' (fun W => rsend11_long (xn : Nat) (r : Nat) a0 ln c0 W h4)
            have HSEND : Hid (∀ W ba bc, RIn w W b r q (md X) → Calls Try.prog 12 #[.pointer (some ⟨b, 0, none⟩), .int .i64 fr, .slice ba ln bc] W fun e w' => e = .returned (.int .i64 10) ∧ RIn w w' b r q (md X) ∧ Stay (fun _ => False) W w') := fun W ba bc h => send_long fr ba ln bc h h4
            rw [← hec] at HREF HSEND
            clear hec h4
            go_wp2_with fail
            refine (HREF.out _).mono ?_
            rintro e w3 ⟨rfl, hs⟩
            have HP3 := hide' (HP.out.keep hs)
            have m0' := keep_cell hs m0
            have m1' := keep_cell hs m1
            have a1 : ∀ o : Obj, (w3.alloc o).cell? _ = _ := fun o => keep_cell ((Stay.refl _ _).alloc o) m1'
            have HO : Hid ((w3.alloc (.cells #[] 5)).ownsRow w3.heap.size 5 1 (.slice (some ⟨w3.heap.size, 0, none⟩) 0 0) 0 []) := owns_newS w3 #[] 5 1 0 rfl (by decide)
            have HSRC : Hid (IsRow (w3.alloc (.cells #[] 5)) (.slice a0 ln c0) (bys l)) := by
              have h := (HIARG.out.stay0 ((HP3.out.rin.stay).alloc (.cells #[] 5))).row
              exact h
            have HLB : Hid (0 + (bys l).length ≤ 1000000) := by rw [bys_len]; have h1 := HLN.out; show 0 + l.length ≤ 1000000; omega
            have HBS : Hid (w3.heap.size ≤ (w3.alloc (.cells #[] 5)).heap.size) := ((Stay.refl (fun _ => False) w3).alloc _).size
            clear hs HREF HP m0 m1 m0' m1'
            go_wp2_with (at_builtin; go_must (refine appL (fun j => w3.heap.size ≤ j) rfl _ _ 26 rfl Try.underlying26 info5 rfl (by decide) HO.out rfl HSRC.out rfl (bys_one _) HLB.out HBS.out (fun k hk => (HO.out.lt k hk).1) ?_; intro v4 w4 ho hs; have HO4 := hide' ho; have HS4 := hide' hs; clear ho hs a1; obtain ⟨HB4, HH4, HWS4, HP4⟩ : Hid (∀ j, v4.ownBlock = some j → w3.heap.size ≤ j ∧ j < w4.heap.size) ∧ Hid (Holds w4 v4 l) ∧ Hid (Stay (fun _ => False) w3 w4) ∧ True := ⟨fun j hj => ⟨(HO4.out.lt j hj).1, (HO4.out.lt j hj).2⟩, (by have h := HO4.out; rw [Nat.zero_add, List.nil_append, bys_len] at h; exact ownsRow_base h (Nat.zero_le _)), ((Stay.refl (fun _ => False) w3).alloc (.cells #[] 5)).trans2 HS4.out (fun j hj h => by omega), trivial⟩; obtain ⟨ba, bc, rfl⟩ : ∃ a c, v4 = .slice a ln c := (by obtain ⟨a, c, h, _⟩ := ownsRow_shape HH4.out; exact ⟨a, c, by rw [h, HLN.out]⟩); clear HO4 HS4 HO HSRC HLB HBS; have HP4 := hide' (HP3.out.keep HWS4.out); have m0 := keep_cell HP4.out.rin.stay M0.out; have m1 := keep_cell HP4.out.rin.stay M1.out; have HSN := hide' (HSEND.out w4 ba bc HP4.out.rin)))
            refine HSN.out.mono ?_
            rintro e w5 ⟨rfl, _, hs⟩
            have HK := hide' (HP4.out.keep hs)
            have HBX : Hid (∀ j, Blk ba j → w.heap.size ≤ j ∧ ¬ q.own j ∧ ¬ (Value.slice xa xn xc).ownBlock = some j) := fun j hj => by
              have h1 := HB4.out j (blk_of hj)
              have h0 := HP3.out.rin.stay.size
              refine ⟨by omega, fun e => ?_, fun e => ?_⟩
              · have := HP3.out.rin.at'.lt j e
                omega
              · have := HP3.out.win.lt j e
                omega
            have HWB := hide' ((HH4.out.keep hs).wr)
            clear hs
            clear HSN HP4 HP3 HB4 HH4 HWS4 m0 m1
            go_wp2_with fail
            go_loopg [12] 3 (fun gg v12 wr => ∃ k : Nat, k ≤ 3 ∧ gg = 3 - k ∧ v12 = .int .i64 (k : Int) ∧ Hid (Stay (Blk ba) w5 wr ∧ Wr wr ba ln))
            case atStart => exact ⟨0, Nat.zero_le _, rfl, rfl, ⟨Stay.refl _ _, HWB.out⟩⟩
            case round =>
              clear HWB
              obtain ⟨k, hk3, rfl, rfl, HC⟩ := hrel
              have HWK : Hid (Stay (fun _ => False) w wr) := (HK.out.rin.stay).trans2 HC.out.1 (fun j hj e => by have := (HBX.out j e).1; omega)
              by_cases hkl : k < ln
              · have kn : (k : Int) < (ln : Nat) := by omega
                by_cases hk : k < 3
                · have kn3 : (k : Int) < 3 := by omega
                  obtain ⟨g4, cap4, f4, rfl, hrow, hcap, hf⟩ := HC.out.2 k hkl
                  obtain ⟨z, hz⟩ := hf k hkl
                  have hce := hrow.cell (show k < cap4 by omega)
                  rw [hz] at hce
                  have hfr := hrow.frozen k
                  have HRW := hide' hrow
                  have HFF := hide' hf
                  have HCP := hide' hcap
                  obtain ⟨z2, hz2⟩ : ∃ z2, z2 = IntKind.u8.wrap (z + 1) := ⟨_, rfl⟩
                  have e8 := hz2.symm
                  have HN : Hid (Stay (Blk (some ⟨g4, 0, none⟩)) w5 (wr.setCell ⟨g4, k, none⟩ (.int .u8 z2)) ∧ Wr (wr.setCell ⟨g4, k, none⟩ (.int .u8 z2)) (some ⟨g4, 0, none⟩) ln) := ⟨HC.out.1.setCell (p := ⟨g4, k, none⟩) rfl _, Wr.put HRW.out HCP.out HFF.out⟩
                  clear hz hrow hf hcap hz2 HC HRW HFF HCP HWK
                  go_wp2
                  go_roundg (3 - (k + 1))
                  case measure => omega
                  case rel => exact ⟨k + 1, by omega, rfl, by go_num, HN⟩
                · have kn3 : ¬ (k : Int) < 3 := by omega
                  have hpk : PG w wr b r q (.slice xa xn xc) X := HK.out.beside HC.out.1 HBX.out
                  have HLE := hide' (len_in xn hpk.rin (by rw [md_len]; exact HXN.out))
                  have HPK := hide' hpk
                  clear hpk HC HK
                  go_wp2_with fail
                  refine HLE.out.mono ?_
                  rintro e w10 ⟨rfl, _, hs⟩
                  have HPF := hide' (HPK.out.keep hs)
                  clear hs HLE HPK
                  go_wp2
                  go_roundg (n - (i + 1))
                  case measure => omega
                  case rel => exact ⟨i + 1, xa, xn, xc, q, X, by omega, rfl, rfl, by go_num, HXN, HPF⟩
              · have kn : ¬ (k : Int) < (ln : Nat) := by omega
                have hpk : PG w wr b r q (.slice xa xn xc) X := HK.out.beside HC.out.1 HBX.out
                have HLE := hide' (len_in xn hpk.rin (by rw [md_len]; exact HXN.out))
                have HPK := hide' hpk
                clear hpk HC HK
                go_wp2_with fail
                refine HLE.out.mono ?_
                rintro e w10 ⟨rfl, _, hs⟩
                have HPF := hide' (HPK.out.keep hs)
                clear hs HLE HPK
                go_wp2
                go_roundg (n - (i + 1))
                case measure => omega
                case rel => exact ⟨i + 1, xa, xn, xc, q, X, by omega, rfl, rfl, by go_num, HXN, HPF⟩
          · by_cases hfull : r ≤ xn
            · obtain ⟨ec, hec⟩ : ∃ e : Int, e = 3 := ⟨_, rfl⟩
              have ec0 : ¬ ec = 0 := by omega
              have HREF := hide' (fun W => rsend11_full (xn : Nat) (r : Nat) a0 ln c0 W (by omega) (by omega))
              have HSEND : Hid (∀ W ba bc, RIn w W b r q (md X) → Calls Try.prog 12 #[.pointer (some ⟨b, 0, none⟩), .int .i64 fr, .slice ba ln bc] W fun e w' => e = .returned (.int .i64 3) ∧ RIn w w' b r q (md X) ∧ Stay (fun _ => False) W w') := fun W ba bc h => send_full fr ba ln bc h (by omega) (by rw [md_len, HXN.out]; exact hfull)
              rw [← hec] at HREF HSEND
              clear hec h4 hfull
              go_wp2_with fail
              refine (HREF.out _).mono ?_
              rintro e w3 ⟨rfl, hs⟩
              have HP3 := hide' (HP.out.keep hs)
              have m0' := keep_cell hs m0
              have m1' := keep_cell hs m1
              have a1 : ∀ o : Obj, (w3.alloc o).cell? _ = _ := fun o => keep_cell ((Stay.refl _ _).alloc o) m1'
              have HO : Hid ((w3.alloc (.cells #[] 5)).ownsRow w3.heap.size 5 1 (.slice (some ⟨w3.heap.size, 0, none⟩) 0 0) 0 []) := owns_newS w3 #[] 5 1 0 rfl (by decide)
              have HSRC : Hid (IsRow (w3.alloc (.cells #[] 5)) (.slice a0 ln c0) (bys l)) := by
                have h := (HIARG.out.stay0 ((HP3.out.rin.stay).alloc (.cells #[] 5))).row
                exact h
              have HLB : Hid (0 + (bys l).length ≤ 1000000) := by rw [bys_len]; have h1 := HLN.out; show 0 + l.length ≤ 1000000; omega
              have HBS : Hid (w3.heap.size ≤ (w3.alloc (.cells #[] 5)).heap.size) := ((Stay.refl (fun _ => False) w3).alloc _).size
              clear hs HREF HP m0 m1 m0' m1'
              go_wp2_with (at_builtin; go_must (refine appL (fun j => w3.heap.size ≤ j) rfl _ _ 26 rfl Try.underlying26 info5 rfl (by decide) HO.out rfl HSRC.out rfl (bys_one _) HLB.out HBS.out (fun k hk => (HO.out.lt k hk).1) ?_; intro v4 w4 ho hs; have HO4 := hide' ho; have HS4 := hide' hs; clear ho hs a1; obtain ⟨HB4, HH4, HWS4, HP4⟩ : Hid (∀ j, v4.ownBlock = some j → w3.heap.size ≤ j ∧ j < w4.heap.size) ∧ Hid (Holds w4 v4 l) ∧ Hid (Stay (fun _ => False) w3 w4) ∧ True := ⟨fun j hj => ⟨(HO4.out.lt j hj).1, (HO4.out.lt j hj).2⟩, (by have h := HO4.out; rw [Nat.zero_add, List.nil_append, bys_len] at h; exact ownsRow_base h (Nat.zero_le _)), ((Stay.refl (fun _ => False) w3).alloc (.cells #[] 5)).trans2 HS4.out (fun j hj h => by omega), trivial⟩; obtain ⟨ba, bc, rfl⟩ : ∃ a c, v4 = .slice a ln c := (by obtain ⟨a, c, h, _⟩ := ownsRow_shape HH4.out; exact ⟨a, c, by rw [h, HLN.out]⟩); clear HO4 HS4 HO HSRC HLB HBS; have HP4 := hide' (HP3.out.keep HWS4.out); have m0 := keep_cell HP4.out.rin.stay M0.out; have m1 := keep_cell HP4.out.rin.stay M1.out; have HSN := hide' (HSEND.out w4 ba bc HP4.out.rin)))
              refine HSN.out.mono ?_
              rintro e w5 ⟨rfl, _, hs⟩
              have HK := hide' (HP4.out.keep hs)
              have HBX : Hid (∀ j, Blk ba j → w.heap.size ≤ j ∧ ¬ q.own j ∧ ¬ (Value.slice xa xn xc).ownBlock = some j) := fun j hj => by
                have h1 := HB4.out j (blk_of hj)
                have h0 := HP3.out.rin.stay.size
                refine ⟨by omega, fun e => ?_, fun e => ?_⟩
                · have := HP3.out.rin.at'.lt j e
                  omega
                · have := HP3.out.win.lt j e
                  omega
              have HWB := hide' ((HH4.out.keep hs).wr)
              clear hs
              clear HSN HP4 HP3 HB4 HH4 HWS4 m0 m1
              go_wp2_with fail
              go_loopg [12] 3 (fun gg v12 wr => ∃ k : Nat, k ≤ 3 ∧ gg = 3 - k ∧ v12 = .int .i64 (k : Int) ∧ Hid (Stay (Blk ba) w5 wr ∧ Wr wr ba ln))
              case atStart => exact ⟨0, Nat.zero_le _, rfl, rfl, ⟨Stay.refl _ _, HWB.out⟩⟩
              case round =>
                clear HWB
                obtain ⟨k, hk3, rfl, rfl, HC⟩ := hrel
                have HWK : Hid (Stay (fun _ => False) w wr) := (HK.out.rin.stay).trans2 HC.out.1 (fun j hj e => by have := (HBX.out j e).1; omega)
                by_cases hkl : k < ln
                · have kn : (k : Int) < (ln : Nat) := by omega
                  by_cases hk : k < 3
                  · have kn3 : (k : Int) < 3 := by omega
                    obtain ⟨g4, cap4, f4, rfl, hrow, hcap, hf⟩ := HC.out.2 k hkl
                    obtain ⟨z, hz⟩ := hf k hkl
                    have hce := hrow.cell (show k < cap4 by omega)
                    rw [hz] at hce
                    have hfr := hrow.frozen k
                    have HRW := hide' hrow
                    have HFF := hide' hf
                    have HCP := hide' hcap
                    obtain ⟨z2, hz2⟩ : ∃ z2, z2 = IntKind.u8.wrap (z + 1) := ⟨_, rfl⟩
                    have e8 := hz2.symm
                    have HN : Hid (Stay (Blk (some ⟨g4, 0, none⟩)) w5 (wr.setCell ⟨g4, k, none⟩ (.int .u8 z2)) ∧ Wr (wr.setCell ⟨g4, k, none⟩ (.int .u8 z2)) (some ⟨g4, 0, none⟩) ln) := ⟨HC.out.1.setCell (p := ⟨g4, k, none⟩) rfl _, Wr.put HRW.out HCP.out HFF.out⟩
                    clear hz hrow hf hcap hz2 HC HRW HFF HCP HWK
                    go_wp2
                    go_roundg (3 - (k + 1))
                    case measure => omega
                    case rel => exact ⟨k + 1, by omega, rfl, by go_num, HN⟩
                  · have kn3 : ¬ (k : Int) < 3 := by omega
                    have hpk : PG w wr b r q (.slice xa xn xc) X := HK.out.beside HC.out.1 HBX.out
                    have HLE := hide' (len_in xn hpk.rin (by rw [md_len]; exact HXN.out))
                    have HPK := hide' hpk
                    clear hpk HC HK
                    go_wp2_with fail
                    refine HLE.out.mono ?_
                    rintro e w10 ⟨rfl, _, hs⟩
                    have HPF := hide' (HPK.out.keep hs)
                    clear hs HLE HPK
                    go_wp2
                    go_roundg (n - (i + 1))
                    case measure => omega
                    case rel => exact ⟨i + 1, xa, xn, xc, q, X, by omega, rfl, rfl, by go_num, HXN, HPF⟩
                · have kn : ¬ (k : Int) < (ln : Nat) := by omega
                  have hpk : PG w wr b r q (.slice xa xn xc) X := HK.out.beside HC.out.1 HBX.out
                  have HLE := hide' (len_in xn hpk.rin (by rw [md_len]; exact HXN.out))
                  have HPK := hide' hpk
                  clear hpk HC HK
                  go_wp2_with fail
                  refine HLE.out.mono ?_
                  rintro e w10 ⟨rfl, _, hs⟩
                  have HPF := hide' (HPK.out.keep hs)
                  clear hs HLE HPK
                  go_wp2
                  go_roundg (n - (i + 1))
                  case measure => omega
                  case rel => exact ⟨i + 1, xa, xn, xc, q, X, by omega, rfl, rfl, by go_num, HXN, HPF⟩
            · have hroom : xn < r := by omega
              have HREF := hide' (fun W => rsend11_ok (xn : Nat) (r : Nat) a0 ln c0 W (by omega) (by omega))
              have HL4 : Hid (ln ≤ 4096) := by show ln ≤ 4096; omega
              clear h4 hfull
              go_wp2_with fail
              refine (HREF.out _).mono ?_
              rintro e w3 ⟨rfl, hs⟩
              have HP3 := hide' (HP.out.keep hs)
              have m0' := keep_cell hs m0
              have m1' := keep_cell hs m1
              have a1 : ∀ o : Obj, (w3.alloc o).cell? _ = _ := fun o => keep_cell ((Stay.refl _ _).alloc o) m1'
              have HO : Hid ((w3.alloc (.cells #[] 5)).ownsRow w3.heap.size 5 1 (.slice (some ⟨w3.heap.size, 0, none⟩) 0 0) 0 []) := owns_newS w3 #[] 5 1 0 rfl (by decide)
              have HSRC : Hid (IsRow (w3.alloc (.cells #[] 5)) (.slice a0 ln c0) (bys l)) := by
                have h := (HIARG.out.stay0 ((HP3.out.rin.stay).alloc (.cells #[] 5))).row
                exact h
              have HLB : Hid (0 + (bys l).length ≤ 1000000) := by rw [bys_len]; have h1 := HLN.out; show 0 + l.length ≤ 1000000; omega
              have HBS : Hid (w3.heap.size ≤ (w3.alloc (.cells #[] 5)).heap.size) := ((Stay.refl (fun _ => False) w3).alloc _).size
              clear hs HREF HP m0 m1 m0' m1'
              go_wp2_with (at_builtin; go_must (refine appL (fun j => w3.heap.size ≤ j) rfl _ _ 26 rfl Try.underlying26 info5 rfl (by decide) HO.out rfl HSRC.out rfl (bys_one _) HLB.out HBS.out (fun k hk => (HO.out.lt k hk).1) ?_; intro v4 w4 ho hs; have HO4 := hide' ho; have HS4 := hide' hs; clear ho hs a1; obtain ⟨HB4, HH4, HWS4, HP4⟩ : Hid (∀ j, v4.ownBlock = some j → w3.heap.size ≤ j ∧ j < w4.heap.size) ∧ Hid (Holds w4 v4 l) ∧ Hid (Stay (fun _ => False) w3 w4) ∧ True := ⟨fun j hj => ⟨(HO4.out.lt j hj).1, (HO4.out.lt j hj).2⟩, (by have h := HO4.out; rw [Nat.zero_add, List.nil_append, bys_len] at h; exact ownsRow_base h (Nat.zero_le _)), ((Stay.refl (fun _ => False) w3).alloc (.cells #[] 5)).trans2 HS4.out (fun j hj h => by omega), trivial⟩; obtain ⟨ba, bc, rfl⟩ : ∃ a c, v4 = .slice a ln c := (by obtain ⟨a, c, h, _⟩ := ownsRow_shape HH4.out; exact ⟨a, c, by rw [h, HLN.out]⟩); clear HO4 HS4 HO HSRC HLB HBS; have HP4 := hide' (HP3.out.keep HWS4.out); have m0 := keep_cell HP4.out.rin.stay M0.out; have m1 := keep_cell HP4.out.rin.stay M1.out; have HSN := hide' (send_in fr ba ln bc l HP4.out.rin HH4.out.row (by rw [← HLN.out]; exact HL4.out) (by rw [md_len, HXN.out]; omega))))
              refine HSN.out.mono ?_
              rintro e w5 ⟨q2, rfl, hi, hm⟩
              have HK : Hid ((Win w5 2 (.slice xa xn xc) X.length (ds X) ∧ ∀ j, (Value.slice xa xn xc).ownBlock = some j → w.heap.size ≤ j ∧ ¬ q2.own j) ∧ True ∧ RIn w w5 b r q2 (md X ++ [(fr, l)])) := ⟨HP4.out.moved hm, trivial, hi⟩
              have HGX := hide' HP4.out.good
              have HBX : Hid (∀ j, Blk ba j → w.heap.size ≤ j ∧ ¬ q2.own j ∧ ¬ (Value.slice xa xn xc).ownBlock = some j) := fun j hj => by
                have h1 := HB4.out j (blk_of hj)
                have h0 := HP3.out.rin.stay.size
                refine ⟨by omega, hm.not (fun e => ?_) h1.2, fun e => ?_⟩
                · have := HP3.out.rin.at'.lt j e
                  omega
                · have := HP3.out.win.lt j e
                  omega
              have HWB := hide' ((HH4.out.stay hm.1 (fun j hj e => by have h1 := HB4.out j hj; have := HP3.out.rin.at'.lt j e; omega)).wr)
              clear hi hm
              clear HSN HP4 HP3 HB4 HH4 HWS4 m0 m1
              go_wp2_with fail
              go_loopg [12] 3 (fun gg v12 wr => ∃ k : Nat, k ≤ 3 ∧ gg = 3 - k ∧ v12 = .int .i64 (k : Int) ∧ Hid (Stay (Blk ba) w5 wr ∧ Wr wr ba ln))
              case atStart => exact ⟨0, Nat.zero_le _, rfl, rfl, ⟨Stay.refl _ _, HWB.out⟩⟩
              case round =>
                clear HWB
                obtain ⟨k, hk3, rfl, rfl, HC⟩ := hrel
                have HWK : Hid (Stay (fun _ => False) w wr) := (HK.out.2.2.stay).trans2 HC.out.1 (fun j hj e => by have := (HBX.out j e).1; omega)
                by_cases hkl : k < ln
                · have kn : (k : Int) < (ln : Nat) := by omega
                  by_cases hk : k < 3
                  · have kn3 : (k : Int) < 3 := by omega
                    obtain ⟨g4, cap4, f4, rfl, hrow, hcap, hf⟩ := HC.out.2 k hkl
                    obtain ⟨z, hz⟩ := hf k hkl
                    have hce := hrow.cell (show k < cap4 by omega)
                    rw [hz] at hce
                    have hfr := hrow.frozen k
                    have HRW := hide' hrow
                    have HFF := hide' hf
                    have HCP := hide' hcap
                    obtain ⟨z2, hz2⟩ : ∃ z2, z2 = IntKind.u8.wrap (z + 1) := ⟨_, rfl⟩
                    have e8 := hz2.symm
                    have HN : Hid (Stay (Blk (some ⟨g4, 0, none⟩)) w5 (wr.setCell ⟨g4, k, none⟩ (.int .u8 z2)) ∧ Wr (wr.setCell ⟨g4, k, none⟩ (.int .u8 z2)) (some ⟨g4, 0, none⟩) ln) := ⟨HC.out.1.setCell (p := ⟨g4, k, none⟩) rfl _, Wr.put HRW.out HCP.out HFF.out⟩
                    clear hz hrow hf hcap hz2 HC HRW HFF HCP HWK
                    go_wp2
                    go_roundg (3 - (k + 1))
                    case measure => omega
                    case rel => exact ⟨k + 1, by omega, rfl, by go_num, HN⟩
                  · have kn3 : ¬ (k : Int) < 3 := by omega
                    obtain ⟨w7, hw7⟩ : ∃ W, W = wr.alloc (.cells #[.int .i64 fr, .slice a0 ln c0] 28) := ⟨_, rfl⟩
                    have hst7 : Stay (fun _ => False) wr w7 := by rw [hw7]; exact (Stay.refl _ _).alloc _
                    have HWIN : Hid (Win w7 2 (.slice xa xn xc) xn (ds X)) := by
                      have h := (HK.out.1.1.stay HC.out.1 (fun j hj e => (HBX.out j e).2.2 hj)).stay hst7 (fun _ _ h => h)
                      rwa [HXN.out] at h
                    have HSRC : Hid (∀ ad, (some ⟨wr.heap.size, 0, none⟩ : Option Addr) = some ad → ∀ j u, [Value.int .i64 fr, .slice a0 ln c0][j]? = some u → w7.cell? (ad.add j) = some u) := fun ad e j u hu => by
                      cases e
                      rw [addr_add, Nat.zero_add, hw7]
                      match j, hu with
                      | 0, hu => cases hu; simp
                      | 1, hu => cases hu; simp
                    have HRI := hide' (((HK.out.2.2.beside HC.out.1 (fun j hj => ⟨(HBX.out j hj).1, (HBX.out j hj).2.1⟩))).keep hst7)
                    have HOF := hide' HK.out.1.2
                    have HW7 := hide' hw7
                    have HXL : Hid (xn + 1 ≤ 1000000) := by show xn + 1 ≤ 1000000; omega
                    have m0 := keep_cell HWK.out M0.out
                    have m1 := keep_cell HWK.out M1.out
                    clear hw7 hst7 HC HK
                    go_wp2_with (at_builtin; rw [← HW7.out]; go_must (refine wpList_append_win rfl _ _ 22 rfl Try.underlying22 info28 rfl (by decide) (by decide) HWIN.out rfl rfl HSRC.out (fun h => by cases h) (by simp [Value.oneCell']) HXL.out rfl ?_; intro v8 w8 hw8 hs8 hb8; have HW8 := hide' hw8; have HS8 := hide' hs8; have HB8 := hide' hb8; obtain ⟨ya, yc, rfl, _, _⟩ := hw8.shape; clear hw8 hs8 hb8; have HP9 : Hid (PG w w8 b r q2 (.slice ya (xn + 1) yc) (X ++ [(fr, a0, l, c0)])) := PG.more HRI.out HOF.out HGX.out ⟨by rw [← HLN.out]; exact HIA.out, by rw [← HLN.out]; exact HL4.out⟩ HS8.out (by have h := HW8.out; rw [HXN.out]; rw [show ds [((fr, a0, l, c0) : Dm)] = [.int .i64 fr, .slice a0 ln c0] from by rw [HLN.out]; rfl]; exact h) HB8.out; have HLE := hide' (len_in (xn + 1) HP9.out.rin (by rw [md_len, List.length_append, HXN.out]; rfl))))
                    refine HLE.out.mono ?_
                    rintro e w10 ⟨rfl, _, hs⟩
                    have HPF := hide' (HP9.out.keep hs)
                    have HXF : Hid ((X ++ [((fr, a0, l, c0) : Dm)]).length = xn + 1) := by show _ = _; rw [List.length_append, HXN.out]; rfl
                    clear hs HLE HP9 m0 m1
                    go_wp2
                    go_roundg (n - (i + 1))
                    case measure => omega
                    case rel => exact ⟨i + 1, ya, xn + 1, yc, q2, _, by omega, rfl, rfl, by go_num, HXF, HPF⟩
                · have kn : ¬ (k : Int) < (ln : Nat) := by omega
                  obtain ⟨w7, hw7⟩ : ∃ W, W = wr.alloc (.cells #[.int .i64 fr, .slice a0 ln c0] 28) := ⟨_, rfl⟩
                  have hst7 : Stay (fun _ => False) wr w7 := by rw [hw7]; exact (Stay.refl _ _).alloc _
                  have HWIN : Hid (Win w7 2 (.slice xa xn xc) xn (ds X)) := by
                    have h := (HK.out.1.1.stay HC.out.1 (fun j hj e => (HBX.out j e).2.2 hj)).stay hst7 (fun _ _ h => h)
                    rwa [HXN.out] at h
                  have HSRC : Hid (∀ ad, (some ⟨wr.heap.size, 0, none⟩ : Option Addr) = some ad → ∀ j u, [Value.int .i64 fr, .slice a0 ln c0][j]? = some u → w7.cell? (ad.add j) = some u) := fun ad e j u hu => by
                    cases e
                    rw [addr_add, Nat.zero_add, hw7]
                    match j, hu with
                    | 0, hu => cases hu; simp
                    | 1, hu => cases hu; simp
                  have HRI := hide' (((HK.out.2.2.beside HC.out.1 (fun j hj => ⟨(HBX.out j hj).1, (HBX.out j hj).2.1⟩))).keep hst7)
                  have HOF := hide' HK.out.1.2
                  have HW7 := hide' hw7
                  have HXL : Hid (xn + 1 ≤ 1000000) := by show xn + 1 ≤ 1000000; omega
                  have m0 := keep_cell HWK.out M0.out
                  have m1 := keep_cell HWK.out M1.out
                  clear hw7 hst7 HC HK
                  go_wp2_with (at_builtin; rw [← HW7.out]; go_must (refine wpList_append_win rfl _ _ 22 rfl Try.underlying22 info28 rfl (by decide) (by decide) HWIN.out rfl rfl HSRC.out (fun h => by cases h) (by simp [Value.oneCell']) HXL.out rfl ?_; intro v8 w8 hw8 hs8 hb8; have HW8 := hide' hw8; have HS8 := hide' hs8; have HB8 := hide' hb8; obtain ⟨ya, yc, rfl, _, _⟩ := hw8.shape; clear hw8 hs8 hb8; have HP9 : Hid (PG w w8 b r q2 (.slice ya (xn + 1) yc) (X ++ [(fr, a0, l, c0)])) := PG.more HRI.out HOF.out HGX.out ⟨by rw [← HLN.out]; exact HIA.out, by rw [← HLN.out]; exact HL4.out⟩ HS8.out (by have h := HW8.out; rw [HXN.out]; rw [show ds [((fr, a0, l, c0) : Dm)] = [.int .i64 fr, .slice a0 ln c0] from by rw [HLN.out]; rfl]; exact h) HB8.out; have HLE := hide' (len_in (xn + 1) HP9.out.rin (by rw [md_len, List.length_append, HXN.out]; rfl))))
                  refine HLE.out.mono ?_
                  rintro e w10 ⟨rfl, _, hs⟩
                  have HPF := hide' (HP9.out.keep hs)
                  have HXF : Hid ((X ++ [((fr, a0, l, c0) : Dm)]).length = xn + 1) := by show _ = _; rw [List.length_append, HXN.out]; rfl
                  clear hs HLE HP9 m0 m1
                  go_wp2
                  go_roundg (n - (i + 1))
                  case measure => omega
                  case rel => exact ⟨i + 1, ya, xn + 1, yc, q2, _, by omega, rfl, rfl, by go_num, HXF, HPF⟩
    · have e : i = n := by omega
      subst e
      have HS := hide' HP.out.rin.stay
      clear HP
      go_wp2_with fail
      refine (HAW.out _).mono ?_
      rintro e w9 ⟨rfl, hs⟩
      have HE := hide' (HS.out.trans hs)
      clear hs
      go_wp2
      go_ret
      exact ⟨rfl, HE.out⟩

end Go.Proofs.Ytabalnjbfhngnaa
