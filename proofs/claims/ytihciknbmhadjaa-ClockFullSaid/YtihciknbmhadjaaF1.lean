/-
  The document's Put: walked. No conditions.
-/
import Derived.Test.YtihciknbmhadjaaF0
namespace Go.Proofs.Ytihciknbmhadjaa
open Go.RowKit

theorem ins_split (t : Tm) (L : List Tm) : ∃ i0, i0 ≤ L.length ∧ (∀ j a, j < i0 → L[j]? = some a → ahB t a = false) ∧ (∀ a, L[i0]? = some a → ahB t a = true) ∧ insT t L = L.take i0 ++ t :: L.drop i0 := by
  obtain ⟨A, hA⟩ : ∃ A, A = L.takeWhile (fun a => !ahB t a) := ⟨_, rfl⟩
  obtain ⟨B, hB⟩ : ∃ B, B = L.dropWhile (fun a => !ahB t a) := ⟨_, rfl⟩
  have e : A ++ B = L := by rw [hA, hB]; exact List.takeWhile_append_dropWhile
  have h1 : L.take A.length = A := by rw [← e]; exact List.take_left
  have h2 : L.drop A.length = B := by rw [← e]; exact List.drop_left
  refine ⟨A.length, by rw [← e, List.length_append]; omega, fun j a hj ha => ?_, fun a ha => ?_, ?_⟩
  · rw [← e, List.getElem?_append_left hj] at ha
    have hm := List.mem_of_getElem? ha
    rw [hA] at hm
    have := (mem_takeWhile hm).1
    simpa using this
  · rw [← e, List.getElem?_append_right (Nat.le_refl _), Nat.sub_self] at ha
    cases hb : B with
    | nil => rw [hb] at ha; simp at ha
    | cons x R =>
      rw [hb] at ha hB
      have e2 : x = a := by simpa using ha
      subst e2
      have := drop_head hB.symm
      simpa using this
  · unfold insT
    rw [h1, h2, ← hA, ← hB]

/-- What has come out so far. -/
def midL (t : Tm) (L : List Tm) (i0 k : Nat) : List Tm := if k ≤ i0 then L.take k else L.take i0 ++ t :: (L.take k).drop i0

theorem midL_before {t x : Tm} {L : List Tm} {i0 k : Nat} (hk : k < i0) (hx : L[k]? = some x) : midL t L i0 (k + 1) = midL t L i0 k ++ [x] := by
  unfold midL
  rw [if_pos (by omega), if_pos (by omega), List.take_add_one, hx]
  rfl

theorem midL_at {t x : Tm} {L : List Tm} {k : Nat} (hx : L[k]? = some x) : midL t L k (k + 1) = midL t L k k ++ [t] ++ [x] := by
  have hk := (List.getElem?_eq_some_iff.1 hx).1
  unfold midL
  have hl : (L.take k).length = k := by rw [List.length_take]; omega
  rw [if_neg (by omega), if_pos (Nat.le_refl _), List.take_add_one, hx, List.drop_append, List.drop_of_length_le (by omega), hl, Nat.sub_self]
  simp

theorem midL_behind {t x : Tm} {L : List Tm} {i0 k : Nat} (hk : i0 < k) (hx : L[k]? = some x) : midL t L i0 (k + 1) = midL t L i0 k ++ [x] := by
  have hkl := (List.getElem?_eq_some_iff.1 hx).1
  unfold midL
  rw [if_neg (by omega), if_neg (by omega), List.take_add_one, hx, List.drop_append, List.length_take, show i0 - min k L.length = 0 by omega]
  simp

theorem midL_len {t : Tm} {L : List Tm} {i0 k : Nat} : (midL t L i0 k).length ≤ L.length + 1 := by
  unfold midL
  split
  · rw [List.length_take]; omega
  · rw [List.length_append, List.length_cons, List.length_drop, List.length_take, List.length_take]; omega

set_option maxHeartbeats 4000000 in
theorem put11 (a : Option Addr) (n c : Nat) (L : List Tm) (t : Tm) (w : World) (h : Rd w a L) (hn : L.length = n) (hm : n ≤ 2048) : Calls Try.prog 11 #[.slice a n c, .agg #[.int .i64 t.en, .int .i64 t.nr, .int .i64 t.du]] w (NewL (insT t L) w) := by
  obtain ⟨bt, hbt⟩ : ∃ b, b = w.heap.size := ⟨_, rfl⟩
  obtain ⟨W0, hW0⟩ : ∃ W, W = w.alloc (.cells #[.int .i64 t.en, .int .i64 t.nr, .int .i64 t.du] 35) := ⟨_, rfl⟩
  have hs0 : Stay (fun _ => False) w W0 := by rw [hW0]; exact (Stay.refl _ _).alloc _
  have hb0 : TBox W0 bt t := by rw [hW0]; exact TBox.new t hbt.symm
  have HBT : Hid (bt < W0.heap.size) := hb0.lt
  have HT0 := hide' hb0
  have HS0 := hide' hs0
  have HR := hide' (h.keep hs0)
  have HN := hide' hn
  obtain ⟨i0, hi0, hI1, hI2, hI3⟩ := ins_split t L
  have n2 : (n : Int) ≤ 2048 := by omega
  have HI0 : Hid (i0 ≤ n) := by show i0 ≤ n; omega
  have HI1 := hide' hI1
  have HI2 := hide' hI2
  have HI3 := hide' hI3
  have HM0 : Hid (Made W0 W0 (.slice none 0 0) (midL t L i0 0) ∧ false = decide (i0 < 0)) := by
    have e : midL t L i0 0 = [] := by unfold midL; rw [if_pos (Nat.zero_le _)]; rfl
    rw [e]
    exact ⟨Made.nil W0, by simp⟩
  clear h hn hm hs0 hb0 hi0 hI1 hI2 hI3
  go_enter Try.func11, Try.ntmps11
  go_upto_region 1 with fail
  rw [← hW0, ← hbt]
  clear hW0 hbt
  go_wp2
  go_loopg [5, 6, 7] n (fun gg v5 v6 v7 wr => ∃ (j : Nat) (v : Value) (dn : Bool), j ≤ n ∧ gg = n - j ∧ v = v5 ∧ v6 = .bool dn ∧ v7 = .int .i64 (j : Int) ∧ Hid (Made W0 wr v (midL t L i0 j) ∧ dn = decide (i0 < j)))
  case atStart => exact ⟨0, _, false, Nat.zero_le _, rfl, rfl, rfl, rfl, HM0⟩
  case round =>
    clear HM0
    obtain ⟨j, v, dn, hj, rfl, hv, rfl, rfl, HJ⟩ := hrel
    subst hv
    have HMD := hide' HJ.out.1
    have HDN := hide' HJ.out.2
    clear HJ
    have HTW : Hid (TBox wr bt t) := HT0.out.stay HMD.out.1 (by have := HBT.out; omega)
    by_cases hlt : j < n
    · have jn : (j : Int) < (n : Nat) := by omega
      obtain ⟨x, hx⟩ : ∃ x, L[j]? = some x := ⟨_, List.getElem?_eq_getElem (by rw [HN.out]; exact hlt)⟩
      obtain ⟨g, o, rfl, hb⟩ := HR.out j x hx
      have HBW := hide' hb
      have HB := hide' (HMD.out.old hb)
      have HX := hide' hx
      obtain ⟨M, hM⟩ : ∃ M, M = midL t L i0 j := ⟨_, rfl⟩
      obtain ⟨N, hN⟩ : ∃ N, N = midL t L i0 (j + 1) := ⟨_, rfl⟩
      have HMM := hide' hM
      have HNN := hide' hN
      rw [← hM] at HMD
      have hML : M.length ≤ 2048 + 1 := by
        rw [hM]
        have h1 := midL_len (t := t) (L := L) (i0 := i0) (k := j)
        have h2 := HN.out
        omega
      have HNM : Hid (M.length + 1 ≤ 1000000) := by show M.length + 1 ≤ 1000000; omega
      obtain ⟨ab, hab⟩ : ∃ ab, ab = ahB t x := ⟨_, rfl⟩
      have HA := hide' (fun w => ahead22 t x w)
      rw [← hab] at HA
      have HAB := hide' hab
      clear hb hx hM hN hML hab
      go_upto_region 6 with fail
      have hS : (fun w' => TBox w' bt t ∧ Stay (fun _ => False) wr w') wr.drew := ⟨HTW.out.keep (Stay.refl _ _).drew, (Stay.refl _ _).drew⟩
      cases dn
      · have hij : ¬ i0 < j := by have := HDN.out; intro e; rw [decide_eq_true e] at this; cases this
        cases ab
        · have hne : j < i0 := by
            apply Classical.byContradiction
            intro hc
            have e : i0 = j := by omega
            subst e
            have := HI2.out x HX.out
            rw [← HAB.out] at this
            cases this
          have HNE : Hid (N = M ++ [x]) := by show N = M ++ [x]; rw [HNN.out, HMM.out]; exact midL_before hne HX.out
          have HDN2 : Hid (false = decide (i0 < j + 1)) := (decide_eq_false (by omega)).symm
          clear hij hne
          refine wp_region_mix (fun w' => TBox w' bt t ∧ Stay (fun _ => False) wr w') [(0, true), (1, true), (2, true), (3, true), (4, true), (5, true), (6, true), (7, true), (8, false), (9, true)] (by kernel_rfl) (by kernel_rfl) (fun _ d _ _ _ h => by cases d <;> exact h) hS ?_
          refine mix_begin (fun K0 hK0 => ?_)
          refine mix_take hK0 (some 14) (.move (.tmp 6)) 4 _ (by kernel_rfl) (by kernel_rfl) (fun w' hS' => by (simp only [opr]; go_simp; try with_reducible rfl)) (fun K1 hK1 => ?_)
          clear hK0 K0
          simp only [Act.put, List.setIfInBounds_toArray, List.set_cons_zero, List.set_cons_succ]
          refine mix_take hK1 (some 15) (.unOp UnOp.not 4 (.tmp 14)) 4 _ (by kernel_rfl) (by kernel_rfl) (fun w' hS' => by (simp only [opr]; go_simp; try with_reducible rfl)) (fun K2 hK2 => ?_)
          clear hK1 K1
          simp only [Act.put, List.setIfInBounds_toArray, List.set_cons_zero, List.set_cons_succ]
          refine mix_take hK2 (some 16) (.move (.tmp 15)) 4 _ (by kernel_rfl) (by kernel_rfl) (fun w' hS' => by (simp only [opr]; go_simp; try with_reducible rfl)) (fun K3 hK3 => ?_)
          clear hK2 K2
          simp only [Act.put, List.setIfInBounds_toArray, List.set_cons_zero, List.set_cons_succ]
          refine mix_take hK3 (some 17) (.load 35 (.tmp 3)) 35 _ (by kernel_rfl) (by kernel_rfl) (fun w' hS' => by exact run_load_TBox rfl rfl hS'.1) (fun K4 hK4 => ?_)
          clear hK3 K3
          simp only [Act.put, List.setIfInBounds_toArray, List.set_cons_zero, List.set_cons_succ]
          refine mix_take hK4 (some 18) (.move (.tmp 0)) 26 _ (by kernel_rfl) (by kernel_rfl) (fun w' hS' => by (simp only [opr]; go_simp; try with_reducible rfl)) (fun K5 hK5 => ?_)
          clear hK4 K4
          simp only [Act.put, List.setIfInBounds_toArray, List.set_cons_zero, List.set_cons_succ]
          refine mix_take hK5 (some 19) (.move (.tmp 7)) 3 _ (by kernel_rfl) (by kernel_rfl) (fun w' hS' => by (simp only [opr]; go_simp; try with_reducible rfl)) (fun K6 hK6 => ?_)
          clear hK5 K5
          simp only [Act.put, List.setIfInBounds_toArray, List.set_cons_zero, List.set_cons_succ]
          refine mix_take hK6 (some 20) (.indexAddr 26 (.tmp 18) (.tmp 19)) 0 _ (by kernel_rfl) (by kernel_rfl) (fun w' hS' => by (simp only [opr]; go_simp; try with_reducible rfl)) (fun K7 hK7 => ?_)
          clear hK6 K6
          simp only [Act.put, List.setIfInBounds_toArray, List.set_cons_zero, List.set_cons_succ]
          refine mix_take hK7 (some 21) (.load 35 (.tmp 20)) 35 _ (by kernel_rfl) (by kernel_rfl) (fun w' hS' => by exact run_load_TBoxAt rfl rfl (HB.out.keep hS'.2)) (fun K8 hK8 => ?_)
          clear hK7 K7
          simp only [Act.put, List.setIfInBounds_toArray, List.set_cons_zero, List.set_cons_succ]
          refine mix_call hK8 (some 22) 22 #[.tmp 17, .tmp 21] #[35, 35] 4 _ (by kernel_rfl) (by kernel_rfl) (enters Try.func22 (by kernel_rfl) (by kernel_rfl)) (by go_simp; try with_reducible rfl) (fun K9 hK9 => ?_)
          clear hK8 K8
          refine (HA.out _).mono ?_
          rintro e wm1 ⟨rfl, hs1⟩
          have hS1 : _ := (show (fun w' => TBox w' bt t ∧ Stay (fun _ => False) wr w') wm1 from ⟨hS.1.keep hs1, hS.2.trans hs1⟩)
          refine ⟨_, rfl, hS1, ?_⟩
          clear hs1
          simp only [Act.put, List.setIfInBounds_toArray, List.set_cons_zero, List.set_cons_succ]
          refine mix_take hK9 (some 23) (.pick (.tmp 16) (.tmp 22) (.const (Value.bool false))) 4 _ (by kernel_rfl) (by kernel_rfl) (fun w' hS' => by (simp only [opr]; go_simp; try with_reducible rfl)) (fun K10 hK10 => ?_)
          clear hK9 K9
          simp only [Act.put, List.setIfInBounds_toArray, List.set_cons_zero, List.set_cons_succ]
          refine hK10 _ _ (mix_nil ?_)
          clear hK10 K10
          have HMD1 := hide' (HMD.out.keep hS1.2)
          clear hS hS1 HMD HTW HA HB HDN
          obtain ⟨c0, c1, c2⟩ := HMD1.out.old HBW.out
          have hst : Stay (fun _ => False) wm1 (wm1.alloc (.cells #[.int .i64 x.en, .int .i64 x.nr, .int .i64 x.du] 35)) := (Stay.refl _ _).alloc _
          have HOW : Hid ((wm1.alloc (.cells #[.int .i64 x.en, .int .i64 x.nr, .int .i64 x.du] 35)).ownsRow W0.heap.size 35 3 v (M).length (wc (M))) := hst.owns HMD1.out.2 (fun _ _ h => h)
          have HSRC : Hid (IsRowS (wm1.alloc (.cells #[.int .i64 x.en, .int .i64 x.nr, .int .i64 x.du] 35)) 3 (.slice (some ⟨wm1.heap.size, 0, none⟩) 1 1) 1 x.parts) := isRowS_new wm1 #[.int .i64 x.en, .int .i64 x.nr, .int .i64 x.du] 35 3 1 rfl
          have HONE := hide' x.parts_one
          have HBS : Hid (W0.heap.size ≤ (wm1.alloc (.cells #[.int .i64 x.en, .int .i64 x.nr, .int .i64 x.du] 35)).heap.size) := Nat.le_trans HMD1.out.1.size hst.size
          have HSW := hide' hst
          clear hst
          go_wp2_with (at_builtin; go_must (refine appS rfl _ _ 26 rfl Try.underlying26 info35 rfl (by decide) (by decide) HOW.out rfl HSRC.out rfl HONE.out HNM.out HBS.out ?_; intro v5 W5 ho hst hb; have HMD5 : Hid (Made W0 W5 v5 (N)) := HMD1.out.more HSW.out HNE.out ho hst; clear ho hst hb HOW HSRC HONE HNM HBS HSW HMD1 HNE))
          clear c0 c1 c2
          have HF : Hid (Made W0 W5 v5 (midL t L i0 (j + 1)) ∧ false = decide (i0 < j + 1)) := by rw [← HNN.out]; exact ⟨HMD5.out, HDN2.out⟩
          go_roundg (n - (j + 1))
          case measure => omega
          case rel => exact ⟨j + 1, _, false, by omega, rfl, rfl, rfl, by go_num, HF⟩
        · have hne : i0 = j := by
            apply Classical.byContradiction
            intro hc
            have := HI1.out j x (by omega) HX.out
            rw [← HAB.out] at this
            cases this
          have HNE : Hid (N = M ++ [t] ++ [x]) := by show N = M ++ [t] ++ [x]; rw [HNN.out, HMM.out, hne]; exact midL_at HX.out
          have HDN2 : Hid (true = decide (i0 < j + 1)) := (decide_eq_true (by omega)).symm
          clear hij hne
          refine wp_region_mix (fun w' => TBox w' bt t ∧ Stay (fun _ => False) wr w') [(0, true), (1, true), (2, true), (3, true), (4, true), (5, true), (6, true), (7, true), (8, false), (9, true)] (by kernel_rfl) (by kernel_rfl) (fun _ d _ _ _ h => by cases d <;> exact h) hS ?_
          refine mix_begin (fun K0 hK0 => ?_)
          refine mix_take hK0 (some 14) (.move (.tmp 6)) 4 _ (by kernel_rfl) (by kernel_rfl) (fun w' hS' => by (simp only [opr]; go_simp; try with_reducible rfl)) (fun K1 hK1 => ?_)
          clear hK0 K0
          simp only [Act.put, List.setIfInBounds_toArray, List.set_cons_zero, List.set_cons_succ]
          refine mix_take hK1 (some 15) (.unOp UnOp.not 4 (.tmp 14)) 4 _ (by kernel_rfl) (by kernel_rfl) (fun w' hS' => by (simp only [opr]; go_simp; try with_reducible rfl)) (fun K2 hK2 => ?_)
          clear hK1 K1
          simp only [Act.put, List.setIfInBounds_toArray, List.set_cons_zero, List.set_cons_succ]
          refine mix_take hK2 (some 16) (.move (.tmp 15)) 4 _ (by kernel_rfl) (by kernel_rfl) (fun w' hS' => by (simp only [opr]; go_simp; try with_reducible rfl)) (fun K3 hK3 => ?_)
          clear hK2 K2
          simp only [Act.put, List.setIfInBounds_toArray, List.set_cons_zero, List.set_cons_succ]
          refine mix_take hK3 (some 17) (.load 35 (.tmp 3)) 35 _ (by kernel_rfl) (by kernel_rfl) (fun w' hS' => by exact run_load_TBox rfl rfl hS'.1) (fun K4 hK4 => ?_)
          clear hK3 K3
          simp only [Act.put, List.setIfInBounds_toArray, List.set_cons_zero, List.set_cons_succ]
          refine mix_take hK4 (some 18) (.move (.tmp 0)) 26 _ (by kernel_rfl) (by kernel_rfl) (fun w' hS' => by (simp only [opr]; go_simp; try with_reducible rfl)) (fun K5 hK5 => ?_)
          clear hK4 K4
          simp only [Act.put, List.setIfInBounds_toArray, List.set_cons_zero, List.set_cons_succ]
          refine mix_take hK5 (some 19) (.move (.tmp 7)) 3 _ (by kernel_rfl) (by kernel_rfl) (fun w' hS' => by (simp only [opr]; go_simp; try with_reducible rfl)) (fun K6 hK6 => ?_)
          clear hK5 K5
          simp only [Act.put, List.setIfInBounds_toArray, List.set_cons_zero, List.set_cons_succ]
          refine mix_take hK6 (some 20) (.indexAddr 26 (.tmp 18) (.tmp 19)) 0 _ (by kernel_rfl) (by kernel_rfl) (fun w' hS' => by (simp only [opr]; go_simp; try with_reducible rfl)) (fun K7 hK7 => ?_)
          clear hK6 K6
          simp only [Act.put, List.setIfInBounds_toArray, List.set_cons_zero, List.set_cons_succ]
          refine mix_take hK7 (some 21) (.load 35 (.tmp 20)) 35 _ (by kernel_rfl) (by kernel_rfl) (fun w' hS' => by exact run_load_TBoxAt rfl rfl (HB.out.keep hS'.2)) (fun K8 hK8 => ?_)
          clear hK7 K7
          simp only [Act.put, List.setIfInBounds_toArray, List.set_cons_zero, List.set_cons_succ]
          refine mix_call hK8 (some 22) 22 #[.tmp 17, .tmp 21] #[35, 35] 4 _ (by kernel_rfl) (by kernel_rfl) (enters Try.func22 (by kernel_rfl) (by kernel_rfl)) (by go_simp; try with_reducible rfl) (fun K9 hK9 => ?_)
          clear hK8 K8
          refine (HA.out _).mono ?_
          rintro e wm1 ⟨rfl, hs1⟩
          have hS1 : _ := (show (fun w' => TBox w' bt t ∧ Stay (fun _ => False) wr w') wm1 from ⟨hS.1.keep hs1, hS.2.trans hs1⟩)
          refine ⟨_, rfl, hS1, ?_⟩
          clear hs1
          simp only [Act.put, List.setIfInBounds_toArray, List.set_cons_zero, List.set_cons_succ]
          refine mix_take hK9 (some 23) (.pick (.tmp 16) (.tmp 22) (.const (Value.bool false))) 4 _ (by kernel_rfl) (by kernel_rfl) (fun w' hS' => by (simp only [opr]; go_simp; try with_reducible rfl)) (fun K10 hK10 => ?_)
          clear hK9 K9
          simp only [Act.put, List.setIfInBounds_toArray, List.set_cons_zero, List.set_cons_succ]
          refine hK10 _ _ (mix_nil ?_)
          clear hK10 K10
          have HMD1 := hide' (HMD.out.keep hS1.2)
          have hbx := hS1.1
          clear hS hS1 HMD HTW HA HB HDN
          obtain ⟨b0, b1, b2, _, _, _⟩ := hbx
          have HNE1 : Hid (M ++ [t] = M ++ [t]) := rfl
          have HNM2 : Hid ((M ++ [t]).length + 1 ≤ 1000000) := by show (M ++ [t]).length + 1 ≤ 1000000; rw [HMM.out, List.length_append]; have h1 := midL_len (t := t) (L := L) (i0 := i0) (k := j); have h2 := HN.out; simp only [List.length_cons, List.length_nil]; omega
          have hst : Stay (fun _ => False) wm1 (wm1.alloc (.cells #[.int .i64 t.en, .int .i64 t.nr, .int .i64 t.du] 35)) := (Stay.refl _ _).alloc _
          have HOW : Hid ((wm1.alloc (.cells #[.int .i64 t.en, .int .i64 t.nr, .int .i64 t.du] 35)).ownsRow W0.heap.size 35 3 v (M).length (wc (M))) := hst.owns HMD1.out.2 (fun _ _ h => h)
          have HSRC : Hid (IsRowS (wm1.alloc (.cells #[.int .i64 t.en, .int .i64 t.nr, .int .i64 t.du] 35)) 3 (.slice (some ⟨wm1.heap.size, 0, none⟩) 1 1) 1 t.parts) := isRowS_new wm1 #[.int .i64 t.en, .int .i64 t.nr, .int .i64 t.du] 35 3 1 rfl
          have HONE := hide' t.parts_one
          have HBS : Hid (W0.heap.size ≤ (wm1.alloc (.cells #[.int .i64 t.en, .int .i64 t.nr, .int .i64 t.du] 35)).heap.size) := Nat.le_trans HMD1.out.1.size hst.size
          have HSW := hide' hst
          clear hst
          go_upto_region 9 with (at_builtin; go_must (refine appS rfl _ _ 26 rfl Try.underlying26 info35 rfl (by decide) (by decide) HOW.out rfl HSRC.out rfl HONE.out HNM.out HBS.out ?_; intro v5 W5 ho hst hb; have HMD5 : Hid (Made W0 W5 v5 (M ++ [t])) := HMD1.out.more HSW.out HNE1.out ho hst; clear ho hst hb HOW HSRC HONE HNM HBS HSW HMD1 HNE1))
          clear b0 b1 b2
          obtain ⟨c0, c1, c2⟩ := HMD5.out.old HBW.out
          have hst : Stay (fun _ => False) W5 (W5.alloc (.cells #[.int .i64 x.en, .int .i64 x.nr, .int .i64 x.du] 35)) := (Stay.refl _ _).alloc _
          have HOW : Hid ((W5.alloc (.cells #[.int .i64 x.en, .int .i64 x.nr, .int .i64 x.du] 35)).ownsRow W0.heap.size 35 3 v5 (M ++ [t]).length (wc (M ++ [t]))) := hst.owns HMD5.out.2 (fun _ _ h => h)
          have HSRC : Hid (IsRowS (W5.alloc (.cells #[.int .i64 x.en, .int .i64 x.nr, .int .i64 x.du] 35)) 3 (.slice (some ⟨W5.heap.size, 0, none⟩) 1 1) 1 x.parts) := isRowS_new W5 #[.int .i64 x.en, .int .i64 x.nr, .int .i64 x.du] 35 3 1 rfl
          have HONE := hide' x.parts_one
          have HBS : Hid (W0.heap.size ≤ (W5.alloc (.cells #[.int .i64 x.en, .int .i64 x.nr, .int .i64 x.du] 35)).heap.size) := Nat.le_trans HMD5.out.1.size hst.size
          have HSW := hide' hst
          clear hst
          go_wp2_with (at_builtin; go_must (refine appS rfl _ _ 26 rfl Try.underlying26 info35 rfl (by decide) (by decide) HOW.out rfl HSRC.out rfl HONE.out HNM2.out HBS.out ?_; intro v6 W6 ho hst hb; have HMD6 : Hid (Made W0 W6 v6 (N)) := HMD5.out.more HSW.out HNE.out ho hst; clear ho hst hb HOW HSRC HONE HNM2 HBS HSW HMD5 HNE))
          clear c0 c1 c2
          have HF : Hid (Made W0 W6 v6 (midL t L i0 (j + 1)) ∧ true = decide (i0 < j + 1)) := by rw [← HNN.out]; exact ⟨HMD6.out, HDN2.out⟩
          go_roundg (n - (j + 1))
          case measure => omega
          case rel => exact ⟨j + 1, _, true, by omega, rfl, rfl, rfl, by go_num, HF⟩
      · have hij : i0 < j := by have := HDN.out; exact of_decide_eq_true this.symm
        have HNE : Hid (N = M ++ [x]) := by show N = M ++ [x]; rw [HNN.out, HMM.out]; exact midL_behind hij HX.out
        have HDN2 : Hid (true = decide (i0 < j + 1)) := (decide_eq_true (by omega)).symm
        clear hij
        refine wp_region_mix (fun w' => TBox w' bt t ∧ Stay (fun _ => False) wr w') [(0, true), (1, true), (2, true), (3, true), (4, true), (5, true), (6, true), (7, true), (8, false), (9, true)] (by kernel_rfl) (by kernel_rfl) (fun _ d _ _ _ h => by cases d <;> exact h) hS ?_
        refine mix_begin (fun K0 hK0 => ?_)
        refine mix_take hK0 (some 14) (.move (.tmp 6)) 4 _ (by kernel_rfl) (by kernel_rfl) (fun w' hS' => by (simp only [opr]; go_simp; try with_reducible rfl)) (fun K1 hK1 => ?_)
        clear hK0 K0
        simp only [Act.put, List.setIfInBounds_toArray, List.set_cons_zero, List.set_cons_succ]
        refine mix_take hK1 (some 15) (.unOp UnOp.not 4 (.tmp 14)) 4 _ (by kernel_rfl) (by kernel_rfl) (fun w' hS' => by (simp only [opr]; go_simp; try with_reducible rfl)) (fun K2 hK2 => ?_)
        clear hK1 K1
        simp only [Act.put, List.setIfInBounds_toArray, List.set_cons_zero, List.set_cons_succ]
        refine mix_take hK2 (some 16) (.move (.tmp 15)) 4 _ (by kernel_rfl) (by kernel_rfl) (fun w' hS' => by (simp only [opr]; go_simp; try with_reducible rfl)) (fun K3 hK3 => ?_)
        clear hK2 K2
        simp only [Act.put, List.setIfInBounds_toArray, List.set_cons_zero, List.set_cons_succ]
        refine mix_skip hK3 (some 17) (by kernel_rfl) (by kernel_rfl) hS (fun K4 hK4 => ?_)
        clear hK3 K3
        simp only [Act.put, List.setIfInBounds_toArray, List.set_cons_zero, List.set_cons_succ]
        refine mix_skip hK4 (some 18) (by kernel_rfl) (by kernel_rfl) hS (fun K5 hK5 => ?_)
        clear hK4 K4
        simp only [Act.put, List.setIfInBounds_toArray, List.set_cons_zero, List.set_cons_succ]
        refine mix_skip hK5 (some 19) (by kernel_rfl) (by kernel_rfl) hS (fun K6 hK6 => ?_)
        clear hK5 K5
        simp only [Act.put, List.setIfInBounds_toArray, List.set_cons_zero, List.set_cons_succ]
        refine mix_skip hK6 (some 20) (by kernel_rfl) (by kernel_rfl) hS (fun K7 hK7 => ?_)
        clear hK6 K6
        simp only [Act.put, List.setIfInBounds_toArray, List.set_cons_zero, List.set_cons_succ]
        refine mix_skip hK7 (some 21) (by kernel_rfl) (by kernel_rfl) hS (fun K8 hK8 => ?_)
        clear hK7 K7
        simp only [Act.put, List.setIfInBounds_toArray, List.set_cons_zero, List.set_cons_succ]
        refine mix_skip hK8 (some 22) (by kernel_rfl) (by kernel_rfl) hS (fun K9 hK9 => ?_)
        clear hK8 K8
        simp only [Act.put, List.setIfInBounds_toArray, List.set_cons_zero, List.set_cons_succ]
        refine mix_take hK9 (some 23) (.pick (.tmp 16) (.tmp 22) (.const (Value.bool false))) 4 _ (by kernel_rfl) (by kernel_rfl) (fun w' hS' => by (simp only [opr]; go_simp; try with_reducible rfl)) (fun K10 hK10 => ?_)
        clear hK9 K9
        simp only [Act.put, List.setIfInBounds_toArray, List.set_cons_zero, List.set_cons_succ]
        refine hK10 _ _ (mix_nil ?_)
        clear hK10 K10
        obtain ⟨wd, hwd⟩ : ∃ W, W = wr.drew := ⟨_, rfl⟩
        have HMD1 : Hid (Made W0 wd v M) := by rw [hwd]; exact HMD.out.keep (Stay.refl _ _).drew
        rw [← hwd]
        clear hwd hS HMD HTW HA HB HDN HAB
        obtain ⟨c0, c1, c2⟩ := HMD1.out.old HBW.out
        have hst : Stay (fun _ => False) wd (wd.alloc (.cells #[.int .i64 x.en, .int .i64 x.nr, .int .i64 x.du] 35)) := (Stay.refl _ _).alloc _
        have HOW : Hid ((wd.alloc (.cells #[.int .i64 x.en, .int .i64 x.nr, .int .i64 x.du] 35)).ownsRow W0.heap.size 35 3 v (M).length (wc (M))) := hst.owns HMD1.out.2 (fun _ _ h => h)
        have HSRC : Hid (IsRowS (wd.alloc (.cells #[.int .i64 x.en, .int .i64 x.nr, .int .i64 x.du] 35)) 3 (.slice (some ⟨wd.heap.size, 0, none⟩) 1 1) 1 x.parts) := isRowS_new wd #[.int .i64 x.en, .int .i64 x.nr, .int .i64 x.du] 35 3 1 rfl
        have HONE := hide' x.parts_one
        have HBS : Hid (W0.heap.size ≤ (wd.alloc (.cells #[.int .i64 x.en, .int .i64 x.nr, .int .i64 x.du] 35)).heap.size) := Nat.le_trans HMD1.out.1.size hst.size
        have HSW := hide' hst
        clear hst
        go_wp2_with (at_builtin; go_must (refine appS rfl _ _ 26 rfl Try.underlying26 info35 rfl (by decide) (by decide) HOW.out rfl HSRC.out rfl HONE.out HNM.out HBS.out ?_; intro v5 W5 ho hst hb; have HMD5 : Hid (Made W0 W5 v5 (N)) := HMD1.out.more HSW.out HNE.out ho hst; clear ho hst hb HOW HSRC HONE HNM HBS HSW HMD1 HNE))
        clear c0 c1 c2
        have HF : Hid (Made W0 W5 v5 (midL t L i0 (j + 1)) ∧ true = decide (i0 < j + 1)) := by rw [← HNN.out]; exact ⟨HMD5.out, HDN2.out⟩
        go_roundg (n - (j + 1))
        case measure => omega
        case rel => exact ⟨j + 1, _, true, by omega, rfl, rfl, rfl, by go_num, HF⟩
    · have ej : j = n := by omega
      subst ej
      have jn : ¬ (j : Int) < (j : Nat) := by omega
      cases dn
      · have hij : i0 = j := by
          have h1 := HI0.out
          have h2 := HDN.out
          have h3 : ¬ i0 < j := fun e => by rw [decide_eq_true e] at h2; cases h2
          omega
        obtain ⟨M, hM⟩ : ∃ M, M = midL t L i0 j := ⟨_, rfl⟩
        obtain ⟨N, hN⟩ : ∃ N, N = insT t L := ⟨_, rfl⟩
        rw [← hM] at HMD
        have HNI := hide' hN
        have HNE : Hid (N = M ++ [t]) := by
          show N = M ++ [t]
          rw [hN, HI3.out, hM, hij]
          unfold midL
          rw [if_pos (Nat.le_refl _), List.drop_of_length_le (by rw [HN.out]; exact Nat.le_refl _)]
        have HNM : Hid (M.length + 1 ≤ 1000000) := by show M.length + 1 ≤ 1000000; rw [hM]; have h1 := midL_len (t := t) (L := L) (i0 := i0) (k := j); have h2 := HN.out; omega
        have hbx := HTW.out
        obtain ⟨b0, b1, b2, _, _, _⟩ := hbx
        clear hM hN hij
        have hst : Stay (fun _ => False) wr (wr.alloc (.cells #[.int .i64 t.en, .int .i64 t.nr, .int .i64 t.du] 35)) := (Stay.refl _ _).alloc _
        have HOW : Hid ((wr.alloc (.cells #[.int .i64 t.en, .int .i64 t.nr, .int .i64 t.du] 35)).ownsRow W0.heap.size 35 3 v (M).length (wc (M))) := hst.owns HMD.out.2 (fun _ _ h => h)
        have HSRC : Hid (IsRowS (wr.alloc (.cells #[.int .i64 t.en, .int .i64 t.nr, .int .i64 t.du] 35)) 3 (.slice (some ⟨wr.heap.size, 0, none⟩) 1 1) 1 t.parts) := isRowS_new wr #[.int .i64 t.en, .int .i64 t.nr, .int .i64 t.du] 35 3 1 rfl
        have HONE := hide' t.parts_one
        have HBS : Hid (W0.heap.size ≤ (wr.alloc (.cells #[.int .i64 t.en, .int .i64 t.nr, .int .i64 t.du] 35)).heap.size) := Nat.le_trans HMD.out.1.size hst.size
        have HSW := hide' hst
        clear hst
        go_wp2_with (at_builtin; go_must (refine appS rfl _ _ 26 rfl Try.underlying26 info35 rfl (by decide) (by decide) HOW.out rfl HSRC.out rfl HONE.out HNM.out HBS.out ?_; intro v5 W5 ho hst hb; have HMD5 : Hid (Made W0 W5 v5 (N)) := HMD.out.more HSW.out HNE.out ho hst; clear ho hst hb HOW HSRC HONE HNM HBS HSW HMD HNE))
        go_ret
        have hnew := HMD5.out.new
        rw [HNI.out] at hnew
        obtain ⟨a1, c1, e1, s1, r1, l1, f1⟩ := hnew
        exact ⟨a1, c1, e1, HS0.out.trans s1, r1, l1, fun k hk => Nat.le_trans HS0.out.size (f1 k hk)⟩
      · have HF : Hid (Made W0 wr v (insT t L)) := by
          have h1 := HMD.out
          have hij : i0 < j := of_decide_eq_true HDN.out.symm
          unfold midL at h1
          rw [if_neg (by omega), List.take_of_length_le (l := L) (i := j) (by rw [HN.out]; exact Nat.le_refl _)] at h1
          rw [HI3.out]
          exact h1
        clear HMD
        go_wp2
        go_ret
        obtain ⟨a1, c1, e1, s1, r1, l1, f1⟩ := HF.out.new
        exact ⟨a1, c1, e1, HS0.out.trans s1, r1, l1, fun k hk => Nat.le_trans HS0.out.size (f1 k hk)⟩

end Go.Proofs.Ytihciknbmhadjaa
