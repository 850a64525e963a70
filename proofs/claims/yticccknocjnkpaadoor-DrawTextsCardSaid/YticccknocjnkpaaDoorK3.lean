/-
  What the two tables hold; two rows of cells are the same; DrawTexts: walked. No conditions.
-/
import Derived.Test.YticccknocjnkpaaDoorK2
namespace Go.Proofs.YticccknocjnkpaaDoor
open Go.RowKit

theorem laid_both {w : World} (h : laidMetH Tryd.prog [("betony/wide.rows", Rows.laid_betony_wide_rows), ("betony/utf.forms", Rows.laid_betony_utf_forms)] w) : Wide.Tbl w ∧ Utf.Tbl w := by
  rw [MakeChecks.laidMetH_plain _ _ _ (by kernel_rfl)] at h
  obtain ⟨ps, h1, _⟩ := h
  refine ⟨Wide.tbl_of_laid h1, ?_⟩
  obtain ⟨_, _, _, _, _, _, _, _, _, _, h2, _⟩ := h1
  exact Utf.tbl_of_laid h2

theorem door_both (os : Os) (args : Array Value) : laidMetH Tryd.prog [("betony/wide.rows", Rows.laid_betony_wide_rows), ("betony/utf.forms", Rows.laid_betony_utf_forms)] ((World.doorLaid Tryd.prog 400 os).forCall (fun _ _ => 0) ⟨#[], args, []⟩).memory :=
  laidMetH_of_parts3 (fuel := 8) (laidMet_of_run' 8 (by kernel_rfl) (by kernel_rfl)) (by kernel_rfl) (by kernel_rfl)

/-- A window of cells, cell by cell. -/
theorem win_cat {w : World} {g o n cap : Nat} {L : List Cl} (h : Win w 4 (.slice (some ⟨g, o, none⟩) n cap) L.length (pixs L)) : n = L.length ∧ ∀ i, i < L.length → CAt w g (o + i * 4) (L.getD i Cl.zero) := by
  rcases h.2 with ⟨e, _⟩ | ⟨g', o', cap', e, h1, _, _, h3, h4⟩
  · cases e
  · cases e
    refine ⟨rfl, fun i hi => ⟨fun j u hu => ?_, fun j hj => ?_⟩⟩
    · rw [Nat.add_assoc]
      refine h3 _ u (pixs_get L i j _ u ?_ hu)
      rw [List.getD_eq_getElem?_getD, List.getElem?_eq_getElem hi]
      rfl
    · rw [Nat.add_assoc]
      exact h4 _ (by omega)

theorem same_txt {w : World} {g1 o1 n1 c1 g2 o2 n2 c2 : Nat} {L : List Cl} (h1 : Win w 4 (.slice (some ⟨g1, o1, none⟩) n1 c1) L.length (pixs L)) (h2 : Win w 4 (.slice (some ⟨g2, o2, none⟩) n2 c2) L.length (pixs L)) (hL : L.length ≤ 1000) :
    Calls Tryd.prog 5 #[.slice (some ⟨g1, o1, none⟩) n1 c1, .slice (some ⟨g2, o2, none⟩) n2 c2] w (Gives (.bool true) w) := by
  obtain ⟨e1, k1⟩ := win_cat h1
  obtain ⟨e2, k2⟩ := win_cat h2
  subst e1
  exact same5 g1 o1 c1 g2 o2 c2 _ n2 (fun i => L.getD i Cl.zero) w k1 k2 e2 hL

theorem same_nil (w : World) : Calls Tryd.prog 5 #[.slice none 0 0, .slice none 0 0] w (Gives (.bool true) w) := by
  go_enter Tryd.func5, Tryd.ntmps5
  go_wp2
  go_loopg [5] 0 (fun gg v5 wr => gg = 0 ∧ v5 = .int .i64 0 ∧ wr = w)
  case atStart => exact ⟨rfl, rfl, rfl⟩
  case round =>
    obtain ⟨rfl, rfl, rfl⟩ := hrel
    go_wp2
    go_ret
    exact ⟨rfl, Stay.refl _ _⟩

/-- What the program's Text does. -/
def TextC : Prop := ∀ (s : ByteArray) (q : Pe) (w : World), s.size ≤ 200 → Wide.Tbl w → Utf.Tbl w → Calls Tryd.prog 6 #[.string s, .agg #[.int .i64 q.fg, .int .i64 q.bg, .int .i64 q.fl]] w (TextO q (Utf.runes (bytesN s)) w)

theorem utf_stay {w w1 : World} (h : Utf.Tbl w) (hs : Stay (fun _ => False) w w1) : Utf.Tbl w1 := hs.tbl h (fun h => h) (World.block_lt_of_cell? _ _ (h 0 (by decide)))

set_option maxHeartbeats 2000000 in
theorem drawTexts3 (T6 : TextC) (s : ByteArray) (q : Pe) (w : World) (hs : s.size ≤ 9223372036854775807) (hT : Wide.Tbl w) (hU : Utf.Tbl w) : Calls Tryd.prog 3 #[.string s, .agg #[.int .i64 q.fg, .int .i64 q.bg, .int .i64 q.fl]] w (LawTrue w) := by
  obtain ⟨W0, hW0⟩ : ∃ W, W = w.alloc (.cells #[.int .i64 q.fg, .int .i64 q.bg, .int .i64 q.fl] 23) := ⟨_, rfl⟩
  obtain ⟨bp, hbp⟩ : ∃ b, b = w.heap.size := ⟨_, rfl⟩
  have hst0 : Stay (fun _ => False) w W0 := by rw [hW0]; exact (Stay.refl _ _).alloc _
  have HP := hide' (show PeBox W0 bp q by rw [hW0]; exact PeBox.new q hbp.symm)
  have HST := hide' hst0
  have HTT := hide' (show Wide.Tbl W0 ∧ Utf.Tbl W0 from ⟨hT.stay hst0, utf_stay hU hst0⟩)
  clear hst0 hT hU
  go_enter Tryd.func3, Tryd.ntmps3
  go_upto_region 1 with fail
  rw [← hW0, ← hbp]
  clear hW0 hbp
  by_cases h2 : s.size ≤ 200
  · have hz1 : ¬ (200 : Int) < (s.size : Nat) := by omega
    have hz2 : decide ((200 : Int) < (s.size : Nat)) = false := decide_eq_false hz1
    have HT6 := hide' (fun W (h : Stay (fun _ => False) W0 W) => T6 s q W h2 (HTT.out.1.stay h) (utf_stay HTT.out.2 h))
    have HT7 := hide' (fun W => refText7 s q W h2)
    have HLN : Hid ((txts q (Utf.runes (bytesN s))).length ≤ 1000) := hide' (by
      have h1 := txts_len q (Utf.runes (bytesN s))
      have h3 := runes_len (bytesN s)
      rw [bytesN_len] at h3
      omega)
    have hS : (fun w' => Stay (fun _ => False) W0 w') W0.drew := (Stay.refl _ _).drew
    go_upto_region 3 with fail
    by_cases hne : txts q (Utf.runes (bytesN s)) = []
    · skip
      refine wp_region_mix (fun w' => Stay (fun _ => False) W0 w') [(0, true), (1, true), (3, true), (4, true), (2, false), (5, false), (6, false), (7, true), (8, false), (9, true), (10, true)] (by kernel_rfl) (by kernel_rfl) (fun _ d _ _ _ h => by cases d <;> exact h) hS ?_
      refine mix_begin (fun K0 hK0 => ?_)
      refine mix_take hK0 (some 9) (.move (.tmp 0)) 9 _ (by kernel_rfl) (by kernel_rfl) (fun w' hS' => by (obtain ⟨p0, p1, p2, _⟩ := HP.out.keep hS'; simp only [opr]; go_simp; try with_reducible rfl)) (fun K1 hK1 => ?_)
      clear hK0 K0
      simp only [Act.put, List.setIfInBounds_toArray, List.set_cons_zero, List.set_cons_succ]
      refine mix_take hK1 (some 10) (.load 23 (.tmp 3)) 23 _ (by kernel_rfl) (by kernel_rfl) (fun w' hS' => by (obtain ⟨p0, p1, p2, _⟩ := HP.out.keep hS'; simp only [opr]; go_simp; try with_reducible rfl)) (fun K2 hK2 => ?_)
      clear hK1 K1
      simp only [Act.put, List.setIfInBounds_toArray, List.set_cons_zero, List.set_cons_succ]
      refine mix_take hK2 (some 12) (.move (.tmp 0)) 9 _ (by kernel_rfl) (by kernel_rfl) (fun w' hS' => by (obtain ⟨p0, p1, p2, _⟩ := HP.out.keep hS'; simp only [opr]; go_simp; try with_reducible rfl)) (fun K3 hK3 => ?_)
      clear hK2 K2
      simp only [Act.put, List.setIfInBounds_toArray, List.set_cons_zero, List.set_cons_succ]
      refine mix_take hK3 (some 13) (.load 23 (.tmp 3)) 23 _ (by kernel_rfl) (by kernel_rfl) (fun w' hS' => by (obtain ⟨p0, p1, p2, _⟩ := HP.out.keep hS'; simp only [opr]; go_simp; try with_reducible rfl)) (fun K4 hK4 => ?_)
      clear hK3 K3
      simp only [Act.put, List.setIfInBounds_toArray, List.set_cons_zero, List.set_cons_succ]
      refine mix_call hK4 (some 11) 6 #[.tmp 9, .tmp 10] #[9, 23] 26 _ (by kernel_rfl) (by kernel_rfl) (enters Tryd.func6 (by kernel_rfl) (by kernel_rfl)) (by go_simp; try with_reducible rfl) (fun K5 hK5 => ?_)
      clear hK4 K4
      refine (HT6.out _ hS).mono ?_
      rintro _ wm1 ⟨v1, rfl, hx1⟩
      have hS1 : _ := (hS.trans hx1.st)
      refine ⟨_, rfl, hS1, ?_⟩
      have HX1 := hide' hx1
      have hs1 := True.intro
      have hv1 := HX1.out.nl hne
      subst hv1
      clear hx1
      clear hs1
      simp only [Act.put, List.setIfInBounds_toArray, List.set_cons_zero, List.set_cons_succ]
      refine mix_call hK5 (some 14) 7 #[.tmp 12, .tmp 13] #[9, 23] 26 _ (by kernel_rfl) (by kernel_rfl) (enters Tryd.func7 (by kernel_rfl) (by kernel_rfl)) (by go_simp; try with_reducible rfl) (fun K6 hK6 => ?_)
      clear hK5 K5
      refine (HT7.out _).mono ?_
      rintro _ wm2 ⟨v2, rfl, hx2⟩
      have hS2 : _ := (hS1.trans hx2.st)
      refine ⟨_, rfl, hS2, ?_⟩
      have HX2 := hide' hx2
      have HX1b := hide' (HX1.out.keep hx2.st)
      have hs2 := True.intro
      have hv2 := HX2.out.nl hne
      subst hv2
      clear hx2
      clear hs2
      simp only [Act.put, List.setIfInBounds_toArray, List.set_cons_zero, List.set_cons_succ]
      refine mix_call hK6 (some 15) 5 #[.tmp 11, .tmp 14] #[26, 26] 4 _ (by kernel_rfl) (by kernel_rfl) (enters Tryd.func5 (by kernel_rfl) (by kernel_rfl)) (by go_simp; try with_reducible rfl) (fun K7 hK7 => ?_)
      clear hK6 K6
      refine (same_nil _).mono ?_
      rintro e wm3 ⟨rfl, hs3⟩
      have hS3 : _ := (hS2.trans hs3)
      refine ⟨_, rfl, hS3, ?_⟩
      clear hs3
      simp only [Act.put, List.setIfInBounds_toArray, List.set_cons_zero, List.set_cons_succ]
      refine mix_take hK7 (some 16) (.move (.tmp 15)) 4 _ (by kernel_rfl) (by kernel_rfl) (fun w' hS' => by (obtain ⟨p0, p1, p2, _⟩ := HP.out.keep hS'; simp only [opr]; go_simp; try with_reducible rfl)) (fun K8 hK8 => ?_)
      clear hK7 K7
      simp only [Act.put, List.setIfInBounds_toArray, List.set_cons_zero, List.set_cons_succ]
      refine mix_call hK8 (some 17) 4 #[] #[] 4 _ (by kernel_rfl) (by kernel_rfl) (enters Tryd.func4 (by kernel_rfl) (by kernel_rfl)) (by go_simp; try with_reducible rfl) (fun K9 hK9 => ?_)
      clear hK8 K8
      refine (awake4 _).mono ?_
      rintro e wm4 ⟨rfl, hs4⟩
      have hS4 : _ := (hS3.trans hs4)
      refine ⟨_, rfl, hS4, ?_⟩
      clear hs4
      simp only [Act.put, List.setIfInBounds_toArray, List.set_cons_zero, List.set_cons_succ]
      refine mix_take hK9 (some 18) (.pick (.tmp 16) (.tmp 17) (.const (Value.bool false))) 4 _ (by kernel_rfl) (by kernel_rfl) (fun w' hS' => by (obtain ⟨p0, p1, p2, _⟩ := HP.out.keep hS'; simp only [opr]; go_simp; try with_reducible rfl)) (fun K10 hK10 => ?_)
      clear hK9 K9
      simp only [Act.put, List.setIfInBounds_toArray, List.set_cons_zero, List.set_cons_succ]
      refine mix_take hK10 (some 4) (.assign (.tmp 18)) 4 _ (by kernel_rfl) (by kernel_rfl) (fun w' hS' => by (obtain ⟨p0, p1, p2, _⟩ := HP.out.keep hS'; simp only [opr]; go_simp; try with_reducible rfl)) (fun K11 hK11 => ?_)
      clear hK10 K10
      simp only [Act.put, List.setIfInBounds_toArray, List.set_cons_zero, List.set_cons_succ]
      refine hK11 _ _ (mix_nil ?_)
      clear hK11 K11
      have HSF := hide' (HST.out.trans hS4)
      go_wp2
      go_ret
      exact ⟨rfl, HSF.out⟩
    · skip
      refine wp_region_mix (fun w' => Stay (fun _ => False) W0 w') [(0, true), (1, true), (3, true), (4, true), (2, false), (5, false), (6, false), (7, true), (8, false), (9, true), (10, true)] (by kernel_rfl) (by kernel_rfl) (fun _ d _ _ _ h => by cases d <;> exact h) hS ?_
      refine mix_begin (fun K0 hK0 => ?_)
      refine mix_take hK0 (some 9) (.move (.tmp 0)) 9 _ (by kernel_rfl) (by kernel_rfl) (fun w' hS' => by (obtain ⟨p0, p1, p2, _⟩ := HP.out.keep hS'; simp only [opr]; go_simp; try with_reducible rfl)) (fun K1 hK1 => ?_)
      clear hK0 K0
      simp only [Act.put, List.setIfInBounds_toArray, List.set_cons_zero, List.set_cons_succ]
      refine mix_take hK1 (some 10) (.load 23 (.tmp 3)) 23 _ (by kernel_rfl) (by kernel_rfl) (fun w' hS' => by (obtain ⟨p0, p1, p2, _⟩ := HP.out.keep hS'; simp only [opr]; go_simp; try with_reducible rfl)) (fun K2 hK2 => ?_)
      clear hK1 K1
      simp only [Act.put, List.setIfInBounds_toArray, List.set_cons_zero, List.set_cons_succ]
      refine mix_take hK2 (some 12) (.move (.tmp 0)) 9 _ (by kernel_rfl) (by kernel_rfl) (fun w' hS' => by (obtain ⟨p0, p1, p2, _⟩ := HP.out.keep hS'; simp only [opr]; go_simp; try with_reducible rfl)) (fun K3 hK3 => ?_)
      clear hK2 K2
      simp only [Act.put, List.setIfInBounds_toArray, List.set_cons_zero, List.set_cons_succ]
      refine mix_take hK3 (some 13) (.load 23 (.tmp 3)) 23 _ (by kernel_rfl) (by kernel_rfl) (fun w' hS' => by (obtain ⟨p0, p1, p2, _⟩ := HP.out.keep hS'; simp only [opr]; go_simp; try with_reducible rfl)) (fun K4 hK4 => ?_)
      clear hK3 K3
      simp only [Act.put, List.setIfInBounds_toArray, List.set_cons_zero, List.set_cons_succ]
      refine mix_call hK4 (some 11) 6 #[.tmp 9, .tmp 10] #[9, 23] 26 _ (by kernel_rfl) (by kernel_rfl) (enters Tryd.func6 (by kernel_rfl) (by kernel_rfl)) (by go_simp; try with_reducible rfl) (fun K5 hK5 => ?_)
      clear hK4 K4
      refine (HT6.out _ hS).mono ?_
      rintro _ wm1 ⟨v1, rfl, hx1⟩
      have hS1 : _ := (hS.trans hx1.st)
      refine ⟨_, rfl, hS1, ?_⟩
      have HX1 := hide' hx1
      have hs1 := True.intro
      obtain ⟨vg1, vo1, vc1, hv1⟩ := HX1.out.some_ hne
      subst hv1
      clear hx1
      clear hs1
      simp only [Act.put, List.setIfInBounds_toArray, List.set_cons_zero, List.set_cons_succ]
      refine mix_call hK5 (some 14) 7 #[.tmp 12, .tmp 13] #[9, 23] 26 _ (by kernel_rfl) (by kernel_rfl) (enters Tryd.func7 (by kernel_rfl) (by kernel_rfl)) (by go_simp; try with_reducible rfl) (fun K6 hK6 => ?_)
      clear hK5 K5
      refine (HT7.out _).mono ?_
      rintro _ wm2 ⟨v2, rfl, hx2⟩
      have hS2 : _ := (hS1.trans hx2.st)
      refine ⟨_, rfl, hS2, ?_⟩
      have HX2 := hide' hx2
      have HX1b := hide' (HX1.out.keep hx2.st)
      have hs2 := True.intro
      obtain ⟨vg2, vo2, vc2, hv2⟩ := HX2.out.some_ hne
      subst hv2
      clear hx2
      clear hs2
      simp only [Act.put, List.setIfInBounds_toArray, List.set_cons_zero, List.set_cons_succ]
      refine mix_call hK6 (some 15) 5 #[.tmp 11, .tmp 14] #[26, 26] 4 _ (by kernel_rfl) (by kernel_rfl) (enters Tryd.func5 (by kernel_rfl) (by kernel_rfl)) (by go_simp; try with_reducible rfl) (fun K7 hK7 => ?_)
      clear hK6 K6
      refine (same_txt HX1b.out.win HX2.out.win HLN.out).mono ?_
      rintro e wm3 ⟨rfl, hs3⟩
      have hS3 : _ := (hS2.trans hs3)
      refine ⟨_, rfl, hS3, ?_⟩
      clear hs3
      simp only [Act.put, List.setIfInBounds_toArray, List.set_cons_zero, List.set_cons_succ]
      refine mix_take hK7 (some 16) (.move (.tmp 15)) 4 _ (by kernel_rfl) (by kernel_rfl) (fun w' hS' => by (obtain ⟨p0, p1, p2, _⟩ := HP.out.keep hS'; simp only [opr]; go_simp; try with_reducible rfl)) (fun K8 hK8 => ?_)
      clear hK7 K7
      simp only [Act.put, List.setIfInBounds_toArray, List.set_cons_zero, List.set_cons_succ]
      refine mix_call hK8 (some 17) 4 #[] #[] 4 _ (by kernel_rfl) (by kernel_rfl) (enters Tryd.func4 (by kernel_rfl) (by kernel_rfl)) (by go_simp; try with_reducible rfl) (fun K9 hK9 => ?_)
      clear hK8 K8
      refine (awake4 _).mono ?_
      rintro e wm4 ⟨rfl, hs4⟩
      have hS4 : _ := (hS3.trans hs4)
      refine ⟨_, rfl, hS4, ?_⟩
      clear hs4
      simp only [Act.put, List.setIfInBounds_toArray, List.set_cons_zero, List.set_cons_succ]
      refine mix_take hK9 (some 18) (.pick (.tmp 16) (.tmp 17) (.const (Value.bool false))) 4 _ (by kernel_rfl) (by kernel_rfl) (fun w' hS' => by (obtain ⟨p0, p1, p2, _⟩ := HP.out.keep hS'; simp only [opr]; go_simp; try with_reducible rfl)) (fun K10 hK10 => ?_)
      clear hK9 K9
      simp only [Act.put, List.setIfInBounds_toArray, List.set_cons_zero, List.set_cons_succ]
      refine mix_take hK10 (some 4) (.assign (.tmp 18)) 4 _ (by kernel_rfl) (by kernel_rfl) (fun w' hS' => by (obtain ⟨p0, p1, p2, _⟩ := HP.out.keep hS'; simp only [opr]; go_simp; try with_reducible rfl)) (fun K11 hK11 => ?_)
      clear hK10 K10
      simp only [Act.put, List.setIfInBounds_toArray, List.set_cons_zero, List.set_cons_succ]
      refine hK11 _ _ (mix_nil ?_)
      clear hK11 K11
      have HSF := hide' (HST.out.trans hS4)
      go_wp2
      go_ret
      exact ⟨rfl, HSF.out⟩
  · have hz1 : (200 : Int) < (s.size : Nat) := by omega
    have hz2 : decide ((200 : Int) < (s.size : Nat)) = true := decide_eq_true hz1
    go_wp2_with fail
    refine (awake4 _).mono ?_
    rintro _ w2 ⟨rfl, hs2⟩
    have HSF := hide' (HST.out.trans hs2)
    clear hs2
    go_wp2
    go_ret
    exact ⟨rfl, HSF.out⟩

end Go.Proofs.YticccknocjnkpaaDoor
