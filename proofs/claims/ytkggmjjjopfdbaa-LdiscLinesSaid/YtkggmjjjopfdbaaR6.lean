/-
  The last byte is taken back; a byte is put; the line is ready: walked. No conditions.
-/
import Derived.Test.YtkggmjjjopfdbaaG2
namespace Go.Proofs.Ytkggmjjjopfdbaa
open Go.RowKit
open L17

theorem IArg.front {w : World} {b : Bx} {g o n cl m : Nat} {l : List Int} (h : BRow w b (.slice (some ⟨g, o, none⟩) n cl) l) (hn : n = l.length) (hm : n = m + 1) : BRow w b (.slice (some ⟨g, o, none⟩) m cl) l.dropLast := by
  obtain ⟨a, cap, h, hb⟩ := h
  have hs := h.shape
  cases hs
  have ht := h.take m (by omega)
  have e : l.take m = l.dropLast := by rw [List.dropLast_eq_take]; congr 1; omega
  rw [e] at ht
  exact ⟨_, _, ht, fun hne => hb (fun e => hne (by rw [e]; rfl))⟩

theorem pic_len (d : DS) (c : Int) : (d.pic c).length ≤ 2 := by unfold DS.pic; split; simp; split <;> simp

theorem rubs_len (l : List Int) : (l.flatMap (fun _ => [(8 : Int), 32, 8])).length = 3 * l.length := by
  induction l with
  | nil => rfl
  | cons a l ih => rw [List.flatMap_cons, List.length_append, ih]; simp; omega

theorem rub_take (l : List Int) (k : Nat) (h : k < l.length) : (l.take (k + 1)).flatMap (fun _ => [(8 : Int), 32, 8]) = (l.take k).flatMap (fun _ => [(8 : Int), 32, 8]) ++ [8, 32, 8] := by
  rw [List.take_add_one, List.getElem?_eq_getElem h, List.flatMap_append]
  rfl

theorem brow_three (w : World) (b : Bx) (hb : ∀ k, b.X k → k < w.heap.size) : BRow (w.alloc (.cells #[.int .u8 8, .int .u8 32, .int .u8 8] 5)) b (.slice (some ⟨w.heap.size, 0, none⟩) 3 3) [8, 32, 8] :=
  brow_new w #[.int .u8 8, .int .u8 32, .int .u8 8] [8, 32, 8] 3 b hb rfl rfl (fun y hy => by simp at hy; rcases hy with rfl | rfl | rfl <;> decide) (by omega)

set_option maxRecDepth 100000 in
theorem r_back (b : Bx) (d : DS) (w : World) (h : RAt w b d) (hne : d.line ≠ []) (hl : d.line.length ≤ 10000) (he : d.ec.length ≤ 800000) : Calls Try.prog 38 #[.pointer (some ⟨b, 0, none⟩)] w (TurnR b d.back (.tuple #[]) w) := by
  have hs0 : Stay (fun _ => False) w w := Stay.refl _ _
  obtain ⟨r, HB, HP⟩ := h
  have HX := hide' (And.intro HB HP)
  obtain ⟨g, o, n, cl, m, e17, hn, hm, hgb, hgl, hcl, hcell, x0, x1⟩ := last_at HP.ln hne
  have c17 := HB.c17
  rw [e17] at c17
  have kn : ((n : Nat) : Int) - 1 = (m : Int) := by omega
  have kl : n ≤ 10000 := by omega
  have km : m < n := by omega
  have kw : IntKind.i64.wrap (m : Int) = m := by rw [IntKind.wrap_i64]; omega
  have kr : 0 ≤ (m : Int) ∧ (m : Int) < n := by omega
  have HFR : Hid (BRow w b (.slice (some ⟨g, o, none⟩) m cl) d.line.dropLast) := by
    have h1 := HP.ln
    rw [e17] at h1
    exact IArg.front h1 hn hm
  clear HB HP hn hm hne hl
  obtain ⟨x, hx⟩ : ∃ x, x = d.line.getLastD 0 := ⟨_, rfl⟩
  rw [← hx] at hcell x0 x1
  have HLB : Hid (d.back = (d.setLine d.line.dropLast).out (d.rub x)) := by show d.back = _; rw [hx]; rfl
  have HXR : Hid (0 ≤ x ∧ x < 256) := ⟨x0, x1⟩
  have HE := hide' he
  clear hx x0 x1 he
  go_enter Try.func38, Try.ntmps38
  go_wp2_with fail
  have hS : (fun w' => Stay (fun _ => False) w w' ∧ w'.cell? ⟨b, 17, none⟩ = some (.slice (some ⟨g, o, none⟩) n cl) ∧ w'.cell? ⟨g, o + m, none⟩ = some (.int .u8 x)) w.drew := ⟨hs0.drew, keep_cell hs0.drew c17, keep_cell hs0.drew hcell⟩
  refine wp_region_mix (fun w' => Stay (fun _ => False) w w' ∧ w'.cell? ⟨b, 17, none⟩ = some (.slice (some ⟨g, o, none⟩) n cl) ∧ w'.cell? ⟨g, o + m, none⟩ = some (.int .u8 x)) [(0, true), (1, true), (2, true), (3, true), (4, true), (5, true), (6, true), (7, true), (8, true), (9, true), (10, true), (11, true), (12, true)] (by kernel_rfl) (by kernel_rfl) (fun _ d _ _ _ h => by cases d <;> exact h) hS ?_
  refine mix_begin (fun K0 hK0 => ?_)
  refine mix_take hK0 (some 4) (.move (.tmp 0)) 30 _ (by kernel_rfl) (by kernel_rfl) (fun w' hS' => by (obtain ⟨_, sb, sc⟩ := hS'; simp only [opr]; go_simp; try with_reducible rfl)) (fun K1 hK1 => ?_)
  clear hK0 K0
  simp only [Act.put, List.setIfInBounds_toArray, List.set_cons_zero, List.set_cons_succ]
  refine mix_take hK1 (some 5) (.nilCheck (.tmp 4)) 0 _ (by kernel_rfl) (by kernel_rfl) (fun w' hS' => by (obtain ⟨_, sb, sc⟩ := hS'; simp only [opr]; go_simp; try with_reducible rfl)) (fun K2 hK2 => ?_)
  clear hK1 K1
  simp only [Act.put, List.setIfInBounds_toArray, List.set_cons_zero, List.set_cons_succ]
  refine mix_take hK2 (some 6) (.fieldAddr 34 (.tmp 5) 1) 0 _ (by kernel_rfl) (by kernel_rfl) (fun w' hS' => by (obtain ⟨_, sb, sc⟩ := hS'; simp only [opr]; go_simp; try with_reducible rfl)) (fun K3 hK3 => ?_)
  clear hK2 K2
  simp only [Act.put, List.setIfInBounds_toArray, List.set_cons_zero, List.set_cons_succ]
  refine mix_take hK3 (some 7) (.load 31 (.tmp 6)) 31 _ (by kernel_rfl) (by kernel_rfl) (fun w' hS' => by (obtain ⟨_, sb, sc⟩ := hS'; simp only [opr]; go_simp; try with_reducible rfl)) (fun K4 hK4 => ?_)
  clear hK3 K3
  simp only [Act.put, List.setIfInBounds_toArray, List.set_cons_zero, List.set_cons_succ]
  refine mix_take hK4 (some 8) (.move (.tmp 0)) 30 _ (by kernel_rfl) (by kernel_rfl) (fun w' hS' => by (obtain ⟨_, sb, sc⟩ := hS'; simp only [opr]; go_simp; try with_reducible rfl)) (fun K5 hK5 => ?_)
  clear hK4 K4
  simp only [Act.put, List.setIfInBounds_toArray, List.set_cons_zero, List.set_cons_succ]
  refine mix_take hK5 (some 9) (.nilCheck (.tmp 8)) 0 _ (by kernel_rfl) (by kernel_rfl) (fun w' hS' => by (obtain ⟨_, sb, sc⟩ := hS'; simp only [opr]; go_simp; try with_reducible rfl)) (fun K6 hK6 => ?_)
  clear hK5 K5
  simp only [Act.put, List.setIfInBounds_toArray, List.set_cons_zero, List.set_cons_succ]
  refine mix_take hK6 (some 10) (.fieldAddr 34 (.tmp 9) 1) 0 _ (by kernel_rfl) (by kernel_rfl) (fun w' hS' => by (obtain ⟨_, sb, sc⟩ := hS'; simp only [opr]; go_simp; try with_reducible rfl)) (fun K7 hK7 => ?_)
  clear hK6 K6
  simp only [Act.put, List.setIfInBounds_toArray, List.set_cons_zero, List.set_cons_succ]
  refine mix_take hK7 (some 11) (.load 31 (.tmp 10)) 31 _ (by kernel_rfl) (by kernel_rfl) (fun w' hS' => by (obtain ⟨_, sb, sc⟩ := hS'; simp only [opr]; go_simp; try with_reducible rfl)) (fun K8 hK8 => ?_)
  clear hK7 K7
  simp only [Act.put, List.setIfInBounds_toArray, List.set_cons_zero, List.set_cons_succ]
  refine mix_take hK8 (some 12) (.call { callee := Callee.builtin Builtin.len, args := #[.tmp 11], argTypes := #[31] }) 3 _ (by kernel_rfl) (by kernel_rfl) (fun w' hS' => by (obtain ⟨_, sb, sc⟩ := hS'; simp only [opr]; go_simp; try with_reducible rfl)) (fun K9 hK9 => ?_)
  clear hK8 K8
  simp only [Act.put, List.setIfInBounds_toArray, List.set_cons_zero, List.set_cons_succ]
  refine mix_take hK9 (some 13) (.binOp BinOp.sub 3 (.tmp 12) (.const (Value.int IntKind.i64 1)) 3) 3 _ (by kernel_rfl) (by kernel_rfl) (fun w' hS' => by (obtain ⟨_, sb, sc⟩ := hS'; simp only [opr]; go_simp; try with_reducible rfl)) (fun K10 hK10 => ?_)
  clear hK9 K9
  simp only [Act.put, List.setIfInBounds_toArray, List.set_cons_zero, List.set_cons_succ]
  refine mix_take hK10 (some 14) (.indexAddr 31 (.tmp 7) (.tmp 13)) 0 _ (by kernel_rfl) (by kernel_rfl) (fun w' hS' => by (obtain ⟨_, sb, sc⟩ := hS'; simp only [opr]; go_simp; try with_reducible rfl)) (fun K11 hK11 => ?_)
  clear hK10 K10
  simp only [Act.put, List.setIfInBounds_toArray, List.set_cons_zero, List.set_cons_succ]
  refine mix_take hK11 (some 15) (.load 5 (.tmp 14)) 5 _ (by kernel_rfl) (by kernel_rfl) (fun w' hS' => by (obtain ⟨_, sb, sc⟩ := hS'; simp only [opr]; go_simp; try with_reducible rfl)) (fun K12 hK12 => ?_)
  clear hK11 K11
  simp only [Act.put, List.setIfInBounds_toArray, List.set_cons_zero, List.set_cons_succ]
  refine mix_take hK12 (some 2) (.assign (.tmp 15)) 5 _ (by kernel_rfl) (by kernel_rfl) (fun w' hS' => by (obtain ⟨_, sb, sc⟩ := hS'; simp only [opr]; go_simp; try with_reducible rfl)) (fun K13 hK13 => ?_)
  clear hK12 K12
  simp only [Act.put, List.setIfInBounds_toArray, List.set_cons_zero, List.set_cons_succ]
  refine hK13 _ _ (mix_nil ?_)
  clear hK13 K13
  have HSE := hide' hS.1
  have HC17 := hide' hS.2.1
  clear hS
  obtain ⟨W1, hW1⟩ : ∃ W, W = w.drew := ⟨_, rfl⟩
  rw [← hW1] at HSE HC17 ⊢
  clear hW1 c17 hcell hs0
  have hc17 := HC17.out
  have hf17 : W1.frozen? ⟨b, 17, none⟩ = false := (HX.out.1.keep HSE.out).f17
  go_wp2_with fail
  have hslh := fun w => slice_h_eq (P := Try.prog) (sa := some ⟨g, o, none⟩) (m := n) (cap := cl) (k := m) elemB sizeB (by omega) w
  go_still_tail 14, (by kernel_rfl)
  change wpList _ _ _ _ _ W1.drew
  have HB1 := hide' (HX.out.1.keep HSE.out.drew)
  have HP1 := hide' (HX.out.2.stay HSE.out.drew (fun _ h => h.elim))
  have HS1 := hide' HSE.out.drew
  have hc2 := HB1.out.c17
  rw [e17] at hc2
  have hf2 := HB1.out.f17
  obtain ⟨wd, hwd⟩ : ∃ W, W = W1.drew := ⟨_, rfl⟩
  rw [← hwd] at HB1 HP1 HS1 hc2 hf2 ⊢
  clear hwd hc17 hf17 HC17 HSE
  have HR2 : Hid (RAt (wd.setCell ⟨b, 17, none⟩ (.slice (some ⟨g, o, none⟩) m cl)) b (d.setLine d.line.dropLast)) := RAt.put_ln HB1.out HP1.out (HFR.out.keep HS1.out)
  have HS2 : Hid (Stay (fun k => k = b) w (wd.setCell ⟨b, 17, none⟩ (.slice (some ⟨g, o, none⟩) m cl))) := stay_b HS1.out _ _
  obtain ⟨d1, hd1⟩ : ∃ d1, d1 = d.setLine d.line.dropLast := ⟨_, rfl⟩
  have HE1 : Hid (d1.ec.length ≤ 800000) := by show d1.ec.length ≤ 800000; rw [hd1]; exact HE.out
  have HRU : Hid (d.rub x = if d1.loc 2 = true ∧ d1.loc 4 = true then (d1.pic x).flatMap (fun _ => [8, 32, 8]) else []) := by rw [hd1]; rfl
  rw [← hd1] at HR2 HLB
  obtain ⟨ru, hru⟩ : ∃ l, l = d.rub x := ⟨_, rfl⟩
  rw [← hru] at HRU HLB
  clear hd1 hru HX HFR HE HB1 HP1 HS1 e17
  go_upto_region 2 with fail
  obtain ⟨W2, hW2⟩ : ∃ W, W = wd.setCell ⟨b, 17, none⟩ (.slice (some ⟨g, o, none⟩) m cl) := ⟨_, rfl⟩
  rw [← hW2] at HR2 HS2 ⊢
  clear hW2 hc2 hf2
  have H2 := hide' (r_local b d1 2 W2 HR2.out)
  obtain ⟨q2, hq2⟩ : ∃ q, q = d1.loc 2 := ⟨_, rfl⟩
  obtain ⟨q4, hq4⟩ : ∃ q, q = d1.loc 4 := ⟨_, rfl⟩
  have H4 : Hid (∀ w', Stay (fun _ => False) W2 w' → Calls Try.prog 34 #[.pointer (some ⟨b, 0, none⟩), .int .i64 4] w' (Gives (.bool q4) w')) := fun w' hs => by rw [hq4]; exact r_local b d1 4 w' (HR2.out.keep hs)
  rw [← hq2] at H2 HRU
  rw [← hq4] at HRU
  clear hq2 hq4
  cases q2
  · go_wp2_with fail
    refine H2.out.mono ?_
    rintro e w3 ⟨rfl, hs⟩
    have HR3 := hide' (HR2.out.keep hs)
    have HS3 := hide' (HS2.out.trans (hs.mono (fun _ _ h => h.elim)))
    clear hs
    go_wp2
    go_returns
    refine ⟨rfl, ?_, HS3.out⟩
    rw [HLB.out, HRU.out]
    simpa [DS.out] using HR3.out
  cases q4
  · go_wp2_with fail
    refine H2.out.mono ?_
    rintro e w3 ⟨rfl, hs⟩
    have HR3 := hide' (HR2.out.keep hs)
    have HS3 := hide' (HS2.out.trans (hs.mono (fun _ _ h => h.elim)))
    have HH := hide' hs
    clear hs
    go_wp2_with fail
    refine (H4.out _ HH.out).mono ?_
    rintro e w4 ⟨rfl, hs⟩
    have HR4 := hide' (HR3.out.keep hs)
    have HS4 := hide' (HS3.out.trans (hs.mono (fun _ _ h => h.elim)))
    clear hs
    go_wp2
    go_returns
    refine ⟨rfl, ?_, HS4.out⟩
    rw [HLB.out, HRU.out]
    simpa [DS.out] using HR4.out
  · go_wp2_with fail
    refine H2.out.mono ?_
    rintro e w3 ⟨rfl, hs⟩
    have HR3 := hide' (HR2.out.keep hs)
    have HS3 := hide' (HS2.out.trans (hs.mono (fun _ _ h => h.elim)))
    have HH := hide' hs
    clear hs
    go_wp2_with fail
    refine (H4.out _ HH.out).mono ?_
    rintro e w4 ⟨rfl, hs⟩
    have HR4 := hide' (HR3.out.keep hs)
    have HS4 := hide' (HS3.out.trans (hs.mono (fun _ _ h => h.elim)))
    clear hs HR3 HS3 HH HR2 HS2 H2 H4
    have HRU2 : Hid (ru = (d1.pic x).flatMap (fun _ => [8, 32, 8])) := by show ru = _; rw [HRU.out]; simp
    have HPL := hide' (pic_len d1 x)
    obtain ⟨np, hnp⟩ : ∃ n, n = (d1.pic x).length := ⟨_, rfl⟩
    have HNP := hide' hnp
    have hnp2 : np ≤ 2 := by rw [hnp]; exact HPL.out
    have HPI : Hid (∀ k w', RAt w' b (d1.out (((d1.pic x).take k).flatMap (fun _ => [8, 32, 8]))) → Calls Try.prog 51 #[.pointer (some ⟨b, 0, none⟩), .int .u8 x] w' (fun e w'' => ∃ a cap, e = .returned (.slice a np cap) ∧ Stay (fun _ => False) w' w'')) := fun k w' hr => (r_picture b _ x w' hr HXR.out.1 HXR.out.2).mono (fun e w'' hh => by
      obtain ⟨v, rfl, hv, hs⟩ := hh
      obtain ⟨a, cap, e⟩ := hv.shape
      refine ⟨a, cap, ?_, hs⟩
      rw [e, hnp]
      rfl)
    clear hnp
    go_wp2
    go_loopg [3] np (fun gg v3 wr => ∃ k : Nat, k ≤ np ∧ gg = np - k ∧ v3 = .int .i64 (k : Int) ∧ Hid (RAt wr b (d1.out (((d1.pic x).take k).flatMap (fun _ => [8, 32, 8]))) ∧ Stay (fun k => k = b) w wr))
    case atStart =>
      refine ⟨0, Nat.zero_le _, rfl, rfl, ?_, HS4.out⟩
      have h4 := HR4.out
      have e : d1.out (((d1.pic x).take 0).flatMap (fun _ => [8, 32, 8])) = d1 := by unfold DS.out; simp
      rw [e]
      exact h4
    case round =>
      clear HR4 HS4
      obtain ⟨k, hk, rfl, rfl, HR⟩ := hrel
      by_cases hlt : k < np
      · have kn2 : (k : Int) < np := by omega
        go_wp2_with fail
        refine (HPI.out k _ HR.out.1).mono ?_
        rintro e w5 ⟨a5, cp5, rfl, hs⟩
        have HR5 := hide' (HR.out.1.keep hs)
        have HS5 := hide' (HR.out.2.trans (hs.mono (fun _ _ h => h.elim)))
        clear hs HR
        go_wp2_with fail
        have HR6 := hide' (HR5.out.keep ((Stay.refl _ w5).alloc (.cells #[.int .u8 8, .int .u8 32, .int .u8 8] 5)))
        have HS6 := hide' (HS5.out.alloc (.cells #[.int .u8 8, .int .u8 32, .int .u8 8] 5))
        have HOU := hide' (r_out b _ _ [8, 32, 8] _ HR6.out (brow_three w5 b HR5.out.lt) (by
          have h1 := HE1.out
          have h2 := rubs_len ((d1.pic x).take k)
          have h3 : ((d1.pic x).take k).length ≤ 2 := by rw [List.length_take]; have := HPL.out; omega
          show (d1.ec ++ _).length + 3 ≤ 900000
          rw [List.length_append]; omega))
        clear HR5 HS5 HR6
        refine HOU.out.mono ?_
        rintro e w6 ⟨rfl, hr, hs⟩
        have HN : Hid (RAt w6 b (d1.out (((d1.pic x).take (k + 1)).flatMap (fun _ => [8, 32, 8]))) ∧ Stay (fun k => k = b) w w6) := by
          refine ⟨?_, HS6.out.trans hs⟩
          rw [rub_take _ _ (by have := HNP.out; omega)]
          have e : d1.out (((d1.pic x).take k).flatMap (fun _ => [8, 32, 8]) ++ [8, 32, 8]) = (d1.out (((d1.pic x).take k).flatMap (fun _ => [8, 32, 8]))).out [8, 32, 8] := by unfold DS.out; simp
          rw [e]
          exact hr
        clear hr hs HOU HS6
        go_wp2
        go_roundg (np - (k + 1))
        case measure => omega
        case rel => exact ⟨k + 1, by omega, rfl, by go_num, HN⟩
      · have e : k = np := by omega
        subst e
        go_wp2_with fail
        refine (HPI.out k _ HR.out.1).mono ?_
        rintro e w5 ⟨a5, cp5, rfl, hs⟩
        have HR5 := hide' (HR.out.1.keep hs)
        have HS5 := hide' (HR.out.2.trans (hs.mono (fun _ _ h => h.elim)))
        clear hs HR
        go_wp2
        go_returns
        refine ⟨rfl, ?_, HS5.out⟩
        have h5 := HR5.out
        rw [HNP.out, List.take_length, ← HRU2.out, ← HLB.out] at h5
        exact h5

end Go.Proofs.Ytkggmjjjopfdbaa
