/-
  All that is ready, and how many: walked. No conditions.
  How many are ready; the line's last byte: walked. No conditions.
  Slices of slices of bytes, and of lines. No conditions.
-/
import Derived.Test.YtkggmjjjopfdbaaG1
import Derived.Lib.SliceRun
namespace Go.Proofs.Ytkggmjjjopfdbaa
open Go.RowKit
open L17

/-- Not too much. -/
structure Small (d : DS) : Prop where
  bytes : d.raw.length + d.lines.flatten.length + d.line.length ≤ 10000
  lines : d.lines.length ≤ 100000

theorem take_flat (L : List (List Int)) (k : Nat) (h : k < L.length) : (L.take (k + 1)).flatten = (L.take k).flatten ++ L.getD k [] := by
  rw [List.take_add_one]
  rw [List.flatten_append, List.getD_eq_getElem?_getD, List.getElem?_eq_getElem h]
  simp

theorem take_flat_le (L : List (List Int)) (k : Nat) : (L.take k).flatten.length ≤ L.flatten.length := by
  have h := congrArg List.length (congrArg List.flatten (List.take_append_drop k L))
  rw [List.flatten_append, List.length_append] at h
  omega

theorem LRow.at {w : World} {b : Bx} {v : Value} {L : List (List Int)} (h : LRow w b v L) : ∃ (a : Option Addr) (cap : Nat), v = .slice a L.length cap ∧ (a = none → cap = 0) ∧ L.length ≤ cap ∧
    ∀ k, k < L.length → ∃ g o u, a = some ⟨g, o, none⟩ ∧ w.cell? ⟨g, o + k, none⟩ = some u ∧ BRow w b u (L.getD k []) := by
  obtain ⟨vs, a, cap, h1, h2, h3, h4, h5, h6, h7⟩ := h
  refine ⟨a, cap, by rw [h1, h5], h2, by omega, fun k hk => ?_⟩
  have hne : vs ≠ [] := fun e => by rw [e] at h5; simp at h5; omega
  obtain ⟨g, o, e, hg, hn, hc⟩ := h6 hne
  have hkv : k < vs.length := by omega
  refine ⟨g, o, vs[k], e, hc k _ (List.getElem?_eq_getElem hkv), ?_⟩
  have := h7 k vs[k] L[k] (List.getElem?_eq_getElem hkv) (List.getElem?_eq_getElem hk)
  rw [List.getD_eq_getElem?_getD, List.getElem?_eq_getElem hk]
  exact this

set_option maxRecDepth 100000 in
theorem r_all (b : Bx) (d : DS) (w : World) (h : RAt w b d) (hf : Small d) : Calls Try.prog 44 #[.pointer (some ⟨b, 0, none⟩)] w (GivesB b d.all w) := by
  have hlt := h.lt
  have HLT := hide' hlt
  obtain ⟨r, HB, HP⟩ := h
  have HX := hide' (And.intro HB HP)
  have HF := hide' hf
  obtain ⟨rw', hrw⟩ : ∃ l, l = d.raw := ⟨_, rfl⟩
  obtain ⟨L, hL⟩ : ∃ l, l = d.lines := ⟨_, rfl⟩
  have HA := hide' (Acc.begin w)
  have HE := hide' (HP.rw.keep ((Stay.refl _ w).alloc (.cells #[] 5)))
  obtain ⟨al, cl, e18, _, _, HLS⟩ := HP.ls.at
  have hn1 : ([] : List Int).length + d.raw.length ≤ 1000000 := by have := hf.bytes; simp; omega
  have HK : Hid (∀ k, (d.raw ++ (d.lines.take k).flatten).length ≤ 10000) := fun k => by have := hf.bytes; have := take_flat_le d.lines k; rw [List.length_append]; omega
  obtain ⟨n, hnn⟩ : ∃ n, n = d.lines.length := ⟨_, rfl⟩
  have HNN : Hid (n = d.lines.length) := hnn
  have HL2 : Hid (n ≤ 100000) := by show n ≤ 100000; rw [hnn]; exact hf.lines
  have HLS2 : Hid (∀ k, k < n → ∃ g o u, al = some ⟨g, o, none⟩ ∧ w.cell? ⟨g, o + k, none⟩ = some u ∧ BRow w b u (d.lines.getD k [])) := fun k hk => HLS k (by omega)
  rw [← hnn] at e18
  obtain ⟨c0, c1, c2, c3, c4, c5, c6, c7, c8, c9, c10, c11, c12, c13, c14, c15, c16, c17, c18, c19, c20, c21, c22, _⟩ := HX.out.1.keep ((Stay.refl _ w).alloc (.cells #[] 5))
  clear hlt HP HB hf hrw hL HLS hnn
  go_enter Try.func44, Try.ntmps44
  go_wp2_with (at_builtin; refine acc_app rfl _ _ rfl HA.out rfl HE.out rfl hn1 ?_; intro v1 w1 hA1; have HA1 := hide' hA1; obtain ⟨a1, n1, cp1, e1⟩ := hA1.form; clear hA1 HA HE hn1 c0 c1 c2 c3 c4 c5 c6 c7 c8 c9 c10 c11 c12 c13 c14 c15 c16 c17 c18 c19 c20 c21 c22; subst e1; go_wp2_with fail)
  have hn5 := HL2.out
  go_loopg [3, 4] n (fun gg v3 v4 wr => ∃ k : Nat, k ≤ n ∧ gg = n - k ∧ v4 = .int .i64 (k : Int) ∧ ∃ a m cp, v3 = .slice a m cp ∧ Hid (Acc w wr (.slice a m cp) (d.raw ++ (d.lines.take k).flatten)))
  case atStart =>
    refine ⟨0, Nat.zero_le _, rfl, rfl, _, _, _, rfl, ?_⟩
    have h1 := HA1.out
    have e : ([] ++ d.raw : List Int) = d.raw ++ (d.lines.take 0).flatten := by simp
    rw [e] at h1
    exact h1
  case round =>
    clear HA1
    obtain ⟨k, hk, rfl, rfl, a, m, cp, rfl, HR⟩ := hrel
    have HXR := hide' (HX.out.1.keep HR.out.stay)
    obtain ⟨c0, c1, c2, c3, c4, c5, c6, c7, c8, c9, c10, c11, c12, c13, c14, c15, c16, c17, c18, c19, c20, c21, c22, _⟩ := HXR.out
    rw [e18] at c18
    by_cases hlt : k < n
    · have kn : (k : Int) < n := by omega
      obtain ⟨g, o, u, rfl, hcell, hbu⟩ := HLS2.out k hlt
      have hcell2 := keep_cell HR.out.stay hcell
      have HBU := hide' (hbu.keep HR.out.stay)
      have hn2 : (d.raw ++ (d.lines.take k).flatten).length + (d.lines.getD k []).length ≤ 1000000 := by
        have h1 := HK.out (k + 1)
        rw [take_flat d.lines k (by have := HNN.out; omega), ← List.append_assoc, List.length_append] at h1
        omega
      clear hcell hbu hlt
      go_wp2_with (at_builtin; refine acc_app rfl _ _ rfl HR.out rfl HBU.out rfl hn2 ?_; intro v2 w2 hA2; have HA2 := hide' hA2; obtain ⟨a2, n2, cp2, e2⟩ := hA2.form; clear hA2 hn2 HBU c0 c1 c2 c3 c4 c5 c6 c7 c8 c9 c10 c11 c12 c13 c14 c15 c16 c17 c18 c19 c20 c21 c22 HXR; subst e2; go_wp2_with fail)
      go_roundg (n - (k + 1))
      case measure => omega
      case rel =>
        refine ⟨k + 1, by omega, rfl, by go_num, _, _, _, rfl, ?_⟩
        have h2 := HA2.out
        rw [List.append_assoc, ← take_flat d.lines k (by have := HNN.out; omega)] at h2
        exact h2
    · have e : k = n := by omega
      subst e
      have HFL : Hid (d.raw ++ (d.lines.take k).flatten = d.raw ++ d.lines.flatten) := by
        show d.raw ++ (d.lines.take k).flatten = d.raw ++ d.lines.flatten
        rw [HNN.out, List.take_length]
      have HBL := hide' (HX.out.2.ln.keep HR.out.stay)
      have hn2 : (d.raw ++ (d.lines.take k).flatten).length + d.line.length ≤ 1000000 := by have := HK.out k; have := HF.out.bytes; omega
      clear hlt
      go_wp2_with (at_builtin; refine acc_app rfl _ _ rfl HR.out rfl HBL.out rfl hn2 ?_; intro v2 w2 hA2; have HA2 := hide' hA2; obtain ⟨a2, n2, cp2, e2⟩ := hA2.form; clear hA2 hn2 HBL c0 c1 c2 c3 c4 c5 c6 c7 c8 c9 c10 c11 c12 c13 c14 c15 c16 c17 c18 c19 c20 c21 c22 HXR; subst e2; go_wp2_with fail)
      go_ret
      refine ⟨_, rfl, ?_, HA2.out.stay⟩
      have h2 := HA2.out.brow HLT.out
      rw [HFL.out] at h2
      exact h2

end Go.Proofs.Ytkggmjjjopfdbaa

namespace Go.Proofs.Ytkggmjjjopfdbaa
open Go.RowKit
open L17

set_option maxRecDepth 100000 in
theorem r_ready (b : Bx) (d : DS) (w : World) (h : RAt w b d) (hf : Small d) : Calls Try.prog 23 #[.pointer (some ⟨b, 0, none⟩)] w (Gives (.int .i64 (d.cnt : Nat)) w) := by
  have HA := hide' (fun w' (hs : Stay (fun _ => False) w w') => r_all b d w' (h.keep hs) hf)
  have hs0 : Stay (fun _ => False) w w := Stay.refl _ _
  have eall : d.all.length = d.raw.length + d.lines.flatten.length + d.line.length := by unfold DS.all; rw [List.length_append, List.length_append]
  have HEQ : Hid ((d.cnt : Nat) = d.all.length - d.line.length) := by show d.cnt = _; rw [eall]; unfold DS.cnt; omega
  have HAL : Hid (d.all.length ≤ 10000 ∧ d.line.length ≤ d.all.length) := by have := hf.bytes; show d.all.length ≤ 10000 ∧ d.line.length ≤ d.all.length; omega
  clear eall
  obtain ⟨r, HB, HP⟩ := h
  obtain ⟨al, cl, e17⟩ := HP.ln.shape
  have c17 := HB.c17
  rw [e17] at c17
  clear HB HP e17
  obtain ⟨n, hn⟩ : ∃ n, n = d.line.length := ⟨_, rfl⟩
  rw [← hn] at c17 HEQ HAL
  have HBD : Hid (∀ m, m = d.all.length → m ≤ 10000 ∧ n ≤ m) := fun m e => by rw [e]; exact HAL.out
  clear hn
  go_enter Try.func23, Try.ntmps23
  go_wp2_with fail
  have hS : (fun w' => Stay (fun _ => False) w w' ∧ w'.cell? ⟨b, 17, none⟩ = some (.slice al n cl)) w.drew := ⟨hs0.drew, keep_cell hs0.drew c17⟩
  clear hs0 c17
  refine wp_region_mix (fun w' => Stay (fun _ => False) w w' ∧ w'.cell? ⟨b, 17, none⟩ = some (.slice al n cl)) [(0, true), (3, true), (4, true), (5, true), (6, true), (7, true), (1, false), (2, true), (8, true), (9, true)] (by kernel_rfl) (by kernel_rfl) (fun _ d _ _ _ h => by cases d <;> exact h) hS ?_
  refine mix_begin (fun K0 hK0 => ?_)
  refine mix_take hK0 (some 3) (.move (.tmp 0)) 30 _ (by kernel_rfl) (by kernel_rfl) (fun w' hS' => by (obtain ⟨_, sb⟩ := hS'; simp only [opr]; go_simp; try with_reducible rfl)) (fun K1 hK1 => ?_)
  clear hK0 K0
  simp only [Act.put, List.setIfInBounds_toArray, List.set_cons_zero, List.set_cons_succ]
  refine mix_take hK1 (some 6) (.move (.tmp 0)) 30 _ (by kernel_rfl) (by kernel_rfl) (fun w' hS' => by (obtain ⟨_, sb⟩ := hS'; simp only [opr]; go_simp; try with_reducible rfl)) (fun K2 hK2 => ?_)
  clear hK1 K1
  simp only [Act.put, List.setIfInBounds_toArray, List.set_cons_zero, List.set_cons_succ]
  refine mix_take hK2 (some 7) (.nilCheck (.tmp 6)) 0 _ (by kernel_rfl) (by kernel_rfl) (fun w' hS' => by (obtain ⟨_, sb⟩ := hS'; simp only [opr]; go_simp; try with_reducible rfl)) (fun K3 hK3 => ?_)
  clear hK2 K2
  simp only [Act.put, List.setIfInBounds_toArray, List.set_cons_zero, List.set_cons_succ]
  refine mix_take hK3 (some 8) (.fieldAddr 34 (.tmp 7) 1) 0 _ (by kernel_rfl) (by kernel_rfl) (fun w' hS' => by (obtain ⟨_, sb⟩ := hS'; simp only [opr]; go_simp; try with_reducible rfl)) (fun K4 hK4 => ?_)
  clear hK3 K3
  simp only [Act.put, List.setIfInBounds_toArray, List.set_cons_zero, List.set_cons_succ]
  refine mix_take hK4 (some 9) (.load 31 (.tmp 8)) 31 _ (by kernel_rfl) (by kernel_rfl) (fun w' hS' => by (obtain ⟨_, sb⟩ := hS'; simp only [opr]; go_simp; try with_reducible rfl)) (fun K5 hK5 => ?_)
  clear hK4 K4
  simp only [Act.put, List.setIfInBounds_toArray, List.set_cons_zero, List.set_cons_succ]
  refine mix_take hK5 (some 10) (.call { callee := Callee.builtin Builtin.len, args := #[.tmp 9], argTypes := #[31] }) 3 _ (by kernel_rfl) (by kernel_rfl) (fun w' hS' => by (obtain ⟨_, sb⟩ := hS'; simp only [opr]; go_simp; try with_reducible rfl)) (fun K6 hK6 => ?_)
  clear hK5 K5
  simp only [Act.put, List.setIfInBounds_toArray, List.set_cons_zero, List.set_cons_succ]
  refine mix_call hK6 (some 4) 44 #[.tmp 3] #[30] 31 _ (by kernel_rfl) (by kernel_rfl) (enters Try.func44 (by kernel_rfl) (by kernel_rfl)) (by go_simp; try with_reducible rfl) (fun K7 hK7 => ?_)
  clear hK6 K6
  refine (HA.out _ hS.1).mono ?_
  rintro e wm1 ⟨v1, rfl, hv1, hs1⟩
  have hS1 : _ := And.intro (hS.1.trans hs1) (keep_cell hs1 hS.2)
  refine ⟨_, rfl, hS1, ?_⟩
  obtain ⟨a1, cp1, e1⟩ := hv1.shape
  subst e1
  clear hv1
  obtain ⟨m1, hm1⟩ : ∃ m, m = d.all.length := ⟨_, rfl⟩
  rw [← hm1]
  have HM1 := hide' hm1
  clear hm1
  clear hs1
  simp only [Act.put, List.setIfInBounds_toArray, List.set_cons_zero, List.set_cons_succ]
  have hm5 : m1 ≤ 10000 ∧ n ≤ m1 := HBD.out m1 HM1.out
  refine mix_take hK7 (some 5) (.call { callee := Callee.builtin Builtin.len, args := #[.tmp 4], argTypes := #[31] }) 3 _ (by kernel_rfl) (by kernel_rfl) (fun w' hS' => by (obtain ⟨_, sb⟩ := hS'; simp only [opr]; go_simp; try with_reducible rfl)) (fun K8 hK8 => ?_)
  clear hK7 K7
  simp only [Act.put, List.setIfInBounds_toArray, List.set_cons_zero, List.set_cons_succ]
  refine mix_take hK8 (some 11) (.binOp BinOp.sub 3 (.tmp 5) (.tmp 10) 3) 3 _ (by kernel_rfl) (by kernel_rfl) (fun w' hS' => by (obtain ⟨_, sb⟩ := hS'; simp only [opr]; go_simp; try with_reducible rfl)) (fun K9 hK9 => ?_)
  clear hK8 K8
  simp only [Act.put, List.setIfInBounds_toArray, List.set_cons_zero, List.set_cons_succ]
  refine mix_take hK9 (some 2) (.assign (.tmp 11)) 3 _ (by kernel_rfl) (by kernel_rfl) (fun w' hS' => by (obtain ⟨_, sb⟩ := hS'; simp only [opr]; go_simp; try with_reducible rfl)) (fun K10 hK10 => ?_)
  clear hK9 K9
  simp only [Act.put, List.setIfInBounds_toArray, List.set_cons_zero, List.set_cons_succ]
  refine hK10 _ _ (mix_nil ?_)
  clear hK10 K10
  go_wp2
  go_ret
  refine ⟨ret_int ?_, hS1.1⟩
  have h1 := HEQ.out
  have h2 := HM1.out
  have h3 := HBD.out m1 h2
  rw [IntKind.wrap_i64]
  omega

/-- The line's last byte, where it lies. -/
theorem last_at {w : World} {b : Bx} {v : Value} {l : List Int} (h : BRow w b v l) (hne : l ≠ []) : ∃ g o n cl m, v = .slice (some ⟨g, o, none⟩) n cl ∧ n = l.length ∧ n = m + 1 ∧ ¬ b.X g ∧ g < w.heap.size ∧ n ≤ cl ∧ w.cell? ⟨g, o + m, none⟩ = some (.int .u8 (l.getLastD 0)) ∧ 0 ≤ l.getLastD 0 ∧ l.getLastD 0 < 256 := by
  obtain ⟨a, cap, h, hn⟩ := h
  obtain ⟨g, o, rfl, hg, hi⟩ := h.cells hne
  have hl : 0 < l.length := List.length_pos_iff.2 hne
  have e : l.getD (l.length - 1) 0 = l.getLastD 0 := by
    rw [List.getD_eq_getElem?_getD, List.getLastD_eq_getLast?, List.getLast?_eq_getElem?]
  have hw := wf_u8 (h.wf (l.getLastD 0) (by rw [← e]; exact getD_mem (by omega)))
  refine ⟨g, o, l.length, cap, l.length - 1, h.shape, rfl, by omega, hn hne ⟨g, o, none⟩ rfl, hg, h.lenLe, ?_, hw.1, by have := hw.2; omega⟩
  rw [← e]
  exact hi _ (by omega)

set_option maxRecDepth 100000 in
theorem r_blank (b : Bx) (d : DS) (w : World) (h : RAt w b d) (hne : d.line ≠ []) (hl : d.line.length ≤ 10000) : Calls Try.prog 37 #[.pointer (some ⟨b, 0, none⟩)] w (Gives (.bool (DS.blk (d.line.getLastD 0))) w) := by
  have hs0 : Stay (fun _ => False) w w := Stay.refl _ _
  obtain ⟨r, HB, HP⟩ := h
  obtain ⟨g, o, n, cl, m, e17, hn, hm, _, _, hcl, hcell, _⟩ := last_at HP.ln hne
  have c17 := HB.c17
  rw [e17] at c17
  have kn : ((n : Nat) : Int) - 1 = (m : Int) := by omega
  have kl : n ≤ 10000 := by omega
  have km : m < n := by omega
  have kw : IntKind.i64.wrap (m : Int) = m := by rw [IntKind.wrap_i64]; omega
  have kr : 0 ≤ (m : Int) ∧ (m : Int) < n := by omega
  clear HB HP e17 hn hm hne hl
  obtain ⟨x, hx⟩ : ∃ x, x = d.line.getLastD 0 := ⟨_, rfl⟩
  rw [← hx] at hcell ⊢
  clear hx
  have HQ : Hid (DS.blk x = (x == 32 || x == 9)) := rfl
  obtain ⟨q, hq⟩ : ∃ q, q = DS.blk x := ⟨_, rfl⟩
  rw [← hq] at HQ ⊢
  clear hq
  go_enter Try.func37, Try.ntmps37
  go_wp2_with fail
  have hS : (fun w' => Stay (fun _ => False) w w' ∧ w'.cell? ⟨b, 17, none⟩ = some (.slice (some ⟨g, o, none⟩) n cl) ∧ w'.cell? ⟨g, o + m, none⟩ = some (.int .u8 x)) w.drew := ⟨hs0.drew, keep_cell hs0.drew c17, keep_cell hs0.drew hcell⟩
  clear hs0 c17 hcell
  refine wp_region_mix (fun w' => Stay (fun _ => False) w w' ∧ w'.cell? ⟨b, 17, none⟩ = some (.slice (some ⟨g, o, none⟩) n cl) ∧ w'.cell? ⟨g, o + m, none⟩ = some (.int .u8 x)) [(0, true), (1, true), (2, true), (3, true), (4, true), (5, true), (6, true), (7, true), (8, true), (9, true), (10, true), (11, true), (12, true)] (by kernel_rfl) (by kernel_rfl) (fun _ d _ _ _ h => by cases d <;> exact h) hS ?_
  refine mix_begin (fun K0 hK0 => ?_)
  refine mix_take hK0 (some 4) (.move (.tmp 0)) 30 _ (by kernel_rfl) (by kernel_rfl) (fun w' hS' => by (obtain ⟨_, sb, sc⟩ := hS'; simp only [opr]; go_simp; try with_reducible rfl)) (fun K1 hK1 => ?_)
  clear hK0 K0
  simp only [Act.put, List.setIfInBounds_toArray, List.set_cons_zero, List.set_cons_succ]
  refine mix_take hK1 (some 5) (.nilCheck (.tmp 4)) 0 _ (by kernel_rfl) (by kernel_rfl) (fun w' hS' => by (obtain ⟨_, sb, sc⟩ := hS'; simp only [opr]; go_simp; try with_reducible rfl)) (fun K2 hK2 => ?_)
  clear hK1 K1
  simp only [Act.put, List.setIfInBounds_toArray, List.set_cons_zero, List.set_cons_succ]
  refine mix_take hK2 (some 6) (.fieldAddr 34 (.tmp 5) 1) 0 _ (by kernel_rfl) (by kernel_rfl) (fun w' hS' => by (obtain ⟨_, sb, sc⟩ := hS'; simp only [opr]; go_simp; try with_reducible rfl)) (fun K3 hK3 => ?_)
  clear hK2 K2
  simp only [Act.put, List.setIfInBounds_toArray, List.set_cons_zero, List.set_cons_succ]
  refine mix_take hK3 (some 7) (.load 31 (.tmp 6)) 31 _ (by kernel_rfl) (by kernel_rfl) (fun w' hS' => by (obtain ⟨_, sb, sc⟩ := hS'; simp only [opr]; go_simp; try with_reducible rfl)) (fun K4 hK4 => ?_)
  clear hK3 K3
  simp only [Act.put, List.setIfInBounds_toArray, List.set_cons_zero, List.set_cons_succ]
  refine mix_take hK4 (some 8) (.move (.tmp 0)) 30 _ (by kernel_rfl) (by kernel_rfl) (fun w' hS' => by (obtain ⟨_, sb, sc⟩ := hS'; simp only [opr]; go_simp; try with_reducible rfl)) (fun K5 hK5 => ?_)
  clear hK4 K4
  simp only [Act.put, List.setIfInBounds_toArray, List.set_cons_zero, List.set_cons_succ]
  refine mix_take hK5 (some 9) (.nilCheck (.tmp 8)) 0 _ (by kernel_rfl) (by kernel_rfl) (fun w' hS' => by (obtain ⟨_, sb, sc⟩ := hS'; simp only [opr]; go_simp; try with_reducible rfl)) (fun K6 hK6 => ?_)
  clear hK5 K5
  simp only [Act.put, List.setIfInBounds_toArray, List.set_cons_zero, List.set_cons_succ]
  refine mix_take hK6 (some 10) (.fieldAddr 34 (.tmp 9) 1) 0 _ (by kernel_rfl) (by kernel_rfl) (fun w' hS' => by (obtain ⟨_, sb, sc⟩ := hS'; simp only [opr]; go_simp; try with_reducible rfl)) (fun K7 hK7 => ?_)
  clear hK6 K6
  simp only [Act.put, List.setIfInBounds_toArray, List.set_cons_zero, List.set_cons_succ]
  refine mix_take hK7 (some 11) (.load 31 (.tmp 10)) 31 _ (by kernel_rfl) (by kernel_rfl) (fun w' hS' => by (obtain ⟨_, sb, sc⟩ := hS'; simp only [opr]; go_simp; try with_reducible rfl)) (fun K8 hK8 => ?_)
  clear hK7 K7
  simp only [Act.put, List.setIfInBounds_toArray, List.set_cons_zero, List.set_cons_succ]
  refine mix_take hK8 (some 12) (.call { callee := Callee.builtin Builtin.len, args := #[.tmp 11], argTypes := #[31] }) 3 _ (by kernel_rfl) (by kernel_rfl) (fun w' hS' => by (obtain ⟨_, sb, sc⟩ := hS'; simp only [opr]; go_simp; try with_reducible rfl)) (fun K9 hK9 => ?_)
  clear hK8 K8
  simp only [Act.put, List.setIfInBounds_toArray, List.set_cons_zero, List.set_cons_succ]
  refine mix_take hK9 (some 13) (.binOp BinOp.sub 3 (.tmp 12) (.const (Value.int IntKind.i64 1)) 3) 3 _ (by kernel_rfl) (by kernel_rfl) (fun w' hS' => by (obtain ⟨_, sb, sc⟩ := hS'; simp only [opr]; go_simp; try with_reducible rfl)) (fun K10 hK10 => ?_)
  clear hK9 K9
  simp only [Act.put, List.setIfInBounds_toArray, List.set_cons_zero, List.set_cons_succ]
  refine mix_take hK10 (some 14) (.indexAddr 31 (.tmp 7) (.tmp 13)) 0 _ (by kernel_rfl) (by kernel_rfl) (fun w' hS' => by (obtain ⟨_, sb, sc⟩ := hS'; simp only [opr]; go_simp; try with_reducible rfl)) (fun K11 hK11 => ?_)
  clear hK10 K10
  simp only [Act.put, List.setIfInBounds_toArray, List.set_cons_zero, List.set_cons_succ]
  refine mix_take hK11 (some 15) (.load 5 (.tmp 14)) 5 _ (by kernel_rfl) (by kernel_rfl) (fun w' hS' => by (obtain ⟨_, sb, sc⟩ := hS'; simp only [opr]; go_simp; try with_reducible rfl)) (fun K12 hK12 => ?_)
  clear hK11 K11
  simp only [Act.put, List.setIfInBounds_toArray, List.set_cons_zero, List.set_cons_succ]
  refine mix_take hK12 (some 3) (.assign (.tmp 15)) 5 _ (by kernel_rfl) (by kernel_rfl) (fun w' hS' => by (obtain ⟨_, sb, sc⟩ := hS'; simp only [opr]; go_simp; try with_reducible rfl)) (fun K13 hK13 => ?_)
  clear hK12 K12
  simp only [Act.put, List.setIfInBounds_toArray, List.set_cons_zero, List.set_cons_succ]
  refine hK13 _ _ (mix_nil ?_)
  clear hK13 K13
  have HSE := hide' hS.1
  clear hS
  by_cases h32 : x = 32
  · have HQ2 : Hid (q = true) := by show q = true; rw [HQ.out, h32]; rfl
    subst h32
    go_wp2
    go_ret
    exact ⟨ret_bool HQ2.out.symm, HSE.out⟩
  · go_wp2
    go_ret
    exact ⟨ret_bool (by rw [HQ.out]), HSE.out⟩

end Go.Proofs.Ytkggmjjjopfdbaa

namespace Go.Proofs.Ytkggmjjjopfdbaa
open Go.RowKit
open L17

theorem add_zero' (ad : Addr) (z : Nat) : ad.add (0 * z) = ad := by
  rw [Nat.zero_mul]
  obtain ⟨b, o, sp⟩ := ad
  unfold Addr.add
  split <;> simp_all

theorem slice_h_eq {P : Program} {t sz : Nat} {sa : Option Addr} {m cap k : Nat} (ht : P.underlying t = some (.slice (P.elem t))) (hz : (P.info? (P.elem t)).map (·.size) = some sz) (hk : k ≤ cap) (w : World) :
    (Instr.slice t (.slice sa m cap) none (some (.int .i64 (k : Nat))) none).run P w = .ok (.slice sa k cap) w := by
  obtain ⟨i, hi, rfl⟩ := Option.map_eq_some_iff.1 hz
  rw [run_slice_h _ _ _ _ _ ht _ _ (by omega) (by omega)]
  simp [sizeOf, typeInfo, hi, Result.andThen, sliced]
  intro h
  cases sa with
  | none => rfl
  | some ad => simpa using add_zero' ad i.size

theorem slice_l_eq {P : Program} {t sz : Nat} {sa : Option Addr} {m cap k : Nat} (ht : P.underlying t = some (.slice (P.elem t))) (hz : (P.info? (P.elem t)).map (·.size) = some sz) (hk : k ≤ m) (w : World) :
    (Instr.slice t (.slice sa m cap) (some (.int .i64 (k : Nat))) none none).run P w = .ok (.slice (if cap = k then sa else sa.map (·.add (k * sz))) (m - k) (cap - k)) w := by
  obtain ⟨i, hi, rfl⟩ := Option.map_eq_some_iff.1 hz
  rw [run_slice_l _ _ _ _ _ ht _ _ (by omega) (by omega)]
  simp [sizeOf, typeInfo, hi, Result.andThen, sliced]

theorem elemB : Try.prog.underlying 31 = some (.slice (Try.prog.elem 31)) := by kernel_rfl
theorem sizeB : (Try.prog.info? (Try.prog.elem 31)).map (·.size) = some 1 := by kernel_rfl
theorem elemL : Try.prog.underlying 32 = some (.slice (Try.prog.elem 32)) := by kernel_rfl
theorem sizeL : (Try.prog.info? (Try.prog.elem 32)).map (·.size) = some 1 := by kernel_rfl

end Go.Proofs.Ytkggmjjjopfdbaa
