/-
  The document makes a text into cells: walked. No conditions.
-/
import Derived.Test.YticccknocjnkpaaDoorK1
namespace Go.Proofs.YticccknocjnkpaaDoor
open Go.RowKit

theorem runes_lt : ∀ (n : Nat) (l : List Nat), l.length ≤ n → (∀ x ∈ l, x < 256) → ∀ z ∈ Utf.runes l, z < 2097152
  | 0, l, hn, _, z, hz => by
    have : l = [] := List.eq_nil_of_length_eq_zero (by omega)
    subst this
    rw [Utf.runes_nil] at hz
    cases hz
  | n + 1, l, hn, h, z, hz => by
    by_cases hl : l = []
    · subst hl
      rw [Utf.runes_nil] at hz
      cases hz
    · rw [Utf.runes_at hl] at hz
      have h1 := Utf.atN_le l hl
      rcases List.mem_cons.1 hz with rfl | hz
      · refine Utf.atV_lt l ?_
        cases l with
        | nil => exact absurd rfl hl
        | cons a r => exact h a List.mem_cons_self
      · exact runes_lt n (l.drop (Utf.atN l)) (by rw [List.length_drop]; omega) (fun x hx => h x (List.mem_of_mem_drop hx)) z hz

theorem runeD_mem {l : List Nat} {i : Nat} (h : i < l.length) : l.getD i 0 ∈ l := by
  rw [List.getD_eq_getElem?_getD, List.getElem?_eq_getElem h]
  exact List.getElem_mem h

theorem runes_row {w : World} {base : Nat} {t : Value} {l : List Nat} (h : w.ownsRow base 21 1 t l.length (l.map Utf.rv)) : ∃ ta tc, t = .slice ta l.length tc ∧ ∀ i, i < l.length → ∃ g, ta = some ⟨g, 0, none⟩ ∧ w.cell? ⟨g, i, none⟩ = some (.int .i32 (l.getD i 0 : Nat)) := by
  rcases h.2 with ⟨e, h0⟩ | ⟨g, cap, cur, e, _⟩
  · exact ⟨none, 0, by rw [e, h0], fun i hi => by omega⟩
  · refine ⟨_, _, e, fun i hi => ⟨g, rfl, ?_⟩⟩
    have := h.cells (g := g) (by rw [e]; rfl) i (Utf.rv (l.getD i 0)) (by rw [List.getElem?_map, List.getD_eq_getElem?_getD, List.getElem?_eq_getElem hi]; rfl)
    rwa [addr_add, Nat.zero_add] at this

set_option maxRecDepth 100000 in
set_option maxHeartbeats 4000000 in
theorem refText7 (s : ByteArray) (q : Pe) (w : World) (h : s.size ≤ 200) : Calls Tryd.prog 7 #[.string s, .agg #[.int .i64 q.fg, .int .i64 q.bg, .int .i64 q.fl]] w (TextO q (Utf.runes (bytesN s)) w) := by
  obtain ⟨W0, hW0⟩ : ∃ W, W = w.alloc (.cells #[.int .i64 q.fg, .int .i64 q.bg, .int .i64 q.fl] 23) := ⟨_, rfl⟩
  obtain ⟨bp, hbp⟩ : ∃ b, b = w.heap.size := ⟨_, rfl⟩
  have hst0 : Stay (fun _ => False) w W0 := by rw [hW0]; exact (Stay.refl _ _).alloc _
  have HP0 := hide' (show PeBox W0 bp q by rw [hW0]; exact PeBox.new q hbp.symm)
  have HST0 := hide' hst0
  obtain ⟨l, hl⟩ : ∃ l, l = Utf.runes (bytesN s) := ⟨_, rfl⟩
  have HLL : Hid (l.length ≤ 401) := hide' (by rw [hl]; have h1 := runes_len (bytesN s); rw [bytesN_len] at h1; omega)
  have HSZ := hide' h
  have HLT : Hid (∀ z ∈ l, z < 2097152) := hide' (by rw [hl]; exact runes_lt _ (bytesN s) (Nat.le_refl _) (fun x hx => by unfold bytesN at hx; obtain ⟨b, _, rfl⟩ := List.mem_map.1 hx; exact b.toNat_lt))
  have hconv := fun (w : World) (s : ByteArray) => run_bytes_of_string (P := Tryd.prog) w 9 44 5 s Tryd.underlying9 Tryd.underlying44 Tryd.underlying5
  obtain ⟨cp, hcp⟩ : ∃ c, c = grownCap W0 s.size 0 5 := ⟨_, rfl⟩
  have HCP : Hid (s.size ≤ cp ∧ cp ≤ maxLen) := hide' (by rw [hcp]; exact ⟨grownCap_ge _ _ _ _, grownCap_le_maxLen _ _ _ _ (by unfold maxLen; omega)⟩)
  obtain ⟨W1, hW1⟩ : ∃ W, W = (W0.alloc (.cells (bytesRow s cp) 5 ((bytesRow s cp).size, (bytesRow s cp).size + 1))).drew := ⟨_, rfl⟩
  obtain ⟨sb, hsb⟩ : ∃ b, b = W0.heap.size := ⟨_, rfl⟩
  have hst1 : Stay (fun _ => False) W0 W1 := by rw [hW1]; exact ((Stay.refl _ _).alloc _).drew
  have HB := hide' (show Utf.Bytes W1 sb 0 (bytesN s) by
    rw [hW1, hsb]
    have h1 := bytes_made W0 s cp ((bytesRow s cp).size, (bytesRow s cp).size + 1)
    exact ⟨fun j hj => keep_cell ((Stay.refl _ _).drew) (h1.1 j hj), h1.2⟩)
  have HRA := hide' (Utf.refAll_any (bytesN s) sb 0 cp W1 (by rw [bytesN_len]; omega) (by rw [bytesN_len]; exact HCP.out.1) HCP.out.2 HB.out)
  rw [bytesN_len, ← hl] at HRA
  rw [← hl]
  have HST1 := hide' (hst0.trans hst1)
  have HP1 := hide' (HP0.out.keep hst1)
  clear hst0 hst1 hl h
  go_enter Tryd.func7, Tryd.ntmps7
  go_upto_region 2 with fail
  rw [← hW0, ← hbp]
  clear hW0 hbp
  go_wp2_with (simp only [hconv])
  rw [← hcp]
  rw [← hW1, ← hsb]
  clear hconv hcp hW1 hsb HB HP0 HST0
  refine HRA.out.mono ?_
  rintro _ wS ⟨t, rfl, hown, hs2⟩
  have HPS := hide' (HP1.out.keep hs2)
  have HRN := hide' (runes_row hown)
  obtain ⟨ta, tc, htv, hrn⟩ := HRN.out
  subst htv
  have HRR := hide' hrn
  obtain ⟨n, hn⟩ : ∃ n, n = l.length := ⟨_, rfl⟩
  have HN := hide' hn
  have hn4 : (n : Int) ≤ 401 := by have := HLL.out; omega
  have HBN : Hid (∀ i, i < n → l.getD i 0 < 2097152) := hide' (fun i hi => HLT.out _ (runeD_mem (by omega)))
  rw [← hn]
  rw [← hn] at HRR
  have HSS := hide' (HST1.out.trans hs2)
  have HTB : Hid (TxI wS wS (.slice none 0 0) (txts q (l.take 0))) := hide' (TxI.begin wS)
  clear hown hs2 HRA hn hrn HRN HST1 HP1
  go_wp2
  go_loopg [5, 7] n (fun gg v5 v7 wr => ∃ i : Nat, i ≤ n ∧ gg = n - i ∧ v7 = .int .i64 (i : Int) ∧ Hid (TxI wS wr v5 (txts q (l.take i))))
  case atStart => exact ⟨0, Nat.zero_le _, rfl, rfl, HTB⟩
  case round =>
    clear HTB
    obtain ⟨i, hin, rfl, rfl, HT⟩ := hrel
    by_cases hlt : i < n
    · have hz1 : (i : Int) < (n : Nat) := by omega
      obtain ⟨tb, e, hz⟩ := HRR.out i hlt
      subst e
      obtain ⟨z, hzz⟩ : ∃ z, z = l.getD i 0 := ⟨_, rfl⟩
      have hzb := HBN.out i hlt
      rw [← hzz] at hz hzb
      have HZ := hide' hzz
      have hzi : (0 : Int) ≤ (z : Nat) ∧ (z : Int) < 2097152 := by omega
      have hzw := keep_cell HT.out.st hz
      have hzS := hz
      have HPW := hide' (HPS.out.keep HT.out.st)
      have HRW := hide' (fun W => Wide.refWidth16 (z : Int) W)
      obtain ⟨wd, hwd⟩ : ∃ d, d = Wide.wid (z : Int) := ⟨_, rfl⟩
      have hwb : -1 ≤ wd ∧ wd ≤ 2 := by rw [hwd]; exact Wide.wid_ge _
      rw [← hwd] at HRW
      have HTX : Hid (txt q z = (if 0 < wd then [⟨z, q.fg, q.bg, q.fl⟩] else []) ++ (if 1 < wd then [⟨-1, q.fg, q.bg, q.fl⟩] else [])) := hide' (by unfold txt; rw [hwd])
      have HLB : Hid ((txts q (l.take i)).length ≤ 802) := hide' (by have h1 := txts_len q (l.take i); have h2 := HLL.out; rw [List.length_take] at h1; omega)
      have HTS : Hid (txts q (l.take (i + 1)) = txts q (l.take i) ++ txt q z) := hide' (by rw [HZ.out]; exact txts_snoc q l i (by have := HN.out; omega))
      clear hz hzz hwd hzb
      go_wp2_with fail
      refine (HRW.out _).mono ?_
      rintro _ wr2 ⟨rfl, hs⟩
      have HT0' := hide' (HT.out.keep hs)
      have hz2 := keep_cell hs hzw
      have HPW2 := hide' (HPW.out.keep hs)
      clear hs hzw HPW HT
      have HPB : Hid (bp < wS.heap.size ∧ tb < wS.heap.size) := hide' ⟨HPS.out.lt, World.block_lt_of_cell? _ _ hzS⟩
      obtain ⟨L, hL⟩ : ∃ L, L = txts q (l.take i) := ⟨_, rfl⟩
      rw [← hL] at HT0' HTS HLB
      have HNM : Hid (L.length + 1 ≤ 1000000) := hide' (by have := HLB.out; omega)
      clear hL hzS
      by_cases h1 : 1 ≤ wd
      · have hsd : Stay (fun _ => False) wr2 wr2.drew := (Stay.refl _ _).drew
        have HT0 := hide' (HT0'.out.keep hsd)
        have hS : (fun w' => PeBox w' bp q ∧ w'.cell? ⟨tb, i, none⟩ = some (.int .i32 (z : Nat))) wr2.drew := ⟨HPW2.out.keep hsd, keep_cell hsd hz2⟩
        clear hsd HT0' hz2
        go_upto_region 8 with fail
        refine wp_region_mix (fun w' => PeBox w' bp q ∧ w'.cell? ⟨tb, i, none⟩ = some (.int .i32 (z : Nat))) [(0, true), (1, true), (2, true), (3, true), (4, true), (5, true), (6, true), (7, false), (8, false), (9, true)] (by kernel_rfl) (by kernel_rfl) (fun _ d _ _ _ h => by cases d <;> exact h) hS ?_
        obtain ⟨wz, hwz⟩ : ∃ W, W = wr2.drew := ⟨_, rfl⟩
        rw [← hwz] at HT0 hS
        rw [← hwz]
        clear hwz
        refine mix_begin (fun K0 hK0 => ?_)
        refine mix_take hK0 (some 26) (.move (.tmp 5)) 26 _ (by kernel_rfl) (by kernel_rfl) (fun w' hS' => by (obtain ⟨⟨p0, p1, p2, _⟩, hz⟩ := hS'; simp only [opr]; go_simp; try with_reducible rfl)) (fun K1 hK1 => ?_)
        clear hK0 K0
        simp only [Act.put, List.setIfInBounds_toArray, List.set_cons_zero, List.set_cons_succ]
        refine mix_take hK1 (some 27) (.move (.tmp 6)) 42 _ (by kernel_rfl) (by kernel_rfl) (fun w' hS' => by (obtain ⟨⟨p0, p1, p2, _⟩, hz⟩ := hS'; simp only [opr]; go_simp; try with_reducible rfl)) (fun K2 hK2 => ?_)
        clear hK1 K1
        simp only [Act.put, List.setIfInBounds_toArray, List.set_cons_zero, List.set_cons_succ]
        refine mix_take hK2 (some 28) (.move (.tmp 7)) 3 _ (by kernel_rfl) (by kernel_rfl) (fun w' hS' => by (obtain ⟨⟨p0, p1, p2, _⟩, hz⟩ := hS'; simp only [opr]; go_simp; try with_reducible rfl)) (fun K3 hK3 => ?_)
        clear hK2 K2
        simp only [Act.put, List.setIfInBounds_toArray, List.set_cons_zero, List.set_cons_succ]
        refine mix_take hK3 (some 29) (.indexAddr 42 (.tmp 27) (.tmp 28)) 0 _ (by kernel_rfl) (by kernel_rfl) (fun w' hS' => by (obtain ⟨⟨p0, p1, p2, _⟩, hz⟩ := hS'; simp only [opr]; go_simp; try with_reducible rfl)) (fun K4 hK4 => ?_)
        clear hK3 K3
        simp only [Act.put, List.setIfInBounds_toArray, List.set_cons_zero, List.set_cons_succ]
        refine mix_take hK4 (some 30) (.load 21 (.tmp 29)) 21 _ (by kernel_rfl) (by kernel_rfl) (fun w' hS' => by (obtain ⟨⟨p0, p1, p2, _⟩, hz⟩ := hS'; simp only [opr]; go_simp; try with_reducible rfl)) (fun K5 hK5 => ?_)
        clear hK4 K4
        simp only [Act.put, List.setIfInBounds_toArray, List.set_cons_zero, List.set_cons_succ]
        refine mix_take hK5 (some 31) (.load 23 (.tmp 3)) 23 _ (by kernel_rfl) (by kernel_rfl) (fun w' hS' => by (obtain ⟨⟨p0, p1, p2, _⟩, hz⟩ := hS'; simp only [opr]; go_simp; try with_reducible rfl)) (fun K6 hK6 => ?_)
        clear hK5 K5
        simp only [Act.put, List.setIfInBounds_toArray, List.set_cons_zero, List.set_cons_succ]
        refine mix_take hK6 (some 32) (.build 40 #[(0, .tmp 30), (1, .tmp 31)]) 40 _ (by kernel_rfl) (by kernel_rfl) (fun w' hS' => by (obtain ⟨⟨p0, p1, p2, _⟩, hz⟩ := hS'; simp only [opr]; go_simp; try with_reducible rfl)) (fun K7 hK7 => ?_)
        clear hK6 K6
        simp only [Act.put, List.setIfInBounds_toArray, List.set_cons_zero, List.set_cons_succ]
        refine mix_chain hK7 (fun K7c hK7c => ?_)
        clear hK7 K7
        refine op_plain (some 33) (.buildSlice 26 1 #[(0, .tmp 32)]) 26 (by kernel_rfl) (by kernel_rfl) ?_
        go_wp2
        obtain ⟨wk1, hwk1⟩ : ∃ W, W = wz.alloc (.cells #[.int .i32 (z : Nat), .int .i64 q.fg, .int .i64 q.bg, .int .i64 q.fl] 40) := ⟨_, rfl⟩
        obtain ⟨kb, hkb⟩ : ∃ b, b = wz.heap.size := ⟨_, rfl⟩
        have HSRC := hide' (newcell wz ⟨z, q.fg, q.bg, q.fl⟩)
        have hs9 : Stay (fun _ => False) wz wk1 := by rw [hwk1]; exact (Stay.refl _ _).alloc _
        simp only at HSRC
        rw [← hwk1, ← hkb] at HSRC
        rw [← hwk1, ← hkb]
        have HT1 := hide' (HT0.out.keep hs9)
        clear hwk1 hkb
        have hS7 : (fun w' => PeBox w' bp q ∧ w'.cell? ⟨tb, i, none⟩ = some (.int .i32 (z : Nat))) wk1 := ⟨hS.1.keep hs9, keep_cell hs9 hS.2⟩
        refine hK7c _ _ hS7 (mix_begin fun K8 hK8 => ?_)
        clear hK7c K7c
        try simp only [Act.put, List.setIfInBounds_toArray, List.set_cons_zero, List.set_cons_succ]
        refine mix_chain hK8 (fun K8c hK8c => ?_)
        clear hK8 K8
        refine op_plain (some 34) (.call { callee := Callee.builtin Builtin.append, args := #[.tmp 26, .tmp 33], argTypes := #[26, 26] }) 26 (by kernel_rfl) (by kernel_rfl) ?_
        refine wpList_append_win rfl _ _ 26 rfl Tryd.underlying26 info40 rfl (by decide) (by decide) HT1.out.win rfl (m := 1) (news := (⟨z, q.fg, q.bg, q.fl⟩ : Cl).parts) rfl HSRC.out (fun e => by cases e) (Cl.parts_one _) HNM.out rfl ?_
        intro v1 wk2 hwa hsa hba
        refine wpList_nil ?_
        have HT2 := hide' (HT1.out.app ⟨z, q.fg, q.bg, q.fl⟩ hwa hsa hba)
        have hq1 := hS7.1.stay hsa (fun e => by have := HT1.out.nw _ e; have := HPB.out; omega)
        have hq2 : wk2.cell? ⟨tb, i, none⟩ = some (.int .i32 (z : Nat)) := (hsa.cell (p := ⟨tb, i, none⟩) (World.block_lt_of_cell? _ _ hS7.2) (fun e => by have := HT1.out.nw tb e; have := HPB.out; omega)).trans hS7.2
        clear hwa hsa hba
        have hS8 : (fun w' => PeBox w' bp q ∧ w'.cell? ⟨tb, i, none⟩ = some (.int .i32 (z : Nat))) wk2 := ⟨hq1, hq2⟩
        refine hK8c _ _ hS8 (mix_begin fun K9 hK9 => ?_)
        clear hK8c K8c
        try simp only [Act.put, List.setIfInBounds_toArray, List.set_cons_zero, List.set_cons_succ]
        refine mix_take hK9 (some 5) (.assign (.tmp 34)) 26 _ (by kernel_rfl) (by kernel_rfl) (fun w' hS' => by (obtain ⟨⟨p0, p1, p2, _⟩, hz⟩ := hS'; simp only [opr]; go_simp; try with_reducible rfl)) (fun K10 hK10 => ?_)
        clear hK9 K9
        simp only [Act.put, List.setIfInBounds_toArray, List.set_cons_zero, List.set_cons_succ]
        refine hK10 _ _ (mix_nil ?_)
        clear hK10 K10
        by_cases h2 : wd = 2
        · have HNM2 : Hid ((L ++ [(⟨z, q.fg, q.bg, q.fl⟩ : Cl)]).length + 1 ≤ 1000000) := hide' (by have := HLB.out; rw [List.length_append]; show L.length + 1 + 1 ≤ _; omega)
          obtain ⟨p0, p1, p2, _⟩ := hS8.1
          have HT3 := hide' (HT2.out.keep ((Stay.refl (fun _ => False) wk2).alloc (.cells #[.int .i32 (-1), .int .i64 q.fg, .int .i64 q.bg, .int .i64 q.fl] 40)))
          have HSR2 := hide' (newcell wk2 ⟨-1, q.fg, q.bg, q.fl⟩)
          simp only at HSR2
          clear HT2
          go_wp2_with (at_builtin; refine wpList_append_win rfl _ _ 26 rfl Tryd.underlying26 info40 rfl (by decide) (by decide) HT3.out.win rfl (m := 1) (news := (⟨-1, q.fg, q.bg, q.fl⟩ : Cl).parts) rfl HSR2.out (fun e => by cases e) (Cl.parts_one _) HNM2.out rfl ?_; intro v2 wk4 hw4 hst4 hob4; have HT4 := hide' (HT3.out.app ⟨-1, q.fg, q.bg, q.fl⟩ hw4 hst4 hob4); clear hw4 hst4 hob4 HT3)
          have HR : Hid (TxI wS wk4 v2 (txts q (l.take (i + 1)))) := hide' (by
            rw [HTS.out, HTX.out, if_pos (by omega), if_pos (by omega), ← List.append_assoc]
            exact HT4.out)
          clear HT4
          go_roundg (n - (i + 1))
          case measure => omega
          case rel => exact ⟨i + 1, by omega, rfl, by go_num, HR⟩
        · have h3 : ¬ wd = 2 := h2
          have HR : Hid (TxI wS wk2 v1 (txts q (l.take (i + 1)))) := hide' (by
            rw [HTS.out, HTX.out, if_pos (by omega), if_neg (by omega), List.append_nil]
            exact HT2.out)
          clear HT2
          go_wp2
          go_roundg (n - (i + 1))
          case measure => omega
          case rel => exact ⟨i + 1, by omega, rfl, by go_num, HR⟩
      · have h3 : ¬ wd = 2 := by omega
        have HR : Hid (TxI wS wr2 u5 (txts q (l.take (i + 1)))) := hide' (by
          rw [HTS.out, HTX.out, if_neg (by omega), if_neg (by omega)]
          show TxI wS wr2 u5 (L ++ [])
          rw [List.append_nil]
          exact HT0'.out)
        clear HT0'
        go_wp2
        go_roundg (n - (i + 1))
        case measure => omega
        case rel => exact ⟨i + 1, by omega, rfl, by go_num, HR⟩
    · have hii : i = n := by omega
      have HFN : Hid (TxI w wr u5 (txts q l)) := hide' (by
        have h := HT.out.from_ HSS.out
        rw [hii, HN.out, List.take_length] at h
        exact h)
      subst hii
      clear HT
      go_wp2
      go_ret
      exact ⟨_, rfl, HFN.out⟩

end Go.Proofs.YticccknocjnkpaaDoor
