/-
  The program makes a text into cells: walked. No conditions.
-/
import Derived.Test.YticccknocjnkpaaDoorK3
namespace Go.Proofs.YticccknocjnkpaaDoor
open Go.RowKit

theorem newcell2 (w : World) (c d : Cl) : ∀ ad, some (⟨w.heap.size, 0, none⟩ : Addr) = some ad → ∀ j u, (c.parts ++ d.parts)[j]? = some u → (w.alloc (.cells #[.int .i32 c.r, .int .i64 c.fg, .int .i64 c.bg, .int .i64 c.fl, .int .i32 d.r, .int .i64 d.fg, .int .i64 d.bg, .int .i64 d.fl] 40)).cell? (ad.add j) = some u := by
  intro ad e j u hu
  cases e
  rw [addr_add]
  match j, hu with
  | 0, hu => cases hu; simp
  | 1, hu => cases hu; simp
  | 2, hu => cases hu; simp
  | 3, hu => cases hu; simp
  | 4, hu => cases hu; simp
  | 5, hu => cases hu; simp
  | 6, hu => cases hu; simp
  | 7, hu => cases hu; simp
  | k + 8, hu => exact absurd hu (by simp [Cl.parts])

theorem parts_two (c d : Cl) : ∀ u ∈ c.parts ++ d.parts, u.oneCell' = true := fun u hu => by
  rcases List.mem_append.1 hu with h | h
  · exact Cl.parts_one _ u h
  · exact Cl.parts_one _ u h

section
variable {wS wk wk2 : World} {v v1 : Value} {L : List Cl}

theorem TxI.app2 (H : TxI wS wk v L) (c d : Cl) (hw : Win wk2 4 v1 (L.length + 2) (pixs L ++ (c.parts ++ d.parts))) (hsa : Stay (fun j => v.ownBlock = some j) wk wk2) (hba : v1.ownBlock = v.ownBlock ∨ v1.ownBlock = some wk.heap.size) : TxI wS wk2 v1 (L ++ ([c] ++ [d])) := by
  have e : pixs (L ++ ([c] ++ [d])) = pixs L ++ (c.parts ++ d.parts) := by rw [← List.append_assoc, pixs_snoc, pixs_snoc, List.append_assoc]
  refine ⟨by rw [e, List.length_append]; exact hw, fun e => absurd e (by simp), H.st.trans2 hsa (fun j hj e => by have := H.nw j e; omega), fun j hj => ?_⟩
  rcases hba with h | h
  · exact H.nw j (by rw [← h]; exact hj)
  · rw [hj] at h
    cases h
    exact H.st.size

end

set_option maxRecDepth 100000 in
set_option maxHeartbeats 4000000 in
theorem text6 (s : ByteArray) (q : Pe) (w : World) (h : s.size ≤ 200) (hTW : Wide.Tbl w) (hTU : Utf.Tbl w) : Calls Tryd.prog 6 #[.string s, .agg #[.int .i64 q.fg, .int .i64 q.bg, .int .i64 q.fl]] w (TextO q (Utf.runes (bytesN s)) w) := by
  obtain ⟨W0, hW0⟩ : ∃ W, W = w.alloc (.cells #[.int .i64 q.fg, .int .i64 q.bg, .int .i64 q.fl] 23) := ⟨_, rfl⟩
  obtain ⟨bp, hbp⟩ : ∃ b, b = w.heap.size := ⟨_, rfl⟩
  have hst0 : Stay (fun _ => False) w W0 := by rw [hW0]; exact (Stay.refl _ _).alloc _
  have HP0 := hide' (show PeBox W0 bp q by rw [hW0]; exact PeBox.new q hbp.symm)
  have HST0 := hide' hst0
  obtain ⟨l, hl⟩ : ∃ l, l = Utf.runes (bytesN s) := ⟨_, rfl⟩
  have HLL : Hid (l.length ≤ 401) := hide' (by rw [hl]; have h1 := runes_len (bytesN s); rw [bytesN_len] at h1; omega)
  have HSZ := hide' h
  have HLT : Hid (∀ z ∈ l, z < 2097152) := hide' (by rw [hl]; exact runes_lt _ (bytesN s) (Nat.le_refl _) (fun x hx => by unfold bytesN at hx; obtain ⟨b, _, rfl⟩ := List.mem_map.1 hx; exact b.toNat_lt))
  have hconv := fun (w : World) (s : ByteArray) => run_bytes_of_string (P := Tryd.prog) w 9 44 5 s Tryd.underlying9 Tryd.underlying44 Tryd.underlying5
  obtain ⟨cp, hcp⟩ : ∃ c, c = grownCap W0 s.size 0 5 := ⟨_, rfl⟩
  have HCP : Hid (s.size ≤ cp ∧ cp ≤ maxLen) := hide' (by rw [hcp]; exact ⟨grownCap_ge _ _ _ _, grownCap_le_maxLen _ _ _ _ (by unfold maxLen; omega)⟩)
  obtain ⟨W1, hW1⟩ : ∃ W, W = (W0.alloc (.cells (bytesRow s cp) 5 ((bytesRow s cp).size, (bytesRow s cp).size + 1))).drew := ⟨_, rfl⟩
  obtain ⟨sb, hsb⟩ : ∃ b, b = W0.heap.size := ⟨_, rfl⟩
  have hst1 : Stay (fun _ => False) W0 W1 := by rw [hW1]; exact ((Stay.refl _ _).alloc _).drew
  have HB := hide' (show Utf.Bytes W1 sb 0 (bytesN s) by
    rw [hW1, hsb]
    have h1 := bytes_made W0 s cp ((bytesRow s cp).size, (bytesRow s cp).size + 1)
    exact ⟨fun j hj => keep_cell ((Stay.refl _ _).drew) (h1.1 j hj), h1.2⟩)
  have HRA := hide' (Utf.all_any (bytesN s) sb 0 cp W1 (utf_stay hTU (hst0.trans hst1)) (World.block_lt_of_cell? _ _ (utf_stay hTU (hst0.trans hst1) 0 (by decide))) (by rw [bytesN_len]; omega) HB.out)
  rw [bytesN_len, ← hl] at HRA
  rw [← hl]
  have HST1 := hide' (hst0.trans hst1)
  have HP1 := hide' (HP0.out.keep hst1)
  have HTW := hide' (hTW.stay (hst0.trans hst1))
  clear hst0 hst1 hl h hTW hTU
  go_enter Tryd.func6, Tryd.ntmps6
  go_upto_region 2 with fail
  rw [← hW0, ← hbp]
  clear hW0 hbp
  go_wp2_with (simp only [hconv])
  rw [← hcp]
  rw [← hW1, ← hsb]
  clear hconv hcp hW1 hsb HB HP0 HST0
  refine HRA.out.mono ?_
  rintro _ wS ⟨t, rfl, hown, hs2⟩
  have HPS := hide' (HP1.out.keep hs2)
  have HRN := hide' (runes_row hown)
  obtain ⟨ta, tc, htv, hrn⟩ := HRN.out
  subst htv
  have HRR := hide' hrn
  obtain ⟨n, hn⟩ : ∃ n, n = l.length := ⟨_, rfl⟩
  have HN := hide' hn
  have hn4 : (n : Int) ≤ 401 := by have := HLL.out; omega
  have HBN : Hid (∀ i, i < n → l.getD i 0 < 2097152) := hide' (fun i hi => HLT.out _ (runeD_mem (by omega)))
  rw [← hn]
  rw [← hn] at HRR
  have HSS := hide' (HST1.out.trans hs2)
  have HTB : Hid (TxI wS wS (.slice none 0 0) (txts q (l.take 0))) := hide' (TxI.begin wS)
  have HTS := hide' (HTW.out.stay hs2)
  clear hown hs2 HRA hn hrn HRN HST1 HP1 HTW
  go_wp2
  go_loopg [5, 12] n (fun gg v5 v13 wr => ∃ i : Nat, i ≤ n ∧ gg = n - i ∧ v13 = .int .i64 (i : Int) ∧ Hid (TxI wS wr v5 (txts q (l.take i))))
  case atStart => exact ⟨0, Nat.zero_le _, rfl, rfl, HTB⟩
  case round =>
    clear HTB
    obtain ⟨i, hin, rfl, rfl, HT⟩ := hrel
    by_cases hlt : i < n
    · have hz1 : (i : Int) < (n : Nat) := by omega
      obtain ⟨tb, e, hz⟩ := HRR.out i hlt
      subst e
      obtain ⟨z, hzz⟩ : ∃ z, z = l.getD i 0 := ⟨_, rfl⟩
      have hzb := HBN.out i hlt
      rw [← hzz] at hz hzb
      have HZ := hide' hzz
      have hzi : (0 : Int) ≤ (z : Nat) ∧ (z : Int) < 2097152 := by omega
      have hzw := keep_cell HT.out.st hz
      have HPW := hide' (HPS.out.keep HT.out.st)
      have HRW := hide' (Wide.width14 (z : Int) wr (HTS.out.stay HT.out.st))
      obtain ⟨wd, hwd⟩ : ∃ d, d = Wide.wid (z : Int) := ⟨_, rfl⟩
      have hwb : -1 ≤ wd ∧ wd ≤ 2 := by rw [hwd]; exact Wide.wid_ge _
      rw [← hwd] at HRW
      have HTX : Hid (txt q z = (if 0 < wd then [⟨z, q.fg, q.bg, q.fl⟩] else []) ++ (if 1 < wd then [⟨-1, q.fg, q.bg, q.fl⟩] else [])) := hide' (by unfold txt; rw [hwd])
      have HLB : Hid ((txts q (l.take i)).length ≤ 802) := hide' (by have h1 := txts_len q (l.take i); have h2 := HLL.out; rw [List.length_take] at h1; omega)
      have HTN : Hid (txts q (l.take (i + 1)) = txts q (l.take i) ++ txt q z) := hide' (by rw [HZ.out]; exact txts_snoc q l i (by have := HN.out; omega))
      clear hz hzz hwd hzb
      go_wp2_with fail
      refine HRW.out.mono ?_
      rintro _ wr2 ⟨rfl, hs⟩
      have HT0 := hide' (HT.out.keep hs)
      have HPW2 := hide' (HPW.out.keep hs)
      clear hs hzw HPW HT
      obtain ⟨L, hL⟩ : ∃ L, L = txts q (l.take i) := ⟨_, rfl⟩
      rw [← hL] at HT0 HTN HLB
      have HNM : Hid (L.length + 2 ≤ 1000000) := hide' (by have := HLB.out; omega)
      clear hL HRW
      rcases (by omega : wd = 1 ∨ wd = 2 ∨ (¬ wd = 1 ∧ ¬ wd = 2)) with h1 | h1 | h1
      · subst h1
        have HT1 := hide' (HT0.out.keep ((Stay.refl (fun _ => False) wr2).alloc (.cells #[.int .i32 (z : Nat), .int .i64 q.fg, .int .i64 q.bg, .int .i64 q.fl] 40)))
        have HSR1 := hide' (newcell wr2 ⟨z, q.fg, q.bg, q.fl⟩)
        simp only at HSR1
        obtain ⟨p0, p1, p2, _⟩ := HPW2.out
        clear HT0
        go_wp2_with (at_builtin; refine wpList_append_win rfl _ _ 26 rfl Tryd.underlying26 info40 rfl (by decide) (by decide) HT1.out.win rfl (m := 1) (news := (⟨z, q.fg, q.bg, q.fl⟩ : Cl).parts) rfl HSR1.out (fun e => by cases e) (Cl.parts_one _) (Nat.le_of_succ_le HNM.out) rfl ?_; intro v1 wk2 hwa hsa hba; have HT2 := hide' (HT1.out.app ⟨z, q.fg, q.bg, q.fl⟩ hwa hsa hba); clear hwa hsa hba HT1 HSR1)
        have HR : Hid (TxI wS wk2 v1 (txts q (l.take (i + 1)))) := hide' (by
          rw [HTN.out, HTX.out, if_pos (by omega), if_neg (by omega), List.append_nil]
          exact HT2.out)
        clear HT2
        go_roundg (n - (i + 1))
        case measure => omega
        case rel => exact ⟨i + 1, by omega, rfl, by go_num, HR⟩
      · subst h1
        have HT1 := hide' (HT0.out.keep ((Stay.refl (fun _ => False) wr2).alloc (.cells #[.int .i32 (z : Nat), .int .i64 q.fg, .int .i64 q.bg, .int .i64 q.fl, .int .i32 (-1), .int .i64 q.fg, .int .i64 q.bg, .int .i64 q.fl] 40)))
        have HSR1 := hide' (newcell2 wr2 ⟨z, q.fg, q.bg, q.fl⟩ ⟨-1, q.fg, q.bg, q.fl⟩)
        simp only at HSR1
        obtain ⟨p0, p1, p2, _⟩ := HPW2.out
        clear HT0
        go_wp2_with (at_builtin; refine wpList_append_win rfl _ _ 26 rfl Tryd.underlying26 info40 rfl (by decide) (by decide) HT1.out.win rfl (m := 2) (news := (⟨z, q.fg, q.bg, q.fl⟩ : Cl).parts ++ (⟨-1, q.fg, q.bg, q.fl⟩ : Cl).parts) rfl HSR1.out (fun e => by cases e) (parts_two _ _) HNM.out rfl ?_; intro v1 wk2 hwa hsa hba; have HT2 := hide' (HT1.out.app2 ⟨z, q.fg, q.bg, q.fl⟩ ⟨-1, q.fg, q.bg, q.fl⟩ hwa hsa hba); clear hwa hsa hba HT1 HSR1)
        have HR : Hid (TxI wS wk2 v1 (txts q (l.take (i + 1)))) := hide' (by
          rw [HTN.out, HTX.out, if_pos (by omega), if_pos (by omega)]
          exact HT2.out)
        clear HT2
        go_roundg (n - (i + 1))
        case measure => omega
        case rel => exact ⟨i + 1, by omega, rfl, by go_num, HR⟩
      · obtain ⟨n1, n2⟩ := h1
        have e1 : (wd == 1) = false := by simpa using n1
        have e2 : (wd == 2) = false := by simpa using n2
        have HR : Hid (TxI wS wr2 u5 (txts q (l.take (i + 1)))) := hide' (by
          rw [HTN.out, HTX.out, if_neg (by omega), if_neg (by omega)]
          show TxI wS wr2 u5 (L ++ [])
          rw [List.append_nil]
          exact HT0.out)
        clear HT0
        go_wp2
        go_roundg (n - (i + 1))
        case measure => omega
        case rel => exact ⟨i + 1, by omega, rfl, by go_num, HR⟩
    · have hii : i = n := by omega
      have HFN : Hid (TxI w wr u5 (txts q l)) := hide' (by
        have h := HT.out.from_ HSS.out
        rw [hii, HN.out, List.take_length] at h
        exact h)
      subst hii
      clear HT
      go_wp2
      go_ret
      exact ⟨_, rfl, HFN.out⟩

end Go.Proofs.YticccknocjnkpaaDoor
