/-
  The program: a line is ready: walked. No conditions.
-/
import Derived.Test.YtjfhmpjpdcckhaaL18D7
import Derived.Deep.CutBlock
namespace Go.Proofs.Ytjfhmpjpdcckhaa.L18
open Go.RowKit

open L17

variable {q : Pl} {d : DS} {sg : Int}

theorem infoN : (Try.prog.info? 3).map (fun i => (i.zero, i.size, i.bytes)) = some (some (.int .i64 0), 1, 8) := by kernel_rfl

/-- A number behind a window of numbers. -/
theorem nt_app {ops : Array Oper} {rest : List Oper} {o : Oper} {a : Act} {Q : Exit → Act → World → Prop} (hgd : o.guard = none) (sl x : Operand)
    (ho : o.op = .call { callee := .builtin .append, args := #[sl, x], argTypes := #[29, 29] }) {w : World} {n : Nat} {v : Value} {xs : List Value} {z : Nat} {g : Nat} (hwin : Win w 1 v n xs) (hs : a.eval sl = v) (hsrc : w.cell? ⟨g, 0, none⟩ = some (.int .i64 (z : Nat))) (hx : a.eval x = .slice (some ⟨g, 0, none⟩) 1 1) (hn : n + 1 ≤ 1000000)
    (h : ∀ a' n' c' w', n' = n + 1 → Win w' 1 (.slice a' n' c') n' (xs ++ nts [z]) → Stay (fun j => v.ownBlock = some j) w w' → (∀ j, (Value.slice a' n' c').ownBlock = some j → v.ownBlock = some j ∨ w.heap.size ≤ j) → wpList Try.prog ops Q rest (a.put o.dst (.slice a' n' c')) w') : wpList Try.prog ops Q (o :: rest) a w := by
  refine wpList_append_win hgd sl x 29 ho (so := some ⟨g, 0, none⟩) (m := 1) (c := 1) (news := nts [z]) Try.underlying29 infoN rfl (by decide) (by decide) hwin hs rfl (fun ad' e j u hu => ?_) (fun e => by cases e) (nts_one _) hn hx ?_
  · cases e
    cases j with
    | zero => cases hu; rw [addr_add]; exact hsrc
    | succ j => cases hu
  · intro v' w' h1 h2 h3
    obtain ⟨a', c', e, _⟩ := h1.shape
    subst e
    refine h a' _ c' w' rfl h1 h2 (fun j hj => ?_)
    rcases h3 with h3 | h3
    · exact .inl (by rw [← h3]; exact hj)
    · rw [h3] at hj; cases hj; exact .inr (Nat.le_refl _)

theorem ready_lost (d : DS) : d.ps.setAll (d.all.take d.cnt) = (d.setLine []).ps ∧ (d.setLine []).cnt = d.cnt := by
  have e : (d.setLine []).all = d.all.take d.cnt := by
    rw [(all_line d).2.2.2.2]
    show d.raw ++ d.lines.flatten ++ [] = _
    simp
  refine ⟨?_, rfl⟩
  show (⟨d.t, d.all.take d.cnt, d.cnt, d.lines.map List.length, d.stp, d.nxt⟩ : PS) = ⟨d.t, (d.setLine []).all, d.cnt, d.lines.map List.length, d.stp, d.nxt⟩
  rw [e]

theorem ready_line (d : DS) : (d.ps.setRd (d.cnt + d.line.length)).setLns (d.lines.map List.length ++ [d.line.length]) = ((d.setLine []).setLines (d.lines ++ [d.line])).ps := by
  have e : ((d.setLine []).setLines (d.lines ++ [d.line])).all = d.all := by
    show d.raw ++ (d.lines ++ [d.line]).flatten ++ [] = d.raw ++ d.lines.flatten ++ d.line
    simp
  have e2 : ((d.setLine []).setLines (d.lines ++ [d.line])).cnt = d.cnt + d.line.length := by
    show d.raw.length + (d.lines ++ [d.line]).flatten.length = d.raw.length + d.lines.flatten.length + d.line.length
    simp; omega
  show (⟨d.t, d.all, d.cnt + d.line.length, d.lines.map List.length ++ [d.line.length], d.stp, d.nxt⟩ : PS) = ⟨d.t, ((d.setLine []).setLines (d.lines ++ [d.line])).all, ((d.setLine []).setLines (d.lines ++ [d.line])).cnt, (d.lines ++ [d.line]).map List.length, d.stp, d.nxt⟩
  rw [e, e2, List.map_append]
  rfl

theorem le_1024 (a b : Nat) : decide ((1024 : Int) < ((a : Nat) : Int) + ((b : Nat) : Int)) = decide (1024 < a + b) := decide_eq_decide.2 (by omega)

set_option maxRecDepth 100000 in
set_option maxHeartbeats 2000000 in
theorem s_end {N : Nat} (w : World) (h : SD w q d sg) (hO : Ok N d) (hN : N ≤ 100000) (hn : d.ec.length ≤ 900000) : Calls Try.prog 70 #[.pointer (some ⟨q.b, 0, none⟩)] w (TurnD q d.ready sg (.tuple #[]) w) := by
  have HR0 := hide' h
  have HS0 := hide' (Stay.refl q.U w)
  have HLN := hide' (s_lineD w h hO)
  have HLO := hide' (fun w' (hh : SD w' q (d.setLine []) sg) => s_lose w' hh hn)
  have HQ : Hid (d.ready = if d.cnt + d.line.length > 1024 then (d.setLine []).lost else (d.setLine []).setLines (d.lines ++ [d.line])) := rfl
  have HRL : Hid ((d.ps.setRd (d.cnt + d.line.length)).setLns (d.lines.map List.length ++ [d.line.length]) = ((d.setLine []).setLines (d.lines ++ [d.line])).ps) := ready_line d
  have HRX := hide' (ready_lost d)
  have HAL := hide' (all_line d)
  have HN : Hid (d.ps.lns.length + 1 ≤ 1000000) := by
    have := hO.lines
    show (d.lines.map List.length).length + 1 ≤ _
    rw [List.length_map]; omega
  have hb := hO.all_le
  have hb2 := hO.line
  obtain ⟨ln, hln⟩ : ∃ z, z = d.line.length := ⟨_, rfl⟩
  have HL2 := hide' hln
  rw [← hln] at HQ HRL hb2
  obtain ⟨k, hk⟩ : ∃ z, z = d.cnt := ⟨_, rfl⟩
  have HK2 := hide' hk
  rw [← hk] at HQ HRL HRX HAL hb
  have hdec := le_1024 k ln
  have HCT := hide' hb
  clear h hO hn hln hk hN
  go_enter Try.func70, Try.ntmps70
  have s0 := HR0.out.dp
  go_wp2_with fail
  refine HLN.out.mono ?_
  rintro e w1 ⟨la, lc, rfl, _, _, hs⟩
  rw [← HL2.out]
  have HR1 := hide' (HR0.out.keep hs)
  have HS1 := hide' (HS0.out.trans (hs.mono (T := q.U) (fun _ _ h => h.elim)))
  clear hs HR0 HS0 s0 HLN
  obtain ⟨r, e, hop⟩ := HR1.out
  have s0 := HR1.out.dp
  have hrd : r.rd = (k : Nat) := by rw [hop.core.rd, HK2.out]; rfl
  obtain ⟨c0, c1, c2, c3, c4, c5, c6, c7, c8, c9, c10, c11, c12, c13, c14, c15, c16, c17, c18, c19, c20, c21, f0, f1, f2, f3, f4, f5, f6, f7, f8, f9, f10, f11, f12, f13, f14, f15, f16, f17, f18, f19, f20, f21⟩ := hop.core.box
  rw [hrd] at c18
  have e64 : IntKind.i64.wrap ((k : Int) + (ln : Int)) = ((k + ln : Nat) : Int) := by rw [IntKind.wrap_i64]; omega
  by_cases hc : 1024 < k + ln
  · have hd1 : decide ((1024 : Int) < ((k + ln : Nat) : Int)) = true := by simp; omega
    rw [if_pos hc] at HQ
    obtain ⟨ia, icap, hv, hicap, _⟩ := hop.core.ip.shape
    have hv : r.ip = .slice ia d.all.length icap := hv
    rw [hv] at c17
    have HIW := hide' hop.core.ip
    rw [hv] at HIW
    have HAW : Hid (∀ y ∈ d.all, (Lit.int .u8 y).wf = true) := hop.core.wf
    have hal : k ≤ d.all.length := HAL.out.2.2.1
    have hicap : d.all.length ≤ icap := hicap
    obtain ⟨nn, hnn⟩ : ∃ z, z = d.all.length := ⟨_, rfl⟩
    have HWT : Hid (Win w1 1 (.slice ia k icap) (d.all.take k).length (bys (d.all.take k))) := by
      have h1 := HIW.out.take (k := k) hal
      rw [bys_take] at h1
      have e : (d.all.take k).length = k := by rw [List.length_take]; omega
      rw [e]
      exact h1
    rw [← hnn] at c17 hal hicap hv
    have hkc : k ≤ icap := by omega
    have hslh := fun w => slice_h_eq (P := Try.prog) (sa := ia) (m := nn) (cap := icap) (k := k) elemB sizeB hkc w
    have HFN := hide' ((hop.keep ((Stay.refl _ w1).drew)).put_ip (v := .slice ia k icap) (l := d.all.take k) (Stay.refl _ _) (HWT.out.stay ((Stay.refl (fun _ => False) w1).drew) (fun _ _ h => h)) (fun j hj => .inl (by rw [hv]; cases ia <;> exact hj)) (fun y hy => HAW.out y (List.mem_of_mem_take hy)))
    clear hnn hop hv hrd hal hicap HIW HWT HAW
    go_upto_region 2 with fail
    clear e64 hd1 hdec hc
    go_still_tail 21, (by kernel_rfl)
    change wpList _ _ _ _ _ w1.drew
    obtain ⟨wd, hwd⟩ : ∃ z, z = w1.drew := ⟨_, rfl⟩
    have hfr : wd.frozen? ⟨q.p, 17, none⟩ = false := by rw [hwd]; exact f17
    have hce : wd.cell? ⟨q.p, 17, none⟩ = w1.cell? ⟨q.p, 17, none⟩ := by rw [hwd]; rfl
    rw [c17] at hce
    have HSD := hide' ((Stay.refl (fun _ => False) w1).drew)
    rw [← hwd] at HFN HSD ⊢
    clear hwd s0 hslh hkc c0 c1 c2 c3 c4 c5 c6 c7 c8 c9 c10 c11 c12 c13 c14 c15 c16 c17 c18 c19 c20 c21 f0 f1 f2 f3 f4 f5 f6 f7 f8 f9 f10 f11 f12 f13 f14 f15 f16 f17 f18 f19 f20 f21
    go_upto_region 3 with fail
    obtain ⟨w2, hw2⟩ : ∃ z, z = wd.setCell ⟨q.p, 17, none⟩ (.slice ia k icap) := ⟨_, rfl⟩
    rw [← hw2] at HFN ⊢
    clear hw2 hfr hce
    have HR2 : Hid (SD w2 q (d.setLine []) sg) := by
      show SAt w2 q (d.setLine []).ps d.ec sg
      rw [← HRX.out.1]
      exact HFN.out.1
    have HS2 := hide' ((HS1.out.trans (HSD.out.mono (T := q.U) (fun _ _ h => h.elim))).trans HFN.out.2)
    clear HFN HSD HR1 HS1
    go_wp2_with fail
    refine (HLO.out _ HR2.out).mono ?_
    rintro e w3 ⟨rfl, hr, hs⟩
    have HR3 := hide' hr
    have HS3 := hide' (HS2.out.trans hs)
    clear hr hs HR2 HS2
    go_wp2
    go_returns
    refine ⟨rfl, ?_, HS3.out⟩
    rw [HQ.out]
    exact HR3.out
  · have hd1 : decide ((1024 : Int) < ((k + ln : Nat) : Int)) = false := by simp; omega
    rw [if_neg hc] at HQ
    have HFN := hide' (hop.put_rd (z := (k : Int) + (ln : Int)) (k + ln) (by omega))
    clear hop hrd
    go_upto_region 5 with fail
    obtain ⟨w4, hw4⟩ : ∃ z, z = w1.setCell ⟨q.p, 18, none⟩ (.int .i64 ((k : Int) + (ln : Int))) := ⟨_, rfl⟩
    rw [← hw4] at HFN ⊢
    clear hw4 s0 c0 c1 c2 c3 c4 c5 c6 c7 c8 c9 c10 c11 c12 c13 c14 c15 c16 c17 c18 c19 c20 c21 f0 f1 f2 f3 f4 f5 f6 f7 f8 f9 f10 f11 f12 f13 f14 f15 f16 f17 f18 f19 f20 f21 e64 hd1 hdec hc
    have HS4 := hide' (HS1.out.trans HFN.out.2)
    obtain ⟨r, e, hop⟩ := HFN.out.1
    clear HFN HR1 HS1
    obtain ⟨la2, lcap, hv, _⟩ := hop.core.li.shape
    have HV : Hid (r.li = .slice la2 (d.ps.setRd (k + ln)).lns.length lcap) := hv
    have hdp := hop.box.c0
    rw [hop.dp] at hdp
    clear hv
    refine any_begin (fun w' => w'.cell? ⟨q.b, 0, none⟩ = some (.pointer (some ⟨q.p, 0, none⟩))) (by kernel_rfl) (fun K0 hK0 => ?_)
    have HO := hide' (hop.keep ((Stay.refl _ _).drew (w' := w4)))
    have HST := hide' ((Stay.refl (fun _ => False) w4).drew)
    have HSB : Hid (w4.drew.cell? ⟨q.b, 0, none⟩ = some (.pointer (some ⟨q.p, 0, none⟩))) := hdp
    clear hop hdp
    obtain ⟨wd, hwd⟩ : ∃ z, z = w4.drew := ⟨_, rfl⟩
    rw [← hwd] at HO HST HSB ⊢
    clear hwd
    obtain ⟨ll, hll⟩ : ∃ z, z = (d.ps.setRd (k + ln)).lns.length := ⟨_, rfl⟩
    have HLL := hide' hll
    rw [← hll] at HV
    have HN2 : Hid (ll + 1 ≤ 1000000) := by rw [hll]; exact HN.out
    clear HN hll
    have HN := HN2
    clear HN2
    refine any_take (i := 0) hK0 (some 53) (.move (.tmp 0)) 79 _ (by kernel_rfl) (fun _ d _ _ _ h => by cases d <;> exact h) (by kernel_rfl) (by kernel_rfl) (fun w' hS' => by simp only [opr]; go_simp; try with_reducible rfl) HSB.out (fun K1 hK1 => ?_)
    clear hK0 K0
    try simp only [Act.put, List.setIfInBounds_toArray, List.set_cons_zero, List.set_cons_succ]
    refine any_take (i := 1) hK1 (some 54) (.nilCheck (.tmp 53)) 0 _ (by kernel_rfl) (fun _ d _ _ _ h => by cases d <;> exact h) (by kernel_rfl) (by kernel_rfl) (fun w' hS' => by simp only [opr]; go_simp; try with_reducible rfl) HSB.out (fun K2 hK2 => ?_)
    clear hK1 K1
    try simp only [Act.put, List.setIfInBounds_toArray, List.set_cons_zero, List.set_cons_succ]
    refine any_take (i := 2) hK2 (some 55) (.fieldAddr 74 (.tmp 54) 0) 0 _ (by kernel_rfl) (fun _ d _ _ _ h => by cases d <;> exact h) (by kernel_rfl) (by kernel_rfl) (fun w' hS' => by simp only [opr]; go_simp; try with_reducible rfl) HSB.out (fun K3 hK3 => ?_)
    clear hK2 K2
    try simp only [Act.put, List.setIfInBounds_toArray, List.set_cons_zero, List.set_cons_succ]
    refine any_take (i := 3) hK3 (some 56) (.load 47 (.tmp 55)) 47 _ (by kernel_rfl) (fun _ d _ _ _ h => by cases d <;> exact h) (by kernel_rfl) (by kernel_rfl) (fun w' hS' => by have s0 := hS'; simp only [opr]; go_simp; try with_reducible rfl) HSB.out (fun K4 hK4 => ?_)
    clear hK3 K3
    try simp only [Act.put, List.setIfInBounds_toArray, List.set_cons_zero, List.set_cons_succ]
    refine any_take (i := 4) hK4 (some 57) (.move (.tmp 0)) 79 _ (by kernel_rfl) (fun _ d _ _ _ h => by cases d <;> exact h) (by kernel_rfl) (by kernel_rfl) (fun w' hS' => by simp only [opr]; go_simp; try with_reducible rfl) HSB.out (fun K5 hK5 => ?_)
    clear hK4 K4
    try simp only [Act.put, List.setIfInBounds_toArray, List.set_cons_zero, List.set_cons_succ]
    refine any_take (i := 5) hK5 (some 58) (.nilCheck (.tmp 57)) 0 _ (by kernel_rfl) (fun _ d _ _ _ h => by cases d <;> exact h) (by kernel_rfl) (by kernel_rfl) (fun w' hS' => by simp only [opr]; go_simp; try with_reducible rfl) HSB.out (fun K6 hK6 => ?_)
    clear hK5 K5
    try simp only [Act.put, List.setIfInBounds_toArray, List.set_cons_zero, List.set_cons_succ]
    refine any_take (i := 6) hK6 (some 59) (.fieldAddr 74 (.tmp 58) 0) 0 _ (by kernel_rfl) (fun _ d _ _ _ h => by cases d <;> exact h) (by kernel_rfl) (by kernel_rfl) (fun w' hS' => by simp only [opr]; go_simp; try with_reducible rfl) HSB.out (fun K7 hK7 => ?_)
    clear hK6 K6
    try simp only [Act.put, List.setIfInBounds_toArray, List.set_cons_zero, List.set_cons_succ]
    refine any_take (i := 7) hK7 (some 60) (.load 47 (.tmp 59)) 47 _ (by kernel_rfl) (fun _ d _ _ _ h => by cases d <;> exact h) (by kernel_rfl) (by kernel_rfl) (fun w' hS' => by have s0 := hS'; simp only [opr]; go_simp; try with_reducible rfl) HSB.out (fun K8 hK8 => ?_)
    clear hK7 K7
    try simp only [Act.put, List.setIfInBounds_toArray, List.set_cons_zero, List.set_cons_succ]
    refine any_take (i := 8) hK8 (some 61) (.nilCheck (.tmp 60)) 0 _ (by kernel_rfl) (fun _ d _ _ _ h => by cases d <;> exact h) (by kernel_rfl) (by kernel_rfl) (fun w' hS' => by simp only [opr]; go_simp; try with_reducible rfl) HSB.out (fun K9 hK9 => ?_)
    clear hK8 K8
    try simp only [Act.put, List.setIfInBounds_toArray, List.set_cons_zero, List.set_cons_succ]
    refine any_take (i := 9) hK9 (some 62) (.fieldAddr 69 (.tmp 61) 3) 0 _ (by kernel_rfl) (fun _ d _ _ _ h => by cases d <;> exact h) (by kernel_rfl) (by kernel_rfl) (fun w' hS' => by simp only [opr]; go_simp; try with_reducible rfl) HSB.out (fun K10 hK10 => ?_)
    clear hK9 K9
    try simp only [Act.put, List.setIfInBounds_toArray, List.set_cons_zero, List.set_cons_succ]
    refine any_take (i := 11) hK10 (some 64) (.move (.tmp 2)) 3 _ (by kernel_rfl) (fun _ d _ _ _ h => by cases d <;> exact h) (by kernel_rfl) (by kernel_rfl) (fun w' hS' => by simp only [opr]; go_simp; try with_reducible rfl) HSB.out (fun K11 hK11 => ?_)
    clear hK10 K10
    try simp only [Act.put, List.setIfInBounds_toArray, List.set_cons_zero, List.set_cons_succ]
    refine any_pick (rs := [10, 12]) hK11 (by kernel_rfl) (fun K12 hK12 => ?_)
    clear hK11 K11
    intro i hi
    simp only [List.mem_cons, List.not_mem_nil, or_false] at hi
    rcases hi with rfl | rfl
    · refine op_plain (some 63) (.load 29 (.tmp 62)) 29 (by kernel_rfl) (by kernel_rfl) ?_
      have c19 := HO.out.core.box.c19
      rw [HV.out] at c19
      go_wp2
      clear c19
      refine hK12 10 (by simp) _ _ HSB.out (any_more fun K13 hK13 => ?_)
      clear hK12 K12
      refine any_pick (rs := [12]) hK13 (by kernel_rfl) (fun K14 hK14 => ?_)
      clear hK13 K13
      intro i hi
      simp only [List.mem_cons, List.not_mem_nil, or_false] at hi
      rcases hi with rfl
      refine op_plain (some 65) (.buildSlice 29 1 #[(0, .tmp 64)]) 29 (by kernel_rfl) (by kernel_rfl) ?_
      go_wp2
      obtain ⟨wk1, hW⟩ : ∃ z, z = wd.alloc (.cells #[.int .i64 (ln : Nat)] 3) := ⟨_, rfl⟩
      have hst : Stay (fun _ => False) wd wk1 := by rw [hW]; exact (Stay.refl _ _).alloc _
      have HO' := hide' (HO.out.keep hst)
      have HST' := hide' (HST.out.trans hst)
      have HAR : Hid (wk1.cell? ⟨wd.heap.size, 0, none⟩ = some (.int .i64 (ln : Nat))) := by rw [hW]; exact hide' (by simp)
      have HSB' := hide' (SAt.dp_keep HSB.out hst (fun h => h))
      rw [← hW]
      clear hW hst
      clear HO
      have HO := HO'
      clear HO'
      clear HST
      have HST := HST'
      clear HST'
      clear HSB
      have HSB := HSB'
      clear HSB'
      refine hK14 12 (by simp) _ _ HSB.out (any_more fun K15 hK15 => ?_)
      clear hK14 K14
      refine any_pick (rs := [13]) hK15 (by kernel_rfl) (fun K16 hK16 => ?_)
      clear hK15 K15
      intro i hi
      simp only [List.mem_cons, List.not_mem_nil, or_false] at hi
      rcases hi with rfl
      refine op_plain (some 66) (.call { callee := Callee.builtin Builtin.append, args := #[.tmp 63, .tmp 65], argTypes := #[29, 29] }) 29 (by kernel_rfl) (by kernel_rfl) ?_
      have HIP := hide' HO.out.core.li
      rw [HV.out, ← HLL.out] at HIP
      go_wp2_with (at_builtin; go_must (refine nt_app rfl _ _ rfl HIP.out rfl HAR.out rfl HN.out ?_; intro va vn vc wk2 hvn hwn hst hbn; have HVN := hide' hvn; have HWN := hide' hwn; have HBN := hide' hbn; have HSN := hide' hst; clear hvn hwn hst hbn))
      have HSB' := hide' (SAt.dp_keep HSB.out HSN.out (fun e => (HO.out.m2 q.b (.inr (.inr (by rw [HV.out]; exact e)))).2.1 rfl))
      clear HSB
      have HSB := HSB'
      clear HSB'
      refine hK16 13 (by simp) _ _ HSB.out (any_more fun K17 hK17 => ?_)
      clear hK16 K16
      refine any_take (i := 14) hK17 (some 67) (.nilCheck (.tmp 56)) 0 _ (by kernel_rfl) (fun _ d _ _ _ h => by cases d <;> exact h) (by kernel_rfl) (by kernel_rfl) (fun w' hS' => by simp only [opr]; go_simp; try with_reducible rfl) HSB.out (fun K18 hK18 => ?_)
      clear hK17 K17
      try simp only [Act.put, List.setIfInBounds_toArray, List.set_cons_zero, List.set_cons_succ]
      refine any_take (i := 15) hK18 (some 68) (.fieldAddr 69 (.tmp 67) 3) 0 _ (by kernel_rfl) (fun _ d _ _ _ h => by cases d <;> exact h) (by kernel_rfl) (by kernel_rfl) (fun w' hS' => by simp only [opr]; go_simp; try with_reducible rfl) HSB.out (fun K19 hK19 => ?_)
      clear hK18 K18
      try simp only [Act.put, List.setIfInBounds_toArray, List.set_cons_zero, List.set_cons_succ]
      refine any_pick (rs := [16]) hK19 (by kernel_rfl) (fun K20 hK20 => ?_)
      clear hK19 K19
      intro i hi
      simp only [List.mem_cons, List.not_mem_nil, or_false] at hi
      rcases hi with rfl
      refine op_plain none (.store 29 (.tmp 68) (.tmp 66)) 0 (by kernel_rfl) (by kernel_rfl) ?_
      have hBX := HO.out.core.box.stay HSN.out (fun e => HO.out.core.n2 _ (by rw [HV.out]; exact e) rfl)
      obtain ⟨c0, c1, c2, c3, c4, c5, c6, c7, c8, c9, c10, c11, c12, c13, c14, c15, c16, c17, c18, c19, c20, c21, f0, f1, f2, f3, f4, f5, f6, f7, f8, f9, f10, f11, f12, f13, f14, f15, f16, f17, f18, f19, f20, f21⟩ := hBX
      go_wp2
      clear c0 c1 c2 c3 c4 c5 c6 c7 c8 c9 c10 c11 c12 c13 c14 c15 c16 c17 c18 c19 c20 c21 f0 f1 f2 f3 f4 f5 f6 f7 f8 f9 f10 f11 f12 f13 f14 f15 f16 f17 f18 f19 f20 f21
      have HFIN := hide' (HO.out.put_li (v := .slice va vn vc) (l := d.lines.map List.length ++ [ln]) (by rw [HV.out]; exact HSN.out) (by have e : (d.lines.map List.length ++ [ln]).length = vn := (by rw [HVN.out, List.length_append, HLL.out]; rfl); rw [e, nts_app]; exact HWN.out) (fun j hj => by rw [HV.out]; exact HBN.out j hj))
      obtain ⟨wk3, hW⟩ : ∃ z, z = wk2.setCell ⟨q.p, 19, none⟩ (.slice va vn vc) := ⟨_, rfl⟩
      rw [← hW] at HFIN ⊢
      have HSB' := hide' (SAt.dp_keep (w1 := wk3) (S := fun j => j = q.p) HSB.out (by rw [hW]; exact at_p wk2 q.p 19 _) (fun e => (HO.out.m2 q.p (.inl rfl)).2.1 e.symm))
      clear hW
      clear HSB
      have HSB := HSB'
      clear HSB'
      refine hK20 16 (by simp) _ _ HSB.out (any_more fun K21 hK21 => ?_)
      clear hK20 K20
      refine any_done hK21 (by kernel_rfl) ?_
      clear hK21 K21
      go_wp2
      go_returns
      refine ⟨rfl, ?_, (HS4.out.trans (HST.out.mono (T := q.U) (fun _ _ h => h.elim))).trans HFIN.out.2⟩
      have h1 := HFIN.out.1
      rw [HRL.out] at h1
      rw [HQ.out]
      exact h1
    · refine op_plain (some 65) (.buildSlice 29 1 #[(0, .tmp 64)]) 29 (by kernel_rfl) (by kernel_rfl) ?_
      go_wp2
      obtain ⟨wk4, hW⟩ : ∃ z, z = wd.alloc (.cells #[.int .i64 (ln : Nat)] 3) := ⟨_, rfl⟩
      have hst : Stay (fun _ => False) wd wk4 := by rw [hW]; exact (Stay.refl _ _).alloc _
      have HO' := hide' (HO.out.keep hst)
      have HST' := hide' (HST.out.trans hst)
      have HAR : Hid (wk4.cell? ⟨wd.heap.size, 0, none⟩ = some (.int .i64 (ln : Nat))) := by rw [hW]; exact hide' (by simp)
      have HSB' := hide' (SAt.dp_keep HSB.out hst (fun h => h))
      rw [← hW]
      clear hW hst
      clear HO
      have HO := HO'
      clear HO'
      clear HST
      have HST := HST'
      clear HST'
      clear HSB
      have HSB := HSB'
      clear HSB'
      refine hK12 12 (by simp) _ _ HSB.out (any_more fun K13 hK13 => ?_)
      clear hK12 K12
      refine any_pick (rs := [10]) hK13 (by kernel_rfl) (fun K14 hK14 => ?_)
      clear hK13 K13
      intro i hi
      simp only [List.mem_cons, List.not_mem_nil, or_false] at hi
      rcases hi with rfl
      refine op_plain (some 63) (.load 29 (.tmp 62)) 29 (by kernel_rfl) (by kernel_rfl) ?_
      have c19 := HO.out.core.box.c19
      rw [HV.out] at c19
      go_wp2
      clear c19
      refine hK14 10 (by simp) _ _ HSB.out (any_more fun K15 hK15 => ?_)
      clear hK14 K14
      refine any_pick (rs := [13]) hK15 (by kernel_rfl) (fun K16 hK16 => ?_)
      clear hK15 K15
      intro i hi
      simp only [List.mem_cons, List.not_mem_nil, or_false] at hi
      rcases hi with rfl
      refine op_plain (some 66) (.call { callee := Callee.builtin Builtin.append, args := #[.tmp 63, .tmp 65], argTypes := #[29, 29] }) 29 (by kernel_rfl) (by kernel_rfl) ?_
      have HIP := hide' HO.out.core.li
      rw [HV.out, ← HLL.out] at HIP
      go_wp2_with (at_builtin; go_must (refine nt_app rfl _ _ rfl HIP.out rfl HAR.out rfl HN.out ?_; intro va vn vc wk5 hvn hwn hst hbn; have HVN := hide' hvn; have HWN := hide' hwn; have HBN := hide' hbn; have HSN := hide' hst; clear hvn hwn hst hbn))
      have HSB' := hide' (SAt.dp_keep HSB.out HSN.out (fun e => (HO.out.m2 q.b (.inr (.inr (by rw [HV.out]; exact e)))).2.1 rfl))
      clear HSB
      have HSB := HSB'
      clear HSB'
      refine hK16 13 (by simp) _ _ HSB.out (any_more fun K17 hK17 => ?_)
      clear hK16 K16
      refine any_take (i := 14) hK17 (some 67) (.nilCheck (.tmp 56)) 0 _ (by kernel_rfl) (fun _ d _ _ _ h => by cases d <;> exact h) (by kernel_rfl) (by kernel_rfl) (fun w' hS' => by simp only [opr]; go_simp; try with_reducible rfl) HSB.out (fun K18 hK18 => ?_)
      clear hK17 K17
      try simp only [Act.put, List.setIfInBounds_toArray, List.set_cons_zero, List.set_cons_succ]
      refine any_take (i := 15) hK18 (some 68) (.fieldAddr 69 (.tmp 67) 3) 0 _ (by kernel_rfl) (fun _ d _ _ _ h => by cases d <;> exact h) (by kernel_rfl) (by kernel_rfl) (fun w' hS' => by simp only [opr]; go_simp; try with_reducible rfl) HSB.out (fun K19 hK19 => ?_)
      clear hK18 K18
      try simp only [Act.put, List.setIfInBounds_toArray, List.set_cons_zero, List.set_cons_succ]
      refine any_pick (rs := [16]) hK19 (by kernel_rfl) (fun K20 hK20 => ?_)
      clear hK19 K19
      intro i hi
      simp only [List.mem_cons, List.not_mem_nil, or_false] at hi
      rcases hi with rfl
      refine op_plain none (.store 29 (.tmp 68) (.tmp 66)) 0 (by kernel_rfl) (by kernel_rfl) ?_
      have hBX := HO.out.core.box.stay HSN.out (fun e => HO.out.core.n2 _ (by rw [HV.out]; exact e) rfl)
      obtain ⟨c0, c1, c2, c3, c4, c5, c6, c7, c8, c9, c10, c11, c12, c13, c14, c15, c16, c17, c18, c19, c20, c21, f0, f1, f2, f3, f4, f5, f6, f7, f8, f9, f10, f11, f12, f13, f14, f15, f16, f17, f18, f19, f20, f21⟩ := hBX
      go_wp2
      clear c0 c1 c2 c3 c4 c5 c6 c7 c8 c9 c10 c11 c12 c13 c14 c15 c16 c17 c18 c19 c20 c21 f0 f1 f2 f3 f4 f5 f6 f7 f8 f9 f10 f11 f12 f13 f14 f15 f16 f17 f18 f19 f20 f21
      have HFIN := hide' (HO.out.put_li (v := .slice va vn vc) (l := d.lines.map List.length ++ [ln]) (by rw [HV.out]; exact HSN.out) (by have e : (d.lines.map List.length ++ [ln]).length = vn := (by rw [HVN.out, List.length_append, HLL.out]; rfl); rw [e, nts_app]; exact HWN.out) (fun j hj => by rw [HV.out]; exact HBN.out j hj))
      obtain ⟨wk6, hW⟩ : ∃ z, z = wk5.setCell ⟨q.p, 19, none⟩ (.slice va vn vc) := ⟨_, rfl⟩
      rw [← hW] at HFIN ⊢
      have HSB' := hide' (SAt.dp_keep (w1 := wk6) (S := fun j => j = q.p) HSB.out (by rw [hW]; exact at_p wk5 q.p 19 _) (fun e => (HO.out.m2 q.p (.inl rfl)).2.1 e.symm))
      clear hW
      clear HSB
      have HSB := HSB'
      clear HSB'
      refine hK20 16 (by simp) _ _ HSB.out (any_more fun K21 hK21 => ?_)
      clear hK20 K20
      refine any_done hK21 (by kernel_rfl) ?_
      clear hK21 K21
      go_wp2
      go_returns
      refine ⟨rfl, ?_, (HS4.out.trans (HST.out.mono (T := q.U) (fun _ _ h => h.elim))).trans HFIN.out.2⟩
      have h1 := HFIN.out.1
      rw [HRL.out] at h1
      rw [HQ.out]
      exact h1

end Go.Proofs.Ytjfhmpjpdcckhaa.L18
