/-
  The program puts a byte: walked. No conditions.
-/
import Derived.Test.YtjfhmpjpdcckhaaL18D5
import Derived.Deep.CutBlock
namespace Go.Proofs.Ytjfhmpjpdcckhaa.L18
open Go.RowKit

open L17

variable {q : Pl} {d : DS} {sg : Int}

theorem lay_canon (d : DS) (c : Int) (h : d.loc 1 = true) : d.ps.setAll (d.all ++ [c]) = (d.lay c).ps ∧ (d.lay c).ec = d.ec ∧ (d.lay c).t = d.t := by
  unfold DS.lay
  rw [if_pos h]
  refine ⟨?_, rfl, rfl⟩
  have e : (d.setLine (d.line ++ [c])).all = d.all ++ [c] := by
    show d.raw ++ d.lines.flatten ++ (d.line ++ [c]) = (d.raw ++ d.lines.flatten ++ d.line) ++ [c]
    simp
  show (⟨d.t, d.all ++ [c], d.cnt, d.lines.map List.length, d.stp, d.nxt⟩ : PS) = ⟨d.t, (d.setLine (d.line ++ [c])).all, d.cnt, d.lines.map List.length, d.stp, d.nxt⟩
  rw [e]

theorem lay_raw {N : Nat} (d : DS) (c : Int) (hO : Ok N d) (h : d.loc 1 = false) : (d.ps.setAll (d.all ++ [c])).setRd (d.all.length + 1) = (d.lay c).ps ∧ (d.lay c).ec = d.ec ∧ (d.lay c).t = d.t := by
  obtain ⟨e1, e2⟩ := hO.plain h
  unfold DS.lay
  rw [if_neg (by rw [h]; simp)]
  refine ⟨?_, rfl, rfl⟩
  have ea : d.all = d.raw := by unfold DS.all; rw [e1, e2]; simp
  have e : (d.setRaw (d.raw ++ [c])).all = d.all ++ [c] := by
    show (d.raw ++ [c]) ++ d.lines.flatten ++ d.line = d.all ++ [c]
    rw [ea, e1, e2]; simp
  have ec : (d.setRaw (d.raw ++ [c])).cnt = d.all.length + 1 := by
    show (d.raw ++ [c]).length + d.lines.flatten.length = _
    rw [ea, e1]; simp
  show (⟨d.t, d.all ++ [c], d.all.length + 1, d.lines.map List.length, d.stp, d.nxt⟩ : PS) = ⟨d.t, (d.setRaw (d.raw ++ [c])).all, (d.setRaw (d.raw ++ [c])).cnt, d.lines.map List.length, d.stp, d.nxt⟩
  rw [e, ec]

theorem SAt.dp_keep {w w1 : World} {b : Nat} {v : Value} {S : Nat → Prop} (h : w.cell? ⟨b, 0, none⟩ = some v) (hs : Stay S w w1) (hn : ¬ S b) : w1.cell? ⟨b, 0, none⟩ = some v :=
  (hs.cell (p := ⟨b, 0, none⟩) (World.block_lt_of_cell? _ _ h) hn).trans h

set_option maxRecDepth 100000 in
set_option maxHeartbeats 2000000 in
theorem s_put {N : Nat} (c : Int) (w : World) (h : SD w q d sg) (hO : Ok N d) (hc0 : 0 ≤ c) (hc1 : c < 256) (hn : d.ec.length ≤ 800000) : Calls Try.prog 42 #[.pointer (some ⟨q.b, 0, none⟩), .int .u8 c] w (TurnD q (d.put c) sg (.bool (d.room c)) w) := by
  have hT := hO.right
  have HR0 := hide' h
  have HS0 := hide' (Stay.refl q.U w)
  have HRO := hide' (fun w' (hh : SD w' q d sg) => s_room c w' hh hO hc0 hc1)
  have HLO := hide' (fun w' (hh : SD w' q d sg) => s_lose w' hh (by omega))
  have HSH : Hid (∀ w' d', d'.t = d.t → d'.ec.length ≤ 900000 → SD w' q d' sg → Calls Try.prog 54 #[.pointer (some ⟨q.b, 0, none⟩), .int .u8 c] w' (TurnD q (d'.shw c) sg (.tuple #[]) w')) := fun w' d' et hn hh => s_show c w' hh (by rw [et]; exact hT) hc0 hc1 hn
  have HWF : Hid (∀ y ∈ [c], (Lit.int .u8 y).wf = true) := fun y hy => by simp at hy; subst hy; exact wf_u8_of hc0 hc1
  have HN : Hid (d.all.length + [c].length ≤ 1000000) := by have := hO.all_le.1; show _ ≤ _; simp; omega
  have HEC := hide' hn
  have HP : Hid (d.put c = if d.room c = true then ((d.lay c).nl c).shw c else d.lost) := rfl
  have HNL : Hid ((d.lay c).nl c = if c = 10 ∧ d.loc 1 = true ∧ d.loc 16 = true ∧ d.loc 2 = false then (d.lay c).out [10] else d.lay c) := by
    show (d.lay c).nl c = _
    unfold DS.nl
    rw [lay_loc, lay_loc, lay_loc]
  have HLC : Hid (d.loc 1 = true → d.ps.setAll (d.all ++ [c]) = (d.lay c).ps ∧ (d.lay c).ec = d.ec ∧ (d.lay c).t = d.t) := lay_canon d c
  have HLR : Hid (d.loc 1 = false → (d.ps.setAll (d.all ++ [c])).setRd (d.all.length + 1) = (d.lay c).ps ∧ (d.lay c).ec = d.ec ∧ (d.lay c).t = d.t) := lay_raw d c hO
  have HX17 : Hid (∀ w' x ec, x.t = d.t → SAt w' q x ec sg → Calls Try.prog 31 #[.pointer (some ⟨q.p, 0, none⟩), .int .i64 17] w' (Gives (.bool (hasB d.t.fl 1 && hasB d.t.fl 16)) w')) := fun w' x ec et hh => s_local2 hh 17 _ (by rw [et]; exact (loc_eq2 hT).2.1)
  have HX1 : Hid (∀ w' x ec, x.t = d.t → SAt w' q x ec sg → Calls Try.prog 31 #[.pointer (some ⟨q.p, 0, none⟩), .int .i64 1] w' (Gives (.bool (hasB d.t.fl 1)) w')) := fun w' x ec et hh => by
    rw [← et]
    exact s_local hh (by rw [et]; exact hT) 1 (by simp)
  obtain ⟨q2, h_q2⟩ : ∃ z, z = hasB d.t.fl 2 := ⟨_, rfl⟩
  have HK_q2 : Hid (∀ w' d' sg', d'.t = d.t → SD w' q d' sg' → Calls Try.prog 31 #[.pointer (some ⟨q.p, 0, none⟩), .int .i64 2] w' (Gives (.bool q2) w')) := fun w' d' sg' et hh => by
    rw [h_q2, ← et]
    have ht : rightB d'.ps.t = true := by show rightB d'.t = true; rw [et]; exact hT
    exact s_local (x := d'.ps) (ec := d'.ec) hh ht 2 (by simp)
  have HE_q2 := hide' h_q2
  clear h_q2
  obtain ⟨q1, hq1⟩ : ∃ z, z = hasB d.t.fl 1 := ⟨_, rfl⟩
  obtain ⟨q16, hq16⟩ : ∃ z, z = hasB d.t.fl 16 := ⟨_, rfl⟩
  have e1 : d.loc 1 = q1 := hq1.symm
  have e16 : d.loc 16 = q16 := hq16.symm
  have e2 : d.loc 2 = q2 := HE_q2.out.symm
  rw [← hq1, ← hq16] at HX17
  rw [← hq1] at HX1
  rw [e1, e16, e2] at HNL
  rw [e1] at HLC HLR
  obtain ⟨rm, hrm⟩ : ∃ z, z = d.room c := ⟨_, rfl⟩
  rw [← hrm] at HRO HP ⊢
  clear h hO hT hn hq1 hq16 e1 e16 e2 hrm HE_q2
  go_enter Try.func42, Try.ntmps42
  go_wp2_with fail
  refine (HRO.out _ HR0.out).mono ?_
  rintro e w1 ⟨rfl, hs⟩
  have HR1 := hide' (HR0.out.keep hs)
  have HS1 := hide' (HS0.out.trans (hs.mono (T := q.U) (fun _ _ h => h.elim)))
  clear hs HR0 HS0
  cases rm
  · go_wp2_with fail
    refine (HLO.out _ HR1.out).mono ?_
    rintro e w2 ⟨rfl, hr, hs⟩
    have HR2 := hide' hr
    have HS2 := hide' (HS1.out.trans hs)
    clear hr hs HR1 HS1
    go_wp2
    go_ret
    refine ⟨rfl, ?_, HS2.out⟩
    rw [HP.out, if_neg (by simp)]
    exact HR2.out
  · rw [if_pos rfl] at HP
    go_upto_region 4 with fail
    have HWA : Hid (∀ y ∈ d.all ++ [c], (Lit.int .u8 y).wf = true) := by
      obtain ⟨r, e, h⟩ := HR1.out
      intro y hy
      rcases List.mem_append.1 hy with hy | hy
      · exact h.core.wf y hy
      · exact HWF.out y hy
    have HS2 := hide' HS1.out
    go_cut [] from 11 to 47 (fun wx => Hid (SAt wx q (d.ps.setAll (d.all ++ [c])) d.ec sg ∧ Stay q.U w wx))
    case first =>
      obtain ⟨r, ea, cap, hop⟩ := HR1.out.open
      obtain ⟨ia, icap, hv, _⟩ := hop.core.ip.shape
      have HV : Hid (r.ip = .slice ia d.all.length icap) := hv
      clear hv
      refine any_begin (fun w' => w'.cell? ⟨q.b, 0, none⟩ = some (.pointer (some ⟨q.p, 0, none⟩))) (by kernel_rfl) (fun K0 hK0 => ?_)
      have HO := hide' (hop.keep ((Stay.refl _ _).drew (w' := w1)))
      have HST := hide' ((Stay.refl (fun _ => False) w1).drew)
      have HSB : Hid (w1.drew.cell? ⟨q.b, 0, none⟩ = some (.pointer (some ⟨q.p, 0, none⟩))) := HO.out.box.c0
      clear hop
      obtain ⟨wd, hwd⟩ : ∃ z, z = w1.drew := ⟨_, rfl⟩
      rw [← hwd] at HO HST HSB ⊢
      clear hwd
      refine any_take (i := 0) hK0 (some 11) (.move (.tmp 0)) 79 _ (by kernel_rfl) (fun _ d _ _ _ h => by cases d <;> exact h) (by kernel_rfl) (by kernel_rfl) (fun w' hS' => by simp only [opr]; go_simp; try with_reducible rfl) HSB.out (fun K1 hK1 => ?_)
      clear hK0 K0
      try simp only [Act.put, List.setIfInBounds_toArray, List.set_cons_zero, List.set_cons_succ]
      refine any_take (i := 1) hK1 (some 12) (.nilCheck (.tmp 11)) 0 _ (by kernel_rfl) (fun _ d _ _ _ h => by cases d <;> exact h) (by kernel_rfl) (by kernel_rfl) (fun w' hS' => by simp only [opr]; go_simp; try with_reducible rfl) HSB.out (fun K2 hK2 => ?_)
      clear hK1 K1
      try simp only [Act.put, List.setIfInBounds_toArray, List.set_cons_zero, List.set_cons_succ]
      refine any_take (i := 2) hK2 (some 13) (.fieldAddr 74 (.tmp 12) 0) 0 _ (by kernel_rfl) (fun _ d _ _ _ h => by cases d <;> exact h) (by kernel_rfl) (by kernel_rfl) (fun w' hS' => by simp only [opr]; go_simp; try with_reducible rfl) HSB.out (fun K3 hK3 => ?_)
      clear hK2 K2
      try simp only [Act.put, List.setIfInBounds_toArray, List.set_cons_zero, List.set_cons_succ]
      refine any_take (i := 3) hK3 (some 14) (.load 47 (.tmp 13)) 47 _ (by kernel_rfl) (fun _ d _ _ _ h => by cases d <;> exact h) (by kernel_rfl) (by kernel_rfl) (fun w' hS' => by have s0 := hS'; simp only [opr]; go_simp; try with_reducible rfl) HSB.out (fun K4 hK4 => ?_)
      clear hK3 K3
      try simp only [Act.put, List.setIfInBounds_toArray, List.set_cons_zero, List.set_cons_succ]
      refine any_take (i := 4) hK4 (some 15) (.move (.tmp 0)) 79 _ (by kernel_rfl) (fun _ d _ _ _ h => by cases d <;> exact h) (by kernel_rfl) (by kernel_rfl) (fun w' hS' => by simp only [opr]; go_simp; try with_reducible rfl) HSB.out (fun K5 hK5 => ?_)
      clear hK4 K4
      try simp only [Act.put, List.setIfInBounds_toArray, List.set_cons_zero, List.set_cons_succ]
      refine any_take (i := 5) hK5 (some 16) (.nilCheck (.tmp 15)) 0 _ (by kernel_rfl) (fun _ d _ _ _ h => by cases d <;> exact h) (by kernel_rfl) (by kernel_rfl) (fun w' hS' => by simp only [opr]; go_simp; try with_reducible rfl) HSB.out (fun K6 hK6 => ?_)
      clear hK5 K5
      try simp only [Act.put, List.setIfInBounds_toArray, List.set_cons_zero, List.set_cons_succ]
      refine any_take (i := 6) hK6 (some 17) (.fieldAddr 74 (.tmp 16) 0) 0 _ (by kernel_rfl) (fun _ d _ _ _ h => by cases d <;> exact h) (by kernel_rfl) (by kernel_rfl) (fun w' hS' => by simp only [opr]; go_simp; try with_reducible rfl) HSB.out (fun K7 hK7 => ?_)
      clear hK6 K6
      try simp only [Act.put, List.setIfInBounds_toArray, List.set_cons_zero, List.set_cons_succ]
      refine any_take (i := 7) hK7 (some 18) (.load 47 (.tmp 17)) 47 _ (by kernel_rfl) (fun _ d _ _ _ h => by cases d <;> exact h) (by kernel_rfl) (by kernel_rfl) (fun w' hS' => by have s0 := hS'; simp only [opr]; go_simp; try with_reducible rfl) HSB.out (fun K8 hK8 => ?_)
      clear hK7 K7
      try simp only [Act.put, List.setIfInBounds_toArray, List.set_cons_zero, List.set_cons_succ]
      refine any_take (i := 8) hK8 (some 19) (.nilCheck (.tmp 18)) 0 _ (by kernel_rfl) (fun _ d _ _ _ h => by cases d <;> exact h) (by kernel_rfl) (by kernel_rfl) (fun w' hS' => by simp only [opr]; go_simp; try with_reducible rfl) HSB.out (fun K9 hK9 => ?_)
      clear hK8 K8
      try simp only [Act.put, List.setIfInBounds_toArray, List.set_cons_zero, List.set_cons_succ]
      refine any_take (i := 9) hK9 (some 20) (.fieldAddr 69 (.tmp 19) 1) 0 _ (by kernel_rfl) (fun _ d _ _ _ h => by cases d <;> exact h) (by kernel_rfl) (by kernel_rfl) (fun w' hS' => by simp only [opr]; go_simp; try with_reducible rfl) HSB.out (fun K10 hK10 => ?_)
      clear hK9 K9
      try simp only [Act.put, List.setIfInBounds_toArray, List.set_cons_zero, List.set_cons_succ]
      refine any_take (i := 11) hK10 (some 22) (.move (.tmp 1)) 5 _ (by kernel_rfl) (fun _ d _ _ _ h => by cases d <;> exact h) (by kernel_rfl) (by kernel_rfl) (fun w' hS' => by simp only [opr]; go_simp; try with_reducible rfl) HSB.out (fun K11 hK11 => ?_)
      clear hK10 K10
      try simp only [Act.put, List.setIfInBounds_toArray, List.set_cons_zero, List.set_cons_succ]
      refine any_pick (rs := [10, 12]) hK11 (by kernel_rfl) (fun K12 hK12 => ?_)
      clear hK11 K11
      intro i hi
      simp only [List.mem_cons, List.not_mem_nil, or_false] at hi
      rcases hi with rfl | rfl
      · refine op_plain (some 21) (.load 22 (.tmp 20)) 22 (by kernel_rfl) (by kernel_rfl) ?_
        have c17 := HO.out.core.box.c17
        rw [HV.out] at c17
        go_wp2
        clear c17
        refine hK12 10 (by simp) _ _ HSB.out (any_more fun K13 hK13 => ?_)
        clear hK12 K12
        refine any_pick (rs := [12]) hK13 (by kernel_rfl) (fun K14 hK14 => ?_)
        clear hK13 K13
        intro i hi
        simp only [List.mem_cons, List.not_mem_nil, or_false] at hi
        rcases hi with rfl
        refine op_plain (some 23) (.buildSlice 22 1 #[(0, .tmp 22)]) 22 (by kernel_rfl) (by kernel_rfl) ?_
        go_wp2
        obtain ⟨wk1, hW⟩ : ∃ z, z = wd.alloc (.cells #[.int .u8 c] 5) := ⟨_, rfl⟩
        have hst : Stay (fun _ => False) wd wk1 := by rw [hW]; exact (Stay.refl _ _).alloc _
        have HO' := hide' (HO.out.keep hst)
        have HST' := hide' (HST.out.trans hst)
        have HAR : Hid (IArg .u8 wk1 (.slice (some ⟨wd.heap.size, 0, none⟩) 1 1) [c] (some ⟨wd.heap.size, 0, none⟩) 1) := by rw [hW]; exact iarg_new wd #[.int .u8 c] [c] 1 rfl rfl HWF.out (by omega)
        have HSB' := hide' (SAt.dp_keep HSB.out hst (fun h => h))
        rw [← hW]
        clear hW hst
        clear HO
        have HO := HO'
        clear HO'
        clear HST
        have HST := HST'
        clear HST'
        clear HSB
        have HSB := HSB'
        clear HSB'
        refine hK14 12 (by simp) _ _ HSB.out (any_more fun K15 hK15 => ?_)
        clear hK14 K14
        refine any_pick (rs := [13]) hK15 (by kernel_rfl) (fun K16 hK16 => ?_)
        clear hK15 K15
        intro i hi
        simp only [List.mem_cons, List.not_mem_nil, or_false] at hi
        rcases hi with rfl
        refine op_plain (some 24) (.call { callee := Callee.builtin Builtin.append, args := #[.tmp 21, .tmp 23], argTypes := #[22, 22] }) 22 (by kernel_rfl) (by kernel_rfl) ?_
        have HIP := hide' HO.out.core.ip
        rw [HV.out] at HIP
        go_wp2_with (at_builtin; go_must (refine win_app rfl _ _ rfl HIP.out rfl HAR.out rfl HN.out ?_; intro va vn vc wk2 hvn hwn hst hbn; have HVN := hide' hvn; have HWN := hide' hwn; have HBN := hide' hbn; have HSN := hide' hst; clear hvn hwn hst hbn))
        have HSB' := hide' (SAt.dp_keep HSB.out HSN.out (fun e => (HO.out.m2 q.b (.inr (.inl (by rw [HV.out]; exact e)))).2.1 rfl))
        clear HSB
        have HSB := HSB'
        clear HSB'
        refine hK16 13 (by simp) _ _ HSB.out (any_more fun K17 hK17 => ?_)
        clear hK16 K16
        refine any_take (i := 14) hK17 (some 25) (.nilCheck (.tmp 14)) 0 _ (by kernel_rfl) (fun _ d _ _ _ h => by cases d <;> exact h) (by kernel_rfl) (by kernel_rfl) (fun w' hS' => by simp only [opr]; go_simp; try with_reducible rfl) HSB.out (fun K18 hK18 => ?_)
        clear hK17 K17
        try simp only [Act.put, List.setIfInBounds_toArray, List.set_cons_zero, List.set_cons_succ]
        refine any_take (i := 15) hK18 (some 26) (.fieldAddr 69 (.tmp 25) 1) 0 _ (by kernel_rfl) (fun _ d _ _ _ h => by cases d <;> exact h) (by kernel_rfl) (by kernel_rfl) (fun w' hS' => by simp only [opr]; go_simp; try with_reducible rfl) HSB.out (fun K19 hK19 => ?_)
        clear hK18 K18
        try simp only [Act.put, List.setIfInBounds_toArray, List.set_cons_zero, List.set_cons_succ]
        refine any_pick (rs := [16]) hK19 (by kernel_rfl) (fun K20 hK20 => ?_)
        clear hK19 K19
        intro i hi
        simp only [List.mem_cons, List.not_mem_nil, or_false] at hi
        rcases hi with rfl
        refine op_plain none (.store 22 (.tmp 26) (.tmp 24)) 0 (by kernel_rfl) (by kernel_rfl) ?_
        have hBX := HO.out.core.box.stay HSN.out (fun e => HO.out.core.n1 _ (by rw [HV.out]; exact e) rfl)
        obtain ⟨c0, c1, c2, c3, c4, c5, c6, c7, c8, c9, c10, c11, c12, c13, c14, c15, c16, c17, c18, c19, c20, c21, f0, f1, f2, f3, f4, f5, f6, f7, f8, f9, f10, f11, f12, f13, f14, f15, f16, f17, f18, f19, f20, f21⟩ := hBX
        go_wp2
        clear c0 c1 c2 c3 c4 c5 c6 c7 c8 c9 c10 c11 c12 c13 c14 c15 c16 c17 c18 c19 c20 c21 f0 f1 f2 f3 f4 f5 f6 f7 f8 f9 f10 f11 f12 f13 f14 f15 f16 f17 f18 f19 f20 f21
        have HFIN := hide' (HO.out.put_ip (v := .slice va vn vc) (l := d.all ++ [c]) (by rw [HV.out]; exact HSN.out) (by have e : (d.all ++ [c]).length = vn := (by rw [HVN.out, List.length_append]; rfl); rw [e, bys_app]; exact HWN.out) (fun j hj => by rw [HV.out]; exact HBN.out j hj) HWA.out)
        obtain ⟨wk3, hW⟩ : ∃ z, z = wk2.setCell ⟨q.p, 17, none⟩ (.slice va vn vc) := ⟨_, rfl⟩
        rw [← hW] at HFIN ⊢
        have HSB' := hide' (SAt.dp_keep (w1 := wk3) (S := fun j => j = q.p) HSB.out (by rw [hW]; exact at_p wk2 q.p 17 _) (fun e => (HO.out.m2 q.p (.inl rfl)).2.1 e.symm))
        clear hW
        clear HSB
        have HSB := HSB'
        clear HSB'
        refine hK20 16 (by simp) _ _ HSB.out (any_more fun K21 hK21 => ?_)
        clear hK20 K20
        refine any_done hK21 (by kernel_rfl) ?_
        clear hK21 K21
        go_wp2
        go_meet
        exact ⟨HFIN.out.1, (HS2.out.trans (HST.out.mono (T := q.U) (fun _ _ h => h.elim))).trans HFIN.out.2⟩
      · refine op_plain (some 23) (.buildSlice 22 1 #[(0, .tmp 22)]) 22 (by kernel_rfl) (by kernel_rfl) ?_
        go_wp2
        obtain ⟨wk4, hW⟩ : ∃ z, z = wd.alloc (.cells #[.int .u8 c] 5) := ⟨_, rfl⟩
        have hst : Stay (fun _ => False) wd wk4 := by rw [hW]; exact (Stay.refl _ _).alloc _
        have HO' := hide' (HO.out.keep hst)
        have HST' := hide' (HST.out.trans hst)
        have HAR : Hid (IArg .u8 wk4 (.slice (some ⟨wd.heap.size, 0, none⟩) 1 1) [c] (some ⟨wd.heap.size, 0, none⟩) 1) := by rw [hW]; exact iarg_new wd #[.int .u8 c] [c] 1 rfl rfl HWF.out (by omega)
        have HSB' := hide' (SAt.dp_keep HSB.out hst (fun h => h))
        rw [← hW]
        clear hW hst
        clear HO
        have HO := HO'
        clear HO'
        clear HST
        have HST := HST'
        clear HST'
        clear HSB
        have HSB := HSB'
        clear HSB'
        refine hK12 12 (by simp) _ _ HSB.out (any_more fun K13 hK13 => ?_)
        clear hK12 K12
        refine any_pick (rs := [10]) hK13 (by kernel_rfl) (fun K14 hK14 => ?_)
        clear hK13 K13
        intro i hi
        simp only [List.mem_cons, List.not_mem_nil, or_false] at hi
        rcases hi with rfl
        refine op_plain (some 21) (.load 22 (.tmp 20)) 22 (by kernel_rfl) (by kernel_rfl) ?_
        have c17 := HO.out.core.box.c17
        rw [HV.out] at c17
        go_wp2
        clear c17
        refine hK14 10 (by simp) _ _ HSB.out (any_more fun K15 hK15 => ?_)
        clear hK14 K14
        refine any_pick (rs := [13]) hK15 (by kernel_rfl) (fun K16 hK16 => ?_)
        clear hK15 K15
        intro i hi
        simp only [List.mem_cons, List.not_mem_nil, or_false] at hi
        rcases hi with rfl
        refine op_plain (some 24) (.call { callee := Callee.builtin Builtin.append, args := #[.tmp 21, .tmp 23], argTypes := #[22, 22] }) 22 (by kernel_rfl) (by kernel_rfl) ?_
        have HIP := hide' HO.out.core.ip
        rw [HV.out] at HIP
        go_wp2_with (at_builtin; go_must (refine win_app rfl _ _ rfl HIP.out rfl HAR.out rfl HN.out ?_; intro va vn vc wk5 hvn hwn hst hbn; have HVN := hide' hvn; have HWN := hide' hwn; have HBN := hide' hbn; have HSN := hide' hst; clear hvn hwn hst hbn))
        have HSB' := hide' (SAt.dp_keep HSB.out HSN.out (fun e => (HO.out.m2 q.b (.inr (.inl (by rw [HV.out]; exact e)))).2.1 rfl))
        clear HSB
        have HSB := HSB'
        clear HSB'
        refine hK16 13 (by simp) _ _ HSB.out (any_more fun K17 hK17 => ?_)
        clear hK16 K16
        refine any_take (i := 14) hK17 (some 25) (.nilCheck (.tmp 14)) 0 _ (by kernel_rfl) (fun _ d _ _ _ h => by cases d <;> exact h) (by kernel_rfl) (by kernel_rfl) (fun w' hS' => by simp only [opr]; go_simp; try with_reducible rfl) HSB.out (fun K18 hK18 => ?_)
        clear hK17 K17
        try simp only [Act.put, List.setIfInBounds_toArray, List.set_cons_zero, List.set_cons_succ]
        refine any_take (i := 15) hK18 (some 26) (.fieldAddr 69 (.tmp 25) 1) 0 _ (by kernel_rfl) (fun _ d _ _ _ h => by cases d <;> exact h) (by kernel_rfl) (by kernel_rfl) (fun w' hS' => by simp only [opr]; go_simp; try with_reducible rfl) HSB.out (fun K19 hK19 => ?_)
        clear hK18 K18
        try simp only [Act.put, List.setIfInBounds_toArray, List.set_cons_zero, List.set_cons_succ]
        refine any_pick (rs := [16]) hK19 (by kernel_rfl) (fun K20 hK20 => ?_)
        clear hK19 K19
        intro i hi
        simp only [List.mem_cons, List.not_mem_nil, or_false] at hi
        rcases hi with rfl
        refine op_plain none (.store 22 (.tmp 26) (.tmp 24)) 0 (by kernel_rfl) (by kernel_rfl) ?_
        have hBX := HO.out.core.box.stay HSN.out (fun e => HO.out.core.n1 _ (by rw [HV.out]; exact e) rfl)
        obtain ⟨c0, c1, c2, c3, c4, c5, c6, c7, c8, c9, c10, c11, c12, c13, c14, c15, c16, c17, c18, c19, c20, c21, f0, f1, f2, f3, f4, f5, f6, f7, f8, f9, f10, f11, f12, f13, f14, f15, f16, f17, f18, f19, f20, f21⟩ := hBX
        go_wp2
        clear c0 c1 c2 c3 c4 c5 c6 c7 c8 c9 c10 c11 c12 c13 c14 c15 c16 c17 c18 c19 c20 c21 f0 f1 f2 f3 f4 f5 f6 f7 f8 f9 f10 f11 f12 f13 f14 f15 f16 f17 f18 f19 f20 f21
        have HFIN := hide' (HO.out.put_ip (v := .slice va vn vc) (l := d.all ++ [c]) (by rw [HV.out]; exact HSN.out) (by have e : (d.all ++ [c]).length = vn := (by rw [HVN.out, List.length_append]; rfl); rw [e, bys_app]; exact HWN.out) (fun j hj => by rw [HV.out]; exact HBN.out j hj) HWA.out)
        obtain ⟨wk6, hW⟩ : ∃ z, z = wk5.setCell ⟨q.p, 17, none⟩ (.slice va vn vc) := ⟨_, rfl⟩
        rw [← hW] at HFIN ⊢
        have HSB' := hide' (SAt.dp_keep (w1 := wk6) (S := fun j => j = q.p) HSB.out (by rw [hW]; exact at_p wk5 q.p 17 _) (fun e => (HO.out.m2 q.p (.inl rfl)).2.1 e.symm))
        clear hW
        clear HSB
        have HSB := HSB'
        clear HSB'
        refine hK20 16 (by simp) _ _ HSB.out (any_more fun K21 hK21 => ?_)
        clear hK20 K20
        refine any_done hK21 (by kernel_rfl) ?_
        clear hK21 K21
        go_wp2
        go_meet
        exact ⟨HFIN.out.1, (HS2.out.trans (HST.out.mono (T := q.U) (fun _ _ h => h.elim))).trans HFIN.out.2⟩
    case rest =>
      obtain ⟨w2, hw2⟩ : ∃ z, z = wc := ⟨_, rfl⟩
      rw [← hw2] at hcut ⊢
      clear hw2 HR1 HS1 HS2 HWA HRO
      have HR2 := hide' hcut.out.1
      have HS2 := hide' hcut.out.2
      clear hcut
      have s0 := HR2.out.dp
      go_wp2_with fail
      refine (HX1.out _ _ _ rfl HR2.out).mono ?_
      rintro e w3 ⟨rfl, hs⟩
      have HR3 := hide' (HR2.out.keep hs)
      have HS3 := hide' (HS2.out.trans (hs.mono (T := q.U) (fun _ _ h => h.elim)))
      clear hs HR2 HS2 s0
      cases q1
      · obtain ⟨r, e, hop⟩ := HR3.out
        have s0 := HR3.out.dp
        obtain ⟨c0, c1, c2, c3, c4, c5, c6, c7, c8, c9, c10, c11, c12, c13, c14, c15, c16, c17, c18, c19, c20, c21, f0, f1, f2, f3, f4, f5, f6, f7, f8, f9, f10, f11, f12, f13, f14, f15, f16, f17, f18, f19, f20, f21⟩ := hop.core.box
        obtain ⟨ia, icap, hv, _⟩ := hop.core.ip.shape
        have hl : (d.ps.setAll (d.all ++ [c])).all.length = d.all.length + 1 := by show (d.all ++ [c]).length = _; simp
        rw [hl] at hv
        rw [hv] at c17
        have HFN := hide' ((hop.keep ((Stay.refl _ w3).drew)).put_rd (z := ((d.all.length + 1 : Nat) : Int)) (d.all.length + 1) rfl)
        obtain ⟨nn, hnn⟩ : ∃ z, z = d.all.length + 1 := ⟨_, rfl⟩
        rw [← hnn] at HFN HLR c17
        clear hop hv hl hnn
        go_upto_region 6 with fail
        go_still_tail 14, (by kernel_rfl)
        change wpList _ _ _ _ _ w3.drew
        obtain ⟨wd, hwd⟩ : ∃ z, z = w3.drew := ⟨_, rfl⟩
        have hfr : wd.frozen? ⟨q.p, 18, none⟩ = false := by rw [hwd]; exact f18
        have hce : wd.cell? ⟨q.p, 18, none⟩ = w3.cell? ⟨q.p, 18, none⟩ := by rw [hwd]; rfl
        rw [c18] at hce
        have HSD := hide' ((Stay.refl (fun _ => False) w3).drew)
        rw [← hwd] at HFN HSD ⊢
        clear hwd s0 c0 c1 c2 c3 c4 c5 c6 c7 c8 c9 c10 c11 c12 c13 c14 c15 c16 c17 c18 c19 c20 c21 f0 f1 f2 f3 f4 f5 f6 f7 f8 f9 f10 f11 f12 f13 f14 f15 f16 f17 f18 f19 f20 f21
        go_upto_region 7 with fail
        obtain ⟨w4, hw4⟩ : ∃ z, z = wd.setCell ⟨q.p, 18, none⟩ (.int .i64 (nn : Nat)) := ⟨_, rfl⟩
        rw [← hw4] at HFN ⊢
        clear hw4 hfr hce
        have HR4 : Hid (SD w4 q (d.lay c) sg) := by
          obtain ⟨e1, e2, _⟩ := HLR.out (by first | rfl | trivial)
          show SAt w4 q (d.lay c).ps (d.lay c).ec sg
          rw [← e1, e2]
          exact HFN.out.1
        have HS4 := hide' ((HS3.out.trans (HSD.out.mono (T := q.U) (fun _ _ h => h.elim))).trans HFN.out.2)
        have HTL : Hid ((d.lay c).t = d.t ∧ (d.lay c).ec = d.ec) := ⟨(HLR.out (by first | rfl | trivial)).2.2, (HLR.out (by first | rfl | trivial)).2.1⟩
        clear HFN HSD HR3 HS3 HLC HLR
        obtain ⟨dl, hdl⟩ : ∃ z, z = d.lay c := ⟨_, rfl⟩
        rw [← hdl] at HNL HTL HR4 HP
        clear hdl
        by_cases h10 : c = 10
        · subst h10
          have s0 := HR4.out.dp
          go_wp2_with fail
          refine (HX17.out _ _ _ HTL.out.1 HR4.out).mono ?_
          rintro e w5 ⟨rfl, hs⟩
          have HR5 := hide' (HR4.out.keep hs)
          have HS5 := hide' (HS4.out.trans (hs.mono (T := q.U) (fun _ _ h => h.elim)))
          clear hs HR4 HS4 s0
          have HDN : Hid (dl.nl 10 = dl) := by show dl.nl 10 = _; rw [HNL.out]; simp
          rw [HDN.out] at HP
          go_wp2_with fail
          refine (HSH.out _ _ (by first | exact HTL.out.1 | (rw [show (dl.out [10]).t = dl.t from rfl]; exact HTL.out.1)) (by have := HEC.out; have := HTL.out.2; rw [HTL.out.2]; omega) HR5.out).mono ?_
          rintro e w6 ⟨rfl, hr, hs⟩
          have HR6 := hide' hr
          have HS6 := hide' (HS5.out.trans hs)
          clear hr hs HR5 HS5
          go_wp2
          go_ret
          refine ⟨rfl, ?_, HS6.out⟩
          rw [HP.out]
          exact HR6.out
        · have e10 : (c == 10) = false := by simpa using h10
          have hne : ¬ (c = 10) := h10
          have HDN : Hid (dl.nl c = dl) := by show dl.nl c = _; rw [HNL.out]; exact if_neg (fun hh => h10 hh.1)
          rw [HDN.out] at HP
          go_wp2_with fail
          refine (HSH.out _ _ (by first | exact HTL.out.1 | (rw [show (dl.out [10]).t = dl.t from rfl]; exact HTL.out.1)) (by have := HEC.out; have := HTL.out.2; rw [HTL.out.2]; omega) HR4.out).mono ?_
          rintro e w5 ⟨rfl, hr, hs⟩
          have HR5 := hide' hr
          have HS5 := hide' (HS4.out.trans hs)
          clear hr hs HR4 HS4
          go_wp2
          go_ret
          refine ⟨rfl, ?_, HS5.out⟩
          rw [HP.out]
          exact HR5.out
      · have HR4 : Hid (SD w3 q (d.lay c) sg) := by
          obtain ⟨e1, e2, _⟩ := HLC.out (by first | rfl | trivial)
          show SAt w3 q (d.lay c).ps (d.lay c).ec sg
          rw [← e1, e2]
          exact HR3.out
        have HTL : Hid ((d.lay c).t = d.t ∧ (d.lay c).ec = d.ec) := ⟨(HLC.out (by first | rfl | trivial)).2.2, (HLC.out (by first | rfl | trivial)).2.1⟩
        clear HR3
        have HR3 := HR4
        clear HR4 HLC HLR
        obtain ⟨dl, hdl⟩ : ∃ z, z = d.lay c := ⟨_, rfl⟩
        rw [← hdl] at HNL HTL HR3 HP
        clear hdl
        by_cases h10 : c = 10
        · subst h10
          have s0 := HR3.out.dp
          go_wp2_with fail
          refine (HX17.out _ _ _ HTL.out.1 HR3.out).mono ?_
          rintro e w4 ⟨rfl, hs⟩
          have HR4 := hide' (HR3.out.keep hs)
          have HS4 := hide' (HS3.out.trans (hs.mono (T := q.U) (fun _ _ h => h.elim)))
          clear hs HR3 HS3 s0
          cases q16
          · have HDN : Hid (dl.nl 10 = dl) := by show dl.nl 10 = _; rw [HNL.out]; simp
            rw [HDN.out] at HP
            go_wp2_with fail
            refine (HSH.out _ _ (by first | exact HTL.out.1 | (rw [show (dl.out [10]).t = dl.t from rfl]; exact HTL.out.1)) (by have := HEC.out; have := HTL.out.2; rw [HTL.out.2]; omega) HR4.out).mono ?_
            rintro e w5 ⟨rfl, hr, hs⟩
            have HR5 := hide' hr
            have HS5 := hide' (HS4.out.trans hs)
            clear hr hs HR4 HS4
            go_wp2
            go_ret
            refine ⟨rfl, ?_, HS5.out⟩
            rw [HP.out]
            exact HR5.out
          · have s0 := HR4.out.dp
            go_wp2_with fail
            refine (HK_q2.out _ _ _ HTL.out.1 HR4.out).mono ?_
            rintro e w5 ⟨rfl, hs⟩
            have HR5 := hide' (HR4.out.keep hs)
            have HS5 := hide' (HS4.out.trans (hs.mono (T := q.U) (fun _ _ h => h.elim)))
            clear hs HR4 HS4 s0
            cases q2
            · have HNE : Hid (dl.ec.length + [(10 : Int)].length ≤ 1000000) := by have := HEC.out; show dl.ec.length + 1 ≤ _; rw [HTL.out.2]; omega
              obtain ⟨r6, ea6, cap6, hO⟩ := HR5.out.open
              have HO := hide' (hO.keep ((Stay.refl _ w5).alloc (.cells #[.int .u8 10] 5)))
              have HAR := hide' (iarg_new w5 #[.int .u8 10] [10] 1 rfl rfl HWF.out (by omega))
              obtain ⟨s0, s1, s2, g0, g1, g2⟩ := hO.box
              simp only at s0 s1 s2
              clear hO
              go_wp2_with (at_builtin; go_must (refine win_app rfl _ _ rfl HO.out.ecw rfl HAR.out rfl HNE.out ?_; intro va vn vc wa hvn hwn hst hbn; have HVN := hide' hvn; have HWN := hide' hwn; have HBN := hide' hbn; have HSN := hide' hst; clear hvn hwn hst hbn s0 s1 s2 g0 g1 g2; obtain ⟨s0, s1, s2, g0, g1, g2⟩ := HO.out.box.stay HSN.out (fun e => (HO.out.m1 _ e).2 rfl); simp only at s0 s1 s2; go_wp2_with fail))
              go_upto_region 9 with fail
              have HFIN := hide' (HO.out.show HSN.out HVN.out HWN.out HBN.out HWF.out)
              obtain ⟨w6, hW⟩ : ∃ z, z = wa.setCell ⟨q.b, 1, none⟩ (.slice va vn vc) := ⟨_, rfl⟩
              rw [← hW] at HFIN ⊢
              clear hW s0 s1 s2 g0 g1 g2
              have HR6 := hide' HFIN.out.1.sd
              have HS6 := hide' ((HS5.out.alloc (.cells #[.int .u8 10] 5)).trans HFIN.out.2)
              clear HFIN HO HVN HWN HBN HSN HR5 HS5 HAR
              have HDN : Hid (dl.nl 10 = dl.out [10]) := by show dl.nl 10 = _; rw [HNL.out]; simp
              rw [HDN.out] at HP
              go_wp2_with fail
              refine (HSH.out _ _ (by first | exact HTL.out.1 | (rw [show (dl.out [10]).t = dl.t from rfl]; exact HTL.out.1)) (by have := HEC.out; have := HTL.out.2; show (dl.ec ++ [10]).length ≤ 900000; rw [List.length_append, HTL.out.2]; simp; omega) HR6.out).mono ?_
              rintro e w7 ⟨rfl, hr, hs⟩
              have HR7 := hide' hr
              have HS7 := hide' (HS6.out.trans hs)
              clear hr hs HR6 HS6
              go_wp2
              go_ret
              refine ⟨rfl, ?_, HS7.out⟩
              rw [HP.out]
              exact HR7.out
            · have HDN : Hid (dl.nl 10 = dl) := by show dl.nl 10 = _; rw [HNL.out]; simp
              rw [HDN.out] at HP
              go_wp2_with fail
              refine (HSH.out _ _ (by first | exact HTL.out.1 | (rw [show (dl.out [10]).t = dl.t from rfl]; exact HTL.out.1)) (by have := HEC.out; have := HTL.out.2; rw [HTL.out.2]; omega) HR5.out).mono ?_
              rintro e w6 ⟨rfl, hr, hs⟩
              have HR6 := hide' hr
              have HS6 := hide' (HS5.out.trans hs)
              clear hr hs HR5 HS5
              go_wp2
              go_ret
              refine ⟨rfl, ?_, HS6.out⟩
              rw [HP.out]
              exact HR6.out
        · have e10 : (c == 10) = false := by simpa using h10
          have hne : ¬ (c = 10) := h10
          have HDN : Hid (dl.nl c = dl) := by show dl.nl c = _; rw [HNL.out]; exact if_neg (fun hh => h10 hh.1)
          rw [HDN.out] at HP
          go_wp2_with fail
          refine (HSH.out _ _ (by first | exact HTL.out.1 | (rw [show (dl.out [10]).t = dl.t from rfl]; exact HTL.out.1)) (by have := HEC.out; have := HTL.out.2; rw [HTL.out.2]; omega) HR3.out).mono ?_
          rintro e w4 ⟨rfl, hr, hs⟩
          have HR4 := hide' hr
          have HS4 := hide' (HS3.out.trans hs)
          clear hr hs HR3 HS3
          go_wp2
          go_ret
          refine ⟨rfl, ?_, HS4.out⟩
          rw [HP.out]
          exact HR4.out

end Go.Proofs.Ytjfhmpjpdcckhaa.L18
