/-
  The document's Bytes: walked. No conditions.
-/
import Derived.Test.YtjpdlnifbinloaaD3
import Derived.Deep.CutBlock
import Derived.Deep.CutRange
namespace Go.Proofs.Ytjpdlnifbinloaa
open Go.RowKit

theorem wpList_exec {P : Program} {ops : Array Oper} {rest : List Oper} {o : Oper} {a : Act} {w : World} {Q : Exit → Act → World → Prop} {v : Value} (hgd : o.guard = none) (hr : (execOp a.eval o).run P w = .ok (.value v) w) (h : wpList P ops Q rest (a.put o.dst v) w) : wpList P ops Q (o :: rest) a w :=
  wpList_plain hgd fun _ hK => by
    unfold Oper.wp
    rw [hr]
    exact hK _ _ h

set_option maxHeartbeats 4000000 in
theorem rbytes_some (o col : Int) (S : List Int) (b off c n : Nat) (w : World) (hn : n ≤ 10000) (hl : S.length = n) (h1 : Ints .u8 w b off S) (hb : b < w.heap.size) (hw : ∀ x ∈ S, (Lit.int .u8 x).wf = true) : Calls Try.prog 9 #[.int .i64 o, .int .i64 col, .slice (some ⟨b, off, none⟩) n c] w (Posts (bytesM (cnt o) (plc col) S).1 (bytesM (cnt o) (plc col) S).2 w) := by
  have HI := hide' h1
  have HL := hide' hl
  have HBB := hide' hb
  have HW := hide' hw
  have HN := hide' hn
  have hnz : (n : Int) ≤ 10000 := by omega
  obtain ⟨p, hp⟩ : ∃ p, p = plc col := ⟨_, rfl⟩
  have HPC := hide' hp
  have HF := hide' (flag16 o)
  obtain ⟨B, hB⟩ : ∃ B, B = w.heap.size := ⟨_, rfl⟩
  obtain ⟨W, hW⟩ : ∃ W, W = w.alloc (.cells #[.slice none 0 0, .int .i64 0] 27) := ⟨_, rfl⟩
  have HD1 : Hid (PBox W B ⟨.slice none 0 0, 0⟩) := by rw [hW, hB]; exact PBox.new ⟨.slice none 0 0, 0⟩ rfl
  have HA0 : Hid (Stay (fun _ => False) w W) := by rw [hW]; exact (Stay.refl _ _).alloc _
  have HBW : Hid (B = w.heap.size ∧ W = w.alloc (.cells #[.slice none 0 0, .int .i64 0] 27)) := ⟨hB, hW⟩
  obtain ⟨f, hf⟩ : ∃ f, f = cnt o := ⟨_, rfl⟩
  have HFC := hide' hf
  obtain ⟨r1, hr1⟩ : ∃ z, z = (bytesM f p S).1 := ⟨_, rfl⟩
  obtain ⟨r2, hr2⟩ : ∃ z, z = (bytesM f p S).2 := ⟨_, rfl⟩
  have HRR : Hid (r1 = (bytesM f p S).1 ∧ r2 = (bytesM f p S).2) := ⟨hr1, hr2⟩
  rw [← hp, ← hf, ← hr1, ← hr2]
  clear hp h1 hl hb hw hn hB hW hf hr1 hr2
  go_enter Try.func9, Try.ntmps9
  go_upto_region 1 with fail
  obtain ⟨hB, hW⟩ := HBW.out
  rw [← hW, ← hB]
  clear hB hW
  obtain ⟨q0, hq0⟩ : ∃ q, q = (decide (col < 0) || decide (1073741824 < col)) := ⟨_, rfl⟩
  have HQ0 := hide' hq0
  clear hq0
  go_cut [16] (fun s16 wx => s16 = .bool q0 ∧ W = wx)
  case first =>
    by_cases a1 : col < 0
    · have e : q0 = true := by rw [HQ0.out]; simp [a1]
      go_wp2_with fail
      go_meet
      exact ⟨by rw [e], rfl⟩
    · by_cases a2 : 1073741824 < col
      · have e : q0 = true := by rw [HQ0.out]; simp [a2]
        go_wp2_with fail
        go_meet
        exact ⟨by rw [e], rfl⟩
      · have e : q0 = false := by rw [HQ0.out]; simp; omega
        go_wp2_with fail
        go_meet
        exact ⟨by rw [e], rfl⟩
  case rest =>
  obtain ⟨rfl, rfl⟩ := hcut
  go_upto_if 16 with fail
  go_cut [1] (fun s1 wx => s1 = .int .i64 p ∧ W = wx)
  case first =>
    cases q0
    · have e : p = col := by rw [HPC.out]; unfold plc; have := HQ0.out; rw [if_neg]; simp at this; omega
      go_wp2_with fail
      go_meet
      exact ⟨by rw [e], rfl⟩
    · have e : p = 0 := by rw [HPC.out]; unfold plc; have := HQ0.out; rw [if_pos]; simp at this; omega
      go_wp2_with fail
      go_meet
      exact ⟨by rw [e], rfl⟩
  case rest =>
  obtain ⟨rfl, rfl⟩ := hcut
  go_upto_region 5 with fail
  obtain ⟨P, hP⟩ : ∃ P, P = W.heap.size := ⟨_, rfl⟩
  obtain ⟨W1, hW1⟩ : ∃ z, z = W.alloc (.cells #[.slice none 0 0, .int .i64 p] 27) := ⟨_, rfl⟩
  have HB0 : Hid (BB w B P [] p (.slice none 0 0) W1) := by
    have hst : Stay (fun _ => False) W W1 := by rw [hW1]; exact (Stay.refl _ _).alloc _
    have hb := HD1.out.lt
    exact ⟨(Acc.nil w).keep (HA0.out.trans hst), by rw [hW1]; exact PBox.new ⟨.slice none 0 0, p⟩ hP.symm, HD1.out.keep hst, by rw [HBW.out.1]; exact Nat.le_refl _, by rw [hP]; exact HA0.out.size, by omega, (fun e => by cases e), (fun e => by cases e)⟩
  rw [← hP, ← hW1]
  clear hP hW1 HD1 HA0
  go_loopg [8] n (fun gg v8 wr => ∃ j : Nat, j ≤ n ∧ gg = n - j ∧ v8 = .int .i64 (j : Int) ∧ Hid (∃ pa pn pc, BB w B P (bytesM f p (S.take j)).1 (bytesM f p (S.take j)).2 (.slice pa pn pc) wr))
  case atStart => exact ⟨0, Nat.zero_le _, rfl, rfl, none, 0, 0, HB0.out⟩
  case round =>
    clear HB0
    obtain ⟨j, hj, rfl, rfl, HR⟩ := hrel
    obtain ⟨pa, pn, pc, hB⟩ := HR.out
    by_cases hlt : j < n
    · have jz : (j : Int) < n := by omega
      have j0 : (0 : Int) ≤ j := by omega
      have hjl : j < S.length := by have := HL.out; omega
      obtain ⟨x, hx⟩ : ∃ x, x = S.getD j 0 := ⟨_, rfl⟩
      have HXC : Hid (w.cell? ⟨b, off + j, none⟩ = some (.int .u8 x)) := by rw [hx]; exact HI.out j hjl
      have HXW : Hid ((Lit.int .u8 x).wf = true) := by rw [hx]; exact HW.out _ (getD_mem hjl)
      have HTS : Hid (S.take (j + 1) = S.take j ++ [x]) := by rw [hx]; exact take_snoc S j hjl
      obtain ⟨l, hl⟩ : ∃ l, l = (bytesM f p (S.take j)).1 := ⟨_, rfl⟩
      obtain ⟨k0, hk0⟩ : ∃ k, k = (bytesM f p (S.take j)).2 := ⟨_, rfl⟩
      have HLL : Hid (l.length ≤ 80000 ∧ 0 ≤ k0) := by
        refine ⟨?_, by rw [hk0]; exact bytesM_range f _ p (by rw [HPC.out]; exact (plc_range col).1)⟩
        rw [hl]
        have h1 := bytesM_len f (S.take j) p
        rw [List.length_take] at h1
        have := HN.out
        omega
      have HNEXT : Hid (bytesM f p (S.take (j + 1)) = (l ++ (addM f (plc k0) x).1, (addM f (plc k0) x).2)) := by rw [HTS.out, bytesM_snoc, ← hk0, ← hl]; rfl
      rw [← hl, ← hk0] at hB
      have HB1 := hide' hB
      obtain ⟨k, hk⟩ : ∃ k, k = plc k0 := ⟨_, rfl⟩
      have HK : Hid (k = plc k0) := hk
      have HKR : Hid (0 ≤ k ∧ k ≤ 1073741824) := by rw [hk]; exact plc_range k0
      rw [← hk] at HNEXT
      clear hx hl hk0 hk hB HR HTS hjl
      obtain ⟨c0, c1, f0, f1⟩ := HB1.out.box
      simp only at c0 c1
      go_upto_if 27 with fail
      go_cut [] (fun wx => Hid (BB w B P l k (.slice pa pn pc) wx))
      case first =>
        by_cases ht : 1073741824 < k0
        · have e : k = 0 := by rw [HK.out]; unfold plc; rw [if_pos (.inr ht)]
          go_wp2_with fail
          go_meet
          rw [e]
          exact HB1.out.col
        · have e : k = k0 := by rw [HK.out]; unfold plc; rw [if_neg (by have := HLL.out.2; omega)]
          go_wp2_with fail
          go_meet
          rw [e]
          exact HB1.out
      case rest =>
      obtain ⟨w2, hw2⟩ : ∃ z, z = wc := ⟨_, rfl⟩
      rw [← hw2] at hcut ⊢
      clear hw2 c0 c1 f0 f1 HB1 HK
      have HB2 := hide' hcut.out
      clear hcut
      obtain ⟨k2, hk2⟩ : ∃ z, z = (addM f k x).2 := ⟨_, rfl⟩
      obtain ⟨lr, hlr⟩ : ∃ z, z = rbA o k x := ⟨_, rfl⟩
      have HX : Hid (∀ w1, Calls Try.prog 15 #[.int .i64 o, .int .i64 k, .int .u8 x] w1 (Posts lr k2 w1)) := fun w1 => by rw [hlr, hk2, HFC.out]; exact rbyte15 o k x w1 HKR.out.1 HKR.out.2 HXW.out
      have HLR := hide' hlr
      have HK2 := hide' hk2
      have HPB : Hid (P < w2.heap.size ∧ b < w2.heap.size) := ⟨HB2.out.box.lt, by have := HB2.out.acc.stay.size; have := HBB.out; omega⟩
      clear hk2 hlr
      go_upto_region 9 with fail
      go_cut [9] (fun s9 wx => ∃ Q qa qn qc, s9 = .pointer (some ⟨Q, 0, none⟩) ∧ Hid (QB w2 Q lr k2 (.slice qa qn qc) wx))
      case first =>
        refine any_begin (fun w' => w'.cell? ⟨P, 1, none⟩ = some (.int .i64 k) ∧ w'.cell? ⟨b, off + j, none⟩ = some (.int .u8 x)) (by kernel_rfl) (fun K0 hK0 => ?_)
        obtain ⟨wd, hwd⟩ : ∃ z, z = w2.drew := ⟨_, rfl⟩
        have hst : Stay (fun _ => False) w2 wd := by rw [hwd]; exact (Stay.refl _ _).drew
        have HWD := hide' hst
        have HB := hide' (HB2.out.keep hst)
        have HSF : Hid ((fun w' => w'.cell? ⟨P, 1, none⟩ = some (.int .i64 k) ∧ w'.cell? ⟨b, off + j, none⟩ = some (.int .u8 x)) wd) := ⟨HB.out.box.c1, keep_cell HB.out.acc.stay HXC.out⟩
        rw [← hwd]
        clear hwd hst
        refine any_take (i := 0) hK0 (some 29) (.move (.tmp 0)) 3 _ (by kernel_rfl) (fun _ d _ _ _ h => by cases d <;> exact h) (by kernel_rfl) (by kernel_rfl) (fun w' hS' => by simp only [opr]; go_simp; try with_reducible rfl) HSF.out (fun K1 hK1 => ?_)
        clear hK0 K0
        try simp only [Act.put, List.setIfInBounds_toArray, List.set_cons_zero, List.set_cons_succ]
        refine any_take (i := 1) hK1 (some 30) (.fieldAddr 27 (.tmp 7) 1) 0 _ (by kernel_rfl) (fun _ d _ _ _ h => by cases d <;> exact h) (by kernel_rfl) (by kernel_rfl) (fun w' hS' => by simp only [opr]; go_simp; try with_reducible rfl) HSF.out (fun K2 hK2 => ?_)
        clear hK1 K1
        try simp only [Act.put, List.setIfInBounds_toArray, List.set_cons_zero, List.set_cons_succ]
        refine any_take (i := 2) hK2 (some 31) (.load 3 (.tmp 30)) 3 _ (by kernel_rfl) (fun _ d _ _ _ h => by cases d <;> exact h) (by kernel_rfl) (by kernel_rfl) (fun w' hS' => by (obtain ⟨s0, s1⟩ := hS'; simp only [opr]; go_simp; try with_reducible rfl)) HSF.out (fun K3 hK3 => ?_)
        clear hK2 K2
        try simp only [Act.put, List.setIfInBounds_toArray, List.set_cons_zero, List.set_cons_succ]
        refine any_take (i := 3) hK3 (some 32) (.move (.tmp 2)) 22 _ (by kernel_rfl) (fun _ d _ _ _ h => by cases d <;> exact h) (by kernel_rfl) (by kernel_rfl) (fun w' hS' => by simp only [opr]; go_simp; try with_reducible rfl) HSF.out (fun K4 hK4 => ?_)
        clear hK3 K3
        try simp only [Act.put, List.setIfInBounds_toArray, List.set_cons_zero, List.set_cons_succ]
        refine any_take (i := 4) hK4 (some 33) (.move (.tmp 8)) 3 _ (by kernel_rfl) (fun _ d _ _ _ h => by cases d <;> exact h) (by kernel_rfl) (by kernel_rfl) (fun w' hS' => by simp only [opr]; go_simp; try with_reducible rfl) HSF.out (fun K5 hK5 => ?_)
        clear hK4 K4
        try simp only [Act.put, List.setIfInBounds_toArray, List.set_cons_zero, List.set_cons_succ]
        refine any_take (i := 5) hK5 (some 34) (.indexAddr 22 (.tmp 32) (.tmp 33)) 0 _ (by kernel_rfl) (fun _ d _ _ _ h => by cases d <;> exact h) (by kernel_rfl) (by kernel_rfl) (fun w' hS' => by (obtain ⟨s0, s1⟩ := hS'; simp only [opr]; go_simp; try with_reducible rfl)) HSF.out (fun K6 hK6 => ?_)
        clear hK5 K5
        try simp only [Act.put, List.setIfInBounds_toArray, List.set_cons_zero, List.set_cons_succ]
        refine any_take (i := 6) hK6 (some 35) (.load 5 (.tmp 34)) 5 _ (by kernel_rfl) (fun _ d _ _ _ h => by cases d <;> exact h) (by kernel_rfl) (by kernel_rfl) (fun w' hS' => by (obtain ⟨s0, s1⟩ := hS'; simp only [opr]; go_simp; try with_reducible rfl)) HSF.out (fun K7 hK7 => ?_)
        clear hK6 K6
        try simp only [Act.put, List.setIfInBounds_toArray, List.set_cons_zero, List.set_cons_succ]
        refine any_pick (rs := [7, 8]) hK7 (by kernel_rfl) (fun K8 hK8 => ?_)
        clear hK7 K7
        intro i hi
        simp only [List.mem_cons, List.not_mem_nil, or_false] at hi
        rcases hi with rfl | rfl
        · refine op_plain (some 36) (.call { callee := Callee.value (.func 15), args := #[.tmp 29, .tmp 31, .tmp 35], argTypes := #[3, 3, 5] }) 27 (by kernel_rfl) (by kernel_rfl) ?_
          go_wp2_with fail
          refine (HX.out wd).mono ?_
          rintro e wf1 ⟨va, rfl, ha⟩
          obtain ⟨qa, qc, hv⟩ := ha.shape
          obtain ⟨qn, hqn⟩ : ∃ n, n = lr.length := ⟨_, rfl⟩
          rw [← hqn] at hv
          subst hv
          have HV := hide' ha
          clear hqn
          have hst : Stay (fun _ => False) wd wf1 := ha.stay
          clear ha
          have HWC := hide' HWD.out
          have HWD' := hide' (HWD.out.trans hst)
          clear HWD
          have HWD := HWD'
          clear HWD'
          have HB' := hide' (HB.out.keep hst)
          have HSF' := hide' (show (fun w' => w'.cell? ⟨P, 1, none⟩ = some (.int .i64 k) ∧ w'.cell? ⟨b, off + j, none⟩ = some (.int .u8 x)) wf1 from ⟨keep_cell hst HSF.out.1, keep_cell hst HSF.out.2⟩)
          clear HB
          have HB := HB'
          clear HB'
          clear HSF
          have HSF := HSF'
          clear HSF'
          clear hst
          go_wp2
          refine hK8 7 (by simp) _ _ HSF.out (any_more fun K9 hK9 => ?_)
          clear hK8 K8
          refine any_pick (rs := [8]) hK9 (by kernel_rfl) (fun K10 hK10 => ?_)
          clear hK9 K9
          intro i hi
          simp only [List.mem_cons, List.not_mem_nil, or_false] at hi
          rcases hi with rfl
          refine op_plain (some 9) (.alloc 27) 0 (by kernel_rfl) (by kernel_rfl) ?_
          go_wp2
          have hst : Stay (fun _ => False) wf1 (wf1.alloc (.cells #[.slice none 0 0, .int .i64 0] 27)) := (Stay.refl _ _).alloc _
          have HQB : Hid (PBox (wf1.alloc (.cells #[.slice none 0 0, .int .i64 0] 27)) wf1.heap.size ⟨.slice none 0 0, 0⟩) := PBox.new ⟨.slice none 0 0, 0⟩ rfl
          have hqv : ¬ (Value.slice qa qn qc).ownBlock = some wf1.heap.size := fun e => by have := (HV.out.own.lt _ e).2; omega
          have HV' := hide' (HV.out.keep hst)
          clear HV
          have HV := HV'
          clear HV'
          obtain ⟨Q, hQ⟩ : ∃ Q, Q = wf1.heap.size := ⟨_, rfl⟩
          rw [← hQ] at HQB hqv ⊢
          obtain ⟨wf2, hW⟩ : ∃ z, z = wf1.alloc (.cells #[.slice none 0 0, .int .i64 0] 27) := ⟨_, rfl⟩
          rw [← hW] at hst HQB HV ⊢
          have HNQ : Hid (w2.heap.size ≤ Q ∧ ¬ (Value.slice qa qn qc).ownBlock = some Q) := ⟨by rw [hQ]; exact HWD.out.size, hqv⟩
          clear hqv
          have HWD' := hide' (HWD.out.trans hst)
          clear HWD
          have HWD := HWD'
          clear HWD'
          clear hW hQ
          have HB' := hide' (HB.out.keep hst)
          have HSF' := hide' (show (fun w' => w'.cell? ⟨P, 1, none⟩ = some (.int .i64 k) ∧ w'.cell? ⟨b, off + j, none⟩ = some (.int .u8 x)) wf2 from ⟨keep_cell hst HSF.out.1, keep_cell hst HSF.out.2⟩)
          clear HB
          have HB := HB'
          clear HB'
          clear HSF
          have HSF := HSF'
          clear HSF'
          clear hst
          refine hK10 8 (by simp) _ _ HSF.out (any_more fun K11 hK11 => ?_)
          clear hK10 K10
          refine any_pick (rs := [9]) hK11 (by kernel_rfl) (fun K12 hK12 => ?_)
          clear hK11 K11
          intro i hi
          simp only [List.mem_cons, List.not_mem_nil, or_false] at hi
          rcases hi with rfl
          refine op_plain none (.store 27 (.tmp 9) (.tmp 36)) 0 (by kernel_rfl) (by kernel_rfl) ?_
          have HACC : Hid (Acc w2 wf2 (.slice qa qn qc) lr) := HV.out.older HWC.out
          have HNO : Hid (¬ (Value.slice qa qn qc).ownBlock = some Q) := HNQ.out.2
          have HNP : Hid (P < w2.heap.size ∧ b < w2.heap.size ∧ w2.heap.size ≤ Q) := ⟨HPB.out.1, HPB.out.2, HNQ.out.1⟩
          obtain ⟨c0, c1, f0, f1⟩ := HQB.out
          simp only at c0 c1
          go_wp2
          clear c0 c1 f0 f1
          obtain ⟨wf3, hW⟩ : ∃ z, z = (wf2.setCell ⟨Q, 0, none⟩ (.slice qa qn qc)).setCell ⟨Q, 1, none⟩ (.int .i64 k2) := ⟨_, rfl⟩
          rw [← hW]
          have hst : Stay (fun j => j = Q) wf2 wf3 := by rw [hW]; exact ((Stay.refl (fun j => j = Q) wf2).setCell (p := ⟨Q, 0, none⟩) rfl _).setCell (p := ⟨Q, 1, none⟩) rfl _
          have HFIN : Hid (QB w2 Q lr k2 (.slice qa qn qc) wf3) := ⟨HACC.out.other HNQ.out.1 HNO.out hst, by rw [hW]; exact HQB.out.put ⟨.slice qa qn qc, k2⟩, HNQ.out.1, HNO.out⟩
          have HSF' : Hid ((fun w' => w'.cell? ⟨P, 1, none⟩ = some (.int .i64 k) ∧ w'.cell? ⟨b, off + j, none⟩ = some (.int .u8 x)) wf3) := by
            have h1 := HNP.out
            exact ⟨(hst.cell (p := ⟨P, 1, none⟩) (HB.out.box.lt) (fun e => by have e2 : P = Q := e; omega)).trans HSF.out.1, (hst.cell (p := ⟨b, off + j, none⟩) (World.block_lt_of_cell? _ _ HSF.out.2) (fun e => by have e2 : b = Q := e; omega)).trans HSF.out.2⟩
          clear HSF
          have HSF := HSF'
          clear HSF'
          clear hW hst
          refine hK12 9 (by simp) _ _ HSF.out (any_more fun K13 hK13 => ?_)
          clear hK12 K12
          refine any_done hK13 (by kernel_rfl) ?_
          clear hK13 K13
          go_wp2_with fail
          go_meet
          exact ⟨Q, qa, qn, qc, rfl, HFIN.out⟩
        · refine op_plain (some 9) (.alloc 27) 0 (by kernel_rfl) (by kernel_rfl) ?_
          go_wp2
          have hst : Stay (fun _ => False) wd (wd.alloc (.cells #[.slice none 0 0, .int .i64 0] 27)) := (Stay.refl _ _).alloc _
          have HQB : Hid (PBox (wd.alloc (.cells #[.slice none 0 0, .int .i64 0] 27)) wd.heap.size ⟨.slice none 0 0, 0⟩) := PBox.new ⟨.slice none 0 0, 0⟩ rfl
          obtain ⟨Q, hQ⟩ : ∃ Q, Q = wd.heap.size := ⟨_, rfl⟩
          rw [← hQ] at HQB ⊢
          obtain ⟨wf4, hW⟩ : ∃ z, z = wd.alloc (.cells #[.slice none 0 0, .int .i64 0] 27) := ⟨_, rfl⟩
          rw [← hW] at hst HQB ⊢
          have HNQ : Hid (w2.heap.size ≤ Q ∧ Q < wf4.heap.size) := ⟨by rw [hQ]; exact HWD.out.size, HQB.out.lt⟩
          have HWD' := hide' (HWD.out.trans hst)
          clear HWD
          have HWD := HWD'
          clear HWD'
          clear hW hQ
          have HB' := hide' (HB.out.keep hst)
          have HSF' := hide' (show (fun w' => w'.cell? ⟨P, 1, none⟩ = some (.int .i64 k) ∧ w'.cell? ⟨b, off + j, none⟩ = some (.int .u8 x)) wf4 from ⟨keep_cell hst HSF.out.1, keep_cell hst HSF.out.2⟩)
          clear HB
          have HB := HB'
          clear HB'
          clear HSF
          have HSF := HSF'
          clear HSF'
          clear hst
          refine hK8 8 (by simp) _ _ HSF.out (any_more fun K9 hK9 => ?_)
          clear hK8 K8
          refine any_pick (rs := [7]) hK9 (by kernel_rfl) (fun K10 hK10 => ?_)
          clear hK9 K9
          intro i hi
          simp only [List.mem_cons, List.not_mem_nil, or_false] at hi
          rcases hi with rfl
          refine op_plain (some 36) (.call { callee := Callee.value (.func 15), args := #[.tmp 29, .tmp 31, .tmp 35], argTypes := #[3, 3, 5] }) 27 (by kernel_rfl) (by kernel_rfl) ?_
          go_wp2_with fail
          refine (HX.out wf4).mono ?_
          rintro e wf5 ⟨va, rfl, ha⟩
          obtain ⟨qa, qc, hv⟩ := ha.shape
          obtain ⟨qn, hqn⟩ : ∃ n, n = lr.length := ⟨_, rfl⟩
          rw [← hqn] at hv
          subst hv
          have HV := hide' ha
          clear hqn
          have hst : Stay (fun _ => False) wf4 wf5 := ha.stay
          clear ha
          have HWC := hide' HWD.out
          have HWD' := hide' (HWD.out.trans hst)
          clear HWD
          have HWD := HWD'
          clear HWD'
          have HQB' := hide' (HQB.out.keep hst)
          clear HQB
          have HQB := HQB'
          clear HQB'
          have HB' := hide' (HB.out.keep hst)
          have HSF' := hide' (show (fun w' => w'.cell? ⟨P, 1, none⟩ = some (.int .i64 k) ∧ w'.cell? ⟨b, off + j, none⟩ = some (.int .u8 x)) wf5 from ⟨keep_cell hst HSF.out.1, keep_cell hst HSF.out.2⟩)
          clear HB
          have HB := HB'
          clear HB'
          clear HSF
          have HSF := HSF'
          clear HSF'
          clear hst
          go_wp2
          refine hK10 7 (by simp) _ _ HSF.out (any_more fun K11 hK11 => ?_)
          clear hK10 K10
          refine any_pick (rs := [9]) hK11 (by kernel_rfl) (fun K12 hK12 => ?_)
          clear hK11 K11
          intro i hi
          simp only [List.mem_cons, List.not_mem_nil, or_false] at hi
          rcases hi with rfl
          refine op_plain none (.store 27 (.tmp 9) (.tmp 36)) 0 (by kernel_rfl) (by kernel_rfl) ?_
          have HACC : Hid (Acc w2 wf5 (.slice qa qn qc) lr) := HV.out.older HWC.out
          have HNO : Hid (¬ (Value.slice qa qn qc).ownBlock = some Q) := (fun e => by have h1 := (HV.out.own.lt Q e).1; have h2 := HNQ.out.2; omega)
          have HNP : Hid (P < w2.heap.size ∧ b < w2.heap.size ∧ w2.heap.size ≤ Q) := ⟨HPB.out.1, HPB.out.2, HNQ.out.1⟩
          obtain ⟨c0, c1, f0, f1⟩ := HQB.out
          simp only at c0 c1
          go_wp2
          clear c0 c1 f0 f1
          obtain ⟨wf6, hW⟩ : ∃ z, z = (wf5.setCell ⟨Q, 0, none⟩ (.slice qa qn qc)).setCell ⟨Q, 1, none⟩ (.int .i64 k2) := ⟨_, rfl⟩
          rw [← hW]
          have hst : Stay (fun j => j = Q) wf5 wf6 := by rw [hW]; exact ((Stay.refl (fun j => j = Q) wf5).setCell (p := ⟨Q, 0, none⟩) rfl _).setCell (p := ⟨Q, 1, none⟩) rfl _
          have HFIN : Hid (QB w2 Q lr k2 (.slice qa qn qc) wf6) := ⟨HACC.out.other HNQ.out.1 HNO.out hst, by rw [hW]; exact HQB.out.put ⟨.slice qa qn qc, k2⟩, HNQ.out.1, HNO.out⟩
          have HSF' : Hid ((fun w' => w'.cell? ⟨P, 1, none⟩ = some (.int .i64 k) ∧ w'.cell? ⟨b, off + j, none⟩ = some (.int .u8 x)) wf6) := by
            have h1 := HNP.out
            exact ⟨(hst.cell (p := ⟨P, 1, none⟩) (HB.out.box.lt) (fun e => by have e2 : P = Q := e; omega)).trans HSF.out.1, (hst.cell (p := ⟨b, off + j, none⟩) (World.block_lt_of_cell? _ _ HSF.out.2) (fun e => by have e2 : b = Q := e; omega)).trans HSF.out.2⟩
          clear HSF
          have HSF := HSF'
          clear HSF'
          clear hW hst
          refine hK12 9 (by simp) _ _ HSF.out (any_more fun K13 hK13 => ?_)
          clear hK12 K12
          refine any_done hK13 (by kernel_rfl) ?_
          clear hK13 K13
          go_wp2_with fail
          go_meet
          exact ⟨Q, qa, qn, qc, rfl, HFIN.out⟩
      case rest =>
      obtain ⟨Q, qa, qn, qc, rfl, HQ⟩ := hcut
      obtain ⟨w3, hw3⟩ : ∃ z, z = wc := ⟨_, rfl⟩
      rw [← hw3] at HQ ⊢
      clear hw3 HX HPB
      have HP3 : Hid (¬ P = Q) := fun e => by have h1 := HB2.out.box.lt; have h2 := HQ.out.nq; omega
      have HB3 := hide' (HB2.out.keep HQ.out.acc.stay)
      have HX3 : w3.cell? ⟨b, off + j, none⟩ = some (.int .u8 x) := keep_cell HB3.out.acc.stay HXC.out
      obtain ⟨t, ht⟩ : ∃ t, t = (decide (x = 9) && (has o 1 && has o 32)) := ⟨_, rfl⟩
      have HT := hide' ht
      clear ht
      go_upto_region 10 with fail
      go_cut [49] (fun s49 wx => s49 = .bool t ∧ Hid (Stay (fun _ => False) w3 wx))
      case first =>
        by_cases e9 : x = 9
        · subst e9
          have HF1 := hide' (HF.out 1)
          have HF32 := hide' (HF.out 32)
          obtain ⟨t1, ht1⟩ : ∃ t, t = has o 1 := ⟨_, rfl⟩
          obtain ⟨t2, ht2⟩ : ∃ t, t = has o 32 := ⟨_, rfl⟩
          have HTT : Hid (t = (t1 && t2)) := by show t = _; rw [HT.out, ht1, ht2]; simp
          rw [← ht1] at HF1
          rw [← ht2] at HF32
          clear ht1 ht2
          cases t1
          · go_wp2_with fail
            refine (HF1.out _).mono ?_
            rintro e w4 ⟨rfl, hs⟩
            have HS4 := hide' hs
            clear hs
            go_wp2_with fail
            go_meet
            exact ⟨by rw [HTT.out]; rfl, HS4.out⟩
          · go_wp2_with fail
            refine (HF1.out _).mono ?_
            rintro e w4 ⟨rfl, hs⟩
            have HS4 := hide' hs
            clear hs
            go_wp2_with fail
            refine (HF32.out _).mono ?_
            rintro e w5 ⟨rfl, hs⟩
            have HS5 := hide' (HS4.out.trans hs)
            clear hs HS4
            go_wp2_with fail
            go_meet
            exact ⟨by rw [HTT.out]; simp, HS5.out⟩
        · have d9 : (x == 9) = false := beq_f e9
          have HTT : Hid (t = false) := by show t = _; rw [HT.out]; simp [e9]
          go_wp2_with fail
          go_meet
          exact ⟨by rw [HTT.out], Stay.refl _ _⟩
      case rest =>
      obtain ⟨rfl, HS4⟩ := hcut
      obtain ⟨w4, hw4⟩ : ∃ z, z = wc := ⟨_, rfl⟩
      rw [← hw4] at HS4 ⊢
      clear hw4 HX3
      have HB4 := hide' (HB3.out.keep HS4.out)
      have HQ4 := hide' (HQ.out.keep HS4.out)
      clear HB3 HQ HS4
      obtain ⟨lq, hlq⟩ : ∃ z, z = (addM f k x).1 := ⟨_, rfl⟩
      have HLQ := hide' hlq
      rw [← hlq, HK2.out.symm] at HNEXT
      clear hlq
      go_upto_if 49 with fail
      go_cut [] (fun wx => Hid (∃ qa qn qc, QB w2 Q lq k2 (.slice qa qn qc) wx))
      case first =>
        cases t
        · have e : lr = lq := by
            rw [HLR.out, HLQ.out, HFC.out]
            unfold rbA
            rw [if_neg]
            rintro ⟨g1, g2, g3⟩
            have := HT.out
            rw [g1, g2, g3] at this
            exact absurd this (by decide)
          go_wp2_with fail
          go_meet
          exact ⟨qa, qn, qc, by rw [← e]; exact HQ4.out⟩
        · have hh : x = 9 ∧ has o 1 = true ∧ has o 32 = true := by
            have := HT.out.symm
            simpa using this
          obtain ⟨m, hm⟩ : ∃ m : Nat, m = (8 - k % 8).toNat := ⟨_, rfl⟩
          have HM : Hid (lr = [] ∧ lq = List.replicate m 32 ∧ k2 = k + m ∧ m ≤ 8) := by
            obtain ⟨rfl, g1, g2⟩ := hh
            have hf : f = o := by rw [HFC.out, cnt_same g1]
            refine ⟨?_, ?_, ?_, by omega⟩
            · rw [HLR.out]
              unfold rbA
              rw [if_pos ⟨g1, rfl, g2⟩]
            · rw [HLQ.out, hf, addM_9, g2, hm]; rfl
            · rw [HK2.out, hf, addM_9, g2, hm]
              show k + 8 - k % 8 = _
              omega
          have HQ5 : Hid (QB w2 Q [] k2 (.slice qa qn qc) w4) := by have := HQ4.out; rw [HM.out.1] at this; exact this
          obtain ⟨c0, c1, f0, f1⟩ := HB4.out.box
          simp only at c0 c1
          clear hh hm HQ4
          go_wp2_with fail
          clear c0 c1 f0 f1
          go_loopg [10] m (fun gg v10 wr => ∃ i : Nat, i ≤ m ∧ gg = m - i ∧ ∃ kc : Int, v10 = .int .i64 kc ∧ Hid (kc = k + i ∧ ∃ qa qn qc, QB w2 Q (List.replicate i 32) k2 (.slice qa qn qc) wr))
          case atStart => exact ⟨0, Nat.zero_le _, rfl, k, rfl, by show k = k + ((0 : Nat) : Int); omega, qa, qn, qc, HQ5.out⟩
          case round =>
            clear HQ5
            obtain ⟨i, hi, rfl, kc, rfl, HI2⟩ := hrel
            obtain ⟨ra, rn, rc, hQ⟩ := HI2.out.2
            have HQ6 := hide' hQ
            obtain ⟨c0, c1, f0, f1⟩ := hQ.box
            simp only at c0 c1
            clear hQ
            by_cases hli : i < m
            · have d1 : decide (kc < k2) = true := by have := HI2.out.1; have := HM.out; simp; omega
              have wk : IntKind.i64.wrap (kc + 1) = kc + 1 := by rw [IntKind.wrap_i64]; have := HI2.out.1; have := HM.out; have := HKR.out; omega
              have HNR : Hid ((List.replicate i (32 : Int)).length ≤ 900000) := by
                show (List.replicate i (32 : Int)).length ≤ 900000
                rw [List.length_replicate]
                have := HM.out.2.2.2
                omega
              go_wp2_with (at_builtin; go_must (refine acc_grow rfl _ _ rfl HQ6.out.acc rfl rfl (by decide) HNR.out ?_; intro va wa ha hsa hba; obtain ⟨xa, xc, hv⟩ := ha.shape; obtain ⟨xn, hxn⟩ : ∃ n, n = (List.replicate i 32 ++ [(32 : Int)]).length := ⟨_, rfl⟩; rw [← hxn] at hv; subst hv; have HFI := hide' (HQ6.out.put (.inr ⟨ha, hsa, hba⟩)); obtain ⟨e0, e1, g0, g1⟩ := HQ6.out.box.stay hsa (fun e => e.elim HQ6.out.oq (fun h2 => by have := HQ6.out.box.lt; omega)); simp only at e0 e1; clear c0 c1 f0 f1 ha hsa hba hxn; go_wp2_with fail))
              go_roundg (m - (i + 1))
              case measure => omega
              case rel => exact ⟨i + 1, by omega, rfl, kc + 1, by first | rfl | go_num, by have := HI2.out.1; show kc + 1 = k + ((i + 1 : Nat) : Int); omega, xa, xn, xc, by rw [List.replicate_succ']; exact HFI.out⟩
            · have d1 : decide (kc < k2) = false := by have := HI2.out.1; have := HM.out; simp; omega
              have e : i = m := by omega
              go_wp2_with fail
              go_meet
              exact ⟨ra, rn, rc, by rw [HM.out.2.1, ← e]; exact HQ6.out⟩
      case rest =>
      obtain ⟨w5, hw5⟩ : ∃ z, z = wc := ⟨_, rfl⟩
      rw [← hw5] at hcut ⊢
      clear hw5 HQ4 HB4
      obtain ⟨qa, qn, qc, hQ⟩ := hcut.out
      have HQ5 := hide' hQ
      have HB5 := hide' (HB2.out.keep hQ.acc.stay)
      have HLL2 : Hid (l.length ≤ 80000 ∧ lq.length ≤ 8) := ⟨HLL.out.1, by rw [HLQ.out]; exact addM_len f k x⟩
      clear HLL
      have HLL := hide' HLL2.out
      clear hcut hQ HLL2
      go_upto_region 15 with fail
      refine any_begin (fun w' => PBox w' Q ⟨.slice qa qn qc, k2⟩) (by kernel_rfl) (fun K0 hK0 => ?_)
      obtain ⟨wd, hwd⟩ : ∃ z, z = w5.drew := ⟨_, rfl⟩
      have hst : Stay (fun _ => False) w5 wd := by rw [hwd]; exact (Stay.refl _ _).drew
      have HBD := hide' (HB5.out.keep hst)
      have HQD := hide' (HQ5.out.keep hst)
      have HSF : Hid ((fun w' => PBox w' Q ⟨.slice qa qn qc, k2⟩) wd) := HQD.out.box
      have HQP : Hid (¬ Q = P) := fun e => HP3.out e.symm
      obtain ⟨pia, pic, hPA⟩ := HBD.out.acc.arg
      have HPA := hide' hPA
      obtain ⟨qia, qic, hQA⟩ := HQD.out.acc.arg
      have HQA := hide' hQA
      rw [← hwd]
      clear hwd hst hPA hQA
      refine any_take (i := 1) hK0 (some 64) (.fieldAddr 27 (.tmp 7) 0) 0 _ (by kernel_rfl) (fun _ d _ _ _ h => by cases d <;> exact h) (by kernel_rfl) (by kernel_rfl) (fun w' hS' => by simp only [opr]; go_simp; try with_reducible rfl) HSF.out (fun K1 hK1 => ?_)
      clear hK0 K0
      try simp only [Act.put, List.setIfInBounds_toArray, List.set_cons_zero, List.set_cons_succ]
      refine any_take (i := 4) hK1 (some 67) (.fieldAddr 27 (.tmp 9) 0) 0 _ (by kernel_rfl) (fun _ d _ _ _ h => by cases d <;> exact h) (by kernel_rfl) (by kernel_rfl) (fun w' hS' => by simp only [opr]; go_simp; try with_reducible rfl) HSF.out (fun K2 hK2 => ?_)
      clear hK1 K1
      try simp only [Act.put, List.setIfInBounds_toArray, List.set_cons_zero, List.set_cons_succ]
      refine any_take (i := 5) hK2 (some 68) (.load 22 (.tmp 67)) 22 _ (by kernel_rfl) (fun _ d _ _ _ h => by cases d <;> exact h) (by kernel_rfl) (by kernel_rfl) (fun w' hS' => by (obtain ⟨s0, s1, _, _⟩ := hS'; simp only at s0 s1; simp only [opr]; go_simp; try with_reducible rfl)) HSF.out (fun K3 hK3 => ?_)
      clear hK2 K2
      try simp only [Act.put, List.setIfInBounds_toArray, List.set_cons_zero, List.set_cons_succ]
      refine any_take (i := 7) hK3 (some 70) (.fieldAddr 27 (.tmp 9) 1) 0 _ (by kernel_rfl) (fun _ d _ _ _ h => by cases d <;> exact h) (by kernel_rfl) (by kernel_rfl) (fun w' hS' => by simp only [opr]; go_simp; try with_reducible rfl) HSF.out (fun K4 hK4 => ?_)
      clear hK3 K3
      try simp only [Act.put, List.setIfInBounds_toArray, List.set_cons_zero, List.set_cons_succ]
      refine any_take (i := 8) hK4 (some 71) (.load 3 (.tmp 70)) 3 _ (by kernel_rfl) (fun _ d _ _ _ h => by cases d <;> exact h) (by kernel_rfl) (by kernel_rfl) (fun w' hS' => by (obtain ⟨s0, s1, _, _⟩ := hS'; simp only at s0 s1; simp only [opr]; go_simp; try with_reducible rfl)) HSF.out (fun K5 hK5 => ?_)
      clear hK4 K4
      try simp only [Act.put, List.setIfInBounds_toArray, List.set_cons_zero, List.set_cons_succ]
      refine any_pick (rs := [0, 2]) hK5 (by kernel_rfl) (fun K6 hK6 => ?_)
      clear hK5 K5
      intro i hi
      simp only [List.mem_cons, List.not_mem_nil, or_false] at hi
      rcases hi with rfl | rfl
      · refine op_plain (some 63) (.buildSlice 22 0 #[]) 22 (by kernel_rfl) (by kernel_rfl) ?_
        go_wp2
        have hst : Stay (fun _ => False) wd (wd.alloc (.cells #[] 5)) := (Stay.refl _ _).alloc _
        have HA0 := hide' (Acc.new wd #[] [] 0 rfl rfl (fun x hx => by simp at hx) (by omega))
        have HSF' := hide' (HSF.out.keep hst)
        clear HSF
        have HSF := HSF'
        clear HSF'
        obtain ⟨g0, hg0⟩ : ∃ g, g = wd.heap.size := ⟨_, rfl⟩
        rw [← hg0] at HA0 ⊢
        clear hg0
        obtain ⟨wg7, hW⟩ : ∃ z, z = wd.alloc (.cells #[] 5) := ⟨_, rfl⟩
        rw [← hW] at HA0 HSF ⊢
        clear hW hst
        refine hK6 0 (by simp) _ _ HSF.out (any_more fun K7 hK7 => ?_)
        clear hK6 K6
        refine any_pick (rs := [2]) hK7 (by kernel_rfl) (fun K8 hK8 => ?_)
        clear hK7 K7
        intro i hi
        simp only [List.mem_cons, List.not_mem_nil, or_false] at hi
        rcases hi with rfl
        refine op_plain (some 65) (.load 22 (.tmp 64)) 22 (by kernel_rfl) (by kernel_rfl) ?_
        have hpb := HBD.out.box.keep (HA0.out.stay)
        obtain ⟨c0, c1, f0, f1⟩ := hpb
        simp only at c0 c1
        go_wp2
        clear c0 c1 f0 f1
        refine hK8 2 (by simp) _ _ HSF.out (any_more fun K9 hK9 => ?_)
        clear hK8 K8
        refine any_pick (rs := [3]) hK9 (by kernel_rfl) (fun K10 hK10 => ?_)
        clear hK9 K9
        intro i hi
        simp only [List.mem_cons, List.not_mem_nil, or_false] at hi
        rcases hi with rfl
        refine op_plain (some 66) (.call { callee := Callee.builtin Builtin.append, args := #[.tmp 63, .tmp 65], argTypes := #[22, 22] }) 22 (by kernel_rfl) (by kernel_rfl) ?_
        have HSQ := hide' (HSF.out)
        have HPI := hide' (HPA.out.stay0 HA0.out.stay)
        have HLN : Hid (([] : List Int).length + l.length ≤ 1000000) := by have := HLL.out; show ([] : List Int).length + l.length ≤ 1000000; simp; omega
        go_wp2_with (at_builtin; go_must (refine acc_app rfl _ _ rfl HA0.out rfl HPI.out rfl HLN.out ?_; intro v1 wg8 ha; have HA1 := hide' ha; clear ha))
        have HSF' : Hid ((fun w' => PBox w' Q ⟨.slice qa qn qc, k2⟩) wg8) := (HQD.out.keep HA1.out.stay).box
        clear HSQ HA0 HPI HLN
        clear HSF
        have HSF := HSF'
        clear HSF'
        refine hK10 3 (by simp) _ _ HSF.out (any_more fun K11 hK11 => ?_)
        clear hK10 K10
        refine any_pick (rs := [6]) hK11 (by kernel_rfl) (fun K12 hK12 => ?_)
        clear hK11 K11
        intro i hi
        simp only [List.mem_cons, List.not_mem_nil, or_false] at hi
        rcases hi with rfl
        refine op_plain (some 69) (.call { callee := Callee.builtin Builtin.append, args := #[.tmp 66, .tmp 68], argTypes := #[22, 22] }) 22 (by kernel_rfl) (by kernel_rfl) ?_
        have HQI := hide' (HQA.out.stay0 HA1.out.stay)
        have HLN : Hid ((([] : List Int) ++ l).length + lq.length ≤ 1000000) := by have := HLL.out; show (([] : List Int) ++ l).length + lq.length ≤ 1000000; simp; omega
        go_wp2_with (at_builtin; go_must (refine acc_app rfl _ _ rfl HA1.out rfl HQI.out rfl HLN.out ?_; intro v2 wg9 ha; obtain ⟨va, vc, hv⟩ := ha.shape; obtain ⟨vn, hvn⟩ : ∃ n, n = ([] ++ l ++ lq).length := ⟨_, rfl⟩; rw [← hvn] at hv; subst hv; have HA2 := hide' ha; clear ha hvn))
        have HSF' : Hid ((fun w' => PBox w' Q ⟨.slice qa qn qc, k2⟩) wg9) := (HQD.out.keep HA2.out.stay).box
        clear HA1 HQI HLN
        clear HSF
        have HSF := HSF'
        clear HSF'
        refine hK12 6 (by simp) _ _ HSF.out (any_more fun K13 hK13 => ?_)
        clear hK12 K12
        refine any_take (i := 9) hK13 (some 72) (.build 27 #[(0, .tmp 69), (1, .tmp 71)]) 27 _ (by kernel_rfl) (fun _ d _ _ _ h => by cases d <;> exact h) (by kernel_rfl) (by kernel_rfl) (fun w' hS' => by simp only [opr]; go_simp; try with_reducible rfl) HSF.out (fun K14 hK14 => ?_)
        clear hK13 K13
        try simp only [Act.put, List.setIfInBounds_toArray, List.set_cons_zero, List.set_cons_succ]
        refine any_pick (rs := [10]) hK14 (by kernel_rfl) (fun K15 hK15 => ?_)
        clear hK14 K14
        intro i hi
        simp only [List.mem_cons, List.not_mem_nil, or_false] at hi
        rcases hi with rfl
        refine op_plain none (.store 27 (.tmp 7) (.tmp 72)) 0 (by kernel_rfl) (by kernel_rfl) ?_
        obtain ⟨c0, c1, f0, f1⟩ := HBD.out.box.keep HA2.out.stay
        simp only at c0 c1
        go_wp2
        clear c0 c1 f0 f1
        have HFIN := hide' (HBD.out.next (k2 := k2) HA2.out)
        obtain ⟨wg10, hW⟩ : ∃ z, z = (wg9.setCell ⟨P, 0, none⟩ (.slice va vn vc)).setCell ⟨P, 1, none⟩ (.int .i64 k2) := ⟨_, rfl⟩
        rw [← hW] at HFIN ⊢
        have hst : Stay (fun j => j = P) wg9 wg10 := by rw [hW]; exact ((Stay.refl (fun j => j = P) wg9).setCell (p := ⟨P, 0, none⟩) rfl _).setCell (p := ⟨P, 1, none⟩) rfl _
        have HSF' : Hid ((fun w' => PBox w' Q ⟨.slice qa qn qc, k2⟩) wg10) := HSF.out.stay hst (fun e => HQP.out e)
        clear HSF
        have HSF := HSF'
        clear HSF'
        clear hW hst HA2
        refine hK15 10 (by simp) _ _ HSF.out (any_more fun K16 hK16 => ?_)
        clear hK15 K15
        refine any_done hK16 (by kernel_rfl) ?_
        clear hK16 K16
        go_wp2
        go_roundg (n - (j + 1))
        case measure => omega
        case rel => exact ⟨j + 1, by omega, rfl, by go_num, va, vn, vc, by rw [HNEXT.out]; exact HFIN.out⟩
      · refine op_plain (some 65) (.load 22 (.tmp 64)) 22 (by kernel_rfl) (by kernel_rfl) ?_
        have hpb := HBD.out.box.keep (Stay.refl _ _)
        obtain ⟨c0, c1, f0, f1⟩ := hpb
        simp only at c0 c1
        go_wp2
        clear c0 c1 f0 f1
        refine hK6 2 (by simp) _ _ HSF.out (any_more fun K7 hK7 => ?_)
        clear hK6 K6
        refine any_pick (rs := [0]) hK7 (by kernel_rfl) (fun K8 hK8 => ?_)
        clear hK7 K7
        intro i hi
        simp only [List.mem_cons, List.not_mem_nil, or_false] at hi
        rcases hi with rfl
        refine op_plain (some 63) (.buildSlice 22 0 #[]) 22 (by kernel_rfl) (by kernel_rfl) ?_
        go_wp2
        have hst : Stay (fun _ => False) wd (wd.alloc (.cells #[] 5)) := (Stay.refl _ _).alloc _
        have HA0 := hide' (Acc.new wd #[] [] 0 rfl rfl (fun x hx => by simp at hx) (by omega))
        have HSF' := hide' (HSF.out.keep hst)
        clear HSF
        have HSF := HSF'
        clear HSF'
        obtain ⟨g0, hg0⟩ : ∃ g, g = wd.heap.size := ⟨_, rfl⟩
        rw [← hg0] at HA0 ⊢
        clear hg0
        obtain ⟨wg11, hW⟩ : ∃ z, z = wd.alloc (.cells #[] 5) := ⟨_, rfl⟩
        rw [← hW] at HA0 HSF ⊢
        clear hW hst
        refine hK8 0 (by simp) _ _ HSF.out (any_more fun K9 hK9 => ?_)
        clear hK8 K8
        refine any_pick (rs := [3]) hK9 (by kernel_rfl) (fun K10 hK10 => ?_)
        clear hK9 K9
        intro i hi
        simp only [List.mem_cons, List.not_mem_nil, or_false] at hi
        rcases hi with rfl
        refine op_plain (some 66) (.call { callee := Callee.builtin Builtin.append, args := #[.tmp 63, .tmp 65], argTypes := #[22, 22] }) 22 (by kernel_rfl) (by kernel_rfl) ?_
        have HSQ := hide' (HSF.out)
        have HPI := hide' (HPA.out.stay0 HA0.out.stay)
        have HLN : Hid (([] : List Int).length + l.length ≤ 1000000) := by have := HLL.out; show ([] : List Int).length + l.length ≤ 1000000; simp; omega
        go_wp2_with (at_builtin; go_must (refine acc_app rfl _ _ rfl HA0.out rfl HPI.out rfl HLN.out ?_; intro v1 wg12 ha; have HA1 := hide' ha; clear ha))
        have HSF' : Hid ((fun w' => PBox w' Q ⟨.slice qa qn qc, k2⟩) wg12) := (HQD.out.keep HA1.out.stay).box
        clear HSQ HA0 HPI HLN
        clear HSF
        have HSF := HSF'
        clear HSF'
        refine hK10 3 (by simp) _ _ HSF.out (any_more fun K11 hK11 => ?_)
        clear hK10 K10
        refine any_pick (rs := [6]) hK11 (by kernel_rfl) (fun K12 hK12 => ?_)
        clear hK11 K11
        intro i hi
        simp only [List.mem_cons, List.not_mem_nil, or_false] at hi
        rcases hi with rfl
        refine op_plain (some 69) (.call { callee := Callee.builtin Builtin.append, args := #[.tmp 66, .tmp 68], argTypes := #[22, 22] }) 22 (by kernel_rfl) (by kernel_rfl) ?_
        have HQI := hide' (HQA.out.stay0 HA1.out.stay)
        have HLN : Hid ((([] : List Int) ++ l).length + lq.length ≤ 1000000) := by have := HLL.out; show (([] : List Int) ++ l).length + lq.length ≤ 1000000; simp; omega
        go_wp2_with (at_builtin; go_must (refine acc_app rfl _ _ rfl HA1.out rfl HQI.out rfl HLN.out ?_; intro v2 wg13 ha; obtain ⟨va, vc, hv⟩ := ha.shape; obtain ⟨vn, hvn⟩ : ∃ n, n = ([] ++ l ++ lq).length := ⟨_, rfl⟩; rw [← hvn] at hv; subst hv; have HA2 := hide' ha; clear ha hvn))
        have HSF' : Hid ((fun w' => PBox w' Q ⟨.slice qa qn qc, k2⟩) wg13) := (HQD.out.keep HA2.out.stay).box
        clear HA1 HQI HLN
        clear HSF
        have HSF := HSF'
        clear HSF'
        refine hK12 6 (by simp) _ _ HSF.out (any_more fun K13 hK13 => ?_)
        clear hK12 K12
        refine any_take (i := 9) hK13 (some 72) (.build 27 #[(0, .tmp 69), (1, .tmp 71)]) 27 _ (by kernel_rfl) (fun _ d _ _ _ h => by cases d <;> exact h) (by kernel_rfl) (by kernel_rfl) (fun w' hS' => by simp only [opr]; go_simp; try with_reducible rfl) HSF.out (fun K14 hK14 => ?_)
        clear hK13 K13
        try simp only [Act.put, List.setIfInBounds_toArray, List.set_cons_zero, List.set_cons_succ]
        refine any_pick (rs := [10]) hK14 (by kernel_rfl) (fun K15 hK15 => ?_)
        clear hK14 K14
        intro i hi
        simp only [List.mem_cons, List.not_mem_nil, or_false] at hi
        rcases hi with rfl
        refine op_plain none (.store 27 (.tmp 7) (.tmp 72)) 0 (by kernel_rfl) (by kernel_rfl) ?_
        obtain ⟨c0, c1, f0, f1⟩ := HBD.out.box.keep HA2.out.stay
        simp only at c0 c1
        go_wp2
        clear c0 c1 f0 f1
        have HFIN := hide' (HBD.out.next (k2 := k2) HA2.out)
        obtain ⟨wg14, hW⟩ : ∃ z, z = (wg13.setCell ⟨P, 0, none⟩ (.slice va vn vc)).setCell ⟨P, 1, none⟩ (.int .i64 k2) := ⟨_, rfl⟩
        rw [← hW] at HFIN ⊢
        have hst : Stay (fun j => j = P) wg13 wg14 := by rw [hW]; exact ((Stay.refl (fun j => j = P) wg13).setCell (p := ⟨P, 0, none⟩) rfl _).setCell (p := ⟨P, 1, none⟩) rfl _
        have HSF' : Hid ((fun w' => PBox w' Q ⟨.slice qa qn qc, k2⟩) wg14) := HSF.out.stay hst (fun e => HQP.out e)
        clear HSF
        have HSF := HSF'
        clear HSF'
        clear hW hst HA2
        refine hK15 10 (by simp) _ _ HSF.out (any_more fun K16 hK16 => ?_)
        clear hK15 K15
        refine any_done hK16 (by kernel_rfl) ?_
        clear hK16 K16
        go_wp2
        go_roundg (n - (j + 1))
        case measure => omega
        case rel => exact ⟨j + 1, by omega, rfl, by go_num, va, vn, vc, by rw [HNEXT.out]; exact HFIN.out⟩
    · have e : j = n := by omega
      subst e
      have ht : S.take j = S := by rw [← HL.out]; exact List.take_length
      rw [ht] at hB
      have HB1 := hide' hB
      obtain ⟨d0, d1, g0, g1⟩ := hB.res
      simp only at d0 d1
      rw [← HRR.out.1, ← HRR.out.2] at HB1
      clear ht hB HR
      go_wp2_with (refine wpList_exec rfl (run_load_PBox rfl rfl HB1.out.box) ?_)
      have hbox := HB1.out.res.put ⟨.slice pa pn pc, r2⟩
      have hA := HB1.out.acc.put (B := B) HBW.out.1.symm HB1.out.ob (.slice pa pn pc) (.int .i64 r2)
      exact bodyPost_ret (results_PBox rfl _ _ B ⟨.slice pa pn pc, r2⟩ rfl hbox) rfl ⟨_, rfl, hA⟩

end Go.Proofs.Ytjpdlnifbinloaa
