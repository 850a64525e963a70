/-
  A process goes: walked. No conditions.
-/
import Derived.Test.YtefpifnfinkbaaaEF
import Derived.Deep.CutBlock
import Derived.Deep.DeepCutAuto
namespace Go.Proofs.Ytefpifnfinkbaaa
open Go.RowKit

variable {q : Tq} {L : List Pr} {md : Int} {f : Int → Int} {c : Nat} {w : World} {i g : Nat} {p : Pr}

theorem place49_at (x : Int) (h : TM w q L md f c) (hp : L[i]? = some p) (hx : p.pid = x) : Calls Try.prog 49 #[.pointer (some ⟨q.b, 0, none⟩), .int .i64 x] w (Gives (.tuple #[.int .i64 (i : Nat), .bool true]) w) := by
  refine (place49 x h).mono (fun e w' hf => ?_)
  obtain ⟨j, b, rfl, hj, h1, h0, hs⟩ := hf
  cases b
  · exact absurd hx (h0 rfl p (mem_at hp))
  · obtain ⟨p', hp', hx'⟩ := h1 rfl
    obtain ⟨rfl, rfl⟩ := at_own h.up hp hp' (by rw [hx', hx])
    exact ⟨rfl, hs⟩

theorem place49_no (x : Int) (h : TM w q L md f c) (hx : ∀ p ∈ L, p.pid ≠ x) : Calls Try.prog 49 #[.pointer (some ⟨q.b, 0, none⟩), .int .i64 x] w (fun e w' => ∃ j : Nat, Gives (.tuple #[.int .i64 (j : Nat), .bool false]) w e w') := by
  refine (place49 x h).mono (fun e w' hf => ?_)
  obtain ⟨j, b, rfl, hj, h1, h0, hs⟩ := hf
  cases b
  · exact ⟨j, rfl, hs⟩
  · obtain ⟨p', hp', hx'⟩ := h1 rfl
    exact absurd hx' (hx p' (mem_at hp'))

theorem exit26_no (x : Int) (h : TM w q L md f c) (hx : ∀ p ∈ L, p.pid ≠ x) : Calls Try.prog 26 #[.pointer (some ⟨q.b, 0, none⟩), .int .i64 x] w (Gives (.slice none 0 0) w) := by
  have HF := hide' (place49_no x h hx)
  clear h hx
  go_enter Try.func26, Try.ntmps26
  go_wp2_with fail
  refine HF.out.mono ?_
  rintro _ w1 ⟨j, rfl, hs⟩
  have HS := hide' hs
  clear hs HF
  go_wp2
  go_ret
  exact ⟨rfl, HS.out⟩

theorem PBox.at0 {b : Nat} (h : PBox w b p) : PBoxAt w b 0 p := ⟨h.c0, h.c1, h.c2, h.c3, h.c4, h.c5⟩

theorem PBox.put_stay (w : World) (b : Nat) (v0 v1 v2 v3 v4 v5 : Value) : Stay (fun j => j = b) w ((((((w.setCell ⟨b, 0, none⟩ v0).setCell ⟨b, 1, none⟩ v1).setCell ⟨b, 2, none⟩ v2).setCell ⟨b, 3, none⟩ v3).setCell ⟨b, 4, none⟩ v4).setCell ⟨b, 5, none⟩ v5) :=
  ((((((Stay.refl (fun j => j = b) w).setCell (p := ⟨b, 0, none⟩) rfl v0).setCell (p := ⟨b, 1, none⟩) rfl v1).setCell (p := ⟨b, 2, none⟩) rfl v2).setCell (p := ⟨b, 3, none⟩) rfl v3).setCell (p := ⟨b, 4, none⟩) rfl v4).setCell (p := ⟨b, 5, none⟩) rfl v5

/-- What is known of one that goes, and of the groups ahead of it. -/
def Ex4 (L : List Pr) (p : Pr) (w1 : World) (b7 m1 : Nat) (wx : World) : Prop := Stay (fun _ => False) w1 wx ∧ PBox wx b7 p ∧ MAt wx m1 L.length (tiesF L L.length) (tiesH L L.length) ∧ w1.heap.size ≤ b7 ∧ w1.heap.size ≤ m1

/-- What is left behind one that went. -/
def Gone (q : Tq) (L : List Pr) (md : Int) (f : Int → Int) (c : Nat) (S : List Sg) (w : World) (e : Ending) (w' : World) : Prop := ∃ (q' : Tq) (a : Option Addr) (cap : Nat), q'.b = q.b ∧ e = .returned (.slice a S.length cap) ∧ SV w' a cap S ∧ TM w' q' L md f c ∧ Moved q q' w w' ∧ ∀ j, a.map Addr.block = some j → w.heap.size ≤ j ∧ ¬ q'.own j

set_option maxRecDepth 100000 in
set_option maxHeartbeats 4000000 in
theorem exit26_nolead (x : Int) (h : TAt w q L md f c) (hp : L[i]? = some p) (hx : p.pid = x) (hc : c ≤ 2000) (hl : leadB p = false) (hgd : ∀ p' ∈ ((L.eraseIdx i).map (adopt p.pid)), 1 ≤ p'.grp ∧ p'.grp ≤ md) : Calls Try.prog 26 #[.pointer (some ⟨q.b, 0, none⟩), .int .i64 x] w (Gone q ((L.eraseIdx i).map (adopt p.pid)) md f c (tellS L ((L.eraseIdx i).map (adopt p.pid)) (grps md ((L.eraseIdx i).map (adopt p.pid)))) w) := by
  subst hx
  have HF := hide' (place49_at p.pid h.tm hp rfl)
  have HT := hide' h
  have HP := hide' hp
  have HGD := hide' hgd
  have HMC : Hid (c ≤ 2000 ∧ md ≤ c) := ⟨hc, h.mc⟩
  have HLE := hide' hl
  obtain ⟨g, cap, hv⟩ := h.tm.shape
  have HG : Hid (q.v.ownBlock = some g) := by rw [hv]; exact rfl
  obtain ⟨n, hn⟩ : ∃ n, n = L.length := ⟨_, rfl⟩
  rw [← hn] at hv
  have HN := hide' hn
  have HV := hide' hv
  have hin : i < n := by have := (List.getElem?_eq_some_iff.1 hp).1; omega
  have hin1 : (i : Int) < (n : Nat) := by omega
  have hn1 : (n : Int) ≤ 256 := by have := h.tm.len; omega
  have HIN := hide' hin
  clear h hp hgd hv hn hin hc hl
  go_enter Try.func26, Try.ntmps26
  go_wp2_with fail
  refine HF.out.mono ?_
  rintro _ w1 ⟨rfl, hs⟩
  have HT1 := hide' (HT.out.keep hs)
  have HS1 := hide' hs
  have c0 := HT1.out.tm.box.c0
  simp only at c0
  rw [HV.out] at c0
  have HC0 := hide' c0
  have HPA := hide' (HT1.out.tm.cellsAt HG.out HP.out).1
  have HTI := hide' (fun W (hs : Stay (fun _ => False) w1 W) => ties40 ((HT1.out.tm).keep hs) (TM.w64 HT1.out (by have := HMC.out; omega)))
  clear hs HF HT c0
  go_upto_region 4 with fail
  go_cut [7, 8] from 21 to 29 (fun s7 s8 wx => ∃ b7 m1, s7 = .pointer (some ⟨b7, 0, none⟩) ∧ s8 = .map (some m1) ∧ Hid (Ex4 L p w1 b7 m1 wx))
  case first =>
    refine any_begin (fun w' => Stay (fun _ => False) w1 w') (by kernel_rfl) (fun K0 hK0 => ?_)
    obtain ⟨wd, hwd⟩ : ∃ W, W = w1.drew := ⟨_, rfl⟩
    have HST : Hid (Stay (fun _ => False) w1 wd) := by rw [hwd]; exact (Stay.refl _ _).drew
    rw [← hwd]
    clear hwd
    refine any_take (i := 0) hK0 (some 21) (.move (.tmp 0)) 24 _ (by kernel_rfl) (fun _ d _ _ _ h => by cases d <;> exact h) (by kernel_rfl) (by kernel_rfl) (fun w' hS' => by simp only [opr]; go_simp; try with_reducible rfl) HST.out (fun K1 hK1 => ?_)
    clear hK0 K0
    try simp only [Act.put, lA, lZ, lS]
    refine any_take (i := 1) hK1 (some 22) (.nilCheck (.tmp 21)) 0 _ (by kernel_rfl) (fun _ d _ _ _ h => by cases d <;> exact h) (by kernel_rfl) (by kernel_rfl) (fun w' hS' => by simp only [opr]; go_simp; try with_reducible rfl) HST.out (fun K2 hK2 => ?_)
    clear hK1 K1
    try simp only [Act.put, lA, lZ, lS]
    refine any_take (i := 2) hK2 (some 23) (.fieldAddr 64 (.tmp 22) 0) 0 _ (by kernel_rfl) (fun _ d _ _ _ h => by cases d <;> exact h) (by kernel_rfl) (by kernel_rfl) (fun w' hS' => by simp only [opr]; go_simp; try with_reducible rfl) HST.out (fun K3 hK3 => ?_)
    clear hK2 K2
    try simp only [Act.put, lA, lZ, lS]
    refine any_take (i := 3) hK3 (some 24) (.load 26 (.tmp 23)) 26 _ (by kernel_rfl) (fun _ d _ _ _ h => by cases d <;> exact h) (by kernel_rfl) (by kernel_rfl) (fun w' hS' => by (have z0 := keep_cell hS' HC0.out; simp only [opr]; go_simp; try with_reducible rfl)) HST.out (fun K4 hK4 => ?_)
    clear hK3 K3
    try simp only [Act.put, lA, lZ, lS]
    refine any_take (i := 4) hK4 (some 25) (.move (.tmp 5)) 3 _ (by kernel_rfl) (fun _ d _ _ _ h => by cases d <;> exact h) (by kernel_rfl) (by kernel_rfl) (fun w' hS' => by simp only [opr]; go_simp; try with_reducible rfl) HST.out (fun K5 hK5 => ?_)
    clear hK4 K4
    try simp only [Act.put, lA, lZ, lS]
    refine any_take (i := 5) hK5 (some 26) (.indexAddr 26 (.tmp 24) (.tmp 25)) 0 _ (by kernel_rfl) (fun _ d _ _ _ h => by cases d <;> exact h) (by kernel_rfl) (by kernel_rfl) (fun w' hS' => by (simp only [opr]; go_simp; try with_reducible rfl)) HST.out (fun K6 hK6 => ?_)
    clear hK5 K5
    try simp only [Act.put, lA, lZ, lS]
    refine any_take (i := 6) hK6 (some 27) (.load 40 (.tmp 26)) 40 _ (by kernel_rfl) (fun _ d _ _ _ h => by cases d <;> exact h) (by kernel_rfl) (by kernel_rfl) (fun w' hS' => by exact run_load_PBoxAt rfl rfl (HPA.out.keep hS')) HST.out (fun K7 hK7 => ?_)
    clear hK6 K6
    try simp only [Act.put, lA, lZ, lS]
    refine any_take (i := 7) hK7 (some 28) (.move (.tmp 0)) 24 _ (by kernel_rfl) (fun _ d _ _ _ h => by cases d <;> exact h) (by kernel_rfl) (by kernel_rfl) (fun w' hS' => by simp only [opr]; go_simp; try with_reducible rfl) HST.out (fun K8 hK8 => ?_)
    clear hK7 K7
    try simp only [Act.put, lA, lZ, lS]
    refine any_pick (rs := [8, 9]) hK8 (by kernel_rfl) (fun K9 hK9 => ?_)
    clear hK8 K8
    intro i hi
    simp only [List.mem_cons, List.not_mem_nil, or_false] at hi
    rcases hi with rfl | rfl
    · refine op_plain (some 29) (.call { callee := Callee.value (.func 40), args := #[.tmp 28], argTypes := #[24] }) 62 (by kernel_rfl) (by kernel_rfl) ?_
      go_wp2_with fail
      refine (HTI.out _ HST.out).mono ?_
      rintro _ wt ⟨m1, rfl, hmt, hst, hmz⟩
      have HM1 := hide' hmt
      have HMZ := hide' (Nat.le_trans HST.out.size hmz)
      have HST' := hide' (HST.out.trans hst)
      clear hst hmt hmz HTI
      clear HST
      have HST := HST'
      clear HST'
      go_wp2
      refine hK9 8 (by simp) _ _ HST.out (any_more fun K10 hK10 => ?_)
      clear hK9 K9
      refine any_pick (rs := [9]) hK10 (by kernel_rfl) (fun K11 hK11 => ?_)
      clear hK10 K10
      intro i hi
      simp only [List.mem_cons, List.not_mem_nil, or_false] at hi
      rcases hi with rfl
      refine op_plain (some 7) (.alloc 40) 0 (by kernel_rfl) (by kernel_rfl) ?_
      go_wp2
      obtain ⟨b7, hb7⟩ : ∃ b, b = wt.heap.size := ⟨_, rfl⟩
      obtain ⟨wb, hwb⟩ : ∃ W, W = wt.alloc (.cells #[.int .i64 0, .int .i64 0, .int .i64 0, .int .i64 0, .int .i64 0, .bool false] 40) := ⟨_, rfl⟩
      have hst : Stay (fun _ => False) wt wb := by rw [hwb]; exact (Stay.refl _ _).alloc _
      have HBX : Hid (PBox wb b7 ⟨0, 0, 0, 0, 0, false⟩) := by rw [hwb]; exact PBox.new ⟨0, 0, 0, 0, 0, false⟩ hb7.symm
      have HBZ : Hid (w1.heap.size ≤ b7) := by rw [hb7]; exact HST.out.size
      have HNE : Hid (¬ m1 = b7) := by have := HM1.out.lt; show ¬ _; omega
      have HM1' := hide' (HM1.out.keep hst)
      clear HM1
      have HM1 := HM1'
      clear HM1'
      have HST' := hide' (HST.out.trans hst)
      rw [← hwb, ← hb7]
      clear hst hwb hb7
      clear HST
      have HST := HST'
      clear HST'
      refine hK11 9 (by simp) _ _ HST.out (any_more fun K12 hK12 => ?_)
      clear hK11 K11
      refine any_pick (rs := [10]) hK12 (by kernel_rfl) (fun K13 hK13 => ?_)
      clear hK12 K12
      intro i hi
      simp only [List.mem_cons, List.not_mem_nil, or_false] at hi
      rcases hi with rfl
      refine op_plain none (.store 40 (.tmp 7) (.tmp 27)) 0 (by kernel_rfl) (by kernel_rfl) ?_
      have x0 := HBX.out.f0
      have x1 := HBX.out.f1
      have x2 := HBX.out.f2
      have x3 := HBX.out.f3
      have x4 := HBX.out.f4
      have x5 := HBX.out.f5
      have y0 := HBX.out.c0
      have y1 := HBX.out.c1
      have y2 := HBX.out.c2
      have y3 := HBX.out.c3
      have y4 := HBX.out.c4
      have y5 := HBX.out.c5
      go_wp2
      clear x0 x1 x2 x3 x4 x5 y0 y1 y2 y3 y4 y5
      have HBX' := hide' (HBX.out.put p)
      have HM1' := hide' (HM1.out.stay (PBox.put_stay wb b7 (.int .i64 p.pid) (.int .i64 p.par) (.int .i64 p.grp) (.int .i64 p.ses) (.int .i64 p.tty) (.bool p.df)) HNE.out)
      have HST' := hide' (PBox.stay_put HST.out HBZ.out (.int .i64 p.pid) (.int .i64 p.par) (.int .i64 p.grp) (.int .i64 p.ses) (.int .i64 p.tty) (.bool p.df))
      clear HBX
      have HBX := HBX'
      clear HBX'
      clear HM1
      have HM1 := HM1'
      clear HM1'
      clear HST
      have HST := HST'
      clear HST'
      refine hK13 10 (by simp) _ _ HST.out (any_more fun K14 hK14 => ?_)
      clear hK13 K13
      refine any_take (i := 11) hK14 (some 8) (.assign (.tmp 29)) 62 _ (by kernel_rfl) (fun _ d _ _ _ h => by cases d <;> exact h) (by kernel_rfl) (by kernel_rfl) (fun w' hS' => by simp only [opr]; go_simp; try with_reducible rfl) HST.out (fun K15 hK15 => ?_)
      clear hK14 K14
      try simp only [Act.put, lA, lZ, lS]
      refine any_done hK15 (by kernel_rfl) ?_
      clear hK15 K15
      go_wp2
      go_meet
      exact ⟨b7, m1, rfl, rfl, HST.out, HBX.out, HM1.out, HBZ.out, HMZ.out⟩
    · refine op_plain (some 7) (.alloc 40) 0 (by kernel_rfl) (by kernel_rfl) ?_
      go_wp2
      obtain ⟨b7, hb7⟩ : ∃ b, b = wd.heap.size := ⟨_, rfl⟩
      obtain ⟨wb, hwb⟩ : ∃ W, W = wd.alloc (.cells #[.int .i64 0, .int .i64 0, .int .i64 0, .int .i64 0, .int .i64 0, .bool false] 40) := ⟨_, rfl⟩
      have hst : Stay (fun _ => False) wd wb := by rw [hwb]; exact (Stay.refl _ _).alloc _
      have HBX : Hid (PBox wb b7 ⟨0, 0, 0, 0, 0, false⟩) := by rw [hwb]; exact PBox.new ⟨0, 0, 0, 0, 0, false⟩ hb7.symm
      have HBZ : Hid (w1.heap.size ≤ b7) := by rw [hb7]; exact HST.out.size
      have HST' := hide' (HST.out.trans hst)
      rw [← hwb, ← hb7]
      clear hst hwb hb7
      clear HST
      have HST := HST'
      clear HST'
      refine hK9 9 (by simp) _ _ HST.out (any_more fun K10 hK10 => ?_)
      clear hK9 K9
      refine any_pick (rs := [8]) hK10 (by kernel_rfl) (fun K11 hK11 => ?_)
      clear hK10 K10
      intro i hi
      simp only [List.mem_cons, List.not_mem_nil, or_false] at hi
      rcases hi with rfl
      refine op_plain (some 29) (.call { callee := Callee.value (.func 40), args := #[.tmp 28], argTypes := #[24] }) 62 (by kernel_rfl) (by kernel_rfl) ?_
      go_wp2_with fail
      refine (HTI.out _ HST.out).mono ?_
      rintro _ wt ⟨m1, rfl, hmt, hst, hmz⟩
      have HM1 := hide' hmt
      have HMZ := hide' (Nat.le_trans HST.out.size hmz)
      have HBX' := hide' (HBX.out.keep hst)
      have HNE : Hid (¬ m1 = b7) := by have := HBX.out.lt; show ¬ _; omega
      clear HBX
      have HBX := HBX'
      clear HBX'
      have HST' := hide' (HST.out.trans hst)
      clear hst hmt hmz HTI
      clear HST
      have HST := HST'
      clear HST'
      go_wp2
      refine hK11 8 (by simp) _ _ HST.out (any_more fun K12 hK12 => ?_)
      clear hK11 K11
      refine any_pick (rs := [10]) hK12 (by kernel_rfl) (fun K13 hK13 => ?_)
      clear hK12 K12
      intro i hi
      simp only [List.mem_cons, List.not_mem_nil, or_false] at hi
      rcases hi with rfl
      refine op_plain none (.store 40 (.tmp 7) (.tmp 27)) 0 (by kernel_rfl) (by kernel_rfl) ?_
      have x0 := HBX.out.f0
      have x1 := HBX.out.f1
      have x2 := HBX.out.f2
      have x3 := HBX.out.f3
      have x4 := HBX.out.f4
      have x5 := HBX.out.f5
      have y0 := HBX.out.c0
      have y1 := HBX.out.c1
      have y2 := HBX.out.c2
      have y3 := HBX.out.c3
      have y4 := HBX.out.c4
      have y5 := HBX.out.c5
      go_wp2
      clear x0 x1 x2 x3 x4 x5 y0 y1 y2 y3 y4 y5
      have HBX' := hide' (HBX.out.put p)
      have HM1' := hide' (HM1.out.stay (PBox.put_stay wt b7 (.int .i64 p.pid) (.int .i64 p.par) (.int .i64 p.grp) (.int .i64 p.ses) (.int .i64 p.tty) (.bool p.df)) HNE.out)
      have HST' := hide' (PBox.stay_put HST.out HBZ.out (.int .i64 p.pid) (.int .i64 p.par) (.int .i64 p.grp) (.int .i64 p.ses) (.int .i64 p.tty) (.bool p.df))
      clear HBX
      have HBX := HBX'
      clear HBX'
      clear HM1
      have HM1 := HM1'
      clear HM1'
      clear HST
      have HST := HST'
      clear HST'
      refine hK13 10 (by simp) _ _ HST.out (any_more fun K14 hK14 => ?_)
      clear hK13 K13
      refine any_take (i := 11) hK14 (some 8) (.assign (.tmp 29)) 62 _ (by kernel_rfl) (fun _ d _ _ _ h => by cases d <;> exact h) (by kernel_rfl) (by kernel_rfl) (fun w' hS' => by simp only [opr]; go_simp; try with_reducible rfl) HST.out (fun K15 hK15 => ?_)
      clear hK14 K14
      try simp only [Act.put, lA, lZ, lS]
      refine any_done hK15 (by kernel_rfl) ?_
      clear hK15 K15
      go_wp2
      go_meet
      exact ⟨b7, m1, rfl, rfl, HST.out, HBX.out, HM1.out, HBZ.out, HMZ.out⟩
  case rest =>
    obtain ⟨b7, m1, rfl, rfl, H4⟩ := hcut
    clear HTI HPA HC0
    have hT4 := HT1.out.keep H4.out.1
    obtain ⟨n5, hn5⟩ : ∃ n5, n5 = n - 1 := ⟨_, rfl⟩
    have hw4 : Ws wc (some ⟨g, 0, none⟩) n cap L := by
      obtain ⟨a, cap', hv', hw', _⟩ := hT4.tm.row
      rw [← HN.out] at hv' hw'
      have := HV.out.symm.trans hv'
      cases this
      exact hw'
    have HNB : Hid (∀ j, q.own j → ¬ j = b7 ∧ ¬ j = m1) := fun j hj => by
      have h1 := HT1.out.lt j hj
      have h2 := H4.out.2.2.2
      omega
    have HKP : Hid (∀ W q', Moved q q' wc W → PBox W b7 p ∧ MAt W m1 L.length (tiesF L L.length) (tiesH L L.length)) := fun W q' hm => ⟨H4.out.2.1.stay hm.1 (fun e => (HNB.out _ e).1 rfl), H4.out.2.2.1.stay hm.1 (fun e => (HNB.out _ e).2 rfl)⟩
    have hd := delete50 g i n cap L wc hw4 HIN.out (by have := HN.out; have := hT4.tm.len; omega)
    unfold DelP at hd
    rw [← hn5] at hd
    have HD := hide' hd
    have c0 := hT4.tm.box.c0
    simp only at c0
    rw [HV.out] at c0
    have HT4 := hide' hT4
    have HN5 : Hid (n5 = (L.eraseIdx i).length) := by
      have h1 := HN.out
      have h2 := HIN.out
      show n5 = _
      rw [List.length_eraseIdx, if_pos (by omega)]
      omega
    clear hT4 hw4 hd hn5 HT1
    go_wp2_with fail
    refine HD.out.mono ?_
    rintro _ w5 ⟨rfl, hw5, hs5⟩
    have hqg := (HT4.out.tm.vb g HG.out).1
    have hq0 : w5.cell? ⟨q.b, 0, none⟩ = some (.slice (some ⟨g, 0, none⟩) n cap) := (hs5.cell (p := ⟨q.b, 0, none⟩) (World.block_lt_of_cell? _ _ c0) (fun e => hqg (by have : q.b = g := e; exact this.symm))).trans c0
    have hqf : w5.frozen? ⟨q.b, 0, none⟩ = false := (hs5.frozen (p := ⟨q.b, 0, none⟩) (World.block_lt_of_cell? _ _ c0) (fun e => hqg (by have : q.b = g := e; exact this.symm))).trans HT4.out.tm.box.f0
    have hwv : Wv w5 (.slice (some ⟨g, 0, none⟩) n5 cap) (L.eraseIdx i) := ⟨_, cap, by rw [← HN5.out], by rw [← HN5.out]; exact hw5, fun e => by
      have h2 := hw5.2.1
      have h3 := (HT4.out.tm.row)
      obtain ⟨a', cap', hv', _, hz⟩ := h3
      have := HV.out.symm.trans hv'
      cases this
      exact hz e⟩
    have hT6 := HT4.out.tm.procsAt HG.out hs5 hwv (.inl rfl) (by have := HN5.out; have := HN.out; have := HT4.out.tm.len; have := HIN.out; have h9 := List.length_eraseIdx_le L i; omega) (HT4.out.tm.up.erase i)
    obtain ⟨q5, hq5⟩ : ∃ z : Tq, z = ⟨q.b, .slice (some ⟨g, 0, none⟩) n5 cap, q.m⟩ := ⟨_, rfl⟩
    rw [← hq5] at hT6
    have HQB : Hid (q5.b = q.b) := by rw [hq5]; exact rfl
    have hA := adopt51 p.pid hT6.1
    rw [HQB.out] at hA
    have HA := hide' hA
    have HM6 := hide' hT6.2
    clear hw5 hs5 hqg hwv hT6 hA hq5 HD c0 HT4
    go_wp2_with fail
    refine HA.out.mono ?_
    rintro _ w7 ⟨rfl, hT7, hm7⟩
    have HT7 := hide' hT7
    have HM7 := hide' (HM6.out.trans hm7)
    have HB7 := hide' (HKP.out w7 q5 HM7.out)
    clear hT7 hm7 HA hq0 hqf HM6
    have HO := hide' (leads44 b7 0 p w7 HB7.out.1.at0)
    rw [HLE.out] at HO
    go_wp2_with fail
    refine HO.out.mono ?_
    rintro _ w8 ⟨rfl, hs⟩
    have HT8 := hide' (HT7.out.keep hs)
    have HM8 := hide' (HM7.out.trans (Moved.of_stay hs))
    have HB8 := hide' (HKP.out w8 q5 HM8.out)
    have d4 := HB8.out.1.c4
    clear hs HO HT7 HM7 HB7
    obtain ⟨a0, ha0⟩ : ∃ a : Option Addr, a = none := ⟨_, rfl⟩
    obtain ⟨cap0, hc0⟩ : ∃ a : Nat, a = 0 := ⟨_, rfl⟩
    have HTz := hide' HT8.out
    have HMz := hide' HM8.out
    have HSVz : Hid (SV w8 a0 cap0 []) := by rw [ha0, hc0]; exact SV.nil _
    have HBz : Hid (∀ j, a0.map Addr.block = some j → ¬ q5.own j ∧ wc.heap.size ≤ j ∧ j < w8.heap.size) := fun j hj => by rw [ha0] at hj; cases hj
    have HA0 := hide' ha0
    have HC0 := hide' hc0
    clear ha0 hc0 HT8 HM8 HB8
    have hti := ties40 HTz.out (fun p hp => by have := HGD.out p hp; have := HMC.out; unfold W64; omega)
    rw [HQB.out] at hti
    have HTI := hide' hti
    clear hti
    go_wp2_with fail
    refine HTI.out.mono ?_
    rintro _ we ⟨m3, rfl, hm3, hs, hz3⟩
    have hTe := HTz.out.keep hs
    have hMe := HMz.out.trans (Moved.of_stay hs)
    have HK := hide' (keys54 (some m3) we)
    have hso := sorted53 m3 _ _ _ (grps md ((L.eraseIdx i).map (adopt p.pid))) we hm3 (by have := hTe.len; omega) (grps_up md ((L.eraseIdx i).map (adopt p.pid))) (grps_mem HGD.out) (grps_w64 (by have := HMC.out; omega))
    obtain ⟨m, hm⟩ : ∃ m, m = (grps md ((L.eraseIdx i).map (adopt p.pid))).length := ⟨_, rfl⟩
    have hml : m ≤ 2000 := by have h1 := grps_len md ((L.eraseIdx i).map (adopt p.pid)); have h2 := HMC.out; omega
    have hml1 : (m : Int) ≤ 2000 := by omega
    unfold GivesK at hso
    rw [← hm] at hso
    have HSO := hide' hso
    have HTe := hide' hTe
    have HMe := hide' hMe
    have HM3 := hide' hm3
    have HZ3 := hide' hz3
    have HSVe := hide' (HSVz.out.keep hs)
    have HME := hide' hm
    clear hs hTe hMe hso hm hm3 hz3 HTI HTz HMz d4
    go_wp2_with fail
    refine HK.out.mono ?_
    rintro _ wg ⟨rfl, rfl⟩
    clear HK
    go_wp2_with fail
    refine HSO.out.mono ?_
    rintro _ wh ⟨ka, kc, rfl, hrow, hkb, hs⟩
    have hs' : Stay (fun _ => False) we wh := ((Stay.refl _ _).alloc _).trans hs
    have hMh := HMe.out.trans (Moved.of_stay hs')
    have HE0 : Hid (ExIn w q q5 L ((L.eraseIdx i).map (adopt p.pid)) md f c m1 m3 ka kc (grps md ((L.eraseIdx i).map (adopt p.pid))) a0 cap0 ([] : List Sg) wh) := by
      have hlo : w.heap.size ≤ wc.heap.size := Nat.le_trans HS1.out.size H4.out.1.size
      refine ⟨HTe.out.keep hs', (HKP.out wh q5 hMh).2, HM3.out.keep hs', by rw [← HME.out]; exact hrow, HSVe.out.keep hs', fun j hj => ?_, fun j hj => ?_, (Moved.of_stay (HS1.out.trans H4.out.1)).trans hMh⟩
      · obtain ⟨e1, e2, e3⟩ := HBz.out j hj
        refine ⟨e1, fun e => ?_, fun e => ?_, fun hT b off e k => ?_⟩
        · have := H4.out.2.2.1.lt; omega
        · have := HZ3.out; omega
        · have h1 := hkb b off e
          simp at h1
          have h2 := HZ3.out
          have h3 := HM3.out.lt
          omega
      · have := (HBz.out j hj).2.1; omega
    obtain ⟨sl0, hsl0⟩ : ∃ z, z = ([] : List Sg).length := ⟨_, rfl⟩
    have HSG0 : Hid (([] : List Sg).length ≤ 1) := Nat.zero_le _
    have HR0 : Hid (sl0 = (([] : List Sg) ++ tellS L ((L.eraseIdx i).map (adopt p.pid)) ((grps md ((L.eraseIdx i).map (adopt p.pid))).take 0)).length ∧ ExIn w q q5 L ((L.eraseIdx i).map (adopt p.pid)) md f c m1 m3 ka kc (grps md ((L.eraseIdx i).map (adopt p.pid))) a0 cap0 (([] : List Sg) ++ tellS L ((L.eraseIdx i).map (adopt p.pid)) ((grps md ((L.eraseIdx i).map (adopt p.pid))).take 0)) wh) := by
      have e : (([] : List Sg) ++ tellS L ((L.eraseIdx i).map (adopt p.pid)) ((grps md ((L.eraseIdx i).map (adopt p.pid))).take 0)) = ([] : List Sg) := List.append_nil _
      rw [e]
      exact ⟨hsl0, HE0.out⟩
    have HSL0 := hide' hsl0
    have HZ0 : Hid (w.heap.size ≤ wh.heap.size) := Nat.le_trans (Nat.le_trans HS1.out.size H4.out.1.size) hMh.1.size
    clear hrow hkb hs hs' hMh HSO HE0 HTe HMe HM3 HZ3 HSVe HBz HSVz HKP H4 HS1 HNB hsl0 
    go_wp2
    go_loopg [9, 67] m (fun gg v9 v67 wr => ∃ (k sl : Nat) (a : Option Addr) (ca : Nat), k ≤ m ∧ gg = m - k ∧ v67 = .int .i64 (k : Int) ∧ v9 = .slice a sl ca ∧ Hid (w.heap.size ≤ wr.heap.size) ∧ Hid (sl = (([] : List Sg) ++ tellS L ((L.eraseIdx i).map (adopt p.pid)) ((grps md ((L.eraseIdx i).map (adopt p.pid))).take k)).length ∧ ExIn w q q5 L ((L.eraseIdx i).map (adopt p.pid)) md f c m1 m3 ka kc (grps md ((L.eraseIdx i).map (adopt p.pid))) a ca (([] : List Sg) ++ tellS L ((L.eraseIdx i).map (adopt p.pid)) ((grps md ((L.eraseIdx i).map (adopt p.pid))).take k)) wr))
    case atStart => exact ⟨0, sl0, a0, cap0, Nat.zero_le _, rfl, rfl, by rw [HA0.out, HC0.out, HSL0.out]; rfl, HZ0, HR0⟩
    case round =>
      clear HR0 HZ0
      obtain ⟨k, sl, a, ca, hk, rfl, rfl, rfl, HZ, HR⟩ := hrel
      by_cases hlt : k < m
      · have kn : (k : Int) < (m : Nat) := by omega
        have hlt2 : k < (grps md ((L.eraseIdx i).map (adopt p.pid))).length := by rw [← HME.out]; exact hlt
        obtain ⟨kb, ko, hka, _, hin⟩ := HR.out.2.row.cells (fun e => by rw [e] at hlt2; exact absurd hlt2 (Nat.not_lt_zero _))
        obtain ⟨gr, hgr⟩ : ∃ z, z = (grps md ((L.eraseIdx i).map (adopt p.pid))).getD k 0 := ⟨_, rfl⟩
        have hcell := hin k hlt2
        rw [← hgr] at hcell
        have hgw : W64 gr := by rw [hgr]; exact grps_w64 (by have := HMC.out; omega) _ (getD_mem hlt2)
        have hlk1 := HR.out.2.b1.look hgw
        have hlk3 := HR.out.2.b3.look hgw
        obtain ⟨z1, hz1⟩ : ∃ z, z = tiesF L L.length gr := ⟨_, rfl⟩
        obtain ⟨z3, hz3⟩ : ∃ z, z = tiesF ((L.eraseIdx i).map (adopt p.pid)) ((L.eraseIdx i).map (adopt p.pid)).length gr := ⟨_, rfl⟩
        rw [← hz1] at hlk1
        rw [← hz3] at hlk3
        have HSN := hide' (tellS_snoc L ((L.eraseIdx i).map (adopt p.pid)) hlt2)
        have HGR := hide' hgr
        have HZ1 := hide' hz1
        have HZ3 := hide' hz3
        have HLT := hide' hlt2
        subst hka
        clear hin hgw hz1 hz3 hgr hlt2
        by_cases h1 : 0 < z1
        · by_cases h3 : z3 = 0
          · have d3 : (z3 == 0) = true := beq_iff_eq.2 h3
            have HOS : Hid (orphS L ((L.eraseIdx i).map (adopt p.pid)) gr = sigsTo ((L.eraseIdx i).map (adopt p.pid)) gr [4, 5]) := orphS_yes (by rw [← HZ1.out]; exact h1) (by rw [← HZ3.out]; exact h3)
            clear h3 HZ1 HZ3
            have hsg := fun (W : World) (hs : Stay (fun _ => False) wr W) (B : Nat) (k0 : W.cell? ⟨B, 0, none⟩ = some (.int .i64 4)) (k1 : W.cell? ⟨B, 1, none⟩ = some (.int .i64 5)) => signals gr B [4, 5] (HR.out.2.tm.keep hs) (fun j hj => by
              match j, hj with
              | 0, _ => exact k0
              | 1, _ => exact k1) (by decide)
            rw [HQB.out] at hsg
            have HSG := hide' hsg
            clear hsg
            go_wp2_with fail
            refine (HSG.out _ ?_ _ ?_ ?_).mono ?_
            · exact (Stay.refl _ _).alloc _
            · simp
            · simp
            rintro _ wu ⟨a5, cap5, rfl, hsv, hs, hb⟩
            have hs' : Stay (fun _ => False) wr wu := ((Stay.refl _ _).alloc _).trans hs
            have HEX := hide' (HR.out.2.keep hs')
            have HZU : Hid (w.heap.size ≤ wu.heap.size) := Nat.le_trans HZ.out hs'.size
            obtain ⟨m5, hm5⟩ : ∃ z, z = (sigsTo ((L.eraseIdx i).map (adopt p.pid)) gr [4, 5]).length := ⟨_, rfl⟩
            have HM5 := hide' hm5
            have hm52 : m5 ≤ 2 := by rw [hm5]; exact sigsTo_len _ _ [4, 5]
            have HSRC := hide' hsv.src
            rw [← hm5]
            have hsl : sl ≤ 5000 := by
              rw [HR.out.1, List.length_append]
              have e1 := tellS_len L ((L.eraseIdx i).map (adopt p.pid)) ((grps md ((L.eraseIdx i).map (adopt p.pid))).take k)
              rw [List.length_take] at e1
              have e2 := HSG0.out
              have e3 := HME.out
              omega
            have HWIN : Hid (Win wu 2 (.slice a sl ca) sl (sc (([] : List Sg) ++ tellS L ((L.eraseIdx i).map (adopt p.pid)) ((grps md ((L.eraseIdx i).map (adopt p.pid))).take k)))) := by
              have := HEX.out.sv
              unfold SV at this
              rw [← HR.out.1] at this
              exact this
            have HLN : Hid ((sc (sigsTo ((L.eraseIdx i).map (adopt p.pid)) gr [4, 5])).length = m5 * 2) := by rw [sc_length, hm5]; exact rfl
            rw [← hm5] at HSRC
            have HSLE := hide' HR.out.1
            clear hs hs' hsv hb hm5 HR HSG hlk1 hlk3 hcell
            go_wp2_with (at_builtin; refine wpList_append_win rfl _ _ 35 rfl Try.underlying35 info60 rfl (by decide) (by decide) HWIN.out rfl HLN.out HSRC.out.1 HSRC.out.2 (sc_all _) (by omega) rfl ?_; intro v2 w2 hw2 hs2 hb2; have HW2 := hide' hw2; have HS2 := hide' hs2; have HB2 := hide' hb2; clear hw2 hs2 hb2; obtain ⟨a2, cap2, hv2, _, _⟩ := HW2.out.shape; subst hv2)
            have HN1 : Hid (sl + m5 = (([] : List Sg) ++ tellS L ((L.eraseIdx i).map (adopt p.pid)) ((grps md ((L.eraseIdx i).map (adopt p.pid))).take (k + 1))).length ∧ ExIn w q q5 L ((L.eraseIdx i).map (adopt p.pid)) md f c m1 m3 (some ⟨kb, ko, none⟩) kc (grps md ((L.eraseIdx i).map (adopt p.pid))) a2 cap2 (([] : List Sg) ++ tellS L ((L.eraseIdx i).map (adopt p.pid)) ((grps md ((L.eraseIdx i).map (adopt p.pid))).take (k + 1))) w2) := by
              have e : (([] : List Sg) ++ tellS L ((L.eraseIdx i).map (adopt p.pid)) ((grps md ((L.eraseIdx i).map (adopt p.pid))).take (k + 1))) = (([] : List Sg) ++ tellS L ((L.eraseIdx i).map (adopt p.pid)) ((grps md ((L.eraseIdx i).map (adopt p.pid))).take k)) ++ sigsTo ((L.eraseIdx i).map (adopt p.pid)) gr [4, 5] := by
                rw [HSN.out, ← HGR.out, HOS.out, List.append_assoc]
              have el : sl + m5 = ((([] : List Sg) ++ tellS L ((L.eraseIdx i).map (adopt p.pid)) ((grps md ((L.eraseIdx i).map (adopt p.pid))).take k)) ++ sigsTo ((L.eraseIdx i).map (adopt p.pid)) gr [4, 5]).length := by
                rw [List.length_append, ← HSLE.out, ← HM5.out]
              rw [e]
              refine ⟨el, HEX.out.more HZU.out (HS2.out.mono (fun j _ e => by cases a <;> exact e)) ?_ ?_⟩
              · unfold SV
                rw [← el, sc_append]
                exact HW2.out
              · rcases HB2.out with e | e
                · exact .inl (fun j hj => by
                    have h2 : (Value.slice a2 (sl + m5) cap2).ownBlock = some j := by cases a2 <;> exact hj
                    rw [e] at h2
                    cases a <;> exact h2)
                · exact .inr (fun j hj => by
                    have h2 : (Value.slice a2 (sl + m5) cap2).ownBlock = some j := by cases a2 <;> exact hj
                    rw [e] at h2
                    cases h2
                    rfl)
            have HZ2 : Hid (w.heap.size ≤ w2.heap.size) := Nat.le_trans HZU.out HS2.out.size
            clear HEX HWIN HLN HSRC HSN HW2 HS2 HB2 HOS
            go_wp2
            go_roundg (m - (k + 1))
            case measure => omega
            case rel => exact ⟨k + 1, sl + m5, a2, cap2, by omega, rfl, by go_num, rfl, HZ2, HN1⟩
          · have d3 : (z3 == 0) = false := beq_eq_false_iff_ne.2 h3
            have HN1 : Hid (sl = (([] : List Sg) ++ tellS L ((L.eraseIdx i).map (adopt p.pid)) ((grps md ((L.eraseIdx i).map (adopt p.pid))).take (k + 1))).length ∧ ExIn w q q5 L ((L.eraseIdx i).map (adopt p.pid)) md f c m1 m3 (some ⟨kb, ko, none⟩) kc (grps md ((L.eraseIdx i).map (adopt p.pid))) a ca (([] : List Sg) ++ tellS L ((L.eraseIdx i).map (adopt p.pid)) ((grps md ((L.eraseIdx i).map (adopt p.pid))).take (k + 1))) wr) := by
              have e : (([] : List Sg) ++ tellS L ((L.eraseIdx i).map (adopt p.pid)) ((grps md ((L.eraseIdx i).map (adopt p.pid))).take (k + 1))) = (([] : List Sg) ++ tellS L ((L.eraseIdx i).map (adopt p.pid)) ((grps md ((L.eraseIdx i).map (adopt p.pid))).take k)) := by
                rw [HSN.out, ← HGR.out, orphS_no (fun e => h3 (by rw [HZ3.out]; exact e.2)), List.append_nil]
              rw [e]
              exact HR.out
            clear h3 HZ1 HZ3 HR HSN
            go_wp2
            go_roundg (m - (k + 1))
            case measure => omega
            case rel => exact ⟨k + 1, sl, a, ca, by omega, rfl, by go_num, rfl, HZ, HN1⟩
        · have HN1 : Hid (sl = (([] : List Sg) ++ tellS L ((L.eraseIdx i).map (adopt p.pid)) ((grps md ((L.eraseIdx i).map (adopt p.pid))).take (k + 1))).length ∧ ExIn w q q5 L ((L.eraseIdx i).map (adopt p.pid)) md f c m1 m3 (some ⟨kb, ko, none⟩) kc (grps md ((L.eraseIdx i).map (adopt p.pid))) a ca (([] : List Sg) ++ tellS L ((L.eraseIdx i).map (adopt p.pid)) ((grps md ((L.eraseIdx i).map (adopt p.pid))).take (k + 1))) wr) := by
            have e : (([] : List Sg) ++ tellS L ((L.eraseIdx i).map (adopt p.pid)) ((grps md ((L.eraseIdx i).map (adopt p.pid))).take (k + 1))) = (([] : List Sg) ++ tellS L ((L.eraseIdx i).map (adopt p.pid)) ((grps md ((L.eraseIdx i).map (adopt p.pid))).take k)) := by
              rw [HSN.out, ← HGR.out, orphS_no (fun e => h1 (by rw [HZ1.out]; exact e.1)), List.append_nil]
            rw [e]
            exact HR.out
          clear HZ1 HZ3 HR HSN
          go_wp2
          go_roundg (m - (k + 1))
          case measure => omega
          case rel => exact ⟨k + 1, sl, a, ca, by omega, rfl, by go_num, rfl, HZ, HN1⟩
      · have e : k = m := by omega
        subst e
        have hR := HR.out
        rw [List.take_of_length_le (by rw [← HME.out]; exact Nat.le_refl _)] at hR
        have HRR := hide' hR
        clear hR HR
        go_wp2
        go_ret
        exact ⟨q5, a, ca, HQB.out, by first | (rw [← HRR.out.1]; rfl) | (have e := HRR.out.1; rw [List.nil_append] at e; rw [← e]; rfl), HRR.out.2.sv, HRR.out.2.tm, HRR.out.2.mv, fun j hj => ⟨HRR.out.2.new j hj, (HRR.out.2.ne j hj).1⟩⟩

set_option maxRecDepth 100000 in
set_option maxHeartbeats 4000000 in
theorem exit26_notty (x : Int) (h : TAt w q L md f c) (hp : L[i]? = some p) (hx : p.pid = x) (hc : c ≤ 2000) (hl : leadB p = true) (hy : (p.tty != 0) = false) (hgd : ∀ p' ∈ ((L.eraseIdx i).map (adopt p.pid)), 1 ≤ p'.grp ∧ p'.grp ≤ md) : Calls Try.prog 26 #[.pointer (some ⟨q.b, 0, none⟩), .int .i64 x] w (Gone q ((L.eraseIdx i).map (adopt p.pid)) md f c (tellS L ((L.eraseIdx i).map (adopt p.pid)) (grps md ((L.eraseIdx i).map (adopt p.pid)))) w) := by
  subst hx
  have HF := hide' (place49_at p.pid h.tm hp rfl)
  have HT := hide' h
  have HP := hide' hp
  have HGD := hide' hgd
  have HMC : Hid (c ≤ 2000 ∧ md ≤ c) := ⟨hc, h.mc⟩
  have HLE := hide' hl
  obtain ⟨g, cap, hv⟩ := h.tm.shape
  have HG : Hid (q.v.ownBlock = some g) := by rw [hv]; exact rfl
  obtain ⟨n, hn⟩ : ∃ n, n = L.length := ⟨_, rfl⟩
  rw [← hn] at hv
  have HN := hide' hn
  have HV := hide' hv
  have hin : i < n := by have := (List.getElem?_eq_some_iff.1 hp).1; omega
  have hin1 : (i : Int) < (n : Nat) := by omega
  have hn1 : (n : Int) ≤ 256 := by have := h.tm.len; omega
  have HIN := hide' hin
  clear h hp hgd hv hn hin hc hl
  go_enter Try.func26, Try.ntmps26
  go_wp2_with fail
  refine HF.out.mono ?_
  rintro _ w1 ⟨rfl, hs⟩
  have HT1 := hide' (HT.out.keep hs)
  have HS1 := hide' hs
  have c0 := HT1.out.tm.box.c0
  simp only at c0
  rw [HV.out] at c0
  have HC0 := hide' c0
  have HPA := hide' (HT1.out.tm.cellsAt HG.out HP.out).1
  have HTI := hide' (fun W (hs : Stay (fun _ => False) w1 W) => ties40 ((HT1.out.tm).keep hs) (TM.w64 HT1.out (by have := HMC.out; omega)))
  clear hs HF HT c0
  go_upto_region 4 with fail
  go_cut [7, 8] from 21 to 29 (fun s7 s8 wx => ∃ b7 m1, s7 = .pointer (some ⟨b7, 0, none⟩) ∧ s8 = .map (some m1) ∧ Hid (Ex4 L p w1 b7 m1 wx))
  case first =>
    refine any_begin (fun w' => Stay (fun _ => False) w1 w') (by kernel_rfl) (fun K0 hK0 => ?_)
    obtain ⟨wd, hwd⟩ : ∃ W, W = w1.drew := ⟨_, rfl⟩
    have HST : Hid (Stay (fun _ => False) w1 wd) := by rw [hwd]; exact (Stay.refl _ _).drew
    rw [← hwd]
    clear hwd
    refine any_take (i := 0) hK0 (some 21) (.move (.tmp 0)) 24 _ (by kernel_rfl) (fun _ d _ _ _ h => by cases d <;> exact h) (by kernel_rfl) (by kernel_rfl) (fun w' hS' => by simp only [opr]; go_simp; try with_reducible rfl) HST.out (fun K1 hK1 => ?_)
    clear hK0 K0
    try simp only [Act.put, lA, lZ, lS]
    refine any_take (i := 1) hK1 (some 22) (.nilCheck (.tmp 21)) 0 _ (by kernel_rfl) (fun _ d _ _ _ h => by cases d <;> exact h) (by kernel_rfl) (by kernel_rfl) (fun w' hS' => by simp only [opr]; go_simp; try with_reducible rfl) HST.out (fun K2 hK2 => ?_)
    clear hK1 K1
    try simp only [Act.put, lA, lZ, lS]
    refine any_take (i := 2) hK2 (some 23) (.fieldAddr 64 (.tmp 22) 0) 0 _ (by kernel_rfl) (fun _ d _ _ _ h => by cases d <;> exact h) (by kernel_rfl) (by kernel_rfl) (fun w' hS' => by simp only [opr]; go_simp; try with_reducible rfl) HST.out (fun K3 hK3 => ?_)
    clear hK2 K2
    try simp only [Act.put, lA, lZ, lS]
    refine any_take (i := 3) hK3 (some 24) (.load 26 (.tmp 23)) 26 _ (by kernel_rfl) (fun _ d _ _ _ h => by cases d <;> exact h) (by kernel_rfl) (by kernel_rfl) (fun w' hS' => by (have z0 := keep_cell hS' HC0.out; simp only [opr]; go_simp; try with_reducible rfl)) HST.out (fun K4 hK4 => ?_)
    clear hK3 K3
    try simp only [Act.put, lA, lZ, lS]
    refine any_take (i := 4) hK4 (some 25) (.move (.tmp 5)) 3 _ (by kernel_rfl) (fun _ d _ _ _ h => by cases d <;> exact h) (by kernel_rfl) (by kernel_rfl) (fun w' hS' => by simp only [opr]; go_simp; try with_reducible rfl) HST.out (fun K5 hK5 => ?_)
    clear hK4 K4
    try simp only [Act.put, lA, lZ, lS]
    refine any_take (i := 5) hK5 (some 26) (.indexAddr 26 (.tmp 24) (.tmp 25)) 0 _ (by kernel_rfl) (fun _ d _ _ _ h => by cases d <;> exact h) (by kernel_rfl) (by kernel_rfl) (fun w' hS' => by (simp only [opr]; go_simp; try with_reducible rfl)) HST.out (fun K6 hK6 => ?_)
    clear hK5 K5
    try simp only [Act.put, lA, lZ, lS]
    refine any_take (i := 6) hK6 (some 27) (.load 40 (.tmp 26)) 40 _ (by kernel_rfl) (fun _ d _ _ _ h => by cases d <;> exact h) (by kernel_rfl) (by kernel_rfl) (fun w' hS' => by exact run_load_PBoxAt rfl rfl (HPA.out.keep hS')) HST.out (fun K7 hK7 => ?_)
    clear hK6 K6
    try simp only [Act.put, lA, lZ, lS]
    refine any_take (i := 7) hK7 (some 28) (.move (.tmp 0)) 24 _ (by kernel_rfl) (fun _ d _ _ _ h => by cases d <;> exact h) (by kernel_rfl) (by kernel_rfl) (fun w' hS' => by simp only [opr]; go_simp; try with_reducible rfl) HST.out (fun K8 hK8 => ?_)
    clear hK7 K7
    try simp only [Act.put, lA, lZ, lS]
    refine any_pick (rs := [8, 9]) hK8 (by kernel_rfl) (fun K9 hK9 => ?_)
    clear hK8 K8
    intro i hi
    simp only [List.mem_cons, List.not_mem_nil, or_false] at hi
    rcases hi with rfl | rfl
    · refine op_plain (some 29) (.call { callee := Callee.value (.func 40), args := #[.tmp 28], argTypes := #[24] }) 62 (by kernel_rfl) (by kernel_rfl) ?_
      go_wp2_with fail
      refine (HTI.out _ HST.out).mono ?_
      rintro _ wt ⟨m1, rfl, hmt, hst, hmz⟩
      have HM1 := hide' hmt
      have HMZ := hide' (Nat.le_trans HST.out.size hmz)
      have HST' := hide' (HST.out.trans hst)
      clear hst hmt hmz HTI
      clear HST
      have HST := HST'
      clear HST'
      go_wp2
      refine hK9 8 (by simp) _ _ HST.out (any_more fun K10 hK10 => ?_)
      clear hK9 K9
      refine any_pick (rs := [9]) hK10 (by kernel_rfl) (fun K11 hK11 => ?_)
      clear hK10 K10
      intro i hi
      simp only [List.mem_cons, List.not_mem_nil, or_false] at hi
      rcases hi with rfl
      refine op_plain (some 7) (.alloc 40) 0 (by kernel_rfl) (by kernel_rfl) ?_
      go_wp2
      obtain ⟨b7, hb7⟩ : ∃ b, b = wt.heap.size := ⟨_, rfl⟩
      obtain ⟨wb, hwb⟩ : ∃ W, W = wt.alloc (.cells #[.int .i64 0, .int .i64 0, .int .i64 0, .int .i64 0, .int .i64 0, .bool false] 40) := ⟨_, rfl⟩
      have hst : Stay (fun _ => False) wt wb := by rw [hwb]; exact (Stay.refl _ _).alloc _
      have HBX : Hid (PBox wb b7 ⟨0, 0, 0, 0, 0, false⟩) := by rw [hwb]; exact PBox.new ⟨0, 0, 0, 0, 0, false⟩ hb7.symm
      have HBZ : Hid (w1.heap.size ≤ b7) := by rw [hb7]; exact HST.out.size
      have HNE : Hid (¬ m1 = b7) := by have := HM1.out.lt; show ¬ _; omega
      have HM1' := hide' (HM1.out.keep hst)
      clear HM1
      have HM1 := HM1'
      clear HM1'
      have HST' := hide' (HST.out.trans hst)
      rw [← hwb, ← hb7]
      clear hst hwb hb7
      clear HST
      have HST := HST'
      clear HST'
      refine hK11 9 (by simp) _ _ HST.out (any_more fun K12 hK12 => ?_)
      clear hK11 K11
      refine any_pick (rs := [10]) hK12 (by kernel_rfl) (fun K13 hK13 => ?_)
      clear hK12 K12
      intro i hi
      simp only [List.mem_cons, List.not_mem_nil, or_false] at hi
      rcases hi with rfl
      refine op_plain none (.store 40 (.tmp 7) (.tmp 27)) 0 (by kernel_rfl) (by kernel_rfl) ?_
      have x0 := HBX.out.f0
      have x1 := HBX.out.f1
      have x2 := HBX.out.f2
      have x3 := HBX.out.f3
      have x4 := HBX.out.f4
      have x5 := HBX.out.f5
      have y0 := HBX.out.c0
      have y1 := HBX.out.c1
      have y2 := HBX.out.c2
      have y3 := HBX.out.c3
      have y4 := HBX.out.c4
      have y5 := HBX.out.c5
      go_wp2
      clear x0 x1 x2 x3 x4 x5 y0 y1 y2 y3 y4 y5
      have HBX' := hide' (HBX.out.put p)
      have HM1' := hide' (HM1.out.stay (PBox.put_stay wb b7 (.int .i64 p.pid) (.int .i64 p.par) (.int .i64 p.grp) (.int .i64 p.ses) (.int .i64 p.tty) (.bool p.df)) HNE.out)
      have HST' := hide' (PBox.stay_put HST.out HBZ.out (.int .i64 p.pid) (.int .i64 p.par) (.int .i64 p.grp) (.int .i64 p.ses) (.int .i64 p.tty) (.bool p.df))
      clear HBX
      have HBX := HBX'
      clear HBX'
      clear HM1
      have HM1 := HM1'
      clear HM1'
      clear HST
      have HST := HST'
      clear HST'
      refine hK13 10 (by simp) _ _ HST.out (any_more fun K14 hK14 => ?_)
      clear hK13 K13
      refine any_take (i := 11) hK14 (some 8) (.assign (.tmp 29)) 62 _ (by kernel_rfl) (fun _ d _ _ _ h => by cases d <;> exact h) (by kernel_rfl) (by kernel_rfl) (fun w' hS' => by simp only [opr]; go_simp; try with_reducible rfl) HST.out (fun K15 hK15 => ?_)
      clear hK14 K14
      try simp only [Act.put, lA, lZ, lS]
      refine any_done hK15 (by kernel_rfl) ?_
      clear hK15 K15
      go_wp2
      go_meet
      exact ⟨b7, m1, rfl, rfl, HST.out, HBX.out, HM1.out, HBZ.out, HMZ.out⟩
    · refine op_plain (some 7) (.alloc 40) 0 (by kernel_rfl) (by kernel_rfl) ?_
      go_wp2
      obtain ⟨b7, hb7⟩ : ∃ b, b = wd.heap.size := ⟨_, rfl⟩
      obtain ⟨wb, hwb⟩ : ∃ W, W = wd.alloc (.cells #[.int .i64 0, .int .i64 0, .int .i64 0, .int .i64 0, .int .i64 0, .bool false] 40) := ⟨_, rfl⟩
      have hst : Stay (fun _ => False) wd wb := by rw [hwb]; exact (Stay.refl _ _).alloc _
      have HBX : Hid (PBox wb b7 ⟨0, 0, 0, 0, 0, false⟩) := by rw [hwb]; exact PBox.new ⟨0, 0, 0, 0, 0, false⟩ hb7.symm
      have HBZ : Hid (w1.heap.size ≤ b7) := by rw [hb7]; exact HST.out.size
      have HST' := hide' (HST.out.trans hst)
      rw [← hwb, ← hb7]
      clear hst hwb hb7
      clear HST
      have HST := HST'
      clear HST'
      refine hK9 9 (by simp) _ _ HST.out (any_more fun K10 hK10 => ?_)
      clear hK9 K9
      refine any_pick (rs := [8]) hK10 (by kernel_rfl) (fun K11 hK11 => ?_)
      clear hK10 K10
      intro i hi
      simp only [List.mem_cons, List.not_mem_nil, or_false] at hi
      rcases hi with rfl
      refine op_plain (some 29) (.call { callee := Callee.value (.func 40), args := #[.tmp 28], argTypes := #[24] }) 62 (by kernel_rfl) (by kernel_rfl) ?_
      go_wp2_with fail
      refine (HTI.out _ HST.out).mono ?_
      rintro _ wt ⟨m1, rfl, hmt, hst, hmz⟩
      have HM1 := hide' hmt
      have HMZ := hide' (Nat.le_trans HST.out.size hmz)
      have HBX' := hide' (HBX.out.keep hst)
      have HNE : Hid (¬ m1 = b7) := by have := HBX.out.lt; show ¬ _; omega
      clear HBX
      have HBX := HBX'
      clear HBX'
      have HST' := hide' (HST.out.trans hst)
      clear hst hmt hmz HTI
      clear HST
      have HST := HST'
      clear HST'
      go_wp2
      refine hK11 8 (by simp) _ _ HST.out (any_more fun K12 hK12 => ?_)
      clear hK11 K11
      refine any_pick (rs := [10]) hK12 (by kernel_rfl) (fun K13 hK13 => ?_)
      clear hK12 K12
      intro i hi
      simp only [List.mem_cons, List.not_mem_nil, or_false] at hi
      rcases hi with rfl
      refine op_plain none (.store 40 (.tmp 7) (.tmp 27)) 0 (by kernel_rfl) (by kernel_rfl) ?_
      have x0 := HBX.out.f0
      have x1 := HBX.out.f1
      have x2 := HBX.out.f2
      have x3 := HBX.out.f3
      have x4 := HBX.out.f4
      have x5 := HBX.out.f5
      have y0 := HBX.out.c0
      have y1 := HBX.out.c1
      have y2 := HBX.out.c2
      have y3 := HBX.out.c3
      have y4 := HBX.out.c4
      have y5 := HBX.out.c5
      go_wp2
      clear x0 x1 x2 x3 x4 x5 y0 y1 y2 y3 y4 y5
      have HBX' := hide' (HBX.out.put p)
      have HM1' := hide' (HM1.out.stay (PBox.put_stay wt b7 (.int .i64 p.pid) (.int .i64 p.par) (.int .i64 p.grp) (.int .i64 p.ses) (.int .i64 p.tty) (.bool p.df)) HNE.out)
      have HST' := hide' (PBox.stay_put HST.out HBZ.out (.int .i64 p.pid) (.int .i64 p.par) (.int .i64 p.grp) (.int .i64 p.ses) (.int .i64 p.tty) (.bool p.df))
      clear HBX
      have HBX := HBX'
      clear HBX'
      clear HM1
      have HM1 := HM1'
      clear HM1'
      clear HST
      have HST := HST'
      clear HST'
      refine hK13 10 (by simp) _ _ HST.out (any_more fun K14 hK14 => ?_)
      clear hK13 K13
      refine any_take (i := 11) hK14 (some 8) (.assign (.tmp 29)) 62 _ (by kernel_rfl) (fun _ d _ _ _ h => by cases d <;> exact h) (by kernel_rfl) (by kernel_rfl) (fun w' hS' => by simp only [opr]; go_simp; try with_reducible rfl) HST.out (fun K15 hK15 => ?_)
      clear hK14 K14
      try simp only [Act.put, lA, lZ, lS]
      refine any_done hK15 (by kernel_rfl) ?_
      clear hK15 K15
      go_wp2
      go_meet
      exact ⟨b7, m1, rfl, rfl, HST.out, HBX.out, HM1.out, HBZ.out, HMZ.out⟩
  case rest =>
    obtain ⟨b7, m1, rfl, rfl, H4⟩ := hcut
    clear HTI HPA HC0
    have hT4 := HT1.out.keep H4.out.1
    obtain ⟨n5, hn5⟩ : ∃ n5, n5 = n - 1 := ⟨_, rfl⟩
    have hw4 : Ws wc (some ⟨g, 0, none⟩) n cap L := by
      obtain ⟨a, cap', hv', hw', _⟩ := hT4.tm.row
      rw [← HN.out] at hv' hw'
      have := HV.out.symm.trans hv'
      cases this
      exact hw'
    have HNB : Hid (∀ j, q.own j → ¬ j = b7 ∧ ¬ j = m1) := fun j hj => by
      have h1 := HT1.out.lt j hj
      have h2 := H4.out.2.2.2
      omega
    have HKP : Hid (∀ W q', Moved q q' wc W → PBox W b7 p ∧ MAt W m1 L.length (tiesF L L.length) (tiesH L L.length)) := fun W q' hm => ⟨H4.out.2.1.stay hm.1 (fun e => (HNB.out _ e).1 rfl), H4.out.2.2.1.stay hm.1 (fun e => (HNB.out _ e).2 rfl)⟩
    have hd := delete50 g i n cap L wc hw4 HIN.out (by have := HN.out; have := hT4.tm.len; omega)
    unfold DelP at hd
    rw [← hn5] at hd
    have HD := hide' hd
    have c0 := hT4.tm.box.c0
    simp only at c0
    rw [HV.out] at c0
    have HT4 := hide' hT4
    have HN5 : Hid (n5 = (L.eraseIdx i).length) := by
      have h1 := HN.out
      have h2 := HIN.out
      show n5 = _
      rw [List.length_eraseIdx, if_pos (by omega)]
      omega
    clear hT4 hw4 hd hn5 HT1
    go_wp2_with fail
    refine HD.out.mono ?_
    rintro _ w5 ⟨rfl, hw5, hs5⟩
    have hqg := (HT4.out.tm.vb g HG.out).1
    have hq0 : w5.cell? ⟨q.b, 0, none⟩ = some (.slice (some ⟨g, 0, none⟩) n cap) := (hs5.cell (p := ⟨q.b, 0, none⟩) (World.block_lt_of_cell? _ _ c0) (fun e => hqg (by have : q.b = g := e; exact this.symm))).trans c0
    have hqf : w5.frozen? ⟨q.b, 0, none⟩ = false := (hs5.frozen (p := ⟨q.b, 0, none⟩) (World.block_lt_of_cell? _ _ c0) (fun e => hqg (by have : q.b = g := e; exact this.symm))).trans HT4.out.tm.box.f0
    have hwv : Wv w5 (.slice (some ⟨g, 0, none⟩) n5 cap) (L.eraseIdx i) := ⟨_, cap, by rw [← HN5.out], by rw [← HN5.out]; exact hw5, fun e => by
      have h2 := hw5.2.1
      have h3 := (HT4.out.tm.row)
      obtain ⟨a', cap', hv', _, hz⟩ := h3
      have := HV.out.symm.trans hv'
      cases this
      exact hz e⟩
    have hT6 := HT4.out.tm.procsAt HG.out hs5 hwv (.inl rfl) (by have := HN5.out; have := HN.out; have := HT4.out.tm.len; have := HIN.out; have h9 := List.length_eraseIdx_le L i; omega) (HT4.out.tm.up.erase i)
    obtain ⟨q5, hq5⟩ : ∃ z : Tq, z = ⟨q.b, .slice (some ⟨g, 0, none⟩) n5 cap, q.m⟩ := ⟨_, rfl⟩
    rw [← hq5] at hT6
    have HQB : Hid (q5.b = q.b) := by rw [hq5]; exact rfl
    have hA := adopt51 p.pid hT6.1
    rw [HQB.out] at hA
    have HA := hide' hA
    have HM6 := hide' hT6.2
    clear hw5 hs5 hqg hwv hT6 hA hq5 HD c0 HT4
    go_wp2_with fail
    refine HA.out.mono ?_
    rintro _ w7 ⟨rfl, hT7, hm7⟩
    have HT7 := hide' hT7
    have HM7 := hide' (HM6.out.trans hm7)
    have HB7 := hide' (HKP.out w7 q5 HM7.out)
    clear hT7 hm7 HA hq0 hqf HM6
    have HO := hide' (leads44 b7 0 p w7 HB7.out.1.at0)
    rw [HLE.out] at HO
    go_wp2_with fail
    refine HO.out.mono ?_
    rintro _ w8 ⟨rfl, hs⟩
    have HT8 := hide' (HT7.out.keep hs)
    have HM8 := hide' (HM7.out.trans (Moved.of_stay hs))
    have HB8 := hide' (HKP.out w8 q5 HM8.out)
    have d4 := HB8.out.1.c4
    clear hs HO HT7 HM7 HB7
    obtain ⟨a0, ha0⟩ : ∃ a : Option Addr, a = none := ⟨_, rfl⟩
    obtain ⟨cap0, hc0⟩ : ∃ a : Nat, a = 0 := ⟨_, rfl⟩
    have HTz := hide' HT8.out
    have HMz := hide' HM8.out
    have HSVz : Hid (SV w8 a0 cap0 []) := by rw [ha0, hc0]; exact SV.nil _
    have HBz : Hid (∀ j, a0.map Addr.block = some j → ¬ q5.own j ∧ wc.heap.size ≤ j ∧ j < w8.heap.size) := fun j hj => by rw [ha0] at hj; cases hj
    have HA0 := hide' ha0
    have HC0 := hide' hc0
    clear ha0 hc0 HT8 HM8 HB8
    have hti := ties40 HTz.out (fun p hp => by have := HGD.out p hp; have := HMC.out; unfold W64; omega)
    rw [HQB.out] at hti
    have HTI := hide' hti
    clear hti
    go_wp2_with fail
    refine HTI.out.mono ?_
    rintro _ we ⟨m3, rfl, hm3, hs, hz3⟩
    have hTe := HTz.out.keep hs
    have hMe := HMz.out.trans (Moved.of_stay hs)
    have HK := hide' (keys54 (some m3) we)
    have hso := sorted53 m3 _ _ _ (grps md ((L.eraseIdx i).map (adopt p.pid))) we hm3 (by have := hTe.len; omega) (grps_up md ((L.eraseIdx i).map (adopt p.pid))) (grps_mem HGD.out) (grps_w64 (by have := HMC.out; omega))
    obtain ⟨m, hm⟩ : ∃ m, m = (grps md ((L.eraseIdx i).map (adopt p.pid))).length := ⟨_, rfl⟩
    have hml : m ≤ 2000 := by have h1 := grps_len md ((L.eraseIdx i).map (adopt p.pid)); have h2 := HMC.out; omega
    have hml1 : (m : Int) ≤ 2000 := by omega
    unfold GivesK at hso
    rw [← hm] at hso
    have HSO := hide' hso
    have HTe := hide' hTe
    have HMe := hide' hMe
    have HM3 := hide' hm3
    have HZ3 := hide' hz3
    have HSVe := hide' (HSVz.out.keep hs)
    have HME := hide' hm
    clear hs hTe hMe hso hm hm3 hz3 HTI HTz HMz d4
    go_wp2_with fail
    refine HK.out.mono ?_
    rintro _ wg ⟨rfl, rfl⟩
    clear HK
    go_wp2_with fail
    refine HSO.out.mono ?_
    rintro _ wh ⟨ka, kc, rfl, hrow, hkb, hs⟩
    have hs' : Stay (fun _ => False) we wh := ((Stay.refl _ _).alloc _).trans hs
    have hMh := HMe.out.trans (Moved.of_stay hs')
    have HE0 : Hid (ExIn w q q5 L ((L.eraseIdx i).map (adopt p.pid)) md f c m1 m3 ka kc (grps md ((L.eraseIdx i).map (adopt p.pid))) a0 cap0 ([] : List Sg) wh) := by
      have hlo : w.heap.size ≤ wc.heap.size := Nat.le_trans HS1.out.size H4.out.1.size
      refine ⟨HTe.out.keep hs', (HKP.out wh q5 hMh).2, HM3.out.keep hs', by rw [← HME.out]; exact hrow, HSVe.out.keep hs', fun j hj => ?_, fun j hj => ?_, (Moved.of_stay (HS1.out.trans H4.out.1)).trans hMh⟩
      · obtain ⟨e1, e2, e3⟩ := HBz.out j hj
        refine ⟨e1, fun e => ?_, fun e => ?_, fun hT b off e k => ?_⟩
        · have := H4.out.2.2.1.lt; omega
        · have := HZ3.out; omega
        · have h1 := hkb b off e
          simp at h1
          have h2 := HZ3.out
          have h3 := HM3.out.lt
          omega
      · have := (HBz.out j hj).2.1; omega
    obtain ⟨sl0, hsl0⟩ : ∃ z, z = ([] : List Sg).length := ⟨_, rfl⟩
    have HSG0 : Hid (([] : List Sg).length ≤ 1) := Nat.zero_le _
    have HR0 : Hid (sl0 = (([] : List Sg) ++ tellS L ((L.eraseIdx i).map (adopt p.pid)) ((grps md ((L.eraseIdx i).map (adopt p.pid))).take 0)).length ∧ ExIn w q q5 L ((L.eraseIdx i).map (adopt p.pid)) md f c m1 m3 ka kc (grps md ((L.eraseIdx i).map (adopt p.pid))) a0 cap0 (([] : List Sg) ++ tellS L ((L.eraseIdx i).map (adopt p.pid)) ((grps md ((L.eraseIdx i).map (adopt p.pid))).take 0)) wh) := by
      have e : (([] : List Sg) ++ tellS L ((L.eraseIdx i).map (adopt p.pid)) ((grps md ((L.eraseIdx i).map (adopt p.pid))).take 0)) = ([] : List Sg) := List.append_nil _
      rw [e]
      exact ⟨hsl0, HE0.out⟩
    have HSL0 := hide' hsl0
    have HZ0 : Hid (w.heap.size ≤ wh.heap.size) := Nat.le_trans (Nat.le_trans HS1.out.size H4.out.1.size) hMh.1.size
    clear hrow hkb hs hs' hMh HSO HE0 HTe HMe HM3 HZ3 HSVe HBz HSVz HKP H4 HS1 HNB hsl0 
    go_wp2
    go_loopg [9, 67] m (fun gg v9 v67 wr => ∃ (k sl : Nat) (a : Option Addr) (ca : Nat), k ≤ m ∧ gg = m - k ∧ v67 = .int .i64 (k : Int) ∧ v9 = .slice a sl ca ∧ Hid (w.heap.size ≤ wr.heap.size) ∧ Hid (sl = (([] : List Sg) ++ tellS L ((L.eraseIdx i).map (adopt p.pid)) ((grps md ((L.eraseIdx i).map (adopt p.pid))).take k)).length ∧ ExIn w q q5 L ((L.eraseIdx i).map (adopt p.pid)) md f c m1 m3 ka kc (grps md ((L.eraseIdx i).map (adopt p.pid))) a ca (([] : List Sg) ++ tellS L ((L.eraseIdx i).map (adopt p.pid)) ((grps md ((L.eraseIdx i).map (adopt p.pid))).take k)) wr))
    case atStart => exact ⟨0, sl0, a0, cap0, Nat.zero_le _, rfl, rfl, by rw [HA0.out, HC0.out, HSL0.out]; rfl, HZ0, HR0⟩
    case round =>
      clear HR0 HZ0
      obtain ⟨k, sl, a, ca, hk, rfl, rfl, rfl, HZ, HR⟩ := hrel
      by_cases hlt : k < m
      · have kn : (k : Int) < (m : Nat) := by omega
        have hlt2 : k < (grps md ((L.eraseIdx i).map (adopt p.pid))).length := by rw [← HME.out]; exact hlt
        obtain ⟨kb, ko, hka, _, hin⟩ := HR.out.2.row.cells (fun e => by rw [e] at hlt2; exact absurd hlt2 (Nat.not_lt_zero _))
        obtain ⟨gr, hgr⟩ : ∃ z, z = (grps md ((L.eraseIdx i).map (adopt p.pid))).getD k 0 := ⟨_, rfl⟩
        have hcell := hin k hlt2
        rw [← hgr] at hcell
        have hgw : W64 gr := by rw [hgr]; exact grps_w64 (by have := HMC.out; omega) _ (getD_mem hlt2)
        have hlk1 := HR.out.2.b1.look hgw
        have hlk3 := HR.out.2.b3.look hgw
        obtain ⟨z1, hz1⟩ : ∃ z, z = tiesF L L.length gr := ⟨_, rfl⟩
        obtain ⟨z3, hz3⟩ : ∃ z, z = tiesF ((L.eraseIdx i).map (adopt p.pid)) ((L.eraseIdx i).map (adopt p.pid)).length gr := ⟨_, rfl⟩
        rw [← hz1] at hlk1
        rw [← hz3] at hlk3
        have HSN := hide' (tellS_snoc L ((L.eraseIdx i).map (adopt p.pid)) hlt2)
        have HGR := hide' hgr
        have HZ1 := hide' hz1
        have HZ3 := hide' hz3
        have HLT := hide' hlt2
        subst hka
        clear hin hgw hz1 hz3 hgr hlt2
        by_cases h1 : 0 < z1
        · by_cases h3 : z3 = 0
          · have d3 : (z3 == 0) = true := beq_iff_eq.2 h3
            have HOS : Hid (orphS L ((L.eraseIdx i).map (adopt p.pid)) gr = sigsTo ((L.eraseIdx i).map (adopt p.pid)) gr [4, 5]) := orphS_yes (by rw [← HZ1.out]; exact h1) (by rw [← HZ3.out]; exact h3)
            clear h3 HZ1 HZ3
            have hsg := fun (W : World) (hs : Stay (fun _ => False) wr W) (B : Nat) (k0 : W.cell? ⟨B, 0, none⟩ = some (.int .i64 4)) (k1 : W.cell? ⟨B, 1, none⟩ = some (.int .i64 5)) => signals gr B [4, 5] (HR.out.2.tm.keep hs) (fun j hj => by
              match j, hj with
              | 0, _ => exact k0
              | 1, _ => exact k1) (by decide)
            rw [HQB.out] at hsg
            have HSG := hide' hsg
            clear hsg
            go_wp2_with fail
            refine (HSG.out _ ?_ _ ?_ ?_).mono ?_
            · exact (Stay.refl _ _).alloc _
            · simp
            · simp
            rintro _ wu ⟨a5, cap5, rfl, hsv, hs, hb⟩
            have hs' : Stay (fun _ => False) wr wu := ((Stay.refl _ _).alloc _).trans hs
            have HEX := hide' (HR.out.2.keep hs')
            have HZU : Hid (w.heap.size ≤ wu.heap.size) := Nat.le_trans HZ.out hs'.size
            obtain ⟨m5, hm5⟩ : ∃ z, z = (sigsTo ((L.eraseIdx i).map (adopt p.pid)) gr [4, 5]).length := ⟨_, rfl⟩
            have HM5 := hide' hm5
            have hm52 : m5 ≤ 2 := by rw [hm5]; exact sigsTo_len _ _ [4, 5]
            have HSRC := hide' hsv.src
            rw [← hm5]
            have hsl : sl ≤ 5000 := by
              rw [HR.out.1, List.length_append]
              have e1 := tellS_len L ((L.eraseIdx i).map (adopt p.pid)) ((grps md ((L.eraseIdx i).map (adopt p.pid))).take k)
              rw [List.length_take] at e1
              have e2 := HSG0.out
              have e3 := HME.out
              omega
            have HWIN : Hid (Win wu 2 (.slice a sl ca) sl (sc (([] : List Sg) ++ tellS L ((L.eraseIdx i).map (adopt p.pid)) ((grps md ((L.eraseIdx i).map (adopt p.pid))).take k)))) := by
              have := HEX.out.sv
              unfold SV at this
              rw [← HR.out.1] at this
              exact this
            have HLN : Hid ((sc (sigsTo ((L.eraseIdx i).map (adopt p.pid)) gr [4, 5])).length = m5 * 2) := by rw [sc_length, hm5]; exact rfl
            rw [← hm5] at HSRC
            have HSLE := hide' HR.out.1
            clear hs hs' hsv hb hm5 HR HSG hlk1 hlk3 hcell
            go_wp2_with (at_builtin; refine wpList_append_win rfl _ _ 35 rfl Try.underlying35 info60 rfl (by decide) (by decide) HWIN.out rfl HLN.out HSRC.out.1 HSRC.out.2 (sc_all _) (by omega) rfl ?_; intro v2 w2 hw2 hs2 hb2; have HW2 := hide' hw2; have HS2 := hide' hs2; have HB2 := hide' hb2; clear hw2 hs2 hb2; obtain ⟨a2, cap2, hv2, _, _⟩ := HW2.out.shape; subst hv2)
            have HN1 : Hid (sl + m5 = (([] : List Sg) ++ tellS L ((L.eraseIdx i).map (adopt p.pid)) ((grps md ((L.eraseIdx i).map (adopt p.pid))).take (k + 1))).length ∧ ExIn w q q5 L ((L.eraseIdx i).map (adopt p.pid)) md f c m1 m3 (some ⟨kb, ko, none⟩) kc (grps md ((L.eraseIdx i).map (adopt p.pid))) a2 cap2 (([] : List Sg) ++ tellS L ((L.eraseIdx i).map (adopt p.pid)) ((grps md ((L.eraseIdx i).map (adopt p.pid))).take (k + 1))) w2) := by
              have e : (([] : List Sg) ++ tellS L ((L.eraseIdx i).map (adopt p.pid)) ((grps md ((L.eraseIdx i).map (adopt p.pid))).take (k + 1))) = (([] : List Sg) ++ tellS L ((L.eraseIdx i).map (adopt p.pid)) ((grps md ((L.eraseIdx i).map (adopt p.pid))).take k)) ++ sigsTo ((L.eraseIdx i).map (adopt p.pid)) gr [4, 5] := by
                rw [HSN.out, ← HGR.out, HOS.out, List.append_assoc]
              have el : sl + m5 = ((([] : List Sg) ++ tellS L ((L.eraseIdx i).map (adopt p.pid)) ((grps md ((L.eraseIdx i).map (adopt p.pid))).take k)) ++ sigsTo ((L.eraseIdx i).map (adopt p.pid)) gr [4, 5]).length := by
                rw [List.length_append, ← HSLE.out, ← HM5.out]
              rw [e]
              refine ⟨el, HEX.out.more HZU.out (HS2.out.mono (fun j _ e => by cases a <;> exact e)) ?_ ?_⟩
              · unfold SV
                rw [← el, sc_append]
                exact HW2.out
              · rcases HB2.out with e | e
                · exact .inl (fun j hj => by
                    have h2 : (Value.slice a2 (sl + m5) cap2).ownBlock = some j := by cases a2 <;> exact hj
                    rw [e] at h2
                    cases a <;> exact h2)
                · exact .inr (fun j hj => by
                    have h2 : (Value.slice a2 (sl + m5) cap2).ownBlock = some j := by cases a2 <;> exact hj
                    rw [e] at h2
                    cases h2
                    rfl)
            have HZ2 : Hid (w.heap.size ≤ w2.heap.size) := Nat.le_trans HZU.out HS2.out.size
            clear HEX HWIN HLN HSRC HSN HW2 HS2 HB2 HOS
            go_wp2
            go_roundg (m - (k + 1))
            case measure => omega
            case rel => exact ⟨k + 1, sl + m5, a2, cap2, by omega, rfl, by go_num, rfl, HZ2, HN1⟩
          · have d3 : (z3 == 0) = false := beq_eq_false_iff_ne.2 h3
            have HN1 : Hid (sl = (([] : List Sg) ++ tellS L ((L.eraseIdx i).map (adopt p.pid)) ((grps md ((L.eraseIdx i).map (adopt p.pid))).take (k + 1))).length ∧ ExIn w q q5 L ((L.eraseIdx i).map (adopt p.pid)) md f c m1 m3 (some ⟨kb, ko, none⟩) kc (grps md ((L.eraseIdx i).map (adopt p.pid))) a ca (([] : List Sg) ++ tellS L ((L.eraseIdx i).map (adopt p.pid)) ((grps md ((L.eraseIdx i).map (adopt p.pid))).take (k + 1))) wr) := by
              have e : (([] : List Sg) ++ tellS L ((L.eraseIdx i).map (adopt p.pid)) ((grps md ((L.eraseIdx i).map (adopt p.pid))).take (k + 1))) = (([] : List Sg) ++ tellS L ((L.eraseIdx i).map (adopt p.pid)) ((grps md ((L.eraseIdx i).map (adopt p.pid))).take k)) := by
                rw [HSN.out, ← HGR.out, orphS_no (fun e => h3 (by rw [HZ3.out]; exact e.2)), List.append_nil]
              rw [e]
              exact HR.out
            clear h3 HZ1 HZ3 HR HSN
            go_wp2
            go_roundg (m - (k + 1))
            case measure => omega
            case rel => exact ⟨k + 1, sl, a, ca, by omega, rfl, by go_num, rfl, HZ, HN1⟩
        · have HN1 : Hid (sl = (([] : List Sg) ++ tellS L ((L.eraseIdx i).map (adopt p.pid)) ((grps md ((L.eraseIdx i).map (adopt p.pid))).take (k + 1))).length ∧ ExIn w q q5 L ((L.eraseIdx i).map (adopt p.pid)) md f c m1 m3 (some ⟨kb, ko, none⟩) kc (grps md ((L.eraseIdx i).map (adopt p.pid))) a ca (([] : List Sg) ++ tellS L ((L.eraseIdx i).map (adopt p.pid)) ((grps md ((L.eraseIdx i).map (adopt p.pid))).take (k + 1))) wr) := by
            have e : (([] : List Sg) ++ tellS L ((L.eraseIdx i).map (adopt p.pid)) ((grps md ((L.eraseIdx i).map (adopt p.pid))).take (k + 1))) = (([] : List Sg) ++ tellS L ((L.eraseIdx i).map (adopt p.pid)) ((grps md ((L.eraseIdx i).map (adopt p.pid))).take k)) := by
              rw [HSN.out, ← HGR.out, orphS_no (fun e => h1 (by rw [HZ1.out]; exact e.1)), List.append_nil]
            rw [e]
            exact HR.out
          clear HZ1 HZ3 HR HSN
          go_wp2
          go_roundg (m - (k + 1))
          case measure => omega
          case rel => exact ⟨k + 1, sl, a, ca, by omega, rfl, by go_num, rfl, HZ, HN1⟩
      · have e : k = m := by omega
        subst e
        have hR := HR.out
        rw [List.take_of_length_le (by rw [← HME.out]; exact Nat.le_refl _)] at hR
        have HRR := hide' hR
        clear hR HR
        go_wp2
        go_ret
        exact ⟨q5, a, ca, HQB.out, by first | (rw [← HRR.out.1]; rfl) | (have e := HRR.out.1; rw [List.nil_append] at e; rw [← e]; rfl), HRR.out.2.sv, HRR.out.2.tm, HRR.out.2.mv, fun j hj => ⟨HRR.out.2.new j hj, (HRR.out.2.ne j hj).1⟩⟩

set_option maxRecDepth 100000 in
set_option maxHeartbeats 4000000 in
theorem exit26_lead (x : Int) (h : TAt w q L md f c) (hp : L[i]? = some p) (hx : p.pid = x) (hc : c ≤ 2000) (hl : leadB p = true) (hy : (p.tty != 0) = true) (hgd : ∀ p' ∈ (((L.eraseIdx i).map (adopt p.pid)).map (freeT p.tty)), 1 ≤ p'.grp ∧ p'.grp ≤ md) : Calls Try.prog 26 #[.pointer (some ⟨q.b, 0, none⟩), .int .i64 x] w (Gone q (((L.eraseIdx i).map (adopt p.pid)).map (freeT p.tty)) md (upd f p.tty 0) c ((sigsTo ((L.eraseIdx i).map (adopt p.pid)) (f p.tty) [4]) ++ tellS L (((L.eraseIdx i).map (adopt p.pid)).map (freeT p.tty)) (grps md (((L.eraseIdx i).map (adopt p.pid)).map (freeT p.tty)))) w) := by
  subst hx
  have HF := hide' (place49_at p.pid h.tm hp rfl)
  have HT := hide' h
  have HP := hide' hp
  have HGD := hide' hgd
  have HMC : Hid (c ≤ 2000 ∧ md ≤ c) := ⟨hc, h.mc⟩
  have HLE := hide' hl
  have HTW := hide' (h.ok.w64 (by have := h.mc; omega) (mem_at hp)).2.2.2.2
  obtain ⟨g, cap, hv⟩ := h.tm.shape
  have HG : Hid (q.v.ownBlock = some g) := by rw [hv]; exact rfl
  obtain ⟨n, hn⟩ : ∃ n, n = L.length := ⟨_, rfl⟩
  rw [← hn] at hv
  have HN := hide' hn
  have HV := hide' hv
  have hin : i < n := by have := (List.getElem?_eq_some_iff.1 hp).1; omega
  have hin1 : (i : Int) < (n : Nat) := by omega
  have hn1 : (n : Int) ≤ 256 := by have := h.tm.len; omega
  have HIN := hide' hin
  clear h hp hgd hv hn hin hc hl
  go_enter Try.func26, Try.ntmps26
  go_wp2_with fail
  refine HF.out.mono ?_
  rintro _ w1 ⟨rfl, hs⟩
  have HT1 := hide' (HT.out.keep hs)
  have HS1 := hide' hs
  have c0 := HT1.out.tm.box.c0
  simp only at c0
  rw [HV.out] at c0
  have HC0 := hide' c0
  have HPA := hide' (HT1.out.tm.cellsAt HG.out HP.out).1
  have HTI := hide' (fun W (hs : Stay (fun _ => False) w1 W) => ties40 ((HT1.out.tm).keep hs) (TM.w64 HT1.out (by have := HMC.out; omega)))
  clear hs HF HT c0
  go_upto_region 4 with fail
  go_cut [7, 8] from 21 to 29 (fun s7 s8 wx => ∃ b7 m1, s7 = .pointer (some ⟨b7, 0, none⟩) ∧ s8 = .map (some m1) ∧ Hid (Ex4 L p w1 b7 m1 wx))
  case first =>
    refine any_begin (fun w' => Stay (fun _ => False) w1 w') (by kernel_rfl) (fun K0 hK0 => ?_)
    obtain ⟨wd, hwd⟩ : ∃ W, W = w1.drew := ⟨_, rfl⟩
    have HST : Hid (Stay (fun _ => False) w1 wd) := by rw [hwd]; exact (Stay.refl _ _).drew
    rw [← hwd]
    clear hwd
    refine any_take (i := 0) hK0 (some 21) (.move (.tmp 0)) 24 _ (by kernel_rfl) (fun _ d _ _ _ h => by cases d <;> exact h) (by kernel_rfl) (by kernel_rfl) (fun w' hS' => by simp only [opr]; go_simp; try with_reducible rfl) HST.out (fun K1 hK1 => ?_)
    clear hK0 K0
    try simp only [Act.put, lA, lZ, lS]
    refine any_take (i := 1) hK1 (some 22) (.nilCheck (.tmp 21)) 0 _ (by kernel_rfl) (fun _ d _ _ _ h => by cases d <;> exact h) (by kernel_rfl) (by kernel_rfl) (fun w' hS' => by simp only [opr]; go_simp; try with_reducible rfl) HST.out (fun K2 hK2 => ?_)
    clear hK1 K1
    try simp only [Act.put, lA, lZ, lS]
    refine any_take (i := 2) hK2 (some 23) (.fieldAddr 64 (.tmp 22) 0) 0 _ (by kernel_rfl) (fun _ d _ _ _ h => by cases d <;> exact h) (by kernel_rfl) (by kernel_rfl) (fun w' hS' => by simp only [opr]; go_simp; try with_reducible rfl) HST.out (fun K3 hK3 => ?_)
    clear hK2 K2
    try simp only [Act.put, lA, lZ, lS]
    refine any_take (i := 3) hK3 (some 24) (.load 26 (.tmp 23)) 26 _ (by kernel_rfl) (fun _ d _ _ _ h => by cases d <;> exact h) (by kernel_rfl) (by kernel_rfl) (fun w' hS' => by (have z0 := keep_cell hS' HC0.out; simp only [opr]; go_simp; try with_reducible rfl)) HST.out (fun K4 hK4 => ?_)
    clear hK3 K3
    try simp only [Act.put, lA, lZ, lS]
    refine any_take (i := 4) hK4 (some 25) (.move (.tmp 5)) 3 _ (by kernel_rfl) (fun _ d _ _ _ h => by cases d <;> exact h) (by kernel_rfl) (by kernel_rfl) (fun w' hS' => by simp only [opr]; go_simp; try with_reducible rfl) HST.out (fun K5 hK5 => ?_)
    clear hK4 K4
    try simp only [Act.put, lA, lZ, lS]
    refine any_take (i := 5) hK5 (some 26) (.indexAddr 26 (.tmp 24) (.tmp 25)) 0 _ (by kernel_rfl) (fun _ d _ _ _ h => by cases d <;> exact h) (by kernel_rfl) (by kernel_rfl) (fun w' hS' => by (simp only [opr]; go_simp; try with_reducible rfl)) HST.out (fun K6 hK6 => ?_)
    clear hK5 K5
    try simp only [Act.put, lA, lZ, lS]
    refine any_take (i := 6) hK6 (some 27) (.load 40 (.tmp 26)) 40 _ (by kernel_rfl) (fun _ d _ _ _ h => by cases d <;> exact h) (by kernel_rfl) (by kernel_rfl) (fun w' hS' => by exact run_load_PBoxAt rfl rfl (HPA.out.keep hS')) HST.out (fun K7 hK7 => ?_)
    clear hK6 K6
    try simp only [Act.put, lA, lZ, lS]
    refine any_take (i := 7) hK7 (some 28) (.move (.tmp 0)) 24 _ (by kernel_rfl) (fun _ d _ _ _ h => by cases d <;> exact h) (by kernel_rfl) (by kernel_rfl) (fun w' hS' => by simp only [opr]; go_simp; try with_reducible rfl) HST.out (fun K8 hK8 => ?_)
    clear hK7 K7
    try simp only [Act.put, lA, lZ, lS]
    refine any_pick (rs := [8, 9]) hK8 (by kernel_rfl) (fun K9 hK9 => ?_)
    clear hK8 K8
    intro i hi
    simp only [List.mem_cons, List.not_mem_nil, or_false] at hi
    rcases hi with rfl | rfl
    · refine op_plain (some 29) (.call { callee := Callee.value (.func 40), args := #[.tmp 28], argTypes := #[24] }) 62 (by kernel_rfl) (by kernel_rfl) ?_
      go_wp2_with fail
      refine (HTI.out _ HST.out).mono ?_
      rintro _ wt ⟨m1, rfl, hmt, hst, hmz⟩
      have HM1 := hide' hmt
      have HMZ := hide' (Nat.le_trans HST.out.size hmz)
      have HST' := hide' (HST.out.trans hst)
      clear hst hmt hmz HTI
      clear HST
      have HST := HST'
      clear HST'
      go_wp2
      refine hK9 8 (by simp) _ _ HST.out (any_more fun K10 hK10 => ?_)
      clear hK9 K9
      refine any_pick (rs := [9]) hK10 (by kernel_rfl) (fun K11 hK11 => ?_)
      clear hK10 K10
      intro i hi
      simp only [List.mem_cons, List.not_mem_nil, or_false] at hi
      rcases hi with rfl
      refine op_plain (some 7) (.alloc 40) 0 (by kernel_rfl) (by kernel_rfl) ?_
      go_wp2
      obtain ⟨b7, hb7⟩ : ∃ b, b = wt.heap.size := ⟨_, rfl⟩
      obtain ⟨wb, hwb⟩ : ∃ W, W = wt.alloc (.cells #[.int .i64 0, .int .i64 0, .int .i64 0, .int .i64 0, .int .i64 0, .bool false] 40) := ⟨_, rfl⟩
      have hst : Stay (fun _ => False) wt wb := by rw [hwb]; exact (Stay.refl _ _).alloc _
      have HBX : Hid (PBox wb b7 ⟨0, 0, 0, 0, 0, false⟩) := by rw [hwb]; exact PBox.new ⟨0, 0, 0, 0, 0, false⟩ hb7.symm
      have HBZ : Hid (w1.heap.size ≤ b7) := by rw [hb7]; exact HST.out.size
      have HNE : Hid (¬ m1 = b7) := by have := HM1.out.lt; show ¬ _; omega
      have HM1' := hide' (HM1.out.keep hst)
      clear HM1
      have HM1 := HM1'
      clear HM1'
      have HST' := hide' (HST.out.trans hst)
      rw [← hwb, ← hb7]
      clear hst hwb hb7
      clear HST
      have HST := HST'
      clear HST'
      refine hK11 9 (by simp) _ _ HST.out (any_more fun K12 hK12 => ?_)
      clear hK11 K11
      refine any_pick (rs := [10]) hK12 (by kernel_rfl) (fun K13 hK13 => ?_)
      clear hK12 K12
      intro i hi
      simp only [List.mem_cons, List.not_mem_nil, or_false] at hi
      rcases hi with rfl
      refine op_plain none (.store 40 (.tmp 7) (.tmp 27)) 0 (by kernel_rfl) (by kernel_rfl) ?_
      have x0 := HBX.out.f0
      have x1 := HBX.out.f1
      have x2 := HBX.out.f2
      have x3 := HBX.out.f3
      have x4 := HBX.out.f4
      have x5 := HBX.out.f5
      have y0 := HBX.out.c0
      have y1 := HBX.out.c1
      have y2 := HBX.out.c2
      have y3 := HBX.out.c3
      have y4 := HBX.out.c4
      have y5 := HBX.out.c5
      go_wp2
      clear x0 x1 x2 x3 x4 x5 y0 y1 y2 y3 y4 y5
      have HBX' := hide' (HBX.out.put p)
      have HM1' := hide' (HM1.out.stay (PBox.put_stay wb b7 (.int .i64 p.pid) (.int .i64 p.par) (.int .i64 p.grp) (.int .i64 p.ses) (.int .i64 p.tty) (.bool p.df)) HNE.out)
      have HST' := hide' (PBox.stay_put HST.out HBZ.out (.int .i64 p.pid) (.int .i64 p.par) (.int .i64 p.grp) (.int .i64 p.ses) (.int .i64 p.tty) (.bool p.df))
      clear HBX
      have HBX := HBX'
      clear HBX'
      clear HM1
      have HM1 := HM1'
      clear HM1'
      clear HST
      have HST := HST'
      clear HST'
      refine hK13 10 (by simp) _ _ HST.out (any_more fun K14 hK14 => ?_)
      clear hK13 K13
      refine any_take (i := 11) hK14 (some 8) (.assign (.tmp 29)) 62 _ (by kernel_rfl) (fun _ d _ _ _ h => by cases d <;> exact h) (by kernel_rfl) (by kernel_rfl) (fun w' hS' => by simp only [opr]; go_simp; try with_reducible rfl) HST.out (fun K15 hK15 => ?_)
      clear hK14 K14
      try simp only [Act.put, lA, lZ, lS]
      refine any_done hK15 (by kernel_rfl) ?_
      clear hK15 K15
      go_wp2
      go_meet
      exact ⟨b7, m1, rfl, rfl, HST.out, HBX.out, HM1.out, HBZ.out, HMZ.out⟩
    · refine op_plain (some 7) (.alloc 40) 0 (by kernel_rfl) (by kernel_rfl) ?_
      go_wp2
      obtain ⟨b7, hb7⟩ : ∃ b, b = wd.heap.size := ⟨_, rfl⟩
      obtain ⟨wb, hwb⟩ : ∃ W, W = wd.alloc (.cells #[.int .i64 0, .int .i64 0, .int .i64 0, .int .i64 0, .int .i64 0, .bool false] 40) := ⟨_, rfl⟩
      have hst : Stay (fun _ => False) wd wb := by rw [hwb]; exact (Stay.refl _ _).alloc _
      have HBX : Hid (PBox wb b7 ⟨0, 0, 0, 0, 0, false⟩) := by rw [hwb]; exact PBox.new ⟨0, 0, 0, 0, 0, false⟩ hb7.symm
      have HBZ : Hid (w1.heap.size ≤ b7) := by rw [hb7]; exact HST.out.size
      have HST' := hide' (HST.out.trans hst)
      rw [← hwb, ← hb7]
      clear hst hwb hb7
      clear HST
      have HST := HST'
      clear HST'
      refine hK9 9 (by simp) _ _ HST.out (any_more fun K10 hK10 => ?_)
      clear hK9 K9
      refine any_pick (rs := [8]) hK10 (by kernel_rfl) (fun K11 hK11 => ?_)
      clear hK10 K10
      intro i hi
      simp only [List.mem_cons, List.not_mem_nil, or_false] at hi
      rcases hi with rfl
      refine op_plain (some 29) (.call { callee := Callee.value (.func 40), args := #[.tmp 28], argTypes := #[24] }) 62 (by kernel_rfl) (by kernel_rfl) ?_
      go_wp2_with fail
      refine (HTI.out _ HST.out).mono ?_
      rintro _ wt ⟨m1, rfl, hmt, hst, hmz⟩
      have HM1 := hide' hmt
      have HMZ := hide' (Nat.le_trans HST.out.size hmz)
      have HBX' := hide' (HBX.out.keep hst)
      have HNE : Hid (¬ m1 = b7) := by have := HBX.out.lt; show ¬ _; omega
      clear HBX
      have HBX := HBX'
      clear HBX'
      have HST' := hide' (HST.out.trans hst)
      clear hst hmt hmz HTI
      clear HST
      have HST := HST'
      clear HST'
      go_wp2
      refine hK11 8 (by simp) _ _ HST.out (any_more fun K12 hK12 => ?_)
      clear hK11 K11
      refine any_pick (rs := [10]) hK12 (by kernel_rfl) (fun K13 hK13 => ?_)
      clear hK12 K12
      intro i hi
      simp only [List.mem_cons, List.not_mem_nil, or_false] at hi
      rcases hi with rfl
      refine op_plain none (.store 40 (.tmp 7) (.tmp 27)) 0 (by kernel_rfl) (by kernel_rfl) ?_
      have x0 := HBX.out.f0
      have x1 := HBX.out.f1
      have x2 := HBX.out.f2
      have x3 := HBX.out.f3
      have x4 := HBX.out.f4
      have x5 := HBX.out.f5
      have y0 := HBX.out.c0
      have y1 := HBX.out.c1
      have y2 := HBX.out.c2
      have y3 := HBX.out.c3
      have y4 := HBX.out.c4
      have y5 := HBX.out.c5
      go_wp2
      clear x0 x1 x2 x3 x4 x5 y0 y1 y2 y3 y4 y5
      have HBX' := hide' (HBX.out.put p)
      have HM1' := hide' (HM1.out.stay (PBox.put_stay wt b7 (.int .i64 p.pid) (.int .i64 p.par) (.int .i64 p.grp) (.int .i64 p.ses) (.int .i64 p.tty) (.bool p.df)) HNE.out)
      have HST' := hide' (PBox.stay_put HST.out HBZ.out (.int .i64 p.pid) (.int .i64 p.par) (.int .i64 p.grp) (.int .i64 p.ses) (.int .i64 p.tty) (.bool p.df))
      clear HBX
      have HBX := HBX'
      clear HBX'
      clear HM1
      have HM1 := HM1'
      clear HM1'
      clear HST
      have HST := HST'
      clear HST'
      refine hK13 10 (by simp) _ _ HST.out (any_more fun K14 hK14 => ?_)
      clear hK13 K13
      refine any_take (i := 11) hK14 (some 8) (.assign (.tmp 29)) 62 _ (by kernel_rfl) (fun _ d _ _ _ h => by cases d <;> exact h) (by kernel_rfl) (by kernel_rfl) (fun w' hS' => by simp only [opr]; go_simp; try with_reducible rfl) HST.out (fun K15 hK15 => ?_)
      clear hK14 K14
      try simp only [Act.put, lA, lZ, lS]
      refine any_done hK15 (by kernel_rfl) ?_
      clear hK15 K15
      go_wp2
      go_meet
      exact ⟨b7, m1, rfl, rfl, HST.out, HBX.out, HM1.out, HBZ.out, HMZ.out⟩
  case rest =>
    obtain ⟨b7, m1, rfl, rfl, H4⟩ := hcut
    clear HTI HPA HC0
    have hT4 := HT1.out.keep H4.out.1
    obtain ⟨n5, hn5⟩ : ∃ n5, n5 = n - 1 := ⟨_, rfl⟩
    have hw4 : Ws wc (some ⟨g, 0, none⟩) n cap L := by
      obtain ⟨a, cap', hv', hw', _⟩ := hT4.tm.row
      rw [← HN.out] at hv' hw'
      have := HV.out.symm.trans hv'
      cases this
      exact hw'
    have HNB : Hid (∀ j, q.own j → ¬ j = b7 ∧ ¬ j = m1) := fun j hj => by
      have h1 := HT1.out.lt j hj
      have h2 := H4.out.2.2.2
      omega
    have HKP : Hid (∀ W q', Moved q q' wc W → PBox W b7 p ∧ MAt W m1 L.length (tiesF L L.length) (tiesH L L.length)) := fun W q' hm => ⟨H4.out.2.1.stay hm.1 (fun e => (HNB.out _ e).1 rfl), H4.out.2.2.1.stay hm.1 (fun e => (HNB.out _ e).2 rfl)⟩
    have hd := delete50 g i n cap L wc hw4 HIN.out (by have := HN.out; have := hT4.tm.len; omega)
    unfold DelP at hd
    rw [← hn5] at hd
    have HD := hide' hd
    have c0 := hT4.tm.box.c0
    simp only at c0
    rw [HV.out] at c0
    have HT4 := hide' hT4
    have HN5 : Hid (n5 = (L.eraseIdx i).length) := by
      have h1 := HN.out
      have h2 := HIN.out
      show n5 = _
      rw [List.length_eraseIdx, if_pos (by omega)]
      omega
    clear hT4 hw4 hd hn5 HT1
    go_wp2_with fail
    refine HD.out.mono ?_
    rintro _ w5 ⟨rfl, hw5, hs5⟩
    have hqg := (HT4.out.tm.vb g HG.out).1
    have hq0 : w5.cell? ⟨q.b, 0, none⟩ = some (.slice (some ⟨g, 0, none⟩) n cap) := (hs5.cell (p := ⟨q.b, 0, none⟩) (World.block_lt_of_cell? _ _ c0) (fun e => hqg (by have : q.b = g := e; exact this.symm))).trans c0
    have hqf : w5.frozen? ⟨q.b, 0, none⟩ = false := (hs5.frozen (p := ⟨q.b, 0, none⟩) (World.block_lt_of_cell? _ _ c0) (fun e => hqg (by have : q.b = g := e; exact this.symm))).trans HT4.out.tm.box.f0
    have hwv : Wv w5 (.slice (some ⟨g, 0, none⟩) n5 cap) (L.eraseIdx i) := ⟨_, cap, by rw [← HN5.out], by rw [← HN5.out]; exact hw5, fun e => by
      have h2 := hw5.2.1
      have h3 := (HT4.out.tm.row)
      obtain ⟨a', cap', hv', _, hz⟩ := h3
      have := HV.out.symm.trans hv'
      cases this
      exact hz e⟩
    have hT6 := HT4.out.tm.procsAt HG.out hs5 hwv (.inl rfl) (by have := HN5.out; have := HN.out; have := HT4.out.tm.len; have := HIN.out; have h9 := List.length_eraseIdx_le L i; omega) (HT4.out.tm.up.erase i)
    obtain ⟨q5, hq5⟩ : ∃ z : Tq, z = ⟨q.b, .slice (some ⟨g, 0, none⟩) n5 cap, q.m⟩ := ⟨_, rfl⟩
    rw [← hq5] at hT6
    have HQB : Hid (q5.b = q.b) := by rw [hq5]; exact rfl
    have hA := adopt51 p.pid hT6.1
    rw [HQB.out] at hA
    have HA := hide' hA
    have HM6 := hide' hT6.2
    clear hw5 hs5 hqg hwv hT6 hA hq5 HD c0 HT4
    go_wp2_with fail
    refine HA.out.mono ?_
    rintro _ w7 ⟨rfl, hT7, hm7⟩
    have HT7 := hide' hT7
    have HM7 := hide' (HM6.out.trans hm7)
    have HB7 := hide' (HKP.out w7 q5 HM7.out)
    clear hT7 hm7 HA hq0 hqf HM6
    have HO := hide' (leads44 b7 0 p w7 HB7.out.1.at0)
    rw [HLE.out] at HO
    go_wp2_with fail
    refine HO.out.mono ?_
    rintro _ w8 ⟨rfl, hs⟩
    have HT8 := hide' (HT7.out.keep hs)
    have HM8 := hide' (HM7.out.trans (Moved.of_stay hs))
    have HB8 := hide' (HKP.out w8 q5 HM8.out)
    have d4 := HB8.out.1.c4
    clear hs HO HT7 HM7 HB7
    have HF9 := hide' (front18 p.tty HT8.out (HTW.out))
    rw [HQB.out] at HF9
    go_wp2_with fail
    refine HF9.out.mono ?_
    rintro _ w9 ⟨rfl, hs⟩
    have HT9 := hide' (HT8.out.keep hs)
    have HM9 := hide' (HM8.out.trans (Moved.of_stay hs))
    clear hs HF9 HT8 HM8 d4
    have hsg := fun (W : World) (hs : Stay (fun _ => False) w9 W) (B : Nat) (k0 : W.cell? ⟨B, 0, none⟩ = some (.int .i64 4)) => signals (f p.tty) B [4] (HT9.out.keep hs) (fun j hj => by
      match j, hj with
      | 0, _ => exact k0) (by decide)
    rw [HQB.out] at hsg
    have HSG := hide' hsg
    clear hsg
    go_wp2_with fail
    refine (HSG.out _ ?_ _ ?_).mono ?_
    · exact (Stay.refl _ _).alloc _
    · simp
    rintro _ wa ⟨a0, cap0, rfl, hsv, hs, hb⟩
    have hs' : Stay (fun _ => False) w9 wa := ((Stay.refl _ _).alloc _).trans hs
    have hTa := HT9.out.keep hs'
    have hMa := HM9.out.trans (Moved.of_stay hs')
    have hba : ∀ j, a0.map Addr.block = some j → ¬ q5.own j ∧ wc.heap.size ≤ j ∧ j < wa.heap.size := fun j hj => by
      have h1 := hb j hj
      simp at h1
      have h2 := HM9.out.1.size
      refine ⟨fun e => by have := HT9.out.lt j e; omega, by omega, Win.lt hsv j (by cases a0 <;> exact hj)⟩
    have d4 := (HKP.out wa q5 hMa).1.c4
    have hfr := free52 p.tty hTa HTW.out
    rw [HQB.out] at hfr
    have HFR := hide' hfr
    have HMa := hide' hMa
    have HSV := hide' hsv
    have HBA := hide' hba
    clear hs hs' hTa hMa hba hfr HT9 HM9 HSG hsv hb
    go_wp2_with fail
    refine HFR.out.mono ?_
    rintro _ wz ⟨rfl, hTz, hmz⟩
    have HTz := hide' hTz
    have HMz := hide' (HMa.out.trans hmz)
    have HSVz := hide' (HSV.out.stay hmz.1 (fun k hk => (HBA.out k hk).1))
    have HBz : Hid (∀ j, a0.map Addr.block = some j → ¬ q5.own j ∧ wc.heap.size ≤ j ∧ j < wz.heap.size) := fun j hj => by
      have h1 := HBA.out j hj
      have h2 := hmz.1.size
      exact ⟨h1.1, h1.2.1, by omega⟩
    clear hTz hmz HFR HMa HSV HBA d4 HB8
    have hti := ties40 HTz.out (fun p hp => by have := HGD.out p hp; have := HMC.out; unfold W64; omega)
    rw [HQB.out] at hti
    have HTI := hide' hti
    clear hti
    go_wp2_with fail
    refine HTI.out.mono ?_
    rintro _ we ⟨m3, rfl, hm3, hs, hz3⟩
    have hTe := HTz.out.keep hs
    have hMe := HMz.out.trans (Moved.of_stay hs)
    have HK := hide' (keys54 (some m3) we)
    have hso := sorted53 m3 _ _ _ (grps md (((L.eraseIdx i).map (adopt p.pid)).map (freeT p.tty))) we hm3 (by have := hTe.len; omega) (grps_up md (((L.eraseIdx i).map (adopt p.pid)).map (freeT p.tty))) (grps_mem HGD.out) (grps_w64 (by have := HMC.out; omega))
    obtain ⟨m, hm⟩ : ∃ m, m = (grps md (((L.eraseIdx i).map (adopt p.pid)).map (freeT p.tty))).length := ⟨_, rfl⟩
    have hml : m ≤ 2000 := by have h1 := grps_len md (((L.eraseIdx i).map (adopt p.pid)).map (freeT p.tty)); have h2 := HMC.out; omega
    have hml1 : (m : Int) ≤ 2000 := by omega
    unfold GivesK at hso
    rw [← hm] at hso
    have HSO := hide' hso
    have HTe := hide' hTe
    have HMe := hide' hMe
    have HM3 := hide' hm3
    have HZ3 := hide' hz3
    have HSVe := hide' (HSVz.out.keep hs)
    have HME := hide' hm
    clear hs hTe hMe hso hm hm3 hz3 HTI HTz HMz
    go_wp2_with fail
    refine HK.out.mono ?_
    rintro _ wg ⟨rfl, rfl⟩
    clear HK
    go_wp2_with fail
    refine HSO.out.mono ?_
    rintro _ wh ⟨ka, kc, rfl, hrow, hkb, hs⟩
    have hs' : Stay (fun _ => False) we wh := ((Stay.refl _ _).alloc _).trans hs
    have hMh := HMe.out.trans (Moved.of_stay hs')
    have HE0 : Hid (ExIn w q q5 L (((L.eraseIdx i).map (adopt p.pid)).map (freeT p.tty)) md (upd f p.tty 0) c m1 m3 ka kc (grps md (((L.eraseIdx i).map (adopt p.pid)).map (freeT p.tty))) a0 cap0 (sigsTo ((L.eraseIdx i).map (adopt p.pid)) (f p.tty) [4]) wh) := by
      have hlo : w.heap.size ≤ wc.heap.size := Nat.le_trans HS1.out.size H4.out.1.size
      refine ⟨HTe.out.keep hs', (HKP.out wh q5 hMh).2, HM3.out.keep hs', by rw [← HME.out]; exact hrow, HSVe.out.keep hs', fun j hj => ?_, fun j hj => ?_, (Moved.of_stay (HS1.out.trans H4.out.1)).trans hMh⟩
      · obtain ⟨e1, e2, e3⟩ := HBz.out j hj
        refine ⟨e1, fun e => ?_, fun e => ?_, fun hT b off e k => ?_⟩
        · have := H4.out.2.2.1.lt; omega
        · have := HZ3.out; omega
        · have h1 := hkb b off e
          simp at h1
          have h2 := HZ3.out
          have h3 := HM3.out.lt
          omega
      · have := (HBz.out j hj).2.1; omega
    obtain ⟨sl0, hsl0⟩ : ∃ z, z = (sigsTo ((L.eraseIdx i).map (adopt p.pid)) (f p.tty) [4]).length := ⟨_, rfl⟩
    have HSG0 : Hid ((sigsTo ((L.eraseIdx i).map (adopt p.pid)) (f p.tty) [4]).length ≤ 1) := sigsTo_len _ _ [4]
    have HR0 : Hid (sl0 = ((sigsTo ((L.eraseIdx i).map (adopt p.pid)) (f p.tty) [4]) ++ tellS L (((L.eraseIdx i).map (adopt p.pid)).map (freeT p.tty)) ((grps md (((L.eraseIdx i).map (adopt p.pid)).map (freeT p.tty))).take 0)).length ∧ ExIn w q q5 L (((L.eraseIdx i).map (adopt p.pid)).map (freeT p.tty)) md (upd f p.tty 0) c m1 m3 ka kc (grps md (((L.eraseIdx i).map (adopt p.pid)).map (freeT p.tty))) a0 cap0 ((sigsTo ((L.eraseIdx i).map (adopt p.pid)) (f p.tty) [4]) ++ tellS L (((L.eraseIdx i).map (adopt p.pid)).map (freeT p.tty)) ((grps md (((L.eraseIdx i).map (adopt p.pid)).map (freeT p.tty))).take 0)) wh) := by
      have e : ((sigsTo ((L.eraseIdx i).map (adopt p.pid)) (f p.tty) [4]) ++ tellS L (((L.eraseIdx i).map (adopt p.pid)).map (freeT p.tty)) ((grps md (((L.eraseIdx i).map (adopt p.pid)).map (freeT p.tty))).take 0)) = (sigsTo ((L.eraseIdx i).map (adopt p.pid)) (f p.tty) [4]) := List.append_nil _
      rw [e]
      exact ⟨hsl0, HE0.out⟩
    have HSL0 := hide' hsl0
    rw [← hsl0]
    have HZ0 : Hid (w.heap.size ≤ wh.heap.size) := Nat.le_trans (Nat.le_trans HS1.out.size H4.out.1.size) hMh.1.size
    clear hrow hkb hs hs' hMh HSO HE0 HTe HMe HM3 HZ3 HSVe HBz HSVz HKP H4 HS1 HNB hsl0 
    go_wp2
    go_loopg [9, 67] m (fun gg v9 v67 wr => ∃ (k sl : Nat) (a : Option Addr) (ca : Nat), k ≤ m ∧ gg = m - k ∧ v67 = .int .i64 (k : Int) ∧ v9 = .slice a sl ca ∧ Hid (w.heap.size ≤ wr.heap.size) ∧ Hid (sl = ((sigsTo ((L.eraseIdx i).map (adopt p.pid)) (f p.tty) [4]) ++ tellS L (((L.eraseIdx i).map (adopt p.pid)).map (freeT p.tty)) ((grps md (((L.eraseIdx i).map (adopt p.pid)).map (freeT p.tty))).take k)).length ∧ ExIn w q q5 L (((L.eraseIdx i).map (adopt p.pid)).map (freeT p.tty)) md (upd f p.tty 0) c m1 m3 ka kc (grps md (((L.eraseIdx i).map (adopt p.pid)).map (freeT p.tty))) a ca ((sigsTo ((L.eraseIdx i).map (adopt p.pid)) (f p.tty) [4]) ++ tellS L (((L.eraseIdx i).map (adopt p.pid)).map (freeT p.tty)) ((grps md (((L.eraseIdx i).map (adopt p.pid)).map (freeT p.tty))).take k)) wr))
    case atStart => exact ⟨0, sl0, a0, cap0, Nat.zero_le _, rfl, rfl, rfl, HZ0, HR0⟩
    case round =>
      clear HR0 HZ0
      obtain ⟨k, sl, a, ca, hk, rfl, rfl, rfl, HZ, HR⟩ := hrel
      by_cases hlt : k < m
      · have kn : (k : Int) < (m : Nat) := by omega
        have hlt2 : k < (grps md (((L.eraseIdx i).map (adopt p.pid)).map (freeT p.tty))).length := by rw [← HME.out]; exact hlt
        obtain ⟨kb, ko, hka, _, hin⟩ := HR.out.2.row.cells (fun e => by rw [e] at hlt2; exact absurd hlt2 (Nat.not_lt_zero _))
        obtain ⟨gr, hgr⟩ : ∃ z, z = (grps md (((L.eraseIdx i).map (adopt p.pid)).map (freeT p.tty))).getD k 0 := ⟨_, rfl⟩
        have hcell := hin k hlt2
        rw [← hgr] at hcell
        have hgw : W64 gr := by rw [hgr]; exact grps_w64 (by have := HMC.out; omega) _ (getD_mem hlt2)
        have hlk1 := HR.out.2.b1.look hgw
        have hlk3 := HR.out.2.b3.look hgw
        obtain ⟨z1, hz1⟩ : ∃ z, z = tiesF L L.length gr := ⟨_, rfl⟩
        obtain ⟨z3, hz3⟩ : ∃ z, z = tiesF (((L.eraseIdx i).map (adopt p.pid)).map (freeT p.tty)) (((L.eraseIdx i).map (adopt p.pid)).map (freeT p.tty)).length gr := ⟨_, rfl⟩
        rw [← hz1] at hlk1
        rw [← hz3] at hlk3
        have HSN := hide' (tellS_snoc L (((L.eraseIdx i).map (adopt p.pid)).map (freeT p.tty)) hlt2)
        have HGR := hide' hgr
        have HZ1 := hide' hz1
        have HZ3 := hide' hz3
        have HLT := hide' hlt2
        subst hka
        clear hin hgw hz1 hz3 hgr hlt2
        by_cases h1 : 0 < z1
        · by_cases h3 : z3 = 0
          · have d3 : (z3 == 0) = true := beq_iff_eq.2 h3
            have HOS : Hid (orphS L (((L.eraseIdx i).map (adopt p.pid)).map (freeT p.tty)) gr = sigsTo (((L.eraseIdx i).map (adopt p.pid)).map (freeT p.tty)) gr [4, 5]) := orphS_yes (by rw [← HZ1.out]; exact h1) (by rw [← HZ3.out]; exact h3)
            clear h3 HZ1 HZ3
            have hsg := fun (W : World) (hs : Stay (fun _ => False) wr W) (B : Nat) (k0 : W.cell? ⟨B, 0, none⟩ = some (.int .i64 4)) (k1 : W.cell? ⟨B, 1, none⟩ = some (.int .i64 5)) => signals gr B [4, 5] (HR.out.2.tm.keep hs) (fun j hj => by
              match j, hj with
              | 0, _ => exact k0
              | 1, _ => exact k1) (by decide)
            rw [HQB.out] at hsg
            have HSG := hide' hsg
            clear hsg
            go_wp2_with fail
            refine (HSG.out _ ?_ _ ?_ ?_).mono ?_
            · exact (Stay.refl _ _).alloc _
            · simp
            · simp
            rintro _ wu ⟨a5, cap5, rfl, hsv, hs, hb⟩
            have hs' : Stay (fun _ => False) wr wu := ((Stay.refl _ _).alloc _).trans hs
            have HEX := hide' (HR.out.2.keep hs')
            have HZU : Hid (w.heap.size ≤ wu.heap.size) := Nat.le_trans HZ.out hs'.size
            obtain ⟨m5, hm5⟩ : ∃ z, z = (sigsTo (((L.eraseIdx i).map (adopt p.pid)).map (freeT p.tty)) gr [4, 5]).length := ⟨_, rfl⟩
            have HM5 := hide' hm5
            have hm52 : m5 ≤ 2 := by rw [hm5]; exact sigsTo_len _ _ [4, 5]
            have HSRC := hide' hsv.src
            rw [← hm5]
            have hsl : sl ≤ 5000 := by
              rw [HR.out.1, List.length_append]
              have e1 := tellS_len L (((L.eraseIdx i).map (adopt p.pid)).map (freeT p.tty)) ((grps md (((L.eraseIdx i).map (adopt p.pid)).map (freeT p.tty))).take k)
              rw [List.length_take] at e1
              have e2 := HSG0.out
              have e3 := HME.out
              omega
            have HWIN : Hid (Win wu 2 (.slice a sl ca) sl (sc ((sigsTo ((L.eraseIdx i).map (adopt p.pid)) (f p.tty) [4]) ++ tellS L (((L.eraseIdx i).map (adopt p.pid)).map (freeT p.tty)) ((grps md (((L.eraseIdx i).map (adopt p.pid)).map (freeT p.tty))).take k)))) := by
              have := HEX.out.sv
              unfold SV at this
              rw [← HR.out.1] at this
              exact this
            have HLN : Hid ((sc (sigsTo (((L.eraseIdx i).map (adopt p.pid)).map (freeT p.tty)) gr [4, 5])).length = m5 * 2) := by rw [sc_length, hm5]; exact rfl
            rw [← hm5] at HSRC
            have HSLE := hide' HR.out.1
            clear hs hs' hsv hb hm5 HR HSG hlk1 hlk3 hcell
            go_wp2_with (at_builtin; refine wpList_append_win rfl _ _ 35 rfl Try.underlying35 info60 rfl (by decide) (by decide) HWIN.out rfl HLN.out HSRC.out.1 HSRC.out.2 (sc_all _) (by omega) rfl ?_; intro v2 w2 hw2 hs2 hb2; have HW2 := hide' hw2; have HS2 := hide' hs2; have HB2 := hide' hb2; clear hw2 hs2 hb2; obtain ⟨a2, cap2, hv2, _, _⟩ := HW2.out.shape; subst hv2)
            have HN1 : Hid (sl + m5 = ((sigsTo ((L.eraseIdx i).map (adopt p.pid)) (f p.tty) [4]) ++ tellS L (((L.eraseIdx i).map (adopt p.pid)).map (freeT p.tty)) ((grps md (((L.eraseIdx i).map (adopt p.pid)).map (freeT p.tty))).take (k + 1))).length ∧ ExIn w q q5 L (((L.eraseIdx i).map (adopt p.pid)).map (freeT p.tty)) md (upd f p.tty 0) c m1 m3 (some ⟨kb, ko, none⟩) kc (grps md (((L.eraseIdx i).map (adopt p.pid)).map (freeT p.tty))) a2 cap2 ((sigsTo ((L.eraseIdx i).map (adopt p.pid)) (f p.tty) [4]) ++ tellS L (((L.eraseIdx i).map (adopt p.pid)).map (freeT p.tty)) ((grps md (((L.eraseIdx i).map (adopt p.pid)).map (freeT p.tty))).take (k + 1))) w2) := by
              have e : ((sigsTo ((L.eraseIdx i).map (adopt p.pid)) (f p.tty) [4]) ++ tellS L (((L.eraseIdx i).map (adopt p.pid)).map (freeT p.tty)) ((grps md (((L.eraseIdx i).map (adopt p.pid)).map (freeT p.tty))).take (k + 1))) = ((sigsTo ((L.eraseIdx i).map (adopt p.pid)) (f p.tty) [4]) ++ tellS L (((L.eraseIdx i).map (adopt p.pid)).map (freeT p.tty)) ((grps md (((L.eraseIdx i).map (adopt p.pid)).map (freeT p.tty))).take k)) ++ sigsTo (((L.eraseIdx i).map (adopt p.pid)).map (freeT p.tty)) gr [4, 5] := by
                rw [HSN.out, ← HGR.out, HOS.out, List.append_assoc]
              have el : sl + m5 = (((sigsTo ((L.eraseIdx i).map (adopt p.pid)) (f p.tty) [4]) ++ tellS L (((L.eraseIdx i).map (adopt p.pid)).map (freeT p.tty)) ((grps md (((L.eraseIdx i).map (adopt p.pid)).map (freeT p.tty))).take k)) ++ sigsTo (((L.eraseIdx i).map (adopt p.pid)).map (freeT p.tty)) gr [4, 5]).length := by
                rw [List.length_append, ← HSLE.out, ← HM5.out]
              rw [e]
              refine ⟨el, HEX.out.more HZU.out (HS2.out.mono (fun j _ e => by cases a <;> exact e)) ?_ ?_⟩
              · unfold SV
                rw [← el, sc_append]
                exact HW2.out
              · rcases HB2.out with e | e
                · exact .inl (fun j hj => by
                    have h2 : (Value.slice a2 (sl + m5) cap2).ownBlock = some j := by cases a2 <;> exact hj
                    rw [e] at h2
                    cases a <;> exact h2)
                · exact .inr (fun j hj => by
                    have h2 : (Value.slice a2 (sl + m5) cap2).ownBlock = some j := by cases a2 <;> exact hj
                    rw [e] at h2
                    cases h2
                    rfl)
            have HZ2 : Hid (w.heap.size ≤ w2.heap.size) := Nat.le_trans HZU.out HS2.out.size
            clear HEX HWIN HLN HSRC HSN HW2 HS2 HB2 HOS
            go_wp2
            go_roundg (m - (k + 1))
            case measure => omega
            case rel => exact ⟨k + 1, sl + m5, a2, cap2, by omega, rfl, by go_num, rfl, HZ2, HN1⟩
          · have d3 : (z3 == 0) = false := beq_eq_false_iff_ne.2 h3
            have HN1 : Hid (sl = ((sigsTo ((L.eraseIdx i).map (adopt p.pid)) (f p.tty) [4]) ++ tellS L (((L.eraseIdx i).map (adopt p.pid)).map (freeT p.tty)) ((grps md (((L.eraseIdx i).map (adopt p.pid)).map (freeT p.tty))).take (k + 1))).length ∧ ExIn w q q5 L (((L.eraseIdx i).map (adopt p.pid)).map (freeT p.tty)) md (upd f p.tty 0) c m1 m3 (some ⟨kb, ko, none⟩) kc (grps md (((L.eraseIdx i).map (adopt p.pid)).map (freeT p.tty))) a ca ((sigsTo ((L.eraseIdx i).map (adopt p.pid)) (f p.tty) [4]) ++ tellS L (((L.eraseIdx i).map (adopt p.pid)).map (freeT p.tty)) ((grps md (((L.eraseIdx i).map (adopt p.pid)).map (freeT p.tty))).take (k + 1))) wr) := by
              have e : ((sigsTo ((L.eraseIdx i).map (adopt p.pid)) (f p.tty) [4]) ++ tellS L (((L.eraseIdx i).map (adopt p.pid)).map (freeT p.tty)) ((grps md (((L.eraseIdx i).map (adopt p.pid)).map (freeT p.tty))).take (k + 1))) = ((sigsTo ((L.eraseIdx i).map (adopt p.pid)) (f p.tty) [4]) ++ tellS L (((L.eraseIdx i).map (adopt p.pid)).map (freeT p.tty)) ((grps md (((L.eraseIdx i).map (adopt p.pid)).map (freeT p.tty))).take k)) := by
                rw [HSN.out, ← HGR.out, orphS_no (fun e => h3 (by rw [HZ3.out]; exact e.2)), List.append_nil]
              rw [e]
              exact HR.out
            clear h3 HZ1 HZ3 HR HSN
            go_wp2
            go_roundg (m - (k + 1))
            case measure => omega
            case rel => exact ⟨k + 1, sl, a, ca, by omega, rfl, by go_num, rfl, HZ, HN1⟩
        · have HN1 : Hid (sl = ((sigsTo ((L.eraseIdx i).map (adopt p.pid)) (f p.tty) [4]) ++ tellS L (((L.eraseIdx i).map (adopt p.pid)).map (freeT p.tty)) ((grps md (((L.eraseIdx i).map (adopt p.pid)).map (freeT p.tty))).take (k + 1))).length ∧ ExIn w q q5 L (((L.eraseIdx i).map (adopt p.pid)).map (freeT p.tty)) md (upd f p.tty 0) c m1 m3 (some ⟨kb, ko, none⟩) kc (grps md (((L.eraseIdx i).map (adopt p.pid)).map (freeT p.tty))) a ca ((sigsTo ((L.eraseIdx i).map (adopt p.pid)) (f p.tty) [4]) ++ tellS L (((L.eraseIdx i).map (adopt p.pid)).map (freeT p.tty)) ((grps md (((L.eraseIdx i).map (adopt p.pid)).map (freeT p.tty))).take (k + 1))) wr) := by
            have e : ((sigsTo ((L.eraseIdx i).map (adopt p.pid)) (f p.tty) [4]) ++ tellS L (((L.eraseIdx i).map (adopt p.pid)).map (freeT p.tty)) ((grps md (((L.eraseIdx i).map (adopt p.pid)).map (freeT p.tty))).take (k + 1))) = ((sigsTo ((L.eraseIdx i).map (adopt p.pid)) (f p.tty) [4]) ++ tellS L (((L.eraseIdx i).map (adopt p.pid)).map (freeT p.tty)) ((grps md (((L.eraseIdx i).map (adopt p.pid)).map (freeT p.tty))).take k)) := by
              rw [HSN.out, ← HGR.out, orphS_no (fun e => h1 (by rw [HZ1.out]; exact e.1)), List.append_nil]
            rw [e]
            exact HR.out
          clear HZ1 HZ3 HR HSN
          go_wp2
          go_roundg (m - (k + 1))
          case measure => omega
          case rel => exact ⟨k + 1, sl, a, ca, by omega, rfl, by go_num, rfl, HZ, HN1⟩
      · have e : k = m := by omega
        subst e
        have hR := HR.out
        rw [List.take_of_length_le (by rw [← HME.out]; exact Nat.le_refl _)] at hR
        have HRR := hide' hR
        clear hR HR
        go_wp2
        go_ret
        exact ⟨q5, a, ca, HQB.out, by first | (rw [← HRR.out.1]; rfl) | (have e := HRR.out.1; rw [List.nil_append] at e; rw [← e]; rfl), HRR.out.2.sv, HRR.out.2.tm, HRR.out.2.mv, fun j hj => ⟨HRR.out.2.new j hj, (HRR.out.2.ne j hj).1⟩⟩

end Go.Proofs.Ytefpifnfinkbaaa
