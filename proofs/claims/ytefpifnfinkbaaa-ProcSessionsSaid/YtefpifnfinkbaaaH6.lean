/-
  The law of sessions: walked. No conditions.
-/
import Derived.Test.YtefpifnfinkbaaaH8
import Derived.ArgAppend
import Derived.BigQuiet
import Derived.Deep.DeepCutAuto
import Derived.Deep.CutBlock
namespace Go.Proofs.Ytefpifnfinkbaaa
open Go.RowKit

theorem sessions_out (ad : Option Addr) (n cap : Nat) (w : World) (hn : (n : Int) ≤ 9223372036854775807) (h : 60 < n) : Calls Try.prog 4 #[.slice ad n cap] w (Gives (.bool true) w) := by
  have HA := hide' (awake7 (w := w))
  have hn1 : (60 : Int) < (n : Nat) := by omega
  go_enter Try.func4, Try.ntmps4
  go_wp2_with fail
  refine HA.out.mono ?_
  rintro _ w1 ⟨rfl, hs⟩
  have HS := hide' hs
  clear hs HA
  go_wp2
  go_ret
  exact ⟨rfl, HS.out⟩

set_option maxRecDepth 100000 in
set_option maxHeartbeats 4000000 in
theorem sessions_go (ad : Option Addr) (n cap : Nat) (F : Nat → Ac) (W : World) (h : Acts W ad n F) (hn : n ≤ 60) : Calls Try.prog 4 #[.slice ad n cap] W (Gives (.bool true) W) := by
  have hn1 : (n : Int) ≤ 60 := by omega
  have HACTS := hide' h
  have HN8 := hide' (new8 W)
  clear h
  go_enter Try.func4, Try.ntmps4
  go_wp2_with fail
  refine HN8.out.mono ?_
  rintro _ w0 ⟨q0, rfl, hT0, hs0, hq0⟩
  have HN9 := hide' (rnew9 (w := w0))
  have HT0 := hide' (show TAt w0 q0 [⟨1, 0, 1, 1, 0, false⟩] 1 (fun _ => 0) 1 ∧ Stay (fun _ => False) W w0 ∧ ∀ j, q0.own j → W.heap.size ≤ j from ⟨hT0, hs0, hq0⟩)
  clear hT0 hs0 hq0 HN8
  go_wp2_with fail
  refine HN9.out.mono ?_
  rintro _ w1 ⟨x0, rfl, hX0, hs1, hxn⟩
  obtain ⟨qb, hqb⟩ : ∃ b, b = q0.b := ⟨_, rfl⟩
  obtain ⟨b8, hb8⟩ : ∃ b, b = w1.heap.size := ⟨_, rfl⟩
  obtain ⟨W2, hW2⟩ : ∃ W, W = w1.alloc (.cells #[.slice x0.a 1 x0.cap, .int .i64 2, .slice x0.a2 65 x0.c2] 29) := ⟨_, rfl⟩
  have hs2 : Stay (fun _ => False) w1 W2 := by rw [hW2]; exact (Stay.refl _ _).alloc _
  have hbx : XBox W2 b8 (xs x0 1 2) := by rw [hW2]; exact xbox_new w1 x0 1 2 hb8.symm
  have HJ0 : Hid (PK W qb b8 0 W2 q0 x0 [⟨1, 0, 1, 1, 0, false⟩] 1 (fun _ => 0)) := by
    have z0 := HT0.out.2.1.size
    have z1 := hs1.size
    refine ⟨hqb.symm, HT0.out.1.keep (hs1.trans hs2), hX0.keep hs2, hbx, fun j hj e => ?_, (HT0.out.2.1.trans hs1).trans hs2, HT0.out.2.2, fun e => ?_, fun e => ?_, by omega⟩
    · have h1 := hxn j hj
      have h2 := HT0.out.1.lt j e
      omega
    · have h2 := HT0.out.1.lt b8 e
      omega
    · have h2 := hX0.lt b8 e
      omega
  clear hX0 hs1 hxn hs2 hbx HN9 HT0
  go_upto_region 4 with fail
  rw [← hb8, ← hW2, ← hqb]
  clear hb8 hW2 hqb
  go_wp2
  go_loopg [5] n (fun gg v5 wr => ∃ k : Nat, k ≤ n ∧ gg = n - k ∧ v5 = .int .i64 (k : Int) ∧ ∃ (q : Tq) (x : Xr) (L : List Pr) (md : Int) (f : Int → Int), Hid (PK W qb b8 k wr q x L md f))
  case atStart => exact ⟨0, Nat.zero_le _, rfl, rfl, ⟨_, _, _, _, _, HJ0⟩⟩
  case round =>
    clear HJ0
    obtain ⟨k, hk, rfl, rfl, q, x, L, md, f, HPK⟩ := hrel
    by_cases hlt : k < n
    · have kn : (k : Int) < (n : Nat) := by omega
      obtain ⟨r, hr⟩ : ∃ r, r = F k := ⟨_, rfl⟩
      obtain ⟨g, o, rfl, hab⟩ := (HACTS.out.keep HPK.out.st).at' k hlt
      obtain ⟨_, _, hge, hab0⟩ := HACTS.out.at' k hlt
      have hwf := HACTS.out.wf k hlt
      rw [← hr] at hab hwf
      have HAB := hide' hab
      have HQG : Hid (¬ q.own g) := fun e => by
        cases hge
        have h1 := HPK.out.qn g e
        have h2 := World.block_lt_of_cell? _ _ hab0.c0
        have h3 : g < W.heap.size := h2
        omega
      have HDO : Hid (∀ W5, Stay (fun _ => False) wr W5 → Calls Try.prog 10 #[.pointer (some ⟨qb, 0, none⟩), .agg #[.slice x.a L.length x.cap, .int .i64 (md + 1), .slice x.a2 65 x.c2], .agg #[.int .i64 r.dn, .int .i64 r.pid, .int .i64 r.who, .int .i64 r.grp, .int .i64 r.tty, .bool r.df]] W5 (DoP q x (k + 1) W5)) := fun W5 hs5 => by
        rw [← HPK.out.qb]
        exact do10 r (HPK.out.tm.keep hs5) (HPK.out.xa.keep hs5) HPK.out.dj (by omega) hwf.1
      clear hr hab hge hab0 hwf
      go_upto_region 7 with fail
      go_cut [6, 7] from 23 to 33 (fun s6 s7 wx => ∃ (b6 : Nat) (q1 : Tq) (x1 : Xr) (L1 : List Pr) (m1 : Int) (f1 : Int → Int), s6 = .pointer (some ⟨b6, 0, none⟩) ∧ s7 = .bool true ∧ Hid (PM W qb b8 k b6 wx q1 x1 L1 m1 f1))
      case first =>
        refine any_begin (fun w' => Stay q.own wr w') (by kernel_rfl) (fun K0 hK0 => ?_)
        obtain ⟨wd, hwd⟩ : ∃ W, W = wr.drew := ⟨_, rfl⟩
        have HST0 : Hid (Stay (fun _ => False) wr wd) := by rw [hwd]; exact (Stay.refl _ _).drew
        have HST := hide' (HST0.out.mono (T := q.own) (fun _ _ e => e.elim))
        rw [← hwd]
        clear hwd
        refine any_take (i := 0) hK0 (some 24) (.move (.tmp 3)) 24 _ (by kernel_rfl) (fun _ d _ _ _ h => by cases d <;> exact h) (by kernel_rfl) (by kernel_rfl) (fun w' hS' => by simp only [opr]; go_simp; try with_reducible rfl) HST.out (fun K1 hK1 => ?_)
        clear hK0 K0
        try simp only [Act.put, lA, lZ, lS]
        refine any_take (i := 1) hK1 (some 25) (.load 29 (.tmp 4)) 29 _ (by kernel_rfl) (fun _ d _ _ _ h => by cases d <;> exact h) (by kernel_rfl) (by kernel_rfl) (fun w' hS' => by exact run_load_XBox rfl rfl (HPK.out.bx.stay hS' HPK.out.q8)) HST.out (fun K2 hK2 => ?_)
        clear hK1 K1
        try simp only [Act.put, lA, lZ, lS]
        refine any_take (i := 2) hK2 (some 26) (.move (.tmp 0)) 22 _ (by kernel_rfl) (fun _ d _ _ _ h => by cases d <;> exact h) (by kernel_rfl) (by kernel_rfl) (fun w' hS' => by simp only [opr]; go_simp; try with_reducible rfl) HST.out (fun K3 hK3 => ?_)
        clear hK2 K2
        try simp only [Act.put, lA, lZ, lS]
        refine any_take (i := 3) hK3 (some 27) (.move (.tmp 5)) 3 _ (by kernel_rfl) (fun _ d _ _ _ h => by cases d <;> exact h) (by kernel_rfl) (by kernel_rfl) (fun w' hS' => by simp only [opr]; go_simp; try with_reducible rfl) HST.out (fun K4 hK4 => ?_)
        clear hK3 K3
        try simp only [Act.put, lA, lZ, lS]
        refine any_take (i := 4) hK4 (some 28) (.indexAddr 22 (.tmp 26) (.tmp 27)) 0 _ (by kernel_rfl) (fun _ d _ _ _ h => by cases d <;> exact h) (by kernel_rfl) (by kernel_rfl) (fun w' hS' => by simp only [opr]; go_simp; try with_reducible rfl) HST.out (fun K5 hK5 => ?_)
        clear hK4 K4
        try simp only [Act.put, lA, lZ, lS]
        refine any_take (i := 5) hK5 (some 29) (.load 32 (.tmp 28)) 32 _ (by kernel_rfl) (fun _ d _ _ _ h => by cases d <;> exact h) (by kernel_rfl) (by kernel_rfl) (fun w' hS' => by exact run_load_ABoxAt rfl rfl (HAB.out.stay hS' HQG.out)) HST.out (fun K6 hK6 => ?_)
        clear hK5 K5
        try simp only [Act.put, lA, lZ, lS]
        refine any_pick (rs := [6, 10]) hK6 (by kernel_rfl) (fun K7 hK7 => ?_)
        clear hK6 K6
        intro i hi
        simp only [List.mem_cons, List.not_mem_nil, or_false] at hi
        rcases hi with rfl | rfl
        · refine op_plain (some 30) (.call { callee := Callee.value (.func 10), args := #[.tmp 24, .tmp 25, .tmp 29], argTypes := #[24, 29, 32] }) 33 (by kernel_rfl) (by kernel_rfl) ?_
          go_wp2_with fail
          refine (HDO.out _ HST0.out).mono ?_
          rintro _ wt ⟨q1, x1, L1, m1, f1, hq1, rfl, hT1, hX1, hM1, hf1, hd1⟩
          have HDD := hide' (show q1.b = q.b ∧ TAt wt q1 L1 m1 f1 (k + 1 + 1) ∧ XAt wt x1 L1 f1 ∧ Moved q q1 wd wt ∧ XFrom wd x x1 ∧ ∀ j, x1.has j → ¬ q1.own j from ⟨hq1, hT1, hX1, hM1, hf1, hd1⟩)
          have HST' := hide' (HST.out.trans hM1.1)
          clear hq1 hT1 hX1 hM1 hf1 hd1
          clear HST
          have HST := HST'
          clear HST'
          go_wp2
          refine hK7 6 (by simp) _ _ HST.out (any_more fun K8 hK8 => ?_)
          clear hK7 K7
          refine any_take (i := 7) hK8 (some 23) (.move (.tmp 30)) 33 _ (by kernel_rfl) (fun _ d _ _ _ h => by cases d <;> exact h) (by kernel_rfl) (by kernel_rfl) (fun w' hS' => by simp only [opr]; go_simp; try with_reducible rfl) HST.out (fun K9 hK9 => ?_)
          clear hK8 K8
          try simp only [Act.put, lA, lZ, lS]
          refine any_take (i := 8) hK9 (some 31) (.extract (.tmp 23) 0) 29 _ (by kernel_rfl) (fun _ d _ _ _ h => by cases d <;> exact h) (by kernel_rfl) (by kernel_rfl) (fun w' hS' => by simp only [opr]; go_simp; try with_reducible rfl) HST.out (fun K10 hK10 => ?_)
          clear hK9 K9
          try simp only [Act.put, lA, lZ, lS]
          refine any_take (i := 9) hK10 (some 32) (.extract (.tmp 23) 1) 4 _ (by kernel_rfl) (fun _ d _ _ _ h => by cases d <;> exact h) (by kernel_rfl) (by kernel_rfl) (fun w' hS' => by simp only [opr]; go_simp; try with_reducible rfl) HST.out (fun K11 hK11 => ?_)
          clear hK10 K10
          try simp only [Act.put, lA, lZ, lS]
          refine any_pick (rs := [10]) hK11 (by kernel_rfl) (fun K12 hK12 => ?_)
          clear hK11 K11
          intro i hi
          simp only [List.mem_cons, List.not_mem_nil, or_false] at hi
          rcases hi with rfl
          refine op_plain (some 6) (.alloc 29) 0 (by kernel_rfl) (by kernel_rfl) ?_
          go_wp2
          obtain ⟨b6, hb6⟩ : ∃ b, b = wt.heap.size := ⟨_, rfl⟩
          obtain ⟨wb, hwb⟩ : ∃ W, W = wt.alloc (.cells #[.slice none 0 0, .int .i64 0, .slice none 0 0] 29) := ⟨_, rfl⟩
          have hst : Stay (fun _ => False) wt wb := by rw [hwb]; exact (Stay.refl _ _).alloc _
          have HBX : Hid (XBox wb b6 ⟨.slice none 0 0, 0, .slice none 0 0⟩) := by rw [hwb]; exact XBox.new ⟨.slice none 0 0, 0, .slice none 0 0⟩ hb6.symm
          have HBN : Hid (wr.heap.size ≤ b6 ∧ ¬ q.own b6) := by
            have h1 := HST.out.size
            exact ⟨by omega, fun e => by have := HPK.out.tm.lt b6 e; omega⟩
          have HST' := hide' (HST.out.trans (hst.mono (fun _ _ e => e.elim)))
          have HW2 := hide' hst
          have HOR : Hid (wt.heap.size ≤ b6) := by show _ ≤ _; omega
          rw [← hwb, ← hb6]
          clear hst hwb hb6
          clear HST
          have HST := HST'
          clear HST'
          refine hK12 10 (by simp) _ _ HST.out (any_more fun K13 hK13 => ?_)
          clear hK12 K12
          refine any_pick (rs := [11]) hK13 (by kernel_rfl) (fun K14 hK14 => ?_)
          clear hK13 K13
          intro i hi
          simp only [List.mem_cons, List.not_mem_nil, or_false] at hi
          rcases hi with rfl
          refine op_plain none (.store 29 (.tmp 6) (.tmp 31)) 0 (by kernel_rfl) (by kernel_rfl) ?_
          obtain ⟨x0, x1', x2, x3, x4, x5⟩ := HBX.out
          go_wp2
          clear x0 x1' x2 x3 x4 x5
          have HMID := hide' (HPK.out.mid HST0.out HDD.out.1 HDD.out.2.1 HDD.out.2.2.1 HDD.out.2.2.2.1 HDD.out.2.2.2.2.1 HDD.out.2.2.2.2.2 HW2.out HBX.out HBN.out.1 (.inr HOR.out))
          have HST' := hide' (XBox.stay_put HST.out HBN.out.1 (.slice x1.a L1.length x1.cap) (.int .i64 (m1 + 1)) (.slice x1.a2 65 x1.c2))
          clear HST
          have HST := HST'
          clear HST'
          refine hK14 11 (by simp) _ _ HST.out (any_more fun K15 hK15 => ?_)
          clear hK14 K14
          refine any_take (i := 12) hK15 (some 7) (.assign (.tmp 32)) 4 _ (by kernel_rfl) (fun _ d _ _ _ h => by cases d <;> exact h) (by kernel_rfl) (by kernel_rfl) (fun w' hS' => by simp only [opr]; go_simp; try with_reducible rfl) HST.out (fun K16 hK16 => ?_)
          clear hK15 K15
          try simp only [Act.put, lA, lZ, lS]
          refine any_done hK16 (by kernel_rfl) ?_
          clear hK16 K16
          go_wp2
          go_meet
          exact ⟨b6, q1, x1, L1, m1, f1, rfl, rfl, HMID.out⟩
        · refine op_plain (some 6) (.alloc 29) 0 (by kernel_rfl) (by kernel_rfl) ?_
          go_wp2
          obtain ⟨b6, hb6⟩ : ∃ b, b = wd.heap.size := ⟨_, rfl⟩
          obtain ⟨wb, hwb⟩ : ∃ W, W = wd.alloc (.cells #[.slice none 0 0, .int .i64 0, .slice none 0 0] 29) := ⟨_, rfl⟩
          have hst : Stay (fun _ => False) wd wb := by rw [hwb]; exact (Stay.refl _ _).alloc _
          have HBX : Hid (XBox wb b6 ⟨.slice none 0 0, 0, .slice none 0 0⟩) := by rw [hwb]; exact XBox.new ⟨.slice none 0 0, 0, .slice none 0 0⟩ hb6.symm
          have HBN : Hid (wr.heap.size ≤ b6 ∧ ¬ q.own b6) := by
            have h1 := HST.out.size
            exact ⟨by omega, fun e => by have := HPK.out.tm.lt b6 e; omega⟩
          have HST' := hide' (HST.out.trans (hst.mono (fun _ _ e => e.elim)))
          have HST0' := hide' (HST0.out.trans hst)
          clear HST0
          have HST0 := HST0'
          clear HST0'
          have HW2 : Hid (Stay (fun _ => False) wb wb) := Stay.refl _ _
          have HOR : Hid (b6 < wb.heap.size) := HBX.out.lt
          rw [← hwb, ← hb6]
          clear hst hwb hb6
          clear HST
          have HST := HST'
          clear HST'
          refine hK7 10 (by simp) _ _ HST.out (any_more fun K8 hK8 => ?_)
          clear hK7 K7
          refine any_pick (rs := [6]) hK8 (by kernel_rfl) (fun K9 hK9 => ?_)
          clear hK8 K8
          intro i hi
          simp only [List.mem_cons, List.not_mem_nil, or_false] at hi
          rcases hi with rfl
          refine op_plain (some 30) (.call { callee := Callee.value (.func 10), args := #[.tmp 24, .tmp 25, .tmp 29], argTypes := #[24, 29, 32] }) 33 (by kernel_rfl) (by kernel_rfl) ?_
          go_wp2_with fail
          refine (HDO.out _ HST0.out).mono ?_
          rintro _ wt ⟨q1, x1, L1, m1, f1, hq1, rfl, hT1, hX1, hM1, hf1, hd1⟩
          have HDD := hide' (show q1.b = q.b ∧ TAt wt q1 L1 m1 f1 (k + 1 + 1) ∧ XAt wt x1 L1 f1 ∧ Moved q q1 wb wt ∧ XFrom wb x x1 ∧ ∀ j, x1.has j → ¬ q1.own j from ⟨hq1, hT1, hX1, hM1, hf1, hd1⟩)
          have HST' := hide' (HST.out.trans hM1.1)
          have HBX' := hide' (HBX.out.stay hM1.1 HBN.out.2)
          clear HBX
          have HBX := HBX'
          clear HBX'
          clear hq1 hT1 hX1 hM1 hf1 hd1
          clear HST
          have HST := HST'
          clear HST'
          go_wp2
          refine hK9 6 (by simp) _ _ HST.out (any_more fun K10 hK10 => ?_)
          clear hK9 K9
          refine any_take (i := 7) hK10 (some 23) (.move (.tmp 30)) 33 _ (by kernel_rfl) (fun _ d _ _ _ h => by cases d <;> exact h) (by kernel_rfl) (by kernel_rfl) (fun w' hS' => by simp only [opr]; go_simp; try with_reducible rfl) HST.out (fun K11 hK11 => ?_)
          clear hK10 K10
          try simp only [Act.put, lA, lZ, lS]
          refine any_take (i := 8) hK11 (some 31) (.extract (.tmp 23) 0) 29 _ (by kernel_rfl) (fun _ d _ _ _ h => by cases d <;> exact h) (by kernel_rfl) (by kernel_rfl) (fun w' hS' => by simp only [opr]; go_simp; try with_reducible rfl) HST.out (fun K12 hK12 => ?_)
          clear hK11 K11
          try simp only [Act.put, lA, lZ, lS]
          refine any_take (i := 9) hK12 (some 32) (.extract (.tmp 23) 1) 4 _ (by kernel_rfl) (fun _ d _ _ _ h => by cases d <;> exact h) (by kernel_rfl) (by kernel_rfl) (fun w' hS' => by simp only [opr]; go_simp; try with_reducible rfl) HST.out (fun K13 hK13 => ?_)
          clear hK12 K12
          try simp only [Act.put, lA, lZ, lS]
          refine any_pick (rs := [11]) hK13 (by kernel_rfl) (fun K14 hK14 => ?_)
          clear hK13 K13
          intro i hi
          simp only [List.mem_cons, List.not_mem_nil, or_false] at hi
          rcases hi with rfl
          refine op_plain none (.store 29 (.tmp 6) (.tmp 31)) 0 (by kernel_rfl) (by kernel_rfl) ?_
          obtain ⟨x0, x1', x2, x3, x4, x5⟩ := HBX.out
          go_wp2
          clear x0 x1' x2 x3 x4 x5
          have HMID := hide' (HPK.out.mid HST0.out HDD.out.1 HDD.out.2.1 HDD.out.2.2.1 HDD.out.2.2.2.1 HDD.out.2.2.2.2.1 HDD.out.2.2.2.2.2 (Stay.refl _ _) HBX.out HBN.out.1 (.inl HOR.out))
          have HST' := hide' (XBox.stay_put HST.out HBN.out.1 (.slice x1.a L1.length x1.cap) (.int .i64 (m1 + 1)) (.slice x1.a2 65 x1.c2))
          clear HST
          have HST := HST'
          clear HST'
          refine hK14 11 (by simp) _ _ HST.out (any_more fun K15 hK15 => ?_)
          clear hK14 K14
          refine any_take (i := 12) hK15 (some 7) (.assign (.tmp 32)) 4 _ (by kernel_rfl) (fun _ d _ _ _ h => by cases d <;> exact h) (by kernel_rfl) (by kernel_rfl) (fun w' hS' => by simp only [opr]; go_simp; try with_reducible rfl) HST.out (fun K16 hK16 => ?_)
          clear hK15 K15
          try simp only [Act.put, lA, lZ, lS]
          refine any_done hK16 (by kernel_rfl) ?_
          clear hK16 K16
          go_wp2
          go_meet
          exact ⟨b6, q1, x1, L1, m1, f1, rfl, rfl, HMID.out⟩
      case rest =>
        obtain ⟨b6, q1, x1, L1, m1, f1, rfl, rfl, HPM⟩ := hcut
        clear HAB HQG HDO HPK
        have HJ7 := hide' HPM.out.put
        obtain ⟨X8, k0, k1, k2, r0, r1, r2⟩ := HPM.out.bx
        obtain ⟨e0, e1, e2, _⟩ := HPM.out.b6
        simp only [xs] at e0 e1 e2
        obtain ⟨W7, hW7⟩ : ∃ W, W = (((wc.setCell ⟨b8, 0, none⟩ (.slice x1.a L1.length x1.cap)).setCell ⟨b8, 1, none⟩ (.int .i64 (m1 + 1))).setCell ⟨b8, 2, none⟩ (.slice x1.a2 65 x1.c2)) := ⟨_, rfl⟩
        rw [← hW7] at HJ7
        go_upto_region 9 with fail
        rw [← hW7]
        clear hW7 e0 e1 e2 r0 r1 r2 k0 k1 k2 HPM
        have hal : Calls Try.prog 20 #[.pointer (some ⟨qb, 0, none⟩)] W7 (NewL L1 W7) := by
          rw [← HJ7.out.qb]
          exact all20 HJ7.out.tm.tm
        have HAL := hide' hal
        clear hal
        go_wp2_with fail
        refine HAL.out.mono ?_
        rintro _ w8 ⟨a5, c5, rfl, hs, hrd, _, _⟩
        have HJ8 := hide' (HJ7.out.keep hs)
        have HRD := hide' hrd
        obtain ⟨n1, hn1⟩ : ∃ n1, n1 = L1.length := ⟨_, rfl⟩
        have HN1 := hide' hn1
        have hn2 : (n1 : Int) ≤ 256 := by have := HJ8.out.tm.tm.len; omega
        rw [← hn1]
        clear hs hrd HAL HJ7 hn1
        go_upto_region 10 with fail
        go_wp2
        go_loopg [9] n1 (fun gg v9 wr => ∃ a : Nat, a ≤ n1 ∧ gg = n1 - a ∧ v9 = .int .i64 (a : Int) ∧ Hid (Stay (fun _ => False) w8 wr))
        case atStart => exact ⟨0, Nat.zero_le _, rfl, rfl, Stay.refl _ _⟩
        case round =>
          obtain ⟨a, ha, rfl, rfl, HWA⟩ := hrel
          by_cases hla : a < n1
          · have an : (a : Int) < (n1 : Nat) := by omega
            obtain ⟨p, hp⟩ : ∃ p, L1[a]? = some p := ⟨_, List.getElem?_eq_getElem (by rw [← HN1.out]; exact hla)⟩
            have HP := hide' hp
            obtain ⟨g5, o5, rfl, hpa⟩ := HRD.out a p hp
            have HPA := hide' hpa
            have hpa' := hpa.keep HWA.out
            obtain ⟨d0, d1, d2, d3, d4, d5⟩ := hpa'
            clear hp hpa
            go_upto_region 13 with fail
            go_cut [65] from 42 to 65 (fun s65 wx => s65 = .bool false ∧ Hid (Stay (fun _ => False) w8 wx))
            case first =>
              cases hl : (p.ses == p.pid)
              · go_wp2_with fail
                go_quiet (fail)
                go_wp2
                go_meet
                exact ⟨rfl, HWA.out.drewN _⟩
              · have hg : (p.grp != p.pid) = false := by
                  have := HJ8.out.tm.ok.lead p (mem_at HP.out) (by simpa using hl)
                  rw [this]
                  simp
                go_wp2_with fail
                go_quiet (fail)
                go_wp2
                go_meet
                exact ⟨rfl, HWA.out.drewN _⟩
            case rest =>
              obtain ⟨rfl, HWC⟩ := hcut
              clear d0 d1 d2 d3 d4 d5 HWA
              go_wp2
              go_loopg [10] n1 (fun gg v10 wr => ∃ b : Nat, b ≤ n1 ∧ gg = n1 - b ∧ v10 = .int .i64 (b : Int) ∧ Hid (Stay (fun _ => False) w8 wr))
              case atStart => exact ⟨0, Nat.zero_le _, rfl, rfl, HWC⟩
              case round =>
                clear HWC
                obtain ⟨b, hb, rfl, rfl, HWB⟩ := hrel
                by_cases hlb : b < n1
                · have bn : (b : Int) < (n1 : Nat) := by omega
                  obtain ⟨u, hu⟩ : ∃ u, L1[b]? = some u := ⟨_, List.getElem?_eq_getElem (by rw [← HN1.out]; exact hlb)⟩
                  obtain ⟨_, _, hge, hub⟩ := HRD.out b u hu
                  cases hge
                  have hpm := mem_at HP.out
                  have hum := mem_at hu
                  have hgs := HJ8.out.tm.ok.gs p hpm u hum
                  have hst := HJ8.out.tm.ok.st p hpm u hum
                  have hts := HJ8.out.tm.ok.ts p hpm u hum
                  have hpb := HPA.out.keep HWB.out
                  have hub' := hub.keep HWB.out
                  clear hu hub hpm hum
                  go_upto_region 18 with fail
                  refine sess18 (by kernel_rfl) hpb hub' an bn hgs hst hts ?_
                  intro nq
                  intros
                  have HWI := hide' (HWB.out.drewN nq)
                  clear hgs hst hts hpb hub'
                  go_wp2
                  go_roundg (n1 - (b + 1))
                  case measure => omega
                  case rel => exact ⟨b + 1, by omega, rfl, by go_num, HWI.out⟩
                · have e : b = n1 := by omega
                  subst e
                  go_wp2
                  go_roundg (b - (a + 1))
                  case measure => omega
                  case rel => exact ⟨a + 1, by omega, rfl, by go_num, HWB.out⟩
          · have e : a = n1 := by omega
            subst e
            have HJN := hide' (HJ8.out.keep HWA.out)
            clear HJ8 HRD HWA HN1
            go_wp2
            go_roundg (n - (k + 1))
            case measure => omega
            case rel => exact ⟨k + 1, by omega, rfl, by go_num, ⟨q1, x1, L1, m1, f1, HJN.out⟩⟩
    · have e : k = n := by omega
      subst e
      have HAW := hide' (awake7 (w := wr))
      have HS := hide' HPK.out.st
      go_wp2_with fail
      refine HAW.out.mono ?_
      rintro _ w2 ⟨rfl, hs⟩
      have HS2 := hide' (HS.out.trans hs)
      clear hs HAW
      go_wp2
      go_ret
      exact ⟨rfl, HS2.out⟩

end Go.Proofs.Ytefpifnfinkbaaa
