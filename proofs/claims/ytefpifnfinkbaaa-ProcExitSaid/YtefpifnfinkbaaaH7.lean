/-
  The law of all that go: walked. No conditions.
-/
import Derived.Test.YtefpifnfinkbaaaHC
import Derived.ArgAppend
import Derived.BigQuiet
import Derived.Deep.DeepCutAuto
import Derived.Deep.CutBlock
namespace Go.Proofs.Ytefpifnfinkbaaa
open Go.RowKit

theorem exits_out (ad : Option Addr) (n cap : Nat) (w : World) (hn : (n : Int) ≤ 9223372036854775807) (h : 40 < n) : Calls Try.prog 6 #[.slice ad n cap] w (Gives (.bool true) w) := by
  have HA := hide' (awake7 (w := w))
  have hn1 : (40 : Int) < (n : Nat) := by omega
  go_enter Try.func6, Try.ntmps6
  go_wp2_with fail
  refine HA.out.mono ?_
  rintro _ w1 ⟨rfl, hs⟩
  have HS := hide' hs
  clear hs HA
  go_wp2
  go_ret
  exact ⟨rfl, HS.out⟩

section
variable {q : Tq} {L : List Pr} {md : Int} {f : Int → Int} {c : Nat} {w : World} {i : Nat} {p : Pr}

theorem erase_pids : ∀ (L : List Pr) (i : Nat), (L.map Pr.pid).eraseIdx i = (L.eraseIdx i).map Pr.pid
  | [], _ => rfl
  | _ :: _, 0 => rfl
  | a :: L, i + 1 => by
    show a.pid :: (L.map Pr.pid).eraseIdx i = a.pid :: (L.eraseIdx i).map Pr.pid
    rw [erase_pids L i]

/-- One that goes: the numbers that are left. -/
theorem exit26_left (x : Int) (h : TAt w q L md f c) (hp : L[i]? = some p) (hx : p.pid = x) (hc : c ≤ 2000) : ∃ (L1 : List Pr) (f1 : Int → Int) (S : List Sg), Calls Try.prog 26 #[.pointer (some ⟨q.b, 0, none⟩), .int .i64 x] w (DidS q L1 md f1 (c + 1) S w) ∧ L1.map Pr.pid = (L.map Pr.pid).eraseIdx i := by
  subst hx
  have hcc : c ≤ c + 1 := Nat.le_succ c
  have e1 : ((L.eraseIdx i).map (adopt p.pid)).map Pr.pid = (L.map Pr.pid).eraseIdx i := by
    rw [erase_pids, List.map_map]
    exact List.map_congr_left (fun u _ => (adopt_parts p.pid u).1)
  cases hl : leadB p
  · have hok := h.ok.gone hp (fun e => by unfold leadB at hl; rw [e] at hl; simp at hl)
    exact ⟨_, f, _, Gone.did (exit26_nolead p.pid h hp rfl hc hl hok.gd) hok h.mc hcc, e1⟩
  · cases hy : (p.tty != 0)
    · have hok := h.ok.gone hp (fun _ => by simpa using hy)
      exact ⟨_, f, _, Gone.did (exit26_notty p.pid h hp rfl hc hl hy hok.gd) hok h.mc hcc, e1⟩
    · have hok := h.ok.goneT hp (by simpa using hy)
      refine ⟨_, _, _, Gone.did (exit26_lead p.pid h hp rfl hc hl hy hok.gd) hok h.mc hcc, ?_⟩
      rw [← e1, List.map_map]
      exact List.map_congr_left (fun u _ => (freeT_parts p.tty u).1)

/-- Where nobody is a terminal tells nobody. -/
theorem hangup27_nobody (t : Int) (h : TAt w q [] md f c) (ht : W64 t) : Calls Try.prog 27 #[.pointer (some ⟨q.b, 0, none⟩), .int .i64 t] w (fun e w' => ∃ a cap, e = .returned (.slice a 0 cap) ∧ TAt w' q [] md f c ∧ Moved q q w w') := by
  have hf : ∀ t, f t = 0 := fun t => by
    by_cases e : f t = 0
    · exact e
    · obtain ⟨_, p, hp, _⟩ := h.ok.f1 t e
      cases hp
  have e := upd_id (hf t)
  refine (hangup27 t h.tm ht).mono (fun e1 w' hg => ?_)
  obtain ⟨a, cap, rfl, _, hT, hM, _⟩ := hg
  exact ⟨a, cap, rfl, ⟨by rw [e] at hT; exact hT, h.ok, h.mc⟩, hM⟩

end

/-- What is left when some have gone: those behind. -/
structure PX (W : World) (qb c : Nat) (L0 : List Pr) (a5 : Option Addr) (a : Nat) (wr : World) (q : Tq) (L : List Pr) (md : Int) (f : Int → Int) : Prop where
  qb : q.b = qb
  tm : TAt wr q L md f (c + a)
  ps : L.map Pr.pid = (L0.map Pr.pid).drop a
  st : Stay (fun _ => False) W wr
  qn : ∀ j, q.own j → W.heap.size ≤ j
  rd : Rd wr a5 L0
  an : ∀ j, a5.map Addr.block = some j → 0 < L0.length → j < wr.heap.size ∧ ¬ q.own j

section
variable {W w0 w1 : World} {qb c a : Nat} {L0 L L1 : List Pr} {a5 : Option Addr} {q q1 : Tq} {md : Int} {f f1 : Int → Int}

theorem PX.next (h : PX W qb c L0 a5 a w0 q L md f) (hq : q1.b = q.b) (hT : TAt w1 q1 L1 md f1 (c + (a + 1))) (hM : Moved q q1 w0 w1) (hp : L1.map Pr.pid = (L.map Pr.pid).eraseIdx 0) : PX W qb c L0 a5 (a + 1) w1 q1 L1 md f1 := by
  refine ⟨hq.trans h.qb, hT, ?_, h.st.trans2 hM.1 (fun j hj e => by have := h.qn j e; omega), fun j hj => ?_, ?_, fun j hj h0 => ⟨Nat.lt_of_lt_of_le (h.an j hj h0).1 hM.1.size, fun e => ?_⟩⟩
  · rw [hp, h.ps, List.eraseIdx_zero, List.tail_drop]
  · rcases hM.2 j hj with e | e
    · exact h.qn j e
    · have := h.st.size; omega
  · cases L0 with
    | nil => exact Rd.nil _ _
    | cons p L0 => exact h.rd.stay hM.1 (fun j hj => (h.an j hj (Nat.succ_pos _)).2)
  · rcases hM.2 j e with e1 | e1
    · exact (h.an j hj h0).2 e1
    · have := (h.an j hj h0).1; omega

theorem PX.keep (h : PX W qb c L0 a5 a w0 q L md f) (hs : Stay (fun _ => False) w0 w1) : PX W qb c L0 a5 a w1 q L md f :=
  ⟨h.qb, h.tm.keep hs, h.ps, h.st.trans hs, h.qn, h.rd.stay hs (fun _ _ e => e), fun j hj h0 => ⟨Nat.lt_of_lt_of_le (h.an j hj h0).1 hs.size, (h.an j hj h0).2⟩⟩

/-- The first of those that are left. -/
theorem PX.first (h : PX W qb c L0 a5 a w0 q L md f) {p : Pr} (hp : L0[a]? = some p) : ∃ u, L[0]? = some u ∧ u.pid = p.pid := by
  have e : (L.map Pr.pid)[0]? = some p.pid := by
    rw [h.ps, List.getElem?_drop, Nat.add_zero, List.getElem?_map, hp]
    rfl
  rw [List.getElem?_map] at e
  cases hu : L[0]? with
  | none => rw [hu] at e; cases e
  | some u =>
    rw [hu] at e
    exact ⟨u, rfl, by simpa using e⟩

theorem PX.none (h : PX W qb c L0 a5 a w0 q L md f) (ha : L0.length ≤ a) : L = [] := by
  have e := h.ps
  rw [List.drop_eq_nil_of_le (by simpa using ha)] at e
  simpa using e

end

set_option maxRecDepth 100000 in
set_option maxHeartbeats 4000000 in
theorem exits_go (ad : Option Addr) (n cap : Nat) (F : Nat → Ac) (W : World) (h : Acts W ad n F) (hn : n ≤ 40) : Calls Try.prog 6 #[.slice ad n cap] W (Gives (.bool true) W) := by
  have hn1 : (n : Int) ≤ 40 := by omega
  have HACTS := hide' h
  have HN8 := hide' (new8 W)
  clear h
  go_enter Try.func6, Try.ntmps6
  go_wp2_with fail
  refine HN8.out.mono ?_
  rintro _ w0 ⟨q0, rfl, hT0, hs0, hq0⟩
  have HN9 := hide' (rnew9 (w := w0))
  have HT0 := hide' (show TAt w0 q0 [⟨1, 0, 1, 1, 0, false⟩] 1 (fun _ => 0) 1 ∧ Stay (fun _ => False) W w0 ∧ ∀ j, q0.own j → W.heap.size ≤ j from ⟨hT0, hs0, hq0⟩)
  clear hT0 hs0 hq0 HN8
  go_wp2_with fail
  refine HN9.out.mono ?_
  rintro _ w1 ⟨x0, rfl, hX0, hs1, hxn⟩
  obtain ⟨qb, hqb⟩ : ∃ b, b = q0.b := ⟨_, rfl⟩
  obtain ⟨b8, hb8⟩ : ∃ b, b = w1.heap.size := ⟨_, rfl⟩
  obtain ⟨W2, hW2⟩ : ∃ W, W = w1.alloc (.cells #[.slice x0.a 1 x0.cap, .int .i64 2, .slice x0.a2 65 x0.c2] 29) := ⟨_, rfl⟩
  have hs2 : Stay (fun _ => False) w1 W2 := by rw [hW2]; exact (Stay.refl _ _).alloc _
  have hbx : XBox W2 b8 (xs x0 1 2) := by rw [hW2]; exact xbox_new w1 x0 1 2 hb8.symm
  have HJ0 : Hid (PK W qb b8 0 W2 q0 x0 [⟨1, 0, 1, 1, 0, false⟩] 1 (fun _ => 0)) := by
    have z0 := HT0.out.2.1.size
    have z1 := hs1.size
    refine ⟨hqb.symm, HT0.out.1.keep (hs1.trans hs2), hX0.keep hs2, hbx, fun j hj e => ?_, (HT0.out.2.1.trans hs1).trans hs2, HT0.out.2.2, fun e => ?_, fun e => ?_, by omega⟩
    · have h1 := hxn j hj
      have h2 := HT0.out.1.lt j e
      omega
    · have h2 := HT0.out.1.lt b8 e
      omega
    · have h2 := hX0.lt b8 e
      omega
  clear hX0 hs1 hxn hs2 hbx HN9 HT0
  go_upto_region 4 with fail
  rw [← hb8, ← hW2, ← hqb]
  clear hb8 hW2 hqb
  go_wp2
  go_loopg [5] n (fun gg v5 wr => ∃ k : Nat, k ≤ n ∧ gg = n - k ∧ v5 = .int .i64 (k : Int) ∧ ∃ (q : Tq) (x : Xr) (L : List Pr) (md : Int) (f : Int → Int), Hid (PK W qb b8 k wr q x L md f))
  case atStart => exact ⟨0, Nat.zero_le _, rfl, rfl, ⟨_, _, _, _, _, HJ0⟩⟩
  case round =>
    clear HJ0
    obtain ⟨k, hk, rfl, rfl, q, x, L, md, f, HPK⟩ := hrel
    by_cases hlt : k < n
    · have kn : (k : Int) < (n : Nat) := by omega
      obtain ⟨r, hr⟩ : ∃ r, r = F k := ⟨_, rfl⟩
      obtain ⟨g, o, rfl, hab⟩ := (HACTS.out.keep HPK.out.st).at' k hlt
      obtain ⟨_, _, hge, hab0⟩ := HACTS.out.at' k hlt
      have hwf := HACTS.out.wf k hlt
      rw [← hr] at hab hwf
      have HAB := hide' hab
      have HQG : Hid (¬ q.own g) := fun e => by
        cases hge
        have h1 := HPK.out.qn g e
        have h2 := World.block_lt_of_cell? _ _ hab0.c0
        have h3 : g < W.heap.size := h2
        omega
      have HDO : Hid (∀ W5, Stay (fun _ => False) wr W5 → Calls Try.prog 10 #[.pointer (some ⟨qb, 0, none⟩), .agg #[.slice x.a L.length x.cap, .int .i64 (md + 1), .slice x.a2 65 x.c2], .agg #[.int .i64 r.dn, .int .i64 r.pid, .int .i64 r.who, .int .i64 r.grp, .int .i64 r.tty, .bool r.df]] W5 (DoP q x (k + 1) W5)) := fun W5 hs5 => by
        rw [← HPK.out.qb]
        exact do10 r (HPK.out.tm.keep hs5) (HPK.out.xa.keep hs5) HPK.out.dj (by omega) hwf.1
      clear hr hab hge hab0 hwf
      go_upto_region 7 with fail
      go_cut [6, 7] from 25 to 35 (fun s6 s7 wx => ∃ (b6 : Nat) (q1 : Tq) (x1 : Xr) (L1 : List Pr) (m1 : Int) (f1 : Int → Int), s6 = .pointer (some ⟨b6, 0, none⟩) ∧ s7 = .bool true ∧ Hid (PM W qb b8 k b6 wx q1 x1 L1 m1 f1))
      case first =>
        refine any_begin (fun w' => Stay q.own wr w') (by kernel_rfl) (fun K0 hK0 => ?_)
        obtain ⟨wd, hwd⟩ : ∃ W, W = wr.drew := ⟨_, rfl⟩
        have HST0 : Hid (Stay (fun _ => False) wr wd) := by rw [hwd]; exact (Stay.refl _ _).drew
        have HST := hide' (HST0.out.mono (T := q.own) (fun _ _ e => e.elim))
        rw [← hwd]
        clear hwd
        refine any_take (i := 0) hK0 (some 26) (.move (.tmp 3)) 24 _ (by kernel_rfl) (fun _ d _ _ _ h => by cases d <;> exact h) (by kernel_rfl) (by kernel_rfl) (fun w' hS' => by simp only [opr]; go_simp; try with_reducible rfl) HST.out (fun K1 hK1 => ?_)
        clear hK0 K0
        try simp only [Act.put, lA, lZ, lS]
        refine any_take (i := 1) hK1 (some 27) (.load 29 (.tmp 4)) 29 _ (by kernel_rfl) (fun _ d _ _ _ h => by cases d <;> exact h) (by kernel_rfl) (by kernel_rfl) (fun w' hS' => by exact run_load_XBox rfl rfl (HPK.out.bx.stay hS' HPK.out.q8)) HST.out (fun K2 hK2 => ?_)
        clear hK1 K1
        try simp only [Act.put, lA, lZ, lS]
        refine any_take (i := 2) hK2 (some 28) (.move (.tmp 0)) 22 _ (by kernel_rfl) (fun _ d _ _ _ h => by cases d <;> exact h) (by kernel_rfl) (by kernel_rfl) (fun w' hS' => by simp only [opr]; go_simp; try with_reducible rfl) HST.out (fun K3 hK3 => ?_)
        clear hK2 K2
        try simp only [Act.put, lA, lZ, lS]
        refine any_take (i := 3) hK3 (some 29) (.move (.tmp 5)) 3 _ (by kernel_rfl) (fun _ d _ _ _ h => by cases d <;> exact h) (by kernel_rfl) (by kernel_rfl) (fun w' hS' => by simp only [opr]; go_simp; try with_reducible rfl) HST.out (fun K4 hK4 => ?_)
        clear hK3 K3
        try simp only [Act.put, lA, lZ, lS]
        refine any_take (i := 4) hK4 (some 30) (.indexAddr 22 (.tmp 28) (.tmp 29)) 0 _ (by kernel_rfl) (fun _ d _ _ _ h => by cases d <;> exact h) (by kernel_rfl) (by kernel_rfl) (fun w' hS' => by simp only [opr]; go_simp; try with_reducible rfl) HST.out (fun K5 hK5 => ?_)
        clear hK4 K4
        try simp only [Act.put, lA, lZ, lS]
        refine any_take (i := 5) hK5 (some 31) (.load 32 (.tmp 30)) 32 _ (by kernel_rfl) (fun _ d _ _ _ h => by cases d <;> exact h) (by kernel_rfl) (by kernel_rfl) (fun w' hS' => by exact run_load_ABoxAt rfl rfl (HAB.out.stay hS' HQG.out)) HST.out (fun K6 hK6 => ?_)
        clear hK5 K5
        try simp only [Act.put, lA, lZ, lS]
        refine any_pick (rs := [6, 10]) hK6 (by kernel_rfl) (fun K7 hK7 => ?_)
        clear hK6 K6
        intro i hi
        simp only [List.mem_cons, List.not_mem_nil, or_false] at hi
        rcases hi with rfl | rfl
        · refine op_plain (some 32) (.call { callee := Callee.value (.func 10), args := #[.tmp 26, .tmp 27, .tmp 31], argTypes := #[24, 29, 32] }) 33 (by kernel_rfl) (by kernel_rfl) ?_
          go_wp2_with fail
          refine (HDO.out _ HST0.out).mono ?_
          rintro _ wt ⟨q1, x1, L1, m1, f1, hq1, rfl, hT1, hX1, hM1, hf1, hd1⟩
          have HDD := hide' (show q1.b = q.b ∧ TAt wt q1 L1 m1 f1 (k + 1 + 1) ∧ XAt wt x1 L1 f1 ∧ Moved q q1 wd wt ∧ XFrom wd x x1 ∧ ∀ j, x1.has j → ¬ q1.own j from ⟨hq1, hT1, hX1, hM1, hf1, hd1⟩)
          have HST' := hide' (HST.out.trans hM1.1)
          clear hq1 hT1 hX1 hM1 hf1 hd1
          clear HST
          have HST := HST'
          clear HST'
          go_wp2
          refine hK7 6 (by simp) _ _ HST.out (any_more fun K8 hK8 => ?_)
          clear hK7 K7
          refine any_take (i := 7) hK8 (some 25) (.move (.tmp 32)) 33 _ (by kernel_rfl) (fun _ d _ _ _ h => by cases d <;> exact h) (by kernel_rfl) (by kernel_rfl) (fun w' hS' => by simp only [opr]; go_simp; try with_reducible rfl) HST.out (fun K9 hK9 => ?_)
          clear hK8 K8
          try simp only [Act.put, lA, lZ, lS]
          refine any_take (i := 8) hK9 (some 33) (.extract (.tmp 25) 0) 29 _ (by kernel_rfl) (fun _ d _ _ _ h => by cases d <;> exact h) (by kernel_rfl) (by kernel_rfl) (fun w' hS' => by simp only [opr]; go_simp; try with_reducible rfl) HST.out (fun K10 hK10 => ?_)
          clear hK9 K9
          try simp only [Act.put, lA, lZ, lS]
          refine any_take (i := 9) hK10 (some 34) (.extract (.tmp 25) 1) 4 _ (by kernel_rfl) (fun _ d _ _ _ h => by cases d <;> exact h) (by kernel_rfl) (by kernel_rfl) (fun w' hS' => by simp only [opr]; go_simp; try with_reducible rfl) HST.out (fun K11 hK11 => ?_)
          clear hK10 K10
          try simp only [Act.put, lA, lZ, lS]
          refine any_pick (rs := [10]) hK11 (by kernel_rfl) (fun K12 hK12 => ?_)
          clear hK11 K11
          intro i hi
          simp only [List.mem_cons, List.not_mem_nil, or_false] at hi
          rcases hi with rfl
          refine op_plain (some 6) (.alloc 29) 0 (by kernel_rfl) (by kernel_rfl) ?_
          go_wp2
          obtain ⟨b6, hb6⟩ : ∃ b, b = wt.heap.size := ⟨_, rfl⟩
          obtain ⟨wb, hwb⟩ : ∃ W, W = wt.alloc (.cells #[.slice none 0 0, .int .i64 0, .slice none 0 0] 29) := ⟨_, rfl⟩
          have hst : Stay (fun _ => False) wt wb := by rw [hwb]; exact (Stay.refl _ _).alloc _
          have HBX : Hid (XBox wb b6 ⟨.slice none 0 0, 0, .slice none 0 0⟩) := by rw [hwb]; exact XBox.new ⟨.slice none 0 0, 0, .slice none 0 0⟩ hb6.symm
          have HBN : Hid (wr.heap.size ≤ b6 ∧ ¬ q.own b6) := by
            have h1 := HST.out.size
            exact ⟨by omega, fun e => by have := HPK.out.tm.lt b6 e; omega⟩
          have HST' := hide' (HST.out.trans (hst.mono (fun _ _ e => e.elim)))
          have HW2 := hide' hst
          have HOR : Hid (wt.heap.size ≤ b6) := by show _ ≤ _; omega
          rw [← hwb, ← hb6]
          clear hst hwb hb6
          clear HST
          have HST := HST'
          clear HST'
          refine hK12 10 (by simp) _ _ HST.out (any_more fun K13 hK13 => ?_)
          clear hK12 K12
          refine any_pick (rs := [11]) hK13 (by kernel_rfl) (fun K14 hK14 => ?_)
          clear hK13 K13
          intro i hi
          simp only [List.mem_cons, List.not_mem_nil, or_false] at hi
          rcases hi with rfl
          refine op_plain none (.store 29 (.tmp 6) (.tmp 33)) 0 (by kernel_rfl) (by kernel_rfl) ?_
          obtain ⟨x0, x1', x2, x3, x4, x5⟩ := HBX.out
          go_wp2
          clear x0 x1' x2 x3 x4 x5
          have HMID := hide' (HPK.out.mid HST0.out HDD.out.1 HDD.out.2.1 HDD.out.2.2.1 HDD.out.2.2.2.1 HDD.out.2.2.2.2.1 HDD.out.2.2.2.2.2 HW2.out HBX.out HBN.out.1 (.inr HOR.out))
          have HST' := hide' (XBox.stay_put HST.out HBN.out.1 (.slice x1.a L1.length x1.cap) (.int .i64 (m1 + 1)) (.slice x1.a2 65 x1.c2))
          clear HST
          have HST := HST'
          clear HST'
          refine hK14 11 (by simp) _ _ HST.out (any_more fun K15 hK15 => ?_)
          clear hK14 K14
          refine any_take (i := 12) hK15 (some 7) (.assign (.tmp 34)) 4 _ (by kernel_rfl) (fun _ d _ _ _ h => by cases d <;> exact h) (by kernel_rfl) (by kernel_rfl) (fun w' hS' => by simp only [opr]; go_simp; try with_reducible rfl) HST.out (fun K16 hK16 => ?_)
          clear hK15 K15
          try simp only [Act.put, lA, lZ, lS]
          refine any_done hK16 (by kernel_rfl) ?_
          clear hK16 K16
          go_wp2
          go_meet
          exact ⟨b6, q1, x1, L1, m1, f1, rfl, rfl, HMID.out⟩
        · refine op_plain (some 6) (.alloc 29) 0 (by kernel_rfl) (by kernel_rfl) ?_
          go_wp2
          obtain ⟨b6, hb6⟩ : ∃ b, b = wd.heap.size := ⟨_, rfl⟩
          obtain ⟨wb, hwb⟩ : ∃ W, W = wd.alloc (.cells #[.slice none 0 0, .int .i64 0, .slice none 0 0] 29) := ⟨_, rfl⟩
          have hst : Stay (fun _ => False) wd wb := by rw [hwb]; exact (Stay.refl _ _).alloc _
          have HBX : Hid (XBox wb b6 ⟨.slice none 0 0, 0, .slice none 0 0⟩) := by rw [hwb]; exact XBox.new ⟨.slice none 0 0, 0, .slice none 0 0⟩ hb6.symm
          have HBN : Hid (wr.heap.size ≤ b6 ∧ ¬ q.own b6) := by
            have h1 := HST.out.size
            exact ⟨by omega, fun e => by have := HPK.out.tm.lt b6 e; omega⟩
          have HST' := hide' (HST.out.trans (hst.mono (fun _ _ e => e.elim)))
          have HST0' := hide' (HST0.out.trans hst)
          clear HST0
          have HST0 := HST0'
          clear HST0'
          have HW2 : Hid (Stay (fun _ => False) wb wb) := Stay.refl _ _
          have HOR : Hid (b6 < wb.heap.size) := HBX.out.lt
          rw [← hwb, ← hb6]
          clear hst hwb hb6
          clear HST
          have HST := HST'
          clear HST'
          refine hK7 10 (by simp) _ _ HST.out (any_more fun K8 hK8 => ?_)
          clear hK7 K7
          refine any_pick (rs := [6]) hK8 (by kernel_rfl) (fun K9 hK9 => ?_)
          clear hK8 K8
          intro i hi
          simp only [List.mem_cons, List.not_mem_nil, or_false] at hi
          rcases hi with rfl
          refine op_plain (some 32) (.call { callee := Callee.value (.func 10), args := #[.tmp 26, .tmp 27, .tmp 31], argTypes := #[24, 29, 32] }) 33 (by kernel_rfl) (by kernel_rfl) ?_
          go_wp2_with fail
          refine (HDO.out _ HST0.out).mono ?_
          rintro _ wt ⟨q1, x1, L1, m1, f1, hq1, rfl, hT1, hX1, hM1, hf1, hd1⟩
          have HDD := hide' (show q1.b = q.b ∧ TAt wt q1 L1 m1 f1 (k + 1 + 1) ∧ XAt wt x1 L1 f1 ∧ Moved q q1 wb wt ∧ XFrom wb x x1 ∧ ∀ j, x1.has j → ¬ q1.own j from ⟨hq1, hT1, hX1, hM1, hf1, hd1⟩)
          have HST' := hide' (HST.out.trans hM1.1)
          have HBX' := hide' (HBX.out.stay hM1.1 HBN.out.2)
          clear HBX
          have HBX := HBX'
          clear HBX'
          clear hq1 hT1 hX1 hM1 hf1 hd1
          clear HST
          have HST := HST'
          clear HST'
          go_wp2
          refine hK9 6 (by simp) _ _ HST.out (any_more fun K10 hK10 => ?_)
          clear hK9 K9
          refine any_take (i := 7) hK10 (some 25) (.move (.tmp 32)) 33 _ (by kernel_rfl) (fun _ d _ _ _ h => by cases d <;> exact h) (by kernel_rfl) (by kernel_rfl) (fun w' hS' => by simp only [opr]; go_simp; try with_reducible rfl) HST.out (fun K11 hK11 => ?_)
          clear hK10 K10
          try simp only [Act.put, lA, lZ, lS]
          refine any_take (i := 8) hK11 (some 33) (.extract (.tmp 25) 0) 29 _ (by kernel_rfl) (fun _ d _ _ _ h => by cases d <;> exact h) (by kernel_rfl) (by kernel_rfl) (fun w' hS' => by simp only [opr]; go_simp; try with_reducible rfl) HST.out (fun K12 hK12 => ?_)
          clear hK11 K11
          try simp only [Act.put, lA, lZ, lS]
          refine any_take (i := 9) hK12 (some 34) (.extract (.tmp 25) 1) 4 _ (by kernel_rfl) (fun _ d _ _ _ h => by cases d <;> exact h) (by kernel_rfl) (by kernel_rfl) (fun w' hS' => by simp only [opr]; go_simp; try with_reducible rfl) HST.out (fun K13 hK13 => ?_)
          clear hK12 K12
          try simp only [Act.put, lA, lZ, lS]
          refine any_pick (rs := [11]) hK13 (by kernel_rfl) (fun K14 hK14 => ?_)
          clear hK13 K13
          intro i hi
          simp only [List.mem_cons, List.not_mem_nil, or_false] at hi
          rcases hi with rfl
          refine op_plain none (.store 29 (.tmp 6) (.tmp 33)) 0 (by kernel_rfl) (by kernel_rfl) ?_
          obtain ⟨x0, x1', x2, x3, x4, x5⟩ := HBX.out
          go_wp2
          clear x0 x1' x2 x3 x4 x5
          have HMID := hide' (HPK.out.mid HST0.out HDD.out.1 HDD.out.2.1 HDD.out.2.2.1 HDD.out.2.2.2.1 HDD.out.2.2.2.2.1 HDD.out.2.2.2.2.2 (Stay.refl _ _) HBX.out HBN.out.1 (.inl HOR.out))
          have HST' := hide' (XBox.stay_put HST.out HBN.out.1 (.slice x1.a L1.length x1.cap) (.int .i64 (m1 + 1)) (.slice x1.a2 65 x1.c2))
          clear HST
          have HST := HST'
          clear HST'
          refine hK14 11 (by simp) _ _ HST.out (any_more fun K15 hK15 => ?_)
          clear hK14 K14
          refine any_take (i := 12) hK15 (some 7) (.assign (.tmp 34)) 4 _ (by kernel_rfl) (fun _ d _ _ _ h => by cases d <;> exact h) (by kernel_rfl) (by kernel_rfl) (fun w' hS' => by simp only [opr]; go_simp; try with_reducible rfl) HST.out (fun K16 hK16 => ?_)
          clear hK15 K15
          try simp only [Act.put, lA, lZ, lS]
          refine any_done hK16 (by kernel_rfl) ?_
          clear hK16 K16
          go_wp2
          go_meet
          exact ⟨b6, q1, x1, L1, m1, f1, rfl, rfl, HMID.out⟩
      case rest =>
        obtain ⟨b6, q1, x1, L1, m1, f1, rfl, rfl, HPM⟩ := hcut
        clear HAB HQG HDO HPK
        have HJ7 := hide' HPM.out.put
        obtain ⟨X8, k0, k1, k2, r0, r1, r2⟩ := HPM.out.bx
        obtain ⟨e0, e1, e2, _⟩ := HPM.out.b6
        simp only [xs] at e0 e1 e2
        obtain ⟨W7, hW7⟩ : ∃ W, W = (((wc.setCell ⟨b8, 0, none⟩ (.slice x1.a L1.length x1.cap)).setCell ⟨b8, 1, none⟩ (.int .i64 (m1 + 1))).setCell ⟨b8, 2, none⟩ (.slice x1.a2 65 x1.c2)) := ⟨_, rfl⟩
        rw [← hW7] at HJ7
        have HJN := HJ7
        go_upto_region 6 with fail
        rw [← hW7]
        clear hW7 e0 e1 e2 r0 r1 r2 k0 k1 k2 HPM
        go_wp2
        go_roundg (n - (k + 1))
        case measure => omega
        case rel => exact ⟨k + 1, by omega, rfl, by go_num, ⟨q1, x1, L1, m1, f1, HJN⟩⟩
    · have e : k = n := by omega
      subst e
      clear HACTS
      have hal : Calls Try.prog 20 #[.pointer (some ⟨qb, 0, none⟩)] wr (NewL L wr) := by
        rw [← HPK.out.qb]
        exact all20 HPK.out.tm.tm
      have HAL := hide' hal
      clear hal
      go_wp2_with fail
      refine HAL.out.mono ?_
      rintro _ w8 ⟨a5, c5, rfl, hs, hrd, _, hnb⟩
      obtain ⟨n1, hn1⟩ : ∃ n1, n1 = L.length := ⟨_, rfl⟩
      have HN1 := hide' hn1
      have hn2 : (n1 : Int) ≤ 256 := by have := HPK.out.tm.tm.len; omega
      have HUP := hide' HPK.out.tm.ok.up
      have HX0 : Hid (PX W qb (k + 1) L a5 0 w8 q L md f) := by
        refine ⟨HPK.out.qb, HPK.out.tm.keep hs, by rw [List.drop_zero], HPK.out.st.trans hs, HPK.out.qn, hrd, fun j hj h0 => ⟨?_, fun e => ?_⟩⟩
        · obtain ⟨p, hp⟩ : ∃ p, L[0]? = some p := ⟨_, List.getElem?_eq_getElem h0⟩
          obtain ⟨g5, o5, e5, hb⟩ := hrd 0 p hp
          rw [e5] at hj
          cases hj
          exact World.block_lt_of_cell? _ _ hb.c0
        have h1 := hnb j hj
        have h2 := HPK.out.tm.lt j e
        omega
      have HK : Hid (k ≤ 40) := hn
      rw [← hn1]
      clear hs hrd hnb HAL HPK hn1
      go_upto_region 10 with fail
      go_wp2
      go_loopg [9] n1 (fun gg v9 wr => ∃ a : Nat, a ≤ n1 ∧ gg = n1 - a ∧ v9 = .int .i64 (a : Int) ∧ ∃ (q : Tq) (L1 : List Pr) (f1 : Int → Int), Hid (PX W qb (k + 1) L a5 a wr q L1 md f1))
      case atStart => exact ⟨0, Nat.zero_le _, rfl, rfl, ⟨_, _, _, HX0⟩⟩
      case round =>
        clear HX0
        obtain ⟨a, ha, rfl, rfl, q2, L2, f2, HX⟩ := hrel
        by_cases hla : a < n1
        · have an : (a : Int) < (n1 : Nat) := by omega
          obtain ⟨p, hp⟩ : ∃ p, L[a]? = some p := ⟨_, List.getElem?_eq_getElem (by rw [← HN1.out]; exact hla)⟩
          have HP := hide' hp
          obtain ⟨g5, o5, rfl, hpa⟩ := HX.out.rd a p hp
          obtain ⟨d0, d1, d2, d3, d4, d5⟩ := hpa
          obtain ⟨w9, hw9⟩ : ∃ W : World, W = wr := ⟨_, rfl⟩
          go_upto_region 13 with fail
          go_cut [59] from 44 to 59 (fun s59 wx => s59 = .bool false ∧ Hid (Stay (fun _ => False) wr wx))
          case first =>
            cases hz : decide (0 < a)
            · go_wp2_with fail
              go_quiet (fail)
              go_wp2
              go_meet
              exact ⟨rfl, (Stay.refl (fun _ => False) _).drewN _⟩
            · have ha0 : 0 < a := of_decide_eq_true hz
              obtain ⟨a1, ha1⟩ : ∃ a1 : Nat, (a : Int) - 1 = (a1 : Nat) := ⟨a - 1, by omega⟩
              obtain ⟨u, hu⟩ : ∃ u, L[a1]? = some u := ⟨_, List.getElem?_eq_getElem (by rw [← HN1.out]; omega)⟩
              obtain ⟨_, _, hge, hub⟩ := HX.out.rd a1 u hu
              cases hge
              obtain ⟨y0, y1, y2, y3, y4, y5⟩ := hub
              have hup := HUP.out.get (i := a1) (j := a) (by omega) hu HP.out
              have hup1 : decide (p.pid ≤ u.pid) = false := decide_eq_false (by omega)
              have a1n : (a1 : Int) < (n1 : Nat) := by omega
              clear hu hup
              go_wp2_with fail
              go_quiet (fail)
              go_wp2
              go_meet
              exact ⟨rfl, (Stay.refl (fun _ => False) _).drewN _⟩
          case rest =>
            obtain ⟨rfl, HWC⟩ := hcut
            clear d0 d1 d2 d3 d4 d5
            have HX9 := hide' (HX.out.keep HWC.out)
            obtain ⟨_, _, hge, hpa⟩ := HX9.out.rd a p HP.out
            cases hge
            obtain ⟨d0, d1, d2, d3, d4, d5⟩ := hpa
            obtain ⟨u, hu, hup⟩ := HX9.out.first HP.out
            obtain ⟨L3, f3, S3, hex, hps⟩ := exit26_left p.pid HX9.out.tm hu hup (by have := HK.out; omega)
            rw [HX9.out.qb] at hex
            have HEX := hide' hex
            have HPS := hide' hps
            clear hex hps hu hup HX HWC
            go_wp2_with fail
            refine HEX.out.mono ?_
            rintro _ w10 ⟨q3, a6, c6, hq3, rfl, _, hT3, hM3, _⟩
            have HX10 := hide' (HX9.out.next hq3 hT3 hM3 HPS.out)
            clear hq3 hT3 hM3 HEX HPS HX9 d0 d1 d2 d3 d4 d5
            go_wp2
            go_roundg (n1 - (a + 1))
            case measure => omega
            case rel => exact ⟨a + 1, by omega, rfl, by go_num, ⟨q3, L3, f3, HX10⟩⟩
        · have e : a = n1 := by omega
          subst e
          have hL : L2 = [] := HX.out.none (by rw [← HN1.out]; exact Nat.le_refl _)
          subst hL
          have HQ : Hid (q2.b = qb ∧ TAt wr q2 [] md f2 (k + 1 + a) ∧ Stay (fun _ => False) W wr ∧ ∀ j, q2.own j → W.heap.size ≤ j) := ⟨HX.out.qb, HX.out.tm, HX.out.st, HX.out.qn⟩
          clear HX HN1 HUP
          go_wp2
          go_loopg [10] 66 (fun gg v10 wr => ∃ t : Nat, t ≤ 66 ∧ gg = 66 - t ∧ v10 = .int .i64 (t : Int) ∧ Hid (q2.b = qb ∧ TAt wr q2 [] md f2 (k + 1 + a) ∧ Stay (fun _ => False) W wr ∧ ∀ j, q2.own j → W.heap.size ≤ j))
          case atStart => exact ⟨0, Nat.zero_le _, rfl, rfl, HQ⟩
          case round =>
            clear HQ
            obtain ⟨t, ht, rfl, rfl, HQ⟩ := hrel
            by_cases hlt2 : t < 66
            · have tn : (t : Int) < 66 := by omega
              have hh := hangup27_nobody (t : Int) HQ.out.2.1 (by unfold W64; omega)
              rw [HQ.out.1] at hh
              have HH := hide' hh
              clear hh
              go_wp2_with fail
              refine HH.out.mono ?_
              rintro _ w10 ⟨a6, c6, rfl, hT3, hM3⟩
              have HQ3 : Hid (q2.b = qb ∧ TAt w10 q2 [] md f2 (k + 1 + a) ∧ Stay (fun _ => False) W w10 ∧ ∀ j, q2.own j → W.heap.size ≤ j) := ⟨HQ.out.1, hT3, HQ.out.2.2.1.trans2 hM3.1 (fun j hj e => by have := HQ.out.2.2.2 j e; omega), HQ.out.2.2.2⟩
              clear hT3 hM3 HH HQ
              go_wp2
              go_roundg (66 - (t + 1))
              case measure => omega
              case rel => exact ⟨t + 1, by omega, rfl, by go_num, HQ3⟩
            · have e : t = 66 := by omega
              subst e
              have hfk := fork21_none (q := q2) 1 HQ.out.2.1 (fun p hp => by cases hp)
              rw [HQ.out.1] at hfk
              have HFK := hide' hfk
              clear hfk
              go_wp2_with fail
              refine HFK.out.mono ?_
              rintro _ w11 ⟨rfl, hs⟩
              have HQ4 := hide' (show TAt w11 q2 [] md f2 (k + 1 + a) ∧ Stay (fun _ => False) W w11 from ⟨HQ.out.2.1.keep hs, HQ.out.2.2.1.trans hs⟩)
              have hal := all20 HQ4.out.1.tm
              rw [HQ.out.1] at hal
              have HAL := hide' hal
              clear hs hal HFK
              go_wp2_with fail
              refine HAL.out.mono ?_
              rintro _ w12 ⟨a7, c7, rfl, hs, _, _, _⟩
              have HQ5 := hide' (show TAt w12 q2 [] md f2 (k + 1 + a) ∧ Stay (fun _ => False) W w12 from ⟨HQ4.out.1.keep hs, HQ4.out.2.trans hs⟩)
              have hen := exit26_no (q := q2) 1 HQ5.out.1.tm (fun p hp => by cases hp)
              rw [HQ.out.1] at hen
              have HEN := hide' hen
              clear hs hen HAL HQ4
              go_wp2_with fail
              refine HEN.out.mono ?_
              rintro _ w13 ⟨rfl, hs⟩
              have HS13 := hide' (HQ5.out.2.trans hs)
              have HAW := hide' (awake7 (w := w13))
              clear hs HEN HQ5 HQ
              go_wp2_with fail
              refine HAW.out.mono ?_
              rintro _ w14 ⟨rfl, hs⟩
              have HS14 := hide' (HS13.out.trans hs)
              clear hs HAW HS13
              go_wp2
              go_ret
              exact ⟨rfl, HS14.out⟩

end Go.Proofs.Ytefpifnfinkbaaa
