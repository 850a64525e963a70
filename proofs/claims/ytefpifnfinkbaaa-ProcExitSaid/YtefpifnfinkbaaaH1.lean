/-
  One act of both: walked. No conditions.
-/
import Derived.Test.YtefpifnfinkbaaaH0
import Derived.ArgAppend
import Derived.Deep.DeepCutAuto
import Derived.Deep.CutBlock
namespace Go.Proofs.Ytefpifnfinkbaaa
open Go.RowKit

variable {q : Tq} {x : Xr} {L : List Pr} {md : Int} {f : Int → Int} {c : Nat} {w : World}

set_option maxRecDepth 100000 in
set_option maxHeartbeats 4000000 in
theorem do10 (r : Ac) (hA : TAt w q L md f c) (hX : XAt w x L f) (hdj : ∀ j, x.has j → ¬ q.own j) (hc : c ≤ 2000) (hr : W64 r.tty) : Calls Try.prog 10 #[.pointer (some ⟨q.b, 0, none⟩), .agg #[.slice x.a L.length x.cap, .int .i64 (md + 1), .slice x.a2 65 x.c2], .agg #[.int .i64 r.dn, .int .i64 r.pid, .int .i64 r.who, .int .i64 r.grp, .int .i64 r.tty, .bool r.df]] w (DoP q x c w) := by
  obtain ⟨nx, hnx⟩ : ∃ nx, nx = md + 1 := ⟨_, rfl⟩
  obtain ⟨n, hn⟩ : ∃ n, n = L.length := ⟨_, rfl⟩
  obtain ⟨b4, hb4⟩ : ∃ b, b = w.heap.size := ⟨_, rfl⟩
  obtain ⟨Wq0, hWq0⟩ : ∃ W, W = w.alloc (.cells #[.slice x.a n x.cap, .int .i64 nx, .slice x.a2 65 x.c2] 29) := ⟨_, rfl⟩
  have hsWq0 : Stay (fun _ => False) w Wq0 := by rw [hWq0]; exact (Stay.refl _ _).alloc _
  have hpb4 : w.heap.size = b4 := by rw [hb4]
  obtain ⟨b5, hb5⟩ : ∃ b, b = w.heap.size + 1 := ⟨_, rfl⟩
  obtain ⟨Wq1, hWq1⟩ : ∃ W, W = Wq0.alloc (.cells #[.int .i64 r.dn, .int .i64 r.pid, .int .i64 r.who, .int .i64 r.grp, .int .i64 r.tty, .bool r.df] 32) := ⟨_, rfl⟩
  have hsWq1 : Stay (fun _ => False) Wq0 Wq1 := by rw [hWq1]; exact (Stay.refl _ _).alloc _
  have hpb5 : Wq0.heap.size = b5 := by rw [hb5]; rw [hWq0, World.size_alloc]
  obtain ⟨b6, hb6⟩ : ∃ b, b = w.heap.size + 1 + 1 := ⟨_, rfl⟩
  obtain ⟨W0, hW0⟩ : ∃ W, W = Wq1.alloc (.cells #[.slice none 0 0, .int .i64 0, .slice none 0 0] 29) := ⟨_, rfl⟩
  have hsW0 : Stay (fun _ => False) Wq1 W0 := by rw [hW0]; exact (Stay.refl _ _).alloc _
  have hpb6 : Wq1.heap.size = b6 := by rw [hb6]; rw [hWq1, World.size_alloc]; rw [hWq0, World.size_alloc]
  have HBb4 := hide' (show XBox W0 b4 (xs x n nx) from (show XBox Wq0 b4 (xs x n nx) from (by rw [hWq0]; exact xbox_new w x n nx hpb4)).keep (((Stay.refl (fun _ => False) Wq0).trans hsWq1).trans hsW0))
  have HZb4 : Hid (w.heap.size ≤ b4) := by show _ ≤ _; omega
  have HBb5 := hide' (show ABox W0 b5 r from (show ABox Wq1 b5 r from (by rw [hWq1]; exact ABox.new r hpb5)).keep ((Stay.refl (fun _ => False) Wq1).trans hsW0))
  have HZb5 : Hid (w.heap.size ≤ b5) := by show _ ≤ _; omega
  have HBb6 := hide' (show XBox W0 b6 ⟨.slice none 0 0, 0, .slice none 0 0⟩ from (show XBox W0 b6 ⟨.slice none 0 0, 0, .slice none 0 0⟩ from (by rw [hW0]; exact XBox.new ⟨.slice none 0 0, 0, .slice none 0 0⟩ hpb6)).keep (Stay.refl (fun _ => False) W0))
  have HZb6 : Hid (w.heap.size ≤ b6) := by show _ ≤ _; omega
  have HS0 := hide' ((((Stay.refl (fun _ => False) w).trans hsWq0).trans hsWq1).trans hsW0)
  have HW0 : Hid (W0 = (((w.alloc (.cells #[.slice x.a n x.cap, .int .i64 nx, .slice x.a2 65 x.c2] 29)).alloc (.cells #[.int .i64 r.dn, .int .i64 r.pid, .int .i64 r.who, .int .i64 r.grp, .int .i64 r.tty, .bool r.df] 32)).alloc (.cells #[.slice none 0 0, .int .i64 0, .slice none 0 0] 29))) := by show _ = _; rw [hW0, hWq1, hWq0]
  have HN := hide' hn
  have HNX := hide' hnx
  have HDA : Hid (DoAt w q x b4 b6 (xs x n nx) L f W0) := ⟨HS0.out, hX.keep HS0.out, hX.lt, hA.lt, hdj, HBb4.out, HBb6.out, HZb4.out, HZb6.out, by omega⟩
  have HT := hide' (hA.keep HS0.out)
  have HW := hide' (show c ≤ 2000 ∧ W64 r.tty from ⟨hc, hr⟩)
  have HNQ5 : Hid (¬ q.own b5) := fun e => by have := hA.lt b5 e; omega
  have HNE : Hid (¬ b4 = b6) := by show ¬ _; omega
  rw [← hn, ← hnx]
  clear hA hX hdj hc hr hn hnx
  clear hWq0 hWq1 hW0 hsWq0 hsWq1 hsW0 hpb4 hpb5 hpb6
  go_enter Try.func10, Try.ntmps10
  go_upto_region 1 with fail
  rw [← HW0.out, ← hb6, ← hb5, ← hb4]
  clear HW0 hb4 hb5 hb6
  obtain ⟨t0, t1, t2, t3, t4, t5, _⟩ := HBb5.out
  go_upto_block 0 with fail
  clear t0 t1 t2 t3 t4 t5
  go_cut [8, 9, 10, 11, 12, 13] from 14 to 158 (fun s8 s9 s10 s11 s12 s13 wx => ∃ (q1 : Tq) (x1 : Xr) (L1 : List Pr) (m1 : Int) (f1 : Int → Int) (S : List Sg) (a : Option Addr) (cap : Nat) (a2 : Option Addr) (cap2 : Nat) (er n1 : Int), s8 = .slice a S.length cap ∧ s9 = .slice a2 S.length cap2 ∧ s10 = .int .i64 er ∧ s11 = .int .i64 er ∧ s12 = .int .i64 n1 ∧ s13 = .int .i64 n1 ∧ Hid (S.length ≤ 10000 ∧ DoIn w q x b4 b6 q1 x1 L1 m1 f1 (c + 1) S a cap a2 cap2 wx))
  case first =>
    go_upto_if 18 with fail
    cases d0 : (r.dn == 0)
    · cases d1 : (r.dn == 1)
      · cases d2 : (r.dn == 2)
        · cases d3 : (r.dn == 3)
          · cases d4 : (r.dn == 4)
            · cases d5 : (r.dn == 5)
              · cases d6 : (r.dn == 6)
                · cases d7 : (r.dn == 7)
                  · have HFIN := hide' (DoIn.at HDA.out rfl (HT.out.more (Nat.le_succ c)) (Moved.of_stay (Stay.refl _ W0)) HDA.out.xa (Stay.refl _ W0) (XFrom.refl _ x) (SV.nil W0) (a := none) (fun j hj => by cases hj) (SV.nil W0) (a2 := none) (fun j hj => by cases hj) (Stay.refl _ W0) (by rw [← HN.out, ← HNX.out]; exact HDA.out.h4))
                    obtain ⟨t0, t1, t2, t3, t4, t5, _⟩ := HBb5.out
                    go_wp2
                    go_meet
                    exact ⟨q, x, L, md, f, [], none, 0, none, 0, 0, 0, rfl, rfl, rfl, rfl, rfl, rfl, ⟨by simp, HFIN.out⟩⟩
                  · obtain ⟨L1, f1, S, hl, hP, hD⟩ := both_hang r.tty HT.out HW.out.1 HW.out.2
                    have HP := hide' hP
                    have HD : Hid (∀ w2, XAt w2 x L f → Calls Try.prog 35 #[.agg #[.slice x.a n x.cap, .int .i64 nx, .slice x.a2 65 x.c2], .int .i64 r.tty] w2 (XG4 x L1 (md + 1) f1 S w2)) := fun w2 hx => by rw [HN.out, HNX.out]; exact hD w2 x hx
                    obtain ⟨t0, t1, t2, t3, t4, t5, _⟩ := HBb5.out
                    clear hP hD t0
                    go_wp2_with fail
                    refine HP.out.mono ?_
                    rintro _ w1 ⟨q1, a, cap, hq1, rfl, hsv, hT1, hM1, hna⟩
                    have HDW := hide' (HD.out w1 (HDA.out.xa.stay hM1.1 HDA.out.dj))
                    obtain ⟨e0, e1, e2, f0, f1', f2⟩ := HDA.out.h41 hM1
                    obtain ⟨t0, t1, t2, t3, t4, t5, _⟩ := HBb5.out.stay hM1.1 HNQ5.out
                    simp only [xs] at e0 e1 e2
                    have HM1 := hide' (show q1.b = q.b ∧ TAt w1 q1 L1 md f1 (c + 1) ∧ Moved q q1 W0 w1 from ⟨hq1, hT1, hM1⟩)
                    have HSV := hide' (show SV w1 a cap S ∧ ∀ j, a.map Addr.block = some j → W0.heap.size ≤ j from ⟨hsv, fun j hj => (hna j hj).1⟩)
                    have HLL := hide' hl
                    clear hsv hna hl
                    clear hq1 hT1 hM1 HP HD t0
                    go_wp2_with fail
                    refine HDW.out.mono ?_
                    rintro _ w2 ⟨x2, a2, cap2, rfl, hx2, hsv2, hs, hf2, hnb⟩
                    have e0 := keep_cell hs e0
                    have e1 := keep_cell hs e1
                    have e2 := keep_cell hs e2
                    obtain ⟨_, _, _, f0, f1', f2⟩ := (HDA.out.h41 HM1.out.2.2).keep hs
                    have HFIN := hide' (DoIn.of HDA.out HM1.out.1 HM1.out.2.1 HM1.out.2.2 hx2 hs hf2 (HSV.out.1.keep hs) HSV.out.2 hsv2 (fun j hj => Nat.le_trans HM1.out.2.2.1.size (hnb j hj)))
                    clear hx2 hs hf2 HDW HM1 hsv2 hnb HSV
                    go_wp2
                    go_meet
                    exact ⟨q1, x2, L1, md, f1, S, a, cap, a2, cap2, 0, 0, rfl, rfl, rfl, rfl, rfl, rfl, ⟨HLL.out, HFIN.out⟩⟩
                · obtain ⟨L1, f1, S, hl, hP, hD⟩ := both_exit r.pid HT.out HW.out.1
                  have HP := hide' hP
                  have HD : Hid (∀ w2, XAt w2 x L f → Calls Try.prog 34 #[.agg #[.slice x.a n x.cap, .int .i64 nx, .slice x.a2 65 x.c2], .int .i64 r.pid] w2 (XG4 x L1 (md + 1) f1 S w2)) := fun w2 hx => by rw [HN.out, HNX.out]; exact hD w2 x hx
                  obtain ⟨t0, t1, t2, t3, t4, t5, _⟩ := HBb5.out
                  clear hP hD t0
                  go_wp2_with fail
                  refine HP.out.mono ?_
                  rintro _ w1 ⟨q1, a, cap, hq1, rfl, hsv, hT1, hM1, hna⟩
                  have HDW := hide' (HD.out w1 (HDA.out.xa.stay hM1.1 HDA.out.dj))
                  obtain ⟨e0, e1, e2, f0, f1', f2⟩ := HDA.out.h41 hM1
                  obtain ⟨t0, t1, t2, t3, t4, t5, _⟩ := HBb5.out.stay hM1.1 HNQ5.out
                  simp only [xs] at e0 e1 e2
                  have HM1 := hide' (show q1.b = q.b ∧ TAt w1 q1 L1 md f1 (c + 1) ∧ Moved q q1 W0 w1 from ⟨hq1, hT1, hM1⟩)
                  have HSV := hide' (show SV w1 a cap S ∧ ∀ j, a.map Addr.block = some j → W0.heap.size ≤ j from ⟨hsv, fun j hj => (hna j hj).1⟩)
                  have HLL := hide' hl
                  clear hsv hna hl
                  clear hq1 hT1 hM1 HP HD t0
                  go_wp2_with fail
                  refine HDW.out.mono ?_
                  rintro _ w2 ⟨x2, a2, cap2, rfl, hx2, hsv2, hs, hf2, hnb⟩
                  have e0 := keep_cell hs e0
                  have e1 := keep_cell hs e1
                  have e2 := keep_cell hs e2
                  obtain ⟨_, _, _, f0, f1', f2⟩ := (HDA.out.h41 HM1.out.2.2).keep hs
                  have HFIN := hide' (DoIn.of HDA.out HM1.out.1 HM1.out.2.1 HM1.out.2.2 hx2 hs hf2 (HSV.out.1.keep hs) HSV.out.2 hsv2 (fun j hj => Nat.le_trans HM1.out.2.2.1.size (hnb j hj)))
                  clear hx2 hs hf2 HDW HM1 hsv2 hnb HSV
                  go_wp2
                  go_meet
                  exact ⟨q1, x2, L1, md, f1, S, a, cap, a2, cap2, 0, 0, rfl, rfl, rfl, rfl, rfl, rfl, ⟨HLL.out, HFIN.out⟩⟩
              · rcases one_or L r.pid with hx | ⟨i, p, hp, hx⟩
                · have HP := hide' (Gives.did (HT.out.more (Nat.le_succ c)) (deaf25_no r.pid r.df HT.out hx))
                  have HIX := hide' (ixI_no hx)
                  obtain ⟨t0, t1, t2, t3, t4, t5, _⟩ := HBb5.out
                  clear hx t0
                  go_wp2_with fail
                  refine HP.out.mono ?_
                  rintro _ w1 ⟨q1, hq1, rfl, hT1, hM1⟩
                  have hat := at14 r.pid nx (HDA.out.xa.stay hM1.1 HDA.out.dj)
                  rw [HIX.out, ← HN.out] at hat
                  have HAT := hide' hat
                  obtain ⟨e0, e1, e2, _⟩ := HDA.out.h41 hM1
                  obtain ⟨t0, t1, t2, t3, t4, t5, _⟩ := HBb5.out.stay hM1.1 HNQ5.out
                  simp only [xs] at e0 e1 e2
                  have HM1 := hide' (show q1.b = q.b ∧ TAt w1 q1 L md f (c + 1) ∧ Moved q q1 W0 w1 from ⟨hq1, hT1, hM1⟩)
                  clear hq1 hT1 hM1 HP hat t0
                  go_wp2_with fail
                  refine HAT.out.mono ?_
                  rintro _ w2 ⟨rfl, hs⟩
                  have HFIN := hide' (DoIn.at HDA.out HM1.out.1 HM1.out.2.1 HM1.out.2.2 ((HDA.out.xa.stay HM1.out.2.2.1 HDA.out.dj).keep hs) hs (XFrom.refl _ x) (SV.nil w2) (a := none) (fun j hj => by cases hj) (SV.nil w2) (a2 := none) (fun j hj => by cases hj) (Stay.refl _ w2) (by rw [← HN.out, ← HNX.out]; exact (HDA.out.h41 HM1.out.2.2).keep hs))
                  clear hs HAT HM1 e0 e1 e2 t1 t2 t3 t4 t5
                  go_wp2
                  go_meet
                  exact ⟨q1, x, L, md, f, [], none, 0, none, 0, 5, 0, rfl, rfl, rfl, rfl, rfl, rfl, ⟨by simp, HFIN.out⟩⟩
                · have HP := hide' (Did.more (deaf25 r.pid r.df HT.out hp hx) (Nat.le_succ c))
                  have HIX := hide' (ixI_at HT.out.ok.up hp hx)
                  have HPI := hide' hp
                  have mz : (0 : Int) ≤ (i : Nat) := Int.natCast_nonneg i
                  have hin1 : (i : Int) < (n : Nat) := by have := (List.getElem?_eq_some_iff.1 hp).1; have := HN.out; omega
                  have hn256 : n ≤ 256 := by have := HDA.out.xa.len; have := HN.out; omega
                  obtain ⟨t0, t1, t2, t3, t4, t5, _⟩ := HBb5.out
                  clear hx hp t0
                  go_wp2_with fail
                  refine HP.out.mono ?_
                  rintro _ w1 ⟨q1, hq1, rfl, hT1, hM1⟩
                  have hat := at14 r.pid nx (HDA.out.xa.stay hM1.1 HDA.out.dj)
                  rw [HIX.out, ← HN.out] at hat
                  have HAT := hide' hat
                  obtain ⟨e0, e1, e2, _⟩ := HDA.out.h41 hM1
                  obtain ⟨t0, t1, t2, t3, t4, t5, _⟩ := HBb5.out.stay hM1.1 HNQ5.out
                  simp only [xs] at e0 e1 e2
                  have HM1 := hide' (show q1.b = q.b ∧ TAt w1 q1 (L.set i ⟨p.pid, p.par, p.grp, p.ses, p.tty, r.df⟩) md f (c + 1) ∧ Moved q q1 W0 w1 from ⟨hq1, hT1, hM1⟩)
                  clear hq1 hT1 hM1 HP hat t0
                  go_wp2_with fail
                  refine HAT.out.mono ?_
                  rintro _ w2 ⟨rfl, hs⟩
                  have HX1 := hide' (HDA.out.xa.stay HM1.out.2.2.1 HDA.out.dj)
                  have HB4 := hide' ((HDA.out.h41 HM1.out.2.2).keep hs)
                  have HA5 := hide' ((HBb5.out.stay HM1.out.2.2.1 HNQ5.out).keep hs)
                  have HO := hide' (owns_newS w2 #[] 40 6 0 rfl (by decide))
                  have hsrc := ((HX1.out.keep hs).row).stay ((Stay.refl (fun _ => False) w2).alloc (.cells #[] 40)) (fun _ _ h => h)
                  rw [← HN.out] at hsrc
                  have HSRC := hide' hsrc
                  have HSA := hide' (hs.trans ((Stay.refl (fun _ => False) w2).alloc (.cells #[] 40)))
                  have HSZ2 := hide' hs.size
                  have e0 : ∀ o : Obj, (w2.alloc o).cell? ⟨b4, 0, none⟩ = some (.slice x.a n x.cap) := fun o => (HB4.out.keep ((Stay.refl (fun _ => False) w2).alloc o)).c0
                  clear hs hsrc HAT e1 e2 t1 t2 t3 t4 t5
                  go_upto_region 25 with (at_builtin; refine appS rfl _ _ 26 rfl Try.underlying26 info40 rfl (by decide) (by decide) HO.out rfl HSRC.out rfl (wc_one _) (by omega) (by simp) ?_; intro v W1 ho hst hb; have HO2 := hide' ho; have HT2 := hide' hst; clear ho hst hb; have h2 := HO2.out; rw [Nat.zero_add, show (#[] : Array Value).toList ++ wc L = wc L from rfl] at h2; obtain ⟨a1, cap1, hv1, hw1, hb1⟩ := Ws.of_owns h2; subst hv1; clear h2)
                  have HWS1 := hide' hw1
                  have HS1 := hide' (HSA.out.trans2 HT2.out (fun j hj e => by have e2 : w2.heap.size = j := Option.some.inj e; have := HSZ2.out; omega))
                  have HB41 := hide' (show XBox W1 b4 (xs x n nx) from (HB4.out.keep ((Stay.refl (fun _ => False) w2).alloc (.cells #[] 40))).stay HT2.out (fun e => by have e2 : w2.heap.size = b4 := Option.some.inj e; have := HB4.out.lt; omega))
                  have HA51 := hide' (show ABox W1 b5 r from (HA5.out.keep ((Stay.refl (fun _ => False) w2).alloc (.cells #[] 40))).stay HT2.out (fun e => by have e2 : w2.heap.size = b5 := Option.some.inj e; have := HA5.out.lt; omega))
                  have HBN1 := hide' (show ∀ k, a1.map Addr.block = some k → w1.heap.size ≤ k ∧ w2.heap.size ≤ k from fun k hk => by have h1 := hb1 k hk; have h2 := HSZ2.out; omega)
                  have HLT2 : Hid (b4 < w2.heap.size) := HB4.out.lt
                  have HLT5 : Hid (b5 < w2.heap.size) := HA5.out.lt
                  clear HO HSRC HSA HO2 HT2 hw1 hb1 e0 HB4 HA5
                  obtain ⟨g1, rfl, _⟩ := HWS1.out.at HPI.out
                  obtain ⟨d0, d1, d2, d3, d4, d5⟩ := (HWS1.out.cellsAt HPI.out).1
                  have z5 := (HWS1.out.cellsAt HPI.out).2 5 (by decide)
                  obtain ⟨t0, t1, t2, t3, t4, t5, _⟩ := HA51.out
                  clear d0 d1 d2 d3 d4 t0 t1 t2 t3 t4
                  have hgs := HBN1.out g1 rfl
                  have n4 : ¬ g1 = b4 := by have := HLT2.out; omega
                  have hws3 : Ws (W1.setCell ⟨g1, i * 6 + 5, none⟩ (.bool r.df)) (some ⟨g1, 0, none⟩) n cap1 (L.set i ⟨p.pid, p.par, p.grp, p.ses, p.tty, r.df⟩) := HWS1.out.part HPI.out (q := ⟨p.pid, p.par, p.grp, p.ses, p.tty, r.df⟩) (k := 5) (vs := [.bool r.df]) (by simp) rfl
                  have hst3 : Stay (fun j => j = g1) W1 (W1.setCell ⟨g1, i * 6 + 5, none⟩ (.bool r.df)) := (Stay.refl (fun j => j = g1) W1).setCell (p := ⟨g1, i * 6 + 5, none⟩) rfl _
                  obtain ⟨W3, hW3⟩ : ∃ W, W = W1.setCell ⟨g1, i * 6 + 5, none⟩ (.bool r.df) := ⟨_, rfl⟩
                  rw [← hW3] at hws3 hst3
                  have HS3 : Hid (Stay (fun _ => False) w1 W3) := HS1.out.trans2 hst3 (fun j hj e => by have : j = g1 := e; omega)
                  have HB43 := hide' (HB41.out.stay hst3 (fun e => n4 e.symm))
                  have HWS3 := hide' hws3
                  clear hws3 hst3
                  go_upto_region 26 with fail
                  rw [← hW3]
                  clear hW3 d5 z5 t5
                  obtain ⟨k0, k1, k2, r0, r1, r2⟩ := HB43.out
                  have hxp := HX1.out.procs HS3.out HWS3.out (fun e => by cases e) (fun j hj => by cases hj; exact hgs.1) (by rw [List.length_set]; exact HX1.out.len)
                  have hln : (L.set i (⟨p.pid, p.par, p.grp, p.ses, p.tty, r.df⟩ : Pr)).length = n := by rw [List.length_set]; exact HN.out.symm
                  have HFIN := hide' (DoIn.at HDA.out HM1.out.1 HM1.out.2.1 HM1.out.2.2 hxp.1 HS3.out hxp.2 (SV.nil W3) (a := none) (fun j hj => by cases hj) (SV.nil W3) (a2 := none) (fun j hj => by cases hj) ((Stay.refl (fun j => j = b4) W3).setCell (p := ⟨b4, 0, none⟩) rfl (.slice (some ⟨g1, 0, none⟩) n cap1)) (by rw [hln]; exact HB43.out.put0 (by rw [HNX.out]; rfl)))
                  clear hxp hln n4 hgs
                  go_wp2
                  go_meet
                  exact ⟨q1, ⟨some ⟨g1, 0, none⟩, cap1, x.a2, x.c2⟩, L.set i ⟨p.pid, p.par, p.grp, p.ses, p.tty, r.df⟩, md, f, [], none, 0, none, 0, 0, 0, rfl, rfl, rfl, rfl, rfl, rfl, ⟨by simp, HFIN.out⟩⟩
            · obtain ⟨f1, er, hP, hD⟩ := both_fore r.pid r.tty r.grp HT.out HW.out.1
              have HP := hide' hP
              have HD : Hid (∀ w2, XAt w2 x L f → Calls Try.prog 33 #[.agg #[.slice x.a n x.cap, .int .i64 nx, .slice x.a2 65 x.c2], .int .i64 r.pid, .int .i64 r.tty, .int .i64 r.grp] w2 (XG2 x L (md + 1) f1 er w2)) := fun w2 hx => by rw [HN.out, HNX.out]; exact hD w2 x hx
              obtain ⟨t0, t1, t2, t3, t4, t5, _⟩ := HBb5.out
              clear hP hD t0
              go_wp2_with fail
              refine HP.out.mono ?_
              rintro _ w1 ⟨q1, hq1, rfl, hT1, hM1⟩
              have HDW := hide' (HD.out w1 (HDA.out.xa.stay hM1.1 HDA.out.dj))
              obtain ⟨e0, e1, e2, f0, f1', f2⟩ := HDA.out.h41 hM1
              obtain ⟨t0, t1, t2, t3, t4, t5, _⟩ := HBb5.out.stay hM1.1 HNQ5.out
              simp only [xs] at e0 e1 e2
              have HM1 := hide' (show q1.b = q.b ∧ TAt w1 q1 L md f1 (c + 1) ∧ Moved q q1 W0 w1 from ⟨hq1, hT1, hM1⟩)
              clear hq1 hT1 hM1 HP HD t0
              go_wp2_with fail
              refine HDW.out.mono ?_
              rintro _ w2 ⟨x2, rfl, hx2, hs, hf2⟩
              have e0 := keep_cell hs e0
              have e1 := keep_cell hs e1
              have e2 := keep_cell hs e2
              obtain ⟨_, _, _, f0, f1', f2⟩ := (HDA.out.h41 HM1.out.2.2).keep hs
              have HFIN := hide' (DoIn.of HDA.out HM1.out.1 HM1.out.2.1 HM1.out.2.2 hx2 hs hf2 (SV.nil w2) (a := none) (fun j hj => by cases hj) (SV.nil w2) (a2 := none) (fun j hj => by cases hj))
              clear hx2 hs hf2 HDW HM1
              go_wp2
              go_meet
              exact ⟨q1, x2, L, md, f1, [], none, 0, none, 0, er, 0, rfl, rfl, rfl, rfl, rfl, rfl, ⟨by simp, HFIN.out⟩⟩
          · obtain ⟨L1, f1, er, hP, hD⟩ := both_attach r.pid r.tty HT.out HW.out.1
            have HP := hide' hP
            have HD : Hid (∀ w2, XAt w2 x L f → Calls Try.prog 31 #[.agg #[.slice x.a n x.cap, .int .i64 nx, .slice x.a2 65 x.c2], .int .i64 r.pid, .int .i64 r.tty] w2 (XG2 x L1 (md + 1) f1 er w2)) := fun w2 hx => by rw [HN.out, HNX.out]; exact hD w2 x hx
            obtain ⟨t0, t1, t2, t3, t4, t5, _⟩ := HBb5.out
            clear hP hD t0
            go_wp2_with fail
            refine HP.out.mono ?_
            rintro _ w1 ⟨q1, hq1, rfl, hT1, hM1⟩
            have HDW := hide' (HD.out w1 (HDA.out.xa.stay hM1.1 HDA.out.dj))
            obtain ⟨e0, e1, e2, f0, f1', f2⟩ := HDA.out.h41 hM1
            obtain ⟨t0, t1, t2, t3, t4, t5, _⟩ := HBb5.out.stay hM1.1 HNQ5.out
            simp only [xs] at e0 e1 e2
            have HM1 := hide' (show q1.b = q.b ∧ TAt w1 q1 L1 md f1 (c + 1) ∧ Moved q q1 W0 w1 from ⟨hq1, hT1, hM1⟩)
            clear hq1 hT1 hM1 HP HD t0
            go_wp2_with fail
            refine HDW.out.mono ?_
            rintro _ w2 ⟨x2, rfl, hx2, hs, hf2⟩
            have e0 := keep_cell hs e0
            have e1 := keep_cell hs e1
            have e2 := keep_cell hs e2
            obtain ⟨_, _, _, f0, f1', f2⟩ := (HDA.out.h41 HM1.out.2.2).keep hs
            have HFIN := hide' (DoIn.of HDA.out HM1.out.1 HM1.out.2.1 HM1.out.2.2 hx2 hs hf2 (SV.nil w2) (a := none) (fun j hj => by cases hj) (SV.nil w2) (a2 := none) (fun j hj => by cases hj))
            clear hx2 hs hf2 HDW HM1
            go_wp2
            go_meet
            exact ⟨q1, x2, L1, md, f1, [], none, 0, none, 0, er, 0, rfl, rfl, rfl, rfl, rfl, rfl, ⟨by simp, HFIN.out⟩⟩
        · obtain ⟨L1, er, hP, hD⟩ := both_setpgid r.pid r.who r.grp HT.out HW.out.1
          have HP := hide' hP
          have HD : Hid (∀ w2, XAt w2 x L f → Calls Try.prog 30 #[.agg #[.slice x.a n x.cap, .int .i64 nx, .slice x.a2 65 x.c2], .int .i64 r.pid, .int .i64 r.who, .int .i64 r.grp] w2 (XG2 x L1 (md + 1) f er w2)) := fun w2 hx => by rw [HN.out, HNX.out]; exact hD w2 x hx
          obtain ⟨t0, t1, t2, t3, t4, t5, _⟩ := HBb5.out
          clear hP hD t0
          go_wp2_with fail
          refine HP.out.mono ?_
          rintro _ w1 ⟨q1, hq1, rfl, hT1, hM1⟩
          have HDW := hide' (HD.out w1 (HDA.out.xa.stay hM1.1 HDA.out.dj))
          obtain ⟨e0, e1, e2, f0, f1', f2⟩ := HDA.out.h41 hM1
          obtain ⟨t0, t1, t2, t3, t4, t5, _⟩ := HBb5.out.stay hM1.1 HNQ5.out
          simp only [xs] at e0 e1 e2
          have HM1 := hide' (show q1.b = q.b ∧ TAt w1 q1 L1 md f (c + 1) ∧ Moved q q1 W0 w1 from ⟨hq1, hT1, hM1⟩)
          clear hq1 hT1 hM1 HP HD t0
          go_wp2_with fail
          refine HDW.out.mono ?_
          rintro _ w2 ⟨x2, rfl, hx2, hs, hf2⟩
          have e0 := keep_cell hs e0
          have e1 := keep_cell hs e1
          have e2 := keep_cell hs e2
          obtain ⟨_, _, _, f0, f1', f2⟩ := (HDA.out.h41 HM1.out.2.2).keep hs
          have HFIN := hide' (DoIn.of HDA.out HM1.out.1 HM1.out.2.1 HM1.out.2.2 hx2 hs hf2 (SV.nil w2) (a := none) (fun j hj => by cases hj) (SV.nil w2) (a2 := none) (fun j hj => by cases hj))
          clear hx2 hs hf2 HDW HM1
          go_wp2
          go_meet
          exact ⟨q1, x2, L1, md, f, [], none, 0, none, 0, er, 0, rfl, rfl, rfl, rfl, rfl, rfl, ⟨by simp, HFIN.out⟩⟩
      · obtain ⟨L1, er, hP, hD⟩ := both_setsid r.pid HT.out HW.out.1
        have HP := hide' hP
        have HD : Hid (∀ w2, XAt w2 x L f → Calls Try.prog 29 #[.agg #[.slice x.a n x.cap, .int .i64 nx, .slice x.a2 65 x.c2], .int .i64 r.pid] w2 (XG2 x L1 (md + 1) f er w2)) := fun w2 hx => by rw [HN.out, HNX.out]; exact hD w2 x hx
        obtain ⟨t0, t1, t2, t3, t4, t5, _⟩ := HBb5.out
        clear hP hD t0
        go_wp2_with fail
        refine HP.out.mono ?_
        rintro _ w1 ⟨q1, hq1, rfl, hT1, hM1⟩
        have HDW := hide' (HD.out w1 (HDA.out.xa.stay hM1.1 HDA.out.dj))
        obtain ⟨e0, e1, e2, f0, f1', f2⟩ := HDA.out.h41 hM1
        obtain ⟨t0, t1, t2, t3, t4, t5, _⟩ := HBb5.out.stay hM1.1 HNQ5.out
        simp only [xs] at e0 e1 e2
        have HM1 := hide' (show q1.b = q.b ∧ TAt w1 q1 L1 md f (c + 1) ∧ Moved q q1 W0 w1 from ⟨hq1, hT1, hM1⟩)
        clear hq1 hT1 hM1 HP HD t0
        go_wp2_with fail
        refine HDW.out.mono ?_
        rintro _ w2 ⟨x2, rfl, hx2, hs, hf2⟩
        have e0 := keep_cell hs e0
        have e1 := keep_cell hs e1
        have e2 := keep_cell hs e2
        obtain ⟨_, _, _, f0, f1', f2⟩ := (HDA.out.h41 HM1.out.2.2).keep hs
        have HFIN := hide' (DoIn.of HDA.out HM1.out.1 HM1.out.2.1 HM1.out.2.2 hx2 hs hf2 (SV.nil w2) (a := none) (fun j hj => by cases hj) (SV.nil w2) (a2 := none) (fun j hj => by cases hj))
        clear hx2 hs hf2 HDW HM1
        go_wp2
        go_meet
        exact ⟨q1, x2, L1, md, f, [], none, 0, none, 0, er, 0, rfl, rfl, rfl, rfl, rfl, rfl, ⟨by simp, HFIN.out⟩⟩
    · obtain ⟨L1, m1, n1, er, hP, hD⟩ := both_fork r.pid HT.out HW.out.1
      have HP := hide' hP
      have HD : Hid (∀ w2, XAt w2 x L f → Calls Try.prog 28 #[.agg #[.slice x.a n x.cap, .int .i64 nx, .slice x.a2 65 x.c2], .int .i64 r.pid] w2 (XG3 x L1 (m1 + 1) f n1 er w2)) := fun w2 hx => by rw [HN.out, HNX.out]; exact hD w2 x hx
      obtain ⟨t0, t1, t2, t3, t4, t5, _⟩ := HBb5.out
      clear hP hD t0
      go_wp2_with fail
      refine HP.out.mono ?_
      rintro _ w1 ⟨q1, hq1, rfl, hT1, hM1⟩
      have HDW := hide' (HD.out w1 (HDA.out.xa.stay hM1.1 HDA.out.dj))
      obtain ⟨e0, e1, e2, f0, f1', f2⟩ := HDA.out.h41 hM1
      obtain ⟨t0, t1, t2, t3, t4, t5, _⟩ := HBb5.out.stay hM1.1 HNQ5.out
      simp only [xs] at e0 e1 e2
      have HM1 := hide' (show q1.b = q.b ∧ TAt w1 q1 L1 m1 f (c + 1) ∧ Moved q q1 W0 w1 from ⟨hq1, hT1, hM1⟩)
      clear hq1 hT1 hM1 HP HD t0
      go_wp2_with fail
      refine HDW.out.mono ?_
      rintro _ w2 ⟨x2, rfl, hx2, hs, hf2⟩
      have e0 := keep_cell hs e0
      have e1 := keep_cell hs e1
      have e2 := keep_cell hs e2
      obtain ⟨_, _, _, f0, f1', f2⟩ := (HDA.out.h41 HM1.out.2.2).keep hs
      have HFIN := hide' (DoIn.of HDA.out HM1.out.1 HM1.out.2.1 HM1.out.2.2 hx2 hs hf2 (SV.nil w2) (a := none) (fun j hj => by cases hj) (SV.nil w2) (a2 := none) (fun j hj => by cases hj))
      clear hx2 hs hf2 HDW HM1
      go_wp2
      go_meet
      exact ⟨q1, x2, L1, m1, f, [], none, 0, none, 0, er, n1, rfl, rfl, rfl, rfl, rfl, rfl, ⟨by simp, HFIN.out⟩⟩
  case rest =>
    obtain ⟨q1, x1, L1, m1, f1, S, a, cap, a2, cap2, er, n1, rfl, rfl, rfl, rfl, rfl, rfl, HI⟩ := hcut
    clear HBb4 HBb5 HBb6 HT HNQ5
    have hee : (er == er) = true := beq_self_eq_true er
    have hnn : (n1 == n1) = true := beq_self_eq_true n1
    obtain ⟨wd, hwd⟩ : ∃ W, W = wc.drew := ⟨_, rfl⟩
    have hsd : Stay (fun _ => False) wc wd := by rw [hwd]; exact (Stay.refl _ _).drew
    have HSD := hide' hsd
    have HSM := hide' (same15 a a2 cap cap2 S wd (HI.out.2.s1.keep hsd) (HI.out.2.s2.keep hsd) (by have := HI.out.1; omega))
    go_upto_region 34 with fail
    have hS : XBox wc.drew b4 (xs x1 L1.length (m1 + 1)) := by rw [← hwd]; exact HI.out.2.h4.keep hsd
    refine wp_region_mix (fun w' => XBox w' b4 (xs x1 L1.length (m1 + 1))) [(0, true), (1, true), (2, true), (3, true), (4, true), (5, true), (6, true), (7, true), (8, true), (9, true), (10, true), (11, true), (12, false), (13, true), (14, true), (15, true), (17, true), (18, true), (16, false), (19, false), (20, true), (21, false), (22, true)] (by kernel_rfl) (by kernel_rfl) (fun _ d _ _ _ h => by cases d <;> exact h) hS ?_
    rw [← hwd] at hS ⊢
    clear hwd hsd
    refine mix_begin (fun K0 hK0 => ?_)
    refine mix_take hK0 (some 159) (.load 29 (.tmp 4)) 29 _ (by kernel_rfl) (by kernel_rfl) (fun w' hS' => by exact run_load_XBox rfl rfl hS') (fun K1 hK1 => ?_)
    clear hK0 K0
    simp only [Act.put, lA, lZ, lS]
    refine mix_take hK1 (some 160) (.move (.tmp 10)) 51 _ (by kernel_rfl) (by kernel_rfl) (fun w' hS' => by (simp only [opr]; go_simp; try with_reducible rfl)) (fun K2 hK2 => ?_)
    clear hK1 K1
    simp only [Act.put, lA, lZ, lS]
    refine mix_take hK2 (some 161) (.move (.tmp 11)) 3 _ (by kernel_rfl) (by kernel_rfl) (fun w' hS' => by (simp only [opr]; go_simp; try with_reducible rfl)) (fun K3 hK3 => ?_)
    clear hK2 K2
    simp only [Act.put, lA, lZ, lS]
    refine mix_take hK3 (some 162) (.binOp BinOp.eql 3 (.tmp 160) (.tmp 161) 3) 4 _ (by kernel_rfl) (by kernel_rfl) (fun w' hS' => by (simp only [opr]; go_simp; try with_reducible rfl)) (fun K4 hK4 => ?_)
    clear hK3 K3
    simp only [Act.put, lA, lZ, lS]
    refine mix_take hK4 (some 163) (.move (.tmp 162)) 4 _ (by kernel_rfl) (by kernel_rfl) (fun w' hS' => by (simp only [opr]; go_simp; try with_reducible rfl)) (fun K5 hK5 => ?_)
    clear hK4 K4
    simp only [Act.put, lA, lZ, lS]
    refine mix_take hK5 (some 164) (.move (.tmp 12)) 3 _ (by kernel_rfl) (by kernel_rfl) (fun w' hS' => by (simp only [opr]; go_simp; try with_reducible rfl)) (fun K6 hK6 => ?_)
    clear hK5 K5
    simp only [Act.put, lA, lZ, lS]
    refine mix_take hK6 (some 165) (.move (.tmp 13)) 3 _ (by kernel_rfl) (by kernel_rfl) (fun w' hS' => by (simp only [opr]; go_simp; try with_reducible rfl)) (fun K7 hK7 => ?_)
    clear hK6 K6
    simp only [Act.put, lA, lZ, lS]
    refine mix_take hK7 (some 166) (.binOp BinOp.eql 3 (.tmp 164) (.tmp 165) 3) 4 _ (by kernel_rfl) (by kernel_rfl) (fun w' hS' => by (simp only [opr]; go_simp; try with_reducible rfl)) (fun K8 hK8 => ?_)
    clear hK7 K7
    simp only [Act.put, lA, lZ, lS]
    refine mix_take hK8 (some 167) (.pick (.tmp 163) (.tmp 166) (.const (Value.bool false))) 4 _ (by kernel_rfl) (by kernel_rfl) (fun w' hS' => by (simp only [opr]; go_simp; try with_reducible rfl)) (fun K9 hK9 => ?_)
    clear hK8 K8
    simp only [Act.put, lA, lZ, lS]
    refine mix_take hK9 (some 168) (.move (.tmp 167)) 4 _ (by kernel_rfl) (by kernel_rfl) (fun w' hS' => by (simp only [opr]; go_simp; try with_reducible rfl)) (fun K10 hK10 => ?_)
    clear hK9 K9
    simp only [Act.put, lA, lZ, lS]
    refine mix_take hK10 (some 169) (.move (.tmp 8)) 35 _ (by kernel_rfl) (by kernel_rfl) (fun w' hS' => by (simp only [opr]; go_simp; try with_reducible rfl)) (fun K11 hK11 => ?_)
    clear hK10 K10
    simp only [Act.put, lA, lZ, lS]
    refine mix_take hK11 (some 170) (.move (.tmp 9)) 35 _ (by kernel_rfl) (by kernel_rfl) (fun w' hS' => by (simp only [opr]; go_simp; try with_reducible rfl)) (fun K12 hK12 => ?_)
    clear hK11 K11
    simp only [Act.put, lA, lZ, lS]
    refine mix_call hK12 (some 171) 15 #[.tmp 169, .tmp 170] #[35, 35] 4 _ (by kernel_rfl) (by kernel_rfl) (enters Try.func15 (by kernel_rfl) (by kernel_rfl)) (by go_simp; try with_reducible rfl) (fun K13 hK13 => ?_)
    clear hK12 K12
    refine (HSM.out).mono ?_
    rintro e wm1 ⟨rfl, hs1⟩
    have hS1 : _ := hS.keep hs1
    refine ⟨_, rfl, hS1, ?_⟩
    have HST1 := hide' (HSD.out.trans hs1)
    clear hs1
    simp only [Act.put, lA, lZ, lS]
    refine mix_take hK13 (some 172) (.pick (.tmp 168) (.tmp 171) (.const (Value.bool false))) 4 _ (by kernel_rfl) (by kernel_rfl) (fun w' hS' => by (simp only [opr]; go_simp; try with_reducible rfl)) (fun K14 hK14 => ?_)
    clear hK13 K13
    simp only [Act.put, lA, lZ, lS]
    refine mix_take hK14 (some 173) (.move (.tmp 172)) 4 _ (by kernel_rfl) (by kernel_rfl) (fun w' hS' => by (simp only [opr]; go_simp; try with_reducible rfl)) (fun K15 hK15 => ?_)
    clear hK14 K14
    simp only [Act.put, lA, lZ, lS]
    refine mix_take hK15 (some 174) (.move (.tmp 0)) 24 _ (by kernel_rfl) (by kernel_rfl) (fun w' hS' => by (simp only [opr]; go_simp; try with_reducible rfl)) (fun K16 hK16 => ?_)
    clear hK15 K15
    simp only [Act.put, lA, lZ, lS]
    refine mix_take hK16 (some 176) (.fieldAddr 29 (.tmp 4) 0) 0 _ (by kernel_rfl) (by kernel_rfl) (fun w' hS' => by (simp only [opr]; go_simp; try with_reducible rfl)) (fun K17 hK17 => ?_)
    clear hK16 K16
    simp only [Act.put, lA, lZ, lS]
    refine mix_take hK17 (some 177) (.load 26 (.tmp 176)) 26 _ (by kernel_rfl) (by kernel_rfl) (fun w' hS' => by (obtain ⟨y0, _⟩ := hS'; simp only [xs] at y0; simp only [opr]; go_simp; try with_reducible rfl)) (fun K18 hK18 => ?_)
    clear hK17 K17
    simp only [Act.put, lA, lZ, lS]
    refine mix_call hK18 (some 175) 20 #[.tmp 174] #[24] 26 _ (by kernel_rfl) (by kernel_rfl) (enters Try.func20 (by kernel_rfl) (by kernel_rfl)) (by go_simp; try with_reducible rfl) (fun K19 hK19 => ?_)
    clear hK18 K18
    refine ((show Calls Try.prog 20 #[.pointer (some ⟨q.b, 0, none⟩)] wm1 (NewL L1 wm1) from by rw [← HI.out.2.qb]; exact all20 (HI.out.2.tm.tm.keep HST1.out))).mono ?_
    rintro e wm2 ⟨a5, c5, rfl, hs2, hrd, hle5, hnb5⟩
    have hS2 : _ := hS1.keep hs2
    refine ⟨_, rfl, hS2, ?_⟩
    have HST2 := hide' (HST1.out.trans hs2)
    have HRD := hide' hrd
    clear hrd hle5 hnb5
    clear hs2
    simp only [Act.put, lA, lZ, lS]
    refine mix_call hK19 (some 178) 36 #[.tmp 175, .tmp 177] #[26, 26] 4 _ (by kernel_rfl) (by kernel_rfl) (enters Try.func36 (by kernel_rfl) (by kernel_rfl)) (by go_simp; try with_reducible rfl) (fun K20 hK20 => ?_)
    clear hK19 K19
    refine ((sameAll36 a5 x1.a c5 x1.cap L1 _ HRD.out (HI.out.2.xa.keep HST2.out).rd HI.out.2.xa.len)).mono ?_
    rintro e wm3 ⟨rfl, hs3⟩
    have hS3 : _ := hS2.keep hs3
    refine ⟨_, rfl, hS3, ?_⟩
    have HST3 := hide' (HST2.out.trans hs3)
    clear hs3
    simp only [Act.put, lA, lZ, lS]
    refine mix_take hK20 (some 179) (.pick (.tmp 173) (.tmp 178) (.const (Value.bool false))) 4 _ (by kernel_rfl) (by kernel_rfl) (fun w' hS' => by (simp only [opr]; go_simp; try with_reducible rfl)) (fun K21 hK21 => ?_)
    clear hK20 K20
    simp only [Act.put, lA, lZ, lS]
    refine mix_chain hK21 (fun K21c hK21c => ?_)
    clear hK21 K21
    refine op_plain none (.store 29 (.tmp 6) (.tmp 159)) 0 (by kernel_rfl) (by kernel_rfl) ?_
    obtain ⟨k0, k1, k2, r0, r1, r2⟩ := HI.out.2.h6.keep HST3.out
    simp only [xs]
    go_wp2
    have hS9 : XBox (((wm3.setCell ⟨b6, 0, none⟩ (.slice x1.a L1.length x1.cap)).setCell ⟨b6, 1, none⟩ (.int .i64 (m1 + 1))).setCell ⟨b6, 2, none⟩ (.slice x1.a2 65 x1.c2)) b4 (xs x1 L1.length (m1 + 1)) := hS3.stay (XBox.put_stay wm3 b6 (.slice x1.a L1.length x1.cap) (.int .i64 (m1 + 1)) (.slice x1.a2 65 x1.c2)) HNE.out
    refine hK21c _ _ hS9 (mix_begin fun K22 hK22 => ?_)
    clear hK21c K21c
    try simp only [Act.put, lA, lZ, lS]
    refine mix_take hK22 (some 7) (.assign (.tmp 179)) 4 _ (by kernel_rfl) (by kernel_rfl) (fun w' hS' => by (simp only [opr]; go_simp; try with_reducible rfl)) (fun K23 hK23 => ?_)
    clear hK22 K22
    simp only [Act.put, lA, lZ, lS]
    refine hK23 _ _ (mix_nil ?_)
    clear hK23 K23
    go_wp2
    have hps := XBox.put_stay wm3 b6 (.slice x1.a L1.length x1.cap) (.int .i64 (m1 + 1)) (.slice x1.a2 65 x1.c2)
    have hI := HI.out.2
    exact bodyPost_ret (results_x1 rfl _ _ b6 x1 _ (m1 + 1) _ rfl rfl ((hI.h6.keep HST3.out).put (xs x1 _ (m1 + 1)))) rfl ⟨q1, x1, L1, m1, f1, hI.qb, rfl, (hI.tm.keep HST3.out).stay hps (fun j hj e => by have : j = b6 := e; rw [this] at hj; exact hI.n6 hj), (hI.xa.keep HST3.out).stay hps (fun j hj e => by have : j = b6 := e; rw [this] at hj; exact hI.m6 hj), ⟨XBox.stay_put (hI.mv.1.trans (HST3.out.mono (fun _ _ e => e.elim))) HDA.out.z6 _ _ _, hI.mv.2⟩, hI.xf, hI.dj⟩

end Go.Proofs.Ytefpifnfinkbaaa
