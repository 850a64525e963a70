/-
  The law of what processes do: walked. No conditions.
-/
import Derived.Test.YtefpifnfinkbaaaH3
import Derived.ArgAppend
import Derived.Deep.DeepCutAuto
import Derived.Deep.CutBlock
namespace Go.Proofs.Ytefpifnfinkbaaa
open Go.RowKit

/-- What stands ahead of an act: both tables, and the box that holds the document's. -/
structure PJ (W : World) (qb b8 k : Nat) (wr : World) (q : Tq) (x : Xr) (L : List Pr) (md : Int) (f : Int → Int) : Prop where
  qb : q.b = qb
  tm : TAt wr q L md f (k + 1)
  xa : XAt wr x L f
  bx : XBox wr b8 (xs x L.length (md + 1))
  dj : ∀ j, x.has j → ¬ q.own j
  st : Stay (fun _ => False) W wr
  qn : ∀ j, q.own j → W.heap.size ≤ j
  q8 : ¬ q.own b8
  x8 : ¬ x.has b8
  z8 : W.heap.size ≤ b8

/-- .. when an act is done, and the box is given the new table. -/
theorem PJ.next {W w0 w1 w2 : World} {qb b8 k : Nat} {q q1 : Tq} {x x1 : Xr} {L L1 : List Pr} {md m1 : Int} {f f1 : Int → Int} (h : PJ W qb b8 k w0 q x L md f) (hq : q1.b = q.b) (hT : TAt w1 q1 L1 m1 f1 (k + 1 + 1)) (hX : XAt w1 x1 L1 f1) (hM : Moved q q1 w0 w1) (hf : XFrom w0 x x1) (hd : ∀ j, x1.has j → ¬ q1.own j) (hs : Stay (fun _ => False) w1 w2) :
    PJ W qb b8 (k + 1) (((w2.setCell ⟨b8, 0, none⟩ (.slice x1.a L1.length x1.cap)).setCell ⟨b8, 1, none⟩ (.int .i64 (m1 + 1))).setCell ⟨b8, 2, none⟩ (.slice x1.a2 65 x1.c2)) q1 x1 L1 m1 f1 := by
  have l8 := h.bx.lt
  have q8 : ¬ q1.own b8 := fun e => by
    rcases hM.2 b8 e with e1 | e1
    · exact h.q8 e1
    · omega
  have x8 : ¬ x1.has b8 := fun e => by
    rcases hf b8 e with e1 | e1
    · exact h.x8 e1
    · omega
  have hps := XBox.put_stay w2 b8 (.slice x1.a L1.length x1.cap) (.int .i64 (m1 + 1)) (.slice x1.a2 65 x1.c2)
  refine ⟨hq.trans h.qb, (hT.keep hs).stay hps (fun j hj e => by have : j = b8 := e; rw [this] at hj; exact q8 hj), (hX.keep hs).stay hps (fun j hj e => by have : j = b8 := e; rw [this] at hj; exact x8 hj), (((h.bx.stay hM.1 h.q8).keep hs).put (xs x1 L1.length (m1 + 1))), hd, ?_, ?_, q8, x8, h.z8⟩
  · exact XBox.stay_put ((h.st.trans2 hM.1 (fun j hj e => by have := h.qn j e; omega)).trans hs) h.z8 _ _ _
  · exact fun j hj => by
      rcases hM.2 j hj with e1 | e1
      · exact h.qn j e1
      · have := h.st.size; omega

theorem PJ.keep {W wr w1 : World} {qb b8 k : Nat} {q : Tq} {x : Xr} {L : List Pr} {md : Int} {f : Int → Int} (h : PJ W qb b8 k wr q x L md f) (hs : Stay (fun _ => False) wr w1) : PJ W qb b8 k w1 q x L md f :=
  ⟨h.qb, h.tm.keep hs, h.xa.keep hs, h.bx.keep hs, h.dj, h.st.trans hs, h.qn, h.q8, h.x8, h.z8⟩

theorem plays_out (ad : Option Addr) (n cap : Nat) (wr ts : Bool) (w : World) (hn : (n : Int) ≤ 9223372036854775807) (h : 60 < n) : Calls Try.prog 3 #[.slice ad n cap, .bool wr, .bool ts] w (Gives (.bool true) w) := by
  have HA := hide' (awake7 (w := w))
  have hn1 : (60 : Int) < (n : Nat) := by omega
  go_enter Try.func3, Try.ntmps3
  go_wp2_with fail
  refine HA.out.mono ?_
  rintro _ w1 ⟨rfl, hs⟩
  have HS := hide' hs
  clear hs HA
  go_wp2
  go_ret
  exact ⟨rfl, HS.out⟩

set_option maxRecDepth 100000 in
set_option maxHeartbeats 4000000 in
theorem plays_go (ad : Option Addr) (n cap : Nat) (F : Nat → Ac) (wb0 ts : Bool) (W : World) (h : Acts W ad n F) (hn : n ≤ 60) : Calls Try.prog 3 #[.slice ad n cap, .bool wb0, .bool ts] W (Gives (.bool true) W) := by
  have HACTS := hide' h
  have hn1 : (n : Int) ≤ 60 := by omega
  have HN8 := hide' (new8 W)
  clear h
  go_enter Try.func3, Try.ntmps3
  go_wp2_with fail
  refine HN8.out.mono ?_
  rintro _ w0 ⟨q0, rfl, hT0, hs0, hq0⟩
  have HN9 := hide' (rnew9 (w := w0))
  have HT0 := hide' (show TAt w0 q0 [⟨1, 0, 1, 1, 0, false⟩] 1 (fun _ => 0) 1 ∧ Stay (fun _ => False) W w0 ∧ ∀ j, q0.own j → W.heap.size ≤ j from ⟨hT0, hs0, hq0⟩)
  clear hT0 hs0 hq0 HN8
  go_wp2_with fail
  refine HN9.out.mono ?_
  rintro _ w1 ⟨x0, rfl, hX0, hs1, hxn⟩
  obtain ⟨qb, hqb⟩ : ∃ b, b = q0.b := ⟨_, rfl⟩
  obtain ⟨b8, hb8⟩ : ∃ b, b = w1.heap.size := ⟨_, rfl⟩
  obtain ⟨W2, hW2⟩ : ∃ W, W = w1.alloc (.cells #[.slice x0.a 1 x0.cap, .int .i64 2, .slice x0.a2 65 x0.c2] 29) := ⟨_, rfl⟩
  have hs2 : Stay (fun _ => False) w1 W2 := by rw [hW2]; exact (Stay.refl _ _).alloc _
  have hbx : XBox W2 b8 (xs x0 1 2) := by rw [hW2]; exact xbox_new w1 x0 1 2 hb8.symm
  have HJ0 : Hid (PJ W qb b8 0 W2 q0 x0 [⟨1, 0, 1, 1, 0, false⟩] 1 (fun _ => 0)) := by
    have z0 := HT0.out.2.1.size
    have z1 := hs1.size
    refine ⟨hqb.symm, HT0.out.1.keep (hs1.trans hs2), hX0.keep hs2, hbx, fun j hj e => ?_, (HT0.out.2.1.trans hs1).trans hs2, HT0.out.2.2, fun e => ?_, fun e => ?_, by omega⟩
    · have h1 := hxn j hj
      have h2 := HT0.out.1.lt j e
      omega
    · have h2 := HT0.out.1.lt b8 e
      omega
    · have h2 := hX0.lt b8 e
      omega
  clear hX0 hs1 hxn hs2 hbx HN9 HT0
  go_upto_region 4 with fail
  rw [← hb8, ← hW2, ← hqb]
  clear hb8 hW2 hqb
  go_wp2
  go_loopg [9] n (fun gg v9 wr => ∃ k : Nat, k ≤ n ∧ gg = n - k ∧ v9 = .int .i64 (k : Int) ∧ ∃ (q : Tq) (x : Xr) (L : List Pr) (md : Int) (f : Int → Int), Hid (PJ W qb b8 k wr q x L md f))
  case atStart => exact ⟨0, Nat.zero_le _, rfl, rfl, ⟨_, _, _, _, _, HJ0⟩⟩
  case round =>
    clear HJ0
    obtain ⟨k, hk, rfl, rfl, q, x, L, md, f, HJ⟩ := hrel
    by_cases hlt : k < n
    · have kn : (k : Int) < (n : Nat) := by omega
      obtain ⟨r, hr⟩ : ∃ r, r = F k := ⟨_, rfl⟩
      obtain ⟨g, o, rfl, hab⟩ := (HACTS.out.keep HJ.out.st).at' k hlt
      have hwf := HACTS.out.wf k hlt
      rw [← hr] at hab hwf
      obtain ⟨c0, c1, c2, c3, c4, c5⟩ := hab
      have HWF := hide' hwf
      obtain ⟨b10, hb10⟩ : ∃ b, b = wr.heap.size := ⟨_, rfl⟩
      obtain ⟨W5, hW5⟩ : ∃ W, W = wr.alloc (.cells #[.int .i64 r.dn, .int .i64 r.pid, .int .i64 r.who, .int .i64 r.grp, .int .i64 r.tty, .bool r.df] 32) := ⟨_, rfl⟩
      have hs5 : Stay (fun _ => False) wr W5 := by rw [hW5]; exact (Stay.refl _ _).alloc _
      have HA5 : Hid (ABox W5 b10 r) := by rw [hW5]; exact ABox.new r hb10.symm
      have HJ5 := hide' (HJ.out.keep hs5)
      have HBL : Hid (b10 < W5.heap.size ∧ ¬ b10 = b8 ∧ ¬ q.own b10) := by
        have h1 := HJ.out.bx.lt
        refine ⟨HA5.out.lt, by omega, fun e => ?_⟩
        have := HJ.out.tm.lt b10 e
        omega
      have hdo := do10 r HJ5.out.tm HJ5.out.xa HJ5.out.dj (by omega) hwf.1
      rw [HJ5.out.qb] at hdo
      have HDO := hide' hdo
      clear hr hwf hs5 hdo HJ
      go_upto_region 8 with fail
      rw [← hb10, ← hW5]
      clear hb10 hW5 c0 c1 c2 c3 c4 c5
      obtain ⟨e0, e1, e2, _⟩ := HJ5.out.bx
      obtain ⟨t0, t1, t2, t3, t4, t5, _⟩ := HA5.out
      simp only [xs] at e0 e1 e2
      go_wp2_with fail
      refine HDO.out.mono ?_
      rintro _ w1 ⟨q1, x1, L1, m1, f1, hq1, rfl, hT1, hX1, hM1, hf1, hd1⟩
      obtain ⟨b11, hb11⟩ : ∃ b, b = w1.heap.size := ⟨_, rfl⟩
      obtain ⟨W6, hW6⟩ : ∃ W, W = w1.alloc (.cells #[.slice x1.a L1.length x1.cap, .int .i64 (m1 + 1), .slice x1.a2 65 x1.c2] 29) := ⟨_, rfl⟩
      have hs6 : Stay (fun _ => False) w1 W6 := by rw [hW6]; exact (Stay.refl _ _).alloc _
      have HB11 : Hid (XBox W6 b11 (xs x1 L1.length (m1 + 1))) := by rw [hW6]; exact xbox_new w1 x1 L1.length (m1 + 1) hb11.symm
      have HB86 := hide' ((HJ5.out.bx.stay hM1.1 HJ5.out.q8).keep hs6)
      have HA6 := hide' ((HA5.out.stay hM1.1 HBL.out.2.2).keep hs6)
      have HJ7 := hide' (HJ5.out.next hq1 hT1 hX1 hM1 hf1 hd1 hs6)
      have hps := XBox.put_stay W6 b8 (.slice x1.a L1.length x1.cap) (.int .i64 (m1 + 1)) (.slice x1.a2 65 x1.c2)
      have HA7 := hide' (HA6.out.stay hps HBL.out.2.1)
      clear hq1 hT1 hX1 hM1 hf1 hd1 hs6 HDO HJ5 HA5 e0 e1 e2 t0 t1 t2 t3 t4 t5 hps HA6
      go_upto_region 9 with fail
      rw [← hb11, ← hW6]
      clear hb11 hW6
      obtain ⟨e0, e1, e2, _⟩ := HB11.out
      obtain ⟨_, _, _, r0, r1, r2⟩ := HB86.out
      obtain ⟨k0, k1, k2, _, _, _⟩ := HB86.out
      simp only [xs] at e0 e1 e2
      obtain ⟨W7, hW7⟩ : ∃ W, W = (((W6.setCell ⟨b8, 0, none⟩ (.slice x1.a L1.length x1.cap)).setCell ⟨b8, 1, none⟩ (.int .i64 (m1 + 1))).setCell ⟨b8, 2, none⟩ (.slice x1.a2 65 x1.c2)) := ⟨_, rfl⟩
      rw [← hW7] at HJ7 HA7
      go_upto_region 12 with fail
      rw [← hW7]
      clear hW7 e0 e1 e2 r0 r1 r2 k0 k1 k2 HB11 HB86
      have HKC : Hid (k + 1 + 1 ≤ 2000 ∧ k + 1 + 1 ≤ 4096) := by show _ ∧ _; omega
      obtain ⟨n1, K, hK1, hP, hD⟩ := both_may r.pid r.tty wb0 ts HJ7.out.tm HKC.out.1 HWF.out.1
      rw [HJ7.out.qb] at hP
      have HP := hide' hP
      have HD := hide' hD
      have HKL := hide' hK1
      obtain ⟨t0, t1, t2, t3, t4, t5, _⟩ := HA7.out
      clear hP hD hK1
      go_wp2_with fail
      refine HP.out.mono ?_
      rintro _ w8 ⟨a, cap1, rfl, hsv, hs, hnb⟩
      have HJ8' := hide' (HJ7.out.keep hs)
      have HA8' := hide' (HA7.out.keep hs)
      have HSVa := hide' hsv
      have HDD := hide' (HD.out w8 x1 HJ8'.out.xa)
      clear hs hsv hnb HP HD HJ7 HA7 t0 t1 t2 t3 t4 t5
      obtain ⟨t0, t1, t2, t3, t4, t5, _⟩ := HA8'.out
      obtain ⟨e0, e1, e2, _⟩ := HJ8'.out.bx
      simp only [xs] at e0 e1 e2
      go_wp2_with fail
      refine HDD.out.mono ?_
      rintro _ w9 ⟨a2, cap2, rfl, hsv2, hs, hnb⟩
      have HJ8 := hide' (HJ8'.out.keep hs)
      have HA8 := hide' (HA8'.out.keep hs)
      have HSV8 := hide' (show SV w9 a cap1 K ∧ SV w9 a2 cap2 K ∧ K.length ≤ 100000 from ⟨HSVa.out.keep hs, hsv2, (by have := HKL.out; omega)⟩)
      clear hs hsv2 hnb HDD HJ8' HA8' HSVa e0 e1 e2 t0 t1 t2 t3 t4 t5
      rcases one_or L1 r.pid with hx | ⟨i, p, hp, hx⟩
      · have hget : Calls Try.prog 13 #[.pointer (some ⟨qb, 0, none⟩), .int .i64 r.pid] w9 (Gives (.tuple #[.agg #[.int .i64 0, .int .i64 0, .int .i64 0, .int .i64 0, .int .i64 0, .bool false], .bool false]) w9) := by
          rw [← HJ8.out.qb]
          exact get13_none r.pid HJ8.out.tm hx
        have HGET := hide' hget
        have HIX := hide' (ixI_no hx)
        obtain ⟨t0, t1, t2, t3, t4, t5, _⟩ := HA8.out
        clear hget hx
        go_wp2_with fail
        refine HGET.out.mono ?_
        rintro _ wa ⟨rfl, hs⟩
        obtain ⟨b17, hb17⟩ : ∃ b, b = wa.heap.size := ⟨_, rfl⟩
        obtain ⟨wb, hwb⟩ : ∃ W, W = wa.alloc (.cells #[.int .i64 0, .int .i64 0, .int .i64 0, .int .i64 0, .int .i64 0, .bool false] 40) := ⟨_, rfl⟩
        have hsb : Stay (fun _ => False) wa wb := by rw [hwb]; exact (Stay.refl _ _).alloc _
        have HPB : Hid (PBox wb b17 ⟨0, 0, 0, 0, 0, false⟩) := by rw [hwb]; exact PBox.new ⟨0, 0, 0, 0, 0, false⟩ hb17.symm
        have HJb := hide' (HJ8.out.keep (hs.trans hsb))
        have HAb := hide' (HA8.out.keep (hs.trans hsb))
        have HSVb := hide' (show SV wb a cap1 K ∧ SV wb a2 cap2 K ∧ K.length ≤ 100000 from ⟨HSV8.out.1.keep (hs.trans hsb), HSV8.out.2.1.keep (hs.trans hsb), HSV8.out.2.2⟩)
        clear hs hsb HGET t0 t1 t2 t3 t4 t5
        go_upto_region 15 with fail
        rw [← hb17, ← hwb]
        clear hb17 hwb
        have hat := at14 r.pid (m1 + 1) HJb.out.xa
        rw [HIX.out] at hat
        have HAT := hide' hat
        obtain ⟨t0, t1, t2, t3, t4, t5, _⟩ := HAb.out
        obtain ⟨e0, e1, e2, _⟩ := HJb.out.bx
        simp only [xs] at e0 e1 e2
        clear hat
        go_wp2_with fail
        refine HAT.out.mono ?_
        rintro _ W9 ⟨rfl, hs⟩
        have HJ9 := hide' (HJb.out.keep hs)
        have HSV9 := hide' (show SV W9 a cap1 K ∧ SV W9 a2 cap2 K ∧ K.length ≤ 100000 from ⟨HSVb.out.1.keep hs, HSVb.out.2.1.keep hs, HSVb.out.2.2⟩)
        have HP9 := hide' (HPB.out.keep hs)
        have HA9 := hide' (HAb.out.keep hs)
        clear hs HAT HJb HSVb HPB HAb e0 e1 e2 t0 t1 t2 t3 t4 t5
        obtain ⟨t0, t1, t2, t3, t4, t5, _⟩ := HA9.out
        obtain ⟨ob, hob⟩ : ∃ ob, ob = orphB L1 r.grp := ⟨_, rfl⟩
        have HOB := hide' hob
        obtain ⟨ft, hft⟩ : ∃ ft, ft = f1 r.tty := ⟨_, rfl⟩
        have HFT := hide' hft
        have hnn : (n1 != n1) = false := by simp
        have hoo : (ob != ob) = false := by simp
        have hff : (ft != ft) = false := by simp
        clear hob hft
        go_upto_region 16 with fail
        have hS : Stay (fun _ => False) W9 W9.drew := (Stay.refl _ _).drew
        refine wp_region_mix (fun w' => Stay (fun _ => False) W9 w') [(0, true), (1, true), (2, true), (3, true), (4, true), (5, true), (6, false), (7, true), (8, true), (9, true), (10, true), (11, true), (12, true), (14, true), (15, true), (16, true), (13, false), (17, false), (18, true), (19, true), (20, true), (21, true), (22, true), (23, true), (25, true), (26, true), (27, true), (24, false), (28, false), (29, true), (30, true), (31, true), (32, true), (33, true), (34, true), (35, true), (36, true), (37, true), (38, true), (39, true), (40, true), (41, true), (42, true), (43, true), (44, true), (45, true), (46, true), (47, true), (48, true)] (by kernel_rfl) (by kernel_rfl) (fun _ d _ _ _ h => by cases d <;> exact h) hS ?_
        refine mix_begin (fun K0 hK0 => ?_)
        refine mix_take hK0 (some 79) (.move (.tmp 13)) 3 _ (by kernel_rfl) (by kernel_rfl) (fun w' hS' => by (simp only [opr]; go_simp; try with_reducible rfl)) (fun K1 hK1 => ?_)
        clear hK0 K0
        simp only [Act.put, lA, lZ, lS]
        refine mix_take hK1 (some 80) (.move (.tmp 15)) 3 _ (by kernel_rfl) (by kernel_rfl) (fun w' hS' => by (simp only [opr]; go_simp; try with_reducible rfl)) (fun K2 hK2 => ?_)
        clear hK1 K1
        simp only [Act.put, lA, lZ, lS]
        refine mix_take hK2 (some 81) (.binOp BinOp.neq 3 (.tmp 79) (.tmp 80) 3) 4 _ (by kernel_rfl) (by kernel_rfl) (fun w' hS' => by (simp only [opr]; go_simp; try with_reducible rfl)) (fun K3 hK3 => ?_)
        clear hK2 K2
        simp only [Act.put, lA, lZ, lS]
        refine mix_take hK3 (some 82) (.move (.tmp 81)) 4 _ (by kernel_rfl) (by kernel_rfl) (fun w' hS' => by (simp only [opr]; go_simp; try with_reducible rfl)) (fun K4 hK4 => ?_)
        clear hK3 K3
        simp only [Act.put, lA, lZ, lS]
        refine mix_take hK4 (some 83) (.move (.tmp 14)) 35 _ (by kernel_rfl) (by kernel_rfl) (fun w' hS' => by (simp only [opr]; go_simp; try with_reducible rfl)) (fun K5 hK5 => ?_)
        clear hK4 K4
        simp only [Act.put, lA, lZ, lS]
        refine mix_take hK5 (some 84) (.move (.tmp 16)) 35 _ (by kernel_rfl) (by kernel_rfl) (fun w' hS' => by (simp only [opr]; go_simp; try with_reducible rfl)) (fun K6 hK6 => ?_)
        clear hK5 K5
        simp only [Act.put, lA, lZ, lS]
        refine mix_call hK6 (some 85) 15 #[.tmp 83, .tmp 84] #[35, 35] 4 _ (by kernel_rfl) (by kernel_rfl) (enters Try.func15 (by kernel_rfl) (by kernel_rfl)) (by go_simp; try with_reducible rfl) (fun K7 hK7 => ?_)
        clear hK6 K6
        refine ((same15 a a2 cap1 cap2 K _ (HSV9.out.1.keep hS) (HSV9.out.2.1.keep hS) HSV9.out.2.2)).mono ?_
        rintro e wm1 ⟨rfl, hs1⟩
        have hS1 : _ := hS.trans hs1
        refine ⟨_, rfl, hS1, ?_⟩
        clear hs1
        simp only [Act.put, lA, lZ, lS]
        refine mix_take hK7 (some 86) (.unOp UnOp.not 4 (.tmp 85)) 4 _ (by kernel_rfl) (by kernel_rfl) (fun w' hS' => by (simp only [opr]; go_simp; try with_reducible rfl)) (fun K8 hK8 => ?_)
        clear hK7 K7
        simp only [Act.put, lA, lZ, lS]
        refine mix_take hK8 (some 87) (.pick (.tmp 82) (.const (Value.bool true)) (.tmp 86)) 4 _ (by kernel_rfl) (by kernel_rfl) (fun w' hS' => by (simp only [opr]; go_simp; try with_reducible rfl)) (fun K9 hK9 => ?_)
        clear hK8 K8
        simp only [Act.put, lA, lZ, lS]
        refine mix_take hK9 (some 88) (.move (.tmp 87)) 4 _ (by kernel_rfl) (by kernel_rfl) (fun w' hS' => by (simp only [opr]; go_simp; try with_reducible rfl)) (fun K10 hK10 => ?_)
        clear hK9 K9
        simp only [Act.put, lA, lZ, lS]
        refine mix_take hK10 (some 89) (.move (.tmp 7)) 24 _ (by kernel_rfl) (by kernel_rfl) (fun w' hS' => by (simp only [opr]; go_simp; try with_reducible rfl)) (fun K11 hK11 => ?_)
        clear hK10 K10
        simp only [Act.put, lA, lZ, lS]
        refine mix_take hK11 (some 90) (.fieldAddr 32 (.tmp 10) 3) 0 _ (by kernel_rfl) (by kernel_rfl) (fun w' hS' => by (simp only [opr]; go_simp; try with_reducible rfl)) (fun K12 hK12 => ?_)
        clear hK11 K11
        simp only [Act.put, lA, lZ, lS]
        refine mix_take hK12 (some 91) (.load 3 (.tmp 90)) 3 _ (by kernel_rfl) (by kernel_rfl) (fun w' hS' => by (have z0 := keep_cell hS' t3; simp only [opr]; go_simp; try with_reducible rfl)) (fun K13 hK13 => ?_)
        clear hK12 K12
        simp only [Act.put, lA, lZ, lS]
        refine mix_take hK13 (some 93) (.load 29 (.tmp 8)) 29 _ (by kernel_rfl) (by kernel_rfl) (fun w' hS' => by exact run_load_XBox rfl rfl (HJ9.out.bx.keep hS')) (fun K14 hK14 => ?_)
        clear hK13 K13
        simp only [Act.put, lA, lZ, lS]
        refine mix_take hK14 (some 94) (.fieldAddr 32 (.tmp 10) 3) 0 _ (by kernel_rfl) (by kernel_rfl) (fun w' hS' => by (simp only [opr]; go_simp; try with_reducible rfl)) (fun K15 hK15 => ?_)
        clear hK14 K14
        simp only [Act.put, lA, lZ, lS]
        refine mix_take hK15 (some 95) (.load 3 (.tmp 94)) 3 _ (by kernel_rfl) (by kernel_rfl) (fun w' hS' => by (have z0 := keep_cell hS' t3; simp only [opr]; go_simp; try with_reducible rfl)) (fun K16 hK16 => ?_)
        clear hK15 K15
        simp only [Act.put, lA, lZ, lS]
        refine mix_call hK16 (some 92) 16 #[.tmp 89, .tmp 91] #[24, 3] 4 _ (by kernel_rfl) (by kernel_rfl) (enters Try.func16 (by kernel_rfl) (by kernel_rfl)) (by go_simp; try with_reducible rfl) (fun K17 hK17 => ?_)
        clear hK16 K16
        refine ((show Calls Try.prog 16 #[.pointer (some ⟨qb, 0, none⟩), .int .i64 r.grp] _ (Gives (.bool ob) _) from by rw [← HJ9.out.qb, HOB.out]; exact orphan16 r.grp (HJ9.out.tm.tm.keep hS1) (TM.w64 HJ9.out.tm HKC.out.2) HWF.out.2)).mono ?_
        rintro e wm2 ⟨rfl, hs2⟩
        have hS2 : _ := hS1.trans hs2
        refine ⟨_, rfl, hS2, ?_⟩
        clear hs2
        simp only [Act.put, lA, lZ, lS]
        refine mix_call hK17 (some 96) 17 #[.tmp 93, .tmp 95] #[29, 3] 4 _ (by kernel_rfl) (by kernel_rfl) (enters Try.func17 (by kernel_rfl) (by kernel_rfl)) (by go_simp; try with_reducible rfl) (fun K18 hK18 => ?_)
        clear hK17 K17
        refine ((show Calls Try.prog 17 #[.agg #[.slice x1.a L1.length x1.cap, .int .i64 (m1 + 1), .slice x1.a2 65 x1.c2], .int .i64 r.grp] _ (Gives (.bool ob) _) from by rw [HOB.out]; exact rorphan17 r.grp (m1 + 1) (HJ9.out.xa.keep hS2) HJ9.out.tm.ok.up)).mono ?_
        rintro e wm3 ⟨rfl, hs3⟩
        have hS3 : _ := hS2.trans hs3
        refine ⟨_, rfl, hS3, ?_⟩
        clear hs3
        simp only [Act.put, lA, lZ, lS]
        refine mix_take hK18 (some 97) (.binOp BinOp.neq 4 (.tmp 92) (.tmp 96) 4) 4 _ (by kernel_rfl) (by kernel_rfl) (fun w' hS' => by (simp only [opr]; go_simp; try with_reducible rfl)) (fun K19 hK19 => ?_)
        clear hK18 K18
        simp only [Act.put, lA, lZ, lS]
        refine mix_take hK19 (some 98) (.pick (.tmp 88) (.const (Value.bool true)) (.tmp 97)) 4 _ (by kernel_rfl) (by kernel_rfl) (fun w' hS' => by (simp only [opr]; go_simp; try with_reducible rfl)) (fun K20 hK20 => ?_)
        clear hK19 K19
        simp only [Act.put, lA, lZ, lS]
        refine mix_take hK20 (some 99) (.move (.tmp 98)) 4 _ (by kernel_rfl) (by kernel_rfl) (fun w' hS' => by (simp only [opr]; go_simp; try with_reducible rfl)) (fun K21 hK21 => ?_)
        clear hK20 K20
        simp only [Act.put, lA, lZ, lS]
        refine mix_take hK21 (some 100) (.move (.tmp 7)) 24 _ (by kernel_rfl) (by kernel_rfl) (fun w' hS' => by (simp only [opr]; go_simp; try with_reducible rfl)) (fun K22 hK22 => ?_)
        clear hK21 K21
        simp only [Act.put, lA, lZ, lS]
        refine mix_take hK22 (some 101) (.fieldAddr 32 (.tmp 10) 4) 0 _ (by kernel_rfl) (by kernel_rfl) (fun w' hS' => by (simp only [opr]; go_simp; try with_reducible rfl)) (fun K23 hK23 => ?_)
        clear hK22 K22
        simp only [Act.put, lA, lZ, lS]
        refine mix_take hK23 (some 102) (.load 3 (.tmp 101)) 3 _ (by kernel_rfl) (by kernel_rfl) (fun w' hS' => by (have z0 := keep_cell hS' t4; simp only [opr]; go_simp; try with_reducible rfl)) (fun K24 hK24 => ?_)
        clear hK23 K23
        simp only [Act.put, lA, lZ, lS]
        refine mix_take hK24 (some 104) (.load 29 (.tmp 8)) 29 _ (by kernel_rfl) (by kernel_rfl) (fun w' hS' => by exact run_load_XBox rfl rfl (HJ9.out.bx.keep hS')) (fun K25 hK25 => ?_)
        clear hK24 K24
        simp only [Act.put, lA, lZ, lS]
        refine mix_take hK25 (some 105) (.fieldAddr 32 (.tmp 10) 4) 0 _ (by kernel_rfl) (by kernel_rfl) (fun w' hS' => by (simp only [opr]; go_simp; try with_reducible rfl)) (fun K26 hK26 => ?_)
        clear hK25 K25
        simp only [Act.put, lA, lZ, lS]
        refine mix_take hK26 (some 106) (.load 3 (.tmp 105)) 3 _ (by kernel_rfl) (by kernel_rfl) (fun w' hS' => by (have z0 := keep_cell hS' t4; simp only [opr]; go_simp; try with_reducible rfl)) (fun K27 hK27 => ?_)
        clear hK26 K26
        simp only [Act.put, lA, lZ, lS]
        refine mix_call hK27 (some 103) 18 #[.tmp 100, .tmp 102] #[24, 3] 3 _ (by kernel_rfl) (by kernel_rfl) (enters Try.func18 (by kernel_rfl) (by kernel_rfl)) (by go_simp; try with_reducible rfl) (fun K28 hK28 => ?_)
        clear hK27 K27
        refine ((show Calls Try.prog 18 #[.pointer (some ⟨qb, 0, none⟩), .int .i64 r.tty] _ (Gives (.int .i64 ft) _) from by rw [← HJ9.out.qb, HFT.out]; exact front18 r.tty (HJ9.out.tm.tm.keep hS3) HWF.out.1)).mono ?_
        rintro e wm4 ⟨rfl, hs4⟩
        have hS4 : _ := hS3.trans hs4
        refine ⟨_, rfl, hS4, ?_⟩
        clear hs4
        simp only [Act.put, lA, lZ, lS]
        refine mix_call hK28 (some 107) 19 #[.tmp 104, .tmp 106] #[29, 3] 3 _ (by kernel_rfl) (by kernel_rfl) (enters Try.func19 (by kernel_rfl) (by kernel_rfl)) (by go_simp; try with_reducible rfl) (fun K29 hK29 => ?_)
        clear hK28 K28
        refine ((show Calls Try.prog 19 #[.agg #[.slice x1.a L1.length x1.cap, .int .i64 (m1 + 1), .slice x1.a2 65 x1.c2], .int .i64 r.tty] _ (Gives (.int .i64 ft) _) from by rw [HFT.out]; exact front19 r.tty (m1 + 1) (HJ9.out.xa.keep hS4) (fun hh => HJ9.out.tm.ok.out hh))).mono ?_
        rintro e wm5 ⟨rfl, hs5⟩
        have hS5 : _ := hS4.trans hs5
        refine ⟨_, rfl, hS5, ?_⟩
        clear hs5
        simp only [Act.put, lA, lZ, lS]
        refine mix_take hK29 (some 108) (.binOp BinOp.neq 3 (.tmp 103) (.tmp 107) 3) 4 _ (by kernel_rfl) (by kernel_rfl) (fun w' hS' => by (simp only [opr]; go_simp; try with_reducible rfl)) (fun K30 hK30 => ?_)
        clear hK29 K29
        simp only [Act.put, lA, lZ, lS]
        refine mix_take hK30 (some 109) (.pick (.tmp 99) (.const (Value.bool true)) (.tmp 108)) 4 _ (by kernel_rfl) (by kernel_rfl) (fun w' hS' => by (simp only [opr]; go_simp; try with_reducible rfl)) (fun K31 hK31 => ?_)
        clear hK30 K30
        simp only [Act.put, lA, lZ, lS]
        refine mix_take hK31 (some 110) (.move (.tmp 109)) 4 _ (by kernel_rfl) (by kernel_rfl) (fun w' hS' => by (simp only [opr]; go_simp; try with_reducible rfl)) (fun K32 hK32 => ?_)
        clear hK31 K31
        simp only [Act.put, lA, lZ, lS]
        refine mix_take hK32 (some 111) (.move (.tmp 18)) 4 _ (by kernel_rfl) (by kernel_rfl) (fun w' hS' => by (simp only [opr]; go_simp; try with_reducible rfl)) (fun K33 hK33 => ?_)
        clear hK32 K32
        simp only [Act.put, lA, lZ, lS]
        refine mix_take hK33 (some 112) (.move (.tmp 19)) 3 _ (by kernel_rfl) (by kernel_rfl) (fun w' hS' => by (simp only [opr]; go_simp; try with_reducible rfl)) (fun K34 hK34 => ?_)
        clear hK33 K33
        simp only [Act.put, lA, lZ, lS]
        refine mix_take hK34 (some 113) (.binOp BinOp.geq 3 (.tmp 112) (.const (Value.int IntKind.i64 0)) 3) 4 _ (by kernel_rfl) (by kernel_rfl) (fun w' hS' => by (simp only [opr]; go_simp; try with_reducible rfl)) (fun K35 hK35 => ?_)
        clear hK34 K34
        simp only [Act.put, lA, lZ, lS]
        refine mix_take hK35 (some 114) (.binOp BinOp.neq 4 (.tmp 111) (.tmp 113) 4) 4 _ (by kernel_rfl) (by kernel_rfl) (fun w' hS' => by (simp only [opr]; go_simp; try with_reducible rfl)) (fun K36 hK36 => ?_)
        clear hK35 K35
        simp only [Act.put, lA, lZ, lS]
        refine mix_take hK36 (some 115) (.pick (.tmp 110) (.const (Value.bool true)) (.tmp 114)) 4 _ (by kernel_rfl) (by kernel_rfl) (fun w' hS' => by (simp only [opr]; go_simp; try with_reducible rfl)) (fun K37 hK37 => ?_)
        clear hK36 K36
        simp only [Act.put, lA, lZ, lS]
        refine mix_take hK37 (some 116) (.move (.tmp 115)) 4 _ (by kernel_rfl) (by kernel_rfl) (fun w' hS' => by (simp only [opr]; go_simp; try with_reducible rfl)) (fun K38 hK38 => ?_)
        clear hK37 K37
        simp only [Act.put, lA, lZ, lS]
        refine mix_take hK38 (some 117) (.move (.tmp 18)) 4 _ (by kernel_rfl) (by kernel_rfl) (fun w' hS' => by (simp only [opr]; go_simp; try with_reducible rfl)) (fun K39 hK39 => ?_)
        clear hK38 K38
        simp only [Act.put, lA, lZ, lS]
        refine mix_take hK39 (some 118) (.move (.tmp 117)) 4 _ (by kernel_rfl) (by kernel_rfl) (fun w' hS' => by (simp only [opr]; go_simp; try with_reducible rfl)) (fun K40 hK40 => ?_)
        clear hK39 K39
        simp only [Act.put, lA, lZ, lS]
        refine mix_skip hK40 (some 119) (by kernel_rfl) (by kernel_rfl) hS5 (fun K41 hK41 => ?_)
        clear hK40 K40
        simp only [Act.put, lA, lZ, lS]
        refine mix_skip hK41 (some 120) (by kernel_rfl) (by kernel_rfl) hS5 (fun K42 hK42 => ?_)
        clear hK41 K41
        simp only [Act.put, lA, lZ, lS]
        refine mix_skip hK42 (some 121) (by kernel_rfl) (by kernel_rfl) hS5 (fun K43 hK43 => ?_)
        clear hK42 K42
        simp only [Act.put, lA, lZ, lS]
        refine mix_skip hK43 (some 122) (by kernel_rfl) (by kernel_rfl) hS5 (fun K44 hK44 => ?_)
        clear hK43 K43
        simp only [Act.put, lA, lZ, lS]
        refine mix_skip hK44 (some 123) (by kernel_rfl) (by kernel_rfl) hS5 (fun K45 hK45 => ?_)
        clear hK44 K44
        simp only [Act.put, lA, lZ, lS]
        refine mix_skip hK45 (some 124) (by kernel_rfl) (by kernel_rfl) hS5 (fun K46 hK46 => ?_)
        clear hK45 K45
        simp only [Act.put, lA, lZ, lS]
        refine mix_skip hK46 (some 125) (by kernel_rfl) (by kernel_rfl) hS5 (fun K47 hK47 => ?_)
        clear hK46 K46
        simp only [Act.put, lA, lZ, lS]
        refine mix_take hK47 (some 126) (.pick (.tmp 118) (.tmp 125) (.const (Value.bool false))) 4 _ (by kernel_rfl) (by kernel_rfl) (fun w' hS' => by (simp only [opr]; go_simp; try with_reducible rfl)) (fun K48 hK48 => ?_)
        clear hK47 K47
        simp only [Act.put, lA, lZ, lS]
        refine mix_take hK48 (some 127) (.pick (.tmp 116) (.const (Value.bool true)) (.tmp 126)) 4 _ (by kernel_rfl) (by kernel_rfl) (fun w' hS' => by (simp only [opr]; go_simp; try with_reducible rfl)) (fun K49 hK49 => ?_)
        clear hK48 K48
        simp only [Act.put, lA, lZ, lS]
        refine hK49 _ _ (mix_nil ?_)
        clear hK49 K49
        have HJN := hide' (HJ9.out.keep hS5)
        clear t0 t1 t2 t3 t4 t5
        go_wp2
        go_roundg (n - (k + 1))
        case measure => omega
        case rel => exact ⟨k + 1, by omega, rfl, by go_num, ⟨q1, x1, L1, m1, f1, HJN.out⟩⟩
      · have hget : Calls Try.prog 13 #[.pointer (some ⟨qb, 0, none⟩), .int .i64 r.pid] w9 (Gives (.tuple #[.agg #[.int .i64 p.pid, .int .i64 p.par, .int .i64 p.grp, .int .i64 p.ses, .int .i64 p.tty, .bool p.df], .bool true]) w9) := by
          rw [← HJ8.out.qb]
          exact get13 r.pid HJ8.out.tm hp hx
        have HGET := hide' hget
        have HIX := hide' (ixI_at HJ8.out.tm.ok.up hp hx)
        have HPP := hide' hp
        obtain ⟨t0, t1, t2, t3, t4, t5, _⟩ := HA8.out
        clear hget hx hp
        go_wp2_with fail
        refine HGET.out.mono ?_
        rintro _ wa ⟨rfl, hs⟩
        obtain ⟨b17, hb17⟩ : ∃ b, b = wa.heap.size := ⟨_, rfl⟩
        obtain ⟨wb, hwb⟩ : ∃ W, W = wa.alloc (.cells #[.int .i64 p.pid, .int .i64 p.par, .int .i64 p.grp, .int .i64 p.ses, .int .i64 p.tty, .bool p.df] 40) := ⟨_, rfl⟩
        have hsb : Stay (fun _ => False) wa wb := by rw [hwb]; exact (Stay.refl _ _).alloc _
        have HPB : Hid (PBox wb b17 p) := by rw [hwb]; exact PBox.new p hb17.symm
        have HJb := hide' (HJ8.out.keep (hs.trans hsb))
        have HAb := hide' (HA8.out.keep (hs.trans hsb))
        have HSVb := hide' (show SV wb a cap1 K ∧ SV wb a2 cap2 K ∧ K.length ≤ 100000 from ⟨HSV8.out.1.keep (hs.trans hsb), HSV8.out.2.1.keep (hs.trans hsb), HSV8.out.2.2⟩)
        clear hs hsb HGET t0 t1 t2 t3 t4 t5
        go_upto_region 15 with fail
        rw [← hb17, ← hwb]
        clear hb17 hwb
        have hat := at14 r.pid (m1 + 1) HJb.out.xa
        rw [HIX.out] at hat
        have HAT := hide' hat
        obtain ⟨t0, t1, t2, t3, t4, t5, _⟩ := HAb.out
        obtain ⟨e0, e1, e2, _⟩ := HJb.out.bx
        simp only [xs] at e0 e1 e2
        clear hat
        go_wp2_with fail
        refine HAT.out.mono ?_
        rintro _ W9 ⟨rfl, hs⟩
        have HJ9 := hide' (HJb.out.keep hs)
        have HSV9 := hide' (show SV W9 a cap1 K ∧ SV W9 a2 cap2 K ∧ K.length ≤ 100000 from ⟨HSVb.out.1.keep hs, HSVb.out.2.1.keep hs, HSVb.out.2.2⟩)
        have HP9 := hide' (HPB.out.keep hs)
        have HA9 := hide' (HAb.out.keep hs)
        clear hs HAT HJb HSVb HPB HAb e0 e1 e2 t0 t1 t2 t3 t4 t5
        obtain ⟨t0, t1, t2, t3, t4, t5, _⟩ := HA9.out
        obtain ⟨ob, hob⟩ : ∃ ob, ob = orphB L1 r.grp := ⟨_, rfl⟩
        have HOB := hide' hob
        obtain ⟨ft, hft⟩ : ∃ ft, ft = f1 r.tty := ⟨_, rfl⟩
        have HFT := hide' hft
        have hnn : (n1 != n1) = false := by simp
        have hoo : (ob != ob) = false := by simp
        have hff : (ft != ft) = false := by simp
        clear hob hft
        obtain ⟨g9, o9, hxe, hpa⟩ := HJ9.out.xa.rd i p HPP.out
        have HXE := hide' hxe
        have HPA := hide' hpa
        have hil : (i : Int) < (L1.length : Nat) := by have := (List.getElem?_eq_some_iff.1 HPP.out).1; omega
        have hi0 : (0 : Int) ≤ (i : Nat) := Int.natCast_nonneg i
        clear hxe hpa
        go_upto_region 16 with fail
        have hS : Stay (fun _ => False) W9 W9.drew := (Stay.refl _ _).drew
        refine wp_region_mix (fun w' => Stay (fun _ => False) W9 w') [(0, true), (1, true), (2, true), (3, true), (4, true), (5, true), (6, false), (7, true), (8, true), (9, true), (10, true), (11, true), (12, true), (14, true), (15, true), (16, true), (13, false), (17, false), (18, true), (19, true), (20, true), (21, true), (22, true), (23, true), (25, true), (26, true), (27, true), (24, false), (28, false), (29, true), (30, true), (31, true), (32, true), (33, true), (34, true), (35, true), (36, true), (37, true), (38, true), (39, true), (40, true), (41, true), (42, true), (43, true), (44, true), (45, true), (46, true), (47, true), (48, true)] (by kernel_rfl) (by kernel_rfl) (fun _ d _ _ _ h => by cases d <;> exact h) hS ?_
        refine mix_begin (fun K0 hK0 => ?_)
        refine mix_take hK0 (some 79) (.move (.tmp 13)) 3 _ (by kernel_rfl) (by kernel_rfl) (fun w' hS' => by (simp only [opr]; go_simp; try with_reducible rfl)) (fun K1 hK1 => ?_)
        clear hK0 K0
        simp only [Act.put, lA, lZ, lS]
        refine mix_take hK1 (some 80) (.move (.tmp 15)) 3 _ (by kernel_rfl) (by kernel_rfl) (fun w' hS' => by (simp only [opr]; go_simp; try with_reducible rfl)) (fun K2 hK2 => ?_)
        clear hK1 K1
        simp only [Act.put, lA, lZ, lS]
        refine mix_take hK2 (some 81) (.binOp BinOp.neq 3 (.tmp 79) (.tmp 80) 3) 4 _ (by kernel_rfl) (by kernel_rfl) (fun w' hS' => by (simp only [opr]; go_simp; try with_reducible rfl)) (fun K3 hK3 => ?_)
        clear hK2 K2
        simp only [Act.put, lA, lZ, lS]
        refine mix_take hK3 (some 82) (.move (.tmp 81)) 4 _ (by kernel_rfl) (by kernel_rfl) (fun w' hS' => by (simp only [opr]; go_simp; try with_reducible rfl)) (fun K4 hK4 => ?_)
        clear hK3 K3
        simp only [Act.put, lA, lZ, lS]
        refine mix_take hK4 (some 83) (.move (.tmp 14)) 35 _ (by kernel_rfl) (by kernel_rfl) (fun w' hS' => by (simp only [opr]; go_simp; try with_reducible rfl)) (fun K5 hK5 => ?_)
        clear hK4 K4
        simp only [Act.put, lA, lZ, lS]
        refine mix_take hK5 (some 84) (.move (.tmp 16)) 35 _ (by kernel_rfl) (by kernel_rfl) (fun w' hS' => by (simp only [opr]; go_simp; try with_reducible rfl)) (fun K6 hK6 => ?_)
        clear hK5 K5
        simp only [Act.put, lA, lZ, lS]
        refine mix_call hK6 (some 85) 15 #[.tmp 83, .tmp 84] #[35, 35] 4 _ (by kernel_rfl) (by kernel_rfl) (enters Try.func15 (by kernel_rfl) (by kernel_rfl)) (by go_simp; try with_reducible rfl) (fun K7 hK7 => ?_)
        clear hK6 K6
        refine ((same15 a a2 cap1 cap2 K _ (HSV9.out.1.keep hS) (HSV9.out.2.1.keep hS) HSV9.out.2.2)).mono ?_
        rintro e wm1 ⟨rfl, hs1⟩
        have hS1 : _ := hS.trans hs1
        refine ⟨_, rfl, hS1, ?_⟩
        clear hs1
        simp only [Act.put, lA, lZ, lS]
        refine mix_take hK7 (some 86) (.unOp UnOp.not 4 (.tmp 85)) 4 _ (by kernel_rfl) (by kernel_rfl) (fun w' hS' => by (simp only [opr]; go_simp; try with_reducible rfl)) (fun K8 hK8 => ?_)
        clear hK7 K7
        simp only [Act.put, lA, lZ, lS]
        refine mix_take hK8 (some 87) (.pick (.tmp 82) (.const (Value.bool true)) (.tmp 86)) 4 _ (by kernel_rfl) (by kernel_rfl) (fun w' hS' => by (simp only [opr]; go_simp; try with_reducible rfl)) (fun K9 hK9 => ?_)
        clear hK8 K8
        simp only [Act.put, lA, lZ, lS]
        refine mix_take hK9 (some 88) (.move (.tmp 87)) 4 _ (by kernel_rfl) (by kernel_rfl) (fun w' hS' => by (simp only [opr]; go_simp; try with_reducible rfl)) (fun K10 hK10 => ?_)
        clear hK9 K9
        simp only [Act.put, lA, lZ, lS]
        refine mix_take hK10 (some 89) (.move (.tmp 7)) 24 _ (by kernel_rfl) (by kernel_rfl) (fun w' hS' => by (simp only [opr]; go_simp; try with_reducible rfl)) (fun K11 hK11 => ?_)
        clear hK10 K10
        simp only [Act.put, lA, lZ, lS]
        refine mix_take hK11 (some 90) (.fieldAddr 32 (.tmp 10) 3) 0 _ (by kernel_rfl) (by kernel_rfl) (fun w' hS' => by (simp only [opr]; go_simp; try with_reducible rfl)) (fun K12 hK12 => ?_)
        clear hK11 K11
        simp only [Act.put, lA, lZ, lS]
        refine mix_take hK12 (some 91) (.load 3 (.tmp 90)) 3 _ (by kernel_rfl) (by kernel_rfl) (fun w' hS' => by (have z0 := keep_cell hS' t3; simp only [opr]; go_simp; try with_reducible rfl)) (fun K13 hK13 => ?_)
        clear hK12 K12
        simp only [Act.put, lA, lZ, lS]
        refine mix_take hK13 (some 93) (.load 29 (.tmp 8)) 29 _ (by kernel_rfl) (by kernel_rfl) (fun w' hS' => by exact run_load_XBox rfl rfl (HJ9.out.bx.keep hS')) (fun K14 hK14 => ?_)
        clear hK13 K13
        simp only [Act.put, lA, lZ, lS]
        refine mix_take hK14 (some 94) (.fieldAddr 32 (.tmp 10) 3) 0 _ (by kernel_rfl) (by kernel_rfl) (fun w' hS' => by (simp only [opr]; go_simp; try with_reducible rfl)) (fun K15 hK15 => ?_)
        clear hK14 K14
        simp only [Act.put, lA, lZ, lS]
        refine mix_take hK15 (some 95) (.load 3 (.tmp 94)) 3 _ (by kernel_rfl) (by kernel_rfl) (fun w' hS' => by (have z0 := keep_cell hS' t3; simp only [opr]; go_simp; try with_reducible rfl)) (fun K16 hK16 => ?_)
        clear hK15 K15
        simp only [Act.put, lA, lZ, lS]
        refine mix_call hK16 (some 92) 16 #[.tmp 89, .tmp 91] #[24, 3] 4 _ (by kernel_rfl) (by kernel_rfl) (enters Try.func16 (by kernel_rfl) (by kernel_rfl)) (by go_simp; try with_reducible rfl) (fun K17 hK17 => ?_)
        clear hK16 K16
        refine ((show Calls Try.prog 16 #[.pointer (some ⟨qb, 0, none⟩), .int .i64 r.grp] _ (Gives (.bool ob) _) from by rw [← HJ9.out.qb, HOB.out]; exact orphan16 r.grp (HJ9.out.tm.tm.keep hS1) (TM.w64 HJ9.out.tm HKC.out.2) HWF.out.2)).mono ?_
        rintro e wm2 ⟨rfl, hs2⟩
        have hS2 : _ := hS1.trans hs2
        refine ⟨_, rfl, hS2, ?_⟩
        clear hs2
        simp only [Act.put, lA, lZ, lS]
        refine mix_call hK17 (some 96) 17 #[.tmp 93, .tmp 95] #[29, 3] 4 _ (by kernel_rfl) (by kernel_rfl) (enters Try.func17 (by kernel_rfl) (by kernel_rfl)) (by go_simp; try with_reducible rfl) (fun K18 hK18 => ?_)
        clear hK17 K17
        refine ((show Calls Try.prog 17 #[.agg #[.slice x1.a L1.length x1.cap, .int .i64 (m1 + 1), .slice x1.a2 65 x1.c2], .int .i64 r.grp] _ (Gives (.bool ob) _) from by rw [HOB.out]; exact rorphan17 r.grp (m1 + 1) (HJ9.out.xa.keep hS2) HJ9.out.tm.ok.up)).mono ?_
        rintro e wm3 ⟨rfl, hs3⟩
        have hS3 : _ := hS2.trans hs3
        refine ⟨_, rfl, hS3, ?_⟩
        clear hs3
        simp only [Act.put, lA, lZ, lS]
        refine mix_take hK18 (some 97) (.binOp BinOp.neq 4 (.tmp 92) (.tmp 96) 4) 4 _ (by kernel_rfl) (by kernel_rfl) (fun w' hS' => by (simp only [opr]; go_simp; try with_reducible rfl)) (fun K19 hK19 => ?_)
        clear hK18 K18
        simp only [Act.put, lA, lZ, lS]
        refine mix_take hK19 (some 98) (.pick (.tmp 88) (.const (Value.bool true)) (.tmp 97)) 4 _ (by kernel_rfl) (by kernel_rfl) (fun w' hS' => by (simp only [opr]; go_simp; try with_reducible rfl)) (fun K20 hK20 => ?_)
        clear hK19 K19
        simp only [Act.put, lA, lZ, lS]
        refine mix_take hK20 (some 99) (.move (.tmp 98)) 4 _ (by kernel_rfl) (by kernel_rfl) (fun w' hS' => by (simp only [opr]; go_simp; try with_reducible rfl)) (fun K21 hK21 => ?_)
        clear hK20 K20
        simp only [Act.put, lA, lZ, lS]
        refine mix_take hK21 (some 100) (.move (.tmp 7)) 24 _ (by kernel_rfl) (by kernel_rfl) (fun w' hS' => by (simp only [opr]; go_simp; try with_reducible rfl)) (fun K22 hK22 => ?_)
        clear hK21 K21
        simp only [Act.put, lA, lZ, lS]
        refine mix_take hK22 (some 101) (.fieldAddr 32 (.tmp 10) 4) 0 _ (by kernel_rfl) (by kernel_rfl) (fun w' hS' => by (simp only [opr]; go_simp; try with_reducible rfl)) (fun K23 hK23 => ?_)
        clear hK22 K22
        simp only [Act.put, lA, lZ, lS]
        refine mix_take hK23 (some 102) (.load 3 (.tmp 101)) 3 _ (by kernel_rfl) (by kernel_rfl) (fun w' hS' => by (have z0 := keep_cell hS' t4; simp only [opr]; go_simp; try with_reducible rfl)) (fun K24 hK24 => ?_)
        clear hK23 K23
        simp only [Act.put, lA, lZ, lS]
        refine mix_take hK24 (some 104) (.load 29 (.tmp 8)) 29 _ (by kernel_rfl) (by kernel_rfl) (fun w' hS' => by exact run_load_XBox rfl rfl (HJ9.out.bx.keep hS')) (fun K25 hK25 => ?_)
        clear hK24 K24
        simp only [Act.put, lA, lZ, lS]
        refine mix_take hK25 (some 105) (.fieldAddr 32 (.tmp 10) 4) 0 _ (by kernel_rfl) (by kernel_rfl) (fun w' hS' => by (simp only [opr]; go_simp; try with_reducible rfl)) (fun K26 hK26 => ?_)
        clear hK25 K25
        simp only [Act.put, lA, lZ, lS]
        refine mix_take hK26 (some 106) (.load 3 (.tmp 105)) 3 _ (by kernel_rfl) (by kernel_rfl) (fun w' hS' => by (have z0 := keep_cell hS' t4; simp only [opr]; go_simp; try with_reducible rfl)) (fun K27 hK27 => ?_)
        clear hK26 K26
        simp only [Act.put, lA, lZ, lS]
        refine mix_call hK27 (some 103) 18 #[.tmp 100, .tmp 102] #[24, 3] 3 _ (by kernel_rfl) (by kernel_rfl) (enters Try.func18 (by kernel_rfl) (by kernel_rfl)) (by go_simp; try with_reducible rfl) (fun K28 hK28 => ?_)
        clear hK27 K27
        refine ((show Calls Try.prog 18 #[.pointer (some ⟨qb, 0, none⟩), .int .i64 r.tty] _ (Gives (.int .i64 ft) _) from by rw [← HJ9.out.qb, HFT.out]; exact front18 r.tty (HJ9.out.tm.tm.keep hS3) HWF.out.1)).mono ?_
        rintro e wm4 ⟨rfl, hs4⟩
        have hS4 : _ := hS3.trans hs4
        refine ⟨_, rfl, hS4, ?_⟩
        clear hs4
        simp only [Act.put, lA, lZ, lS]
        refine mix_call hK28 (some 107) 19 #[.tmp 104, .tmp 106] #[29, 3] 3 _ (by kernel_rfl) (by kernel_rfl) (enters Try.func19 (by kernel_rfl) (by kernel_rfl)) (by go_simp; try with_reducible rfl) (fun K29 hK29 => ?_)
        clear hK28 K28
        refine ((show Calls Try.prog 19 #[.agg #[.slice x1.a L1.length x1.cap, .int .i64 (m1 + 1), .slice x1.a2 65 x1.c2], .int .i64 r.tty] _ (Gives (.int .i64 ft) _) from by rw [HFT.out]; exact front19 r.tty (m1 + 1) (HJ9.out.xa.keep hS4) (fun hh => HJ9.out.tm.ok.out hh))).mono ?_
        rintro e wm5 ⟨rfl, hs5⟩
        have hS5 : _ := hS4.trans hs5
        refine ⟨_, rfl, hS5, ?_⟩
        clear hs5
        simp only [Act.put, lA, lZ, lS]
        refine mix_take hK29 (some 108) (.binOp BinOp.neq 3 (.tmp 103) (.tmp 107) 3) 4 _ (by kernel_rfl) (by kernel_rfl) (fun w' hS' => by (simp only [opr]; go_simp; try with_reducible rfl)) (fun K30 hK30 => ?_)
        clear hK29 K29
        simp only [Act.put, lA, lZ, lS]
        refine mix_take hK30 (some 109) (.pick (.tmp 99) (.const (Value.bool true)) (.tmp 108)) 4 _ (by kernel_rfl) (by kernel_rfl) (fun w' hS' => by (simp only [opr]; go_simp; try with_reducible rfl)) (fun K31 hK31 => ?_)
        clear hK30 K30
        simp only [Act.put, lA, lZ, lS]
        refine mix_take hK31 (some 110) (.move (.tmp 109)) 4 _ (by kernel_rfl) (by kernel_rfl) (fun w' hS' => by (simp only [opr]; go_simp; try with_reducible rfl)) (fun K32 hK32 => ?_)
        clear hK31 K31
        simp only [Act.put, lA, lZ, lS]
        refine mix_take hK32 (some 111) (.move (.tmp 18)) 4 _ (by kernel_rfl) (by kernel_rfl) (fun w' hS' => by (simp only [opr]; go_simp; try with_reducible rfl)) (fun K33 hK33 => ?_)
        clear hK32 K32
        simp only [Act.put, lA, lZ, lS]
        refine mix_take hK33 (some 112) (.move (.tmp 19)) 3 _ (by kernel_rfl) (by kernel_rfl) (fun w' hS' => by (simp only [opr]; go_simp; try with_reducible rfl)) (fun K34 hK34 => ?_)
        clear hK33 K33
        simp only [Act.put, lA, lZ, lS]
        refine mix_take hK34 (some 113) (.binOp BinOp.geq 3 (.tmp 112) (.const (Value.int IntKind.i64 0)) 3) 4 _ (by kernel_rfl) (by kernel_rfl) (fun w' hS' => by (simp only [opr]; go_simp; try with_reducible rfl)) (fun K35 hK35 => ?_)
        clear hK34 K34
        simp only [Act.put, lA, lZ, lS]
        refine mix_take hK35 (some 114) (.binOp BinOp.neq 4 (.tmp 111) (.tmp 113) 4) 4 _ (by kernel_rfl) (by kernel_rfl) (fun w' hS' => by (simp only [opr]; go_simp; try with_reducible rfl)) (fun K36 hK36 => ?_)
        clear hK35 K35
        simp only [Act.put, lA, lZ, lS]
        refine mix_take hK36 (some 115) (.pick (.tmp 110) (.const (Value.bool true)) (.tmp 114)) 4 _ (by kernel_rfl) (by kernel_rfl) (fun w' hS' => by (simp only [opr]; go_simp; try with_reducible rfl)) (fun K37 hK37 => ?_)
        clear hK36 K36
        simp only [Act.put, lA, lZ, lS]
        refine mix_take hK37 (some 116) (.move (.tmp 115)) 4 _ (by kernel_rfl) (by kernel_rfl) (fun w' hS' => by (simp only [opr]; go_simp; try with_reducible rfl)) (fun K38 hK38 => ?_)
        clear hK37 K37
        simp only [Act.put, lA, lZ, lS]
        refine mix_take hK38 (some 117) (.move (.tmp 18)) 4 _ (by kernel_rfl) (by kernel_rfl) (fun w' hS' => by (simp only [opr]; go_simp; try with_reducible rfl)) (fun K39 hK39 => ?_)
        clear hK38 K38
        simp only [Act.put, lA, lZ, lS]
        refine mix_take hK39 (some 118) (.move (.tmp 117)) 4 _ (by kernel_rfl) (by kernel_rfl) (fun w' hS' => by (simp only [opr]; go_simp; try with_reducible rfl)) (fun K40 hK40 => ?_)
        clear hK39 K39
        simp only [Act.put, lA, lZ, lS]
        refine mix_take hK40 (some 119) (.load 40 (.tmp 17)) 40 _ (by kernel_rfl) (by kernel_rfl) (fun w' hS' => by (obtain ⟨y0, y1, y2, y3, y4, y5, _⟩ := HP9.out.keep hS'; simp only [opr]; go_simp; try with_reducible rfl)) (fun K41 hK41 => ?_)
        clear hK40 K40
        simp only [Act.put, lA, lZ, lS]
        refine mix_take hK41 (some 120) (.fieldAddr 29 (.tmp 8) 0) 0 _ (by kernel_rfl) (by kernel_rfl) (fun w' hS' => by (simp only [opr]; go_simp; try with_reducible rfl)) (fun K42 hK42 => ?_)
        clear hK41 K41
        simp only [Act.put, lA, lZ, lS]
        refine mix_take hK42 (some 121) (.load 26 (.tmp 120)) 26 _ (by kernel_rfl) (by kernel_rfl) (fun w' hS' => by (obtain ⟨y0, _⟩ := HJ9.out.bx.keep hS'; simp only [xs] at y0; rw [HXE.out] at y0; simp only [opr]; go_simp; try with_reducible rfl)) (fun K43 hK43 => ?_)
        clear hK42 K42
        simp only [Act.put, lA, lZ, lS]
        refine mix_take hK43 (some 122) (.move (.tmp 19)) 3 _ (by kernel_rfl) (by kernel_rfl) (fun w' hS' => by (simp only [opr]; go_simp; try with_reducible rfl)) (fun K44 hK44 => ?_)
        clear hK43 K43
        simp only [Act.put, lA, lZ, lS]
        refine mix_take hK44 (some 123) (.indexAddr 26 (.tmp 121) (.tmp 122)) 0 _ (by kernel_rfl) (by kernel_rfl) (fun w' hS' => by (simp only [opr]; go_simp; try with_reducible rfl)) (fun K45 hK45 => ?_)
        clear hK44 K44
        simp only [Act.put, lA, lZ, lS]
        refine mix_take hK45 (some 124) (.load 40 (.tmp 123)) 40 _ (by kernel_rfl) (by kernel_rfl) (fun w' hS' => by (obtain ⟨y0, y1, y2, y3, y4, y5⟩ := HPA.out.keep hS'; simp only [opr]; go_simp; try with_reducible rfl)) (fun K46 hK46 => ?_)
        clear hK45 K45
        simp only [Act.put, lA, lZ, lS]
        refine mix_take hK46 (some 125) (.binOp BinOp.neq 40 (.tmp 119) (.tmp 124) 40) 4 _ (by kernel_rfl) (by kernel_rfl) (fun w' hS' => by (simp only [opr]; go_simp; try with_reducible rfl)) (fun K47 hK47 => ?_)
        clear hK46 K46
        simp only [Act.put, lA, lZ, lS]
        refine mix_take hK47 (some 126) (.pick (.tmp 118) (.tmp 125) (.const (Value.bool false))) 4 _ (by kernel_rfl) (by kernel_rfl) (fun w' hS' => by (simp only [opr]; go_simp; try with_reducible rfl)) (fun K48 hK48 => ?_)
        clear hK47 K47
        simp only [Act.put, lA, lZ, lS]
        refine mix_take hK48 (some 127) (.pick (.tmp 116) (.const (Value.bool true)) (.tmp 126)) 4 _ (by kernel_rfl) (by kernel_rfl) (fun w' hS' => by (simp only [opr]; go_simp; try with_reducible rfl)) (fun K49 hK49 => ?_)
        clear hK48 K48
        simp only [Act.put, lA, lZ, lS]
        refine hK49 _ _ (mix_nil ?_)
        clear hK49 K49
        have HJN := hide' (HJ9.out.keep hS5)
        clear t0 t1 t2 t3 t4 t5
        go_wp2
        go_roundg (n - (k + 1))
        case measure => omega
        case rel => exact ⟨k + 1, by omega, rfl, by go_num, ⟨q1, x1, L1, m1, f1, HJN.out⟩⟩
    · have e : k = n := by omega
      subst e
      have HAW := hide' (awake7 (w := wr))
      have HS := hide' HJ.out.st
      go_wp2_with fail
      refine HAW.out.mono ?_
      rintro _ w2 ⟨rfl, hs⟩
      have HS2 := hide' (HS.out.trans hs)
      clear hs HAW
      go_wp2
      go_ret
      exact ⟨rfl, HS2.out⟩

end Go.Proofs.Ytefpifnfinkbaaa
