/-
  A process goes, as the document says (leadhas): walked. No conditions.
-/
import Derived.Test.YtefpifnfinkbaaaFF
import Derived.ArgAppend
import Derived.Deep.DeepCutAuto
import Derived.Deep.CutBlock
namespace Go.Proofs.Ytefpifnfinkbaaa
open Go.RowKit

variable {w : World} {x : Xr} {L : List Pr} {f : Int → Int}

set_option maxHeartbeats 4000000 in
set_option maxRecDepth 100000 in
theorem rexit34_leadhas (y nx : Int) {i : Nat} {p : Pr} (h : XAt w x L f) (hu : Up L) (hp : L[i]? = some p) (hx : p.pid = y) (L1 : List Pr) (hL1 : L1 = (L.eraseIdx i).map (adopt y)) (L3 : List Pr) (hL3 : L3 = L1.map (giveS y 0)) (hu3 : Up L3) (n0 : 1 ≤ nx) (n1 : nx ≤ 4096) (hl : (p.ses == y) = true) (hy : (p.tty != 0) = true) (hh : L1.any (fun t => t.grp == f p.tty) = true) (ht1 : 1 ≤ p.tty) (ht2 : p.tty ≤ 64) : Calls Try.prog 34 #[.agg #[.slice x.a L.length x.cap, .int .i64 nx, .slice x.a2 65 x.c2], .int .i64 y] w (XG4 x L3 nx (upd f p.tty 0) (allS ([⟨f p.tty, 4⟩] : List Sg) L L3 (nx - 1).toNat) w) := by
  obtain ⟨n, hn⟩ : ∃ n, n = L.length := ⟨_, rfl⟩
  obtain ⟨b2, hb2⟩ : ∃ b, b = w.heap.size := ⟨_, rfl⟩
  obtain ⟨Wq0, hWq0⟩ : ∃ W, W = w.alloc (.cells #[.slice x.a n x.cap, .int .i64 nx, .slice x.a2 65 x.c2] 29) := ⟨_, rfl⟩
  have hsWq0 : Stay (fun _ => False) w Wq0 := by rw [hWq0]; exact (Stay.refl _ _).alloc _
  have hpb2 : w.heap.size = b2 := by rw [hb2]
  obtain ⟨b4, hb4⟩ : ∃ b, b = w.heap.size + 1 := ⟨_, rfl⟩
  obtain ⟨W0, hW0⟩ : ∃ W, W = Wq0.alloc (.cells #[.slice none 0 0, .int .i64 0, .slice none 0 0] 29) := ⟨_, rfl⟩
  have hsW0 : Stay (fun _ => False) Wq0 W0 := by rw [hW0]; exact (Stay.refl _ _).alloc _
  have hpb4 : Wq0.heap.size = b4 := by rw [hb4]; rw [hWq0, World.size_alloc]
  have HBb2 := hide' (show XBox W0 b2 (xs x n nx) from (show XBox Wq0 b2 (xs x n nx) from (by rw [hWq0]; exact xbox_new w x n nx hpb2)).keep ((Stay.refl (fun _ => False) Wq0).trans hsW0))
  have HZb2 : Hid (w.heap.size ≤ b2) := by show _ ≤ _; omega
  have HBb4 := hide' (show XBox W0 b4 ⟨.slice none 0 0, 0, .slice none 0 0⟩ from (show XBox W0 b4 ⟨.slice none 0 0, 0, .slice none 0 0⟩ from (by rw [hW0]; exact XBox.new ⟨.slice none 0 0, 0, .slice none 0 0⟩ hpb4)).keep (Stay.refl (fun _ => False) W0))
  have HZb4 : Hid (w.heap.size ≤ b4) := by show _ ≤ _; omega
  have HS0 := hide' (((Stay.refl (fun _ => False) w).trans hsWq0).trans hsW0)
  have HW0 : Hid (W0 = ((w.alloc (.cells #[.slice x.a n x.cap, .int .i64 nx, .slice x.a2 65 x.c2] 29)).alloc (.cells #[.slice none 0 0, .int .i64 0, .slice none 0 0] 29))) := by show _ = _; rw [hW0, hWq0]
  have HLB4 : Hid (b4 < W0.heap.size) := HBb4.out.lt
  have HNBL : Hid (w.heap.size ≤ b4) := HZb4.out
  have HXA := hide' (h.keep HS0.out)
  have HX0 := hide' h
  have HN := hide' hn
  have hn1 : (n : Int) ≤ 256 := by have := h.len; omega
  have hat := at14 y nx HXA.out
  rw [ixI_at hu hp hx, ← hn] at hat
  have HAT := hide' hat
  clear hat
  have HP := hide' hp
  have hin1 : (i : Int) < (n : Nat) := by have := (List.getElem?_eq_some_iff.1 hp).1; omega
  have HUP := hide' hu
  have HUP3 := hide' hu3
  have HQ1 := hide' hL1
  have hnL := h.len
  have hn256 : n ≤ 256 := by omega
  obtain ⟨kt, hkt⟩ : ∃ k : Nat, p.tty = (k : Int) := ⟨p.tty.toNat, by omega⟩
  have HKT := hide' hkt
  have HK65 : Hid (kt < 65 ∧ 1 ≤ p.tty ∧ p.tty ≤ 64) := ⟨by omega, ht1, ht2⟩
  have HHH := hide' hh
  have HQ3 := hide' hL3
  obtain ⟨m, hm⟩ : ∃ m : Nat, nx = (m : Int) + 1 := ⟨(nx - 1).toNat, by omega⟩
  have hmm : (nx - 1).toNat = m := by omega
  rw [hmm]
  have hm1 : m ≤ 4096 := by omega
  have HMX := hide' hm
  rw [← hn]
  clear h hn hx hu hp hu3 hnL hmm hm hL1 hh hkt ht1 ht2 hL3
  clear hWq0 hW0 hsWq0 hsW0 hpb2 hpb4
  obtain ⟨e0, e1, e2, _⟩ := HBb2.out
  simp only [xs] at e0 e1 e2
  go_enter Try.func34, Try.ntmps34
  go_upto_region 1 with fail
  rw [← HW0.out, ← hb4, ← hb2]
  clear HW0 hb2 hb4
  go_wp2_with fail
  refine HAT.out.mono ?_
  rintro _ w1 ⟨rfl, hs⟩
  have HB3 := hide' (HBb2.out.keep hs)
  have HB6 := hide' (HBb4.out.keep hs)
  have HS9 := hide' (HS0.out.trans hs)
  have HXA1 := hide' (HXA.out.keep hs)
  have HW01 := hide' hs.size
  clear hs HAT HBb2 HBb4 HXA e0 e1 e2
  obtain ⟨e0, e1, e2, _⟩ := HB3.out
  simp only [xs] at e0 e1 e2
  obtain ⟨g, o, hxa, hpb⟩ := HXA1.out.rd i p HP.out
  obtain ⟨d0, d1, d2, d3, d4, d5⟩ := hpb
  rw [hxa] at e0
  obtain ⟨b8, hb8⟩ : ∃ b, b = w1.heap.size := ⟨_, rfl⟩
  obtain ⟨W5, hW5⟩ : ∃ W, W = w1.alloc (.cells #[.int .i64 p.pid, .int .i64 p.par, .int .i64 p.grp, .int .i64 p.ses, .int .i64 p.tty, .bool p.df] 40) := ⟨_, rfl⟩
  have hs5 : Stay (fun _ => False) w1 W5 := by rw [hW5]; exact (Stay.refl _ _).alloc _
  have HP5 : Hid (PBox W5 b8 p) := by rw [hW5]; exact PBox.new p hb8.symm
  have HB3' := hide' (HB3.out.keep hs5)
  have HB6' := hide' (HB6.out.keep hs5)
  have HS9' := hide' (HS9.out.trans hs5)
  have HXA1' := hide' (HXA1.out.keep hs5)
  have HW05 : Hid (W0.heap.size ≤ W5.heap.size) := Nat.le_trans HW01.out hs5.size
  have HPL : Hid (w.heap.size ≤ b8) := by show _ ≤ _; rw [hb8]; exact HS9.out.size
  have HPN : Hid (w1.heap.size ≤ b8) := by show _ ≤ _; rw [hb8]; exact Nat.le_refl _
  have HP6 : Hid (¬ b8 = b4) := by have := HB6.out.lt; show ¬ _; omega
  clear hs5 hxa
  go_upto_region 6 with fail
  rw [← hb8, ← hW5]
  clear hb8 hW5 e0 e1 e2 d0 d1 d2 d3 d4 d5 HB3 HB6 HS9 HXA1
  have HB3 := HB3'
  clear HB3'
  have HB6 := HB6'
  clear HB6'
  have HS9 := HS9'
  clear HS9'
  have HXA1 := HXA1'
  clear HXA1'
  go_wp2
  have HL0 : Hid (W5.ownsRow W5.heap.size 40 6 (.slice none 0 0) 0 (wc []) ∧ Stay (fun _ => False) W5 W5) := ⟨⟨rfl, .inl ⟨rfl, rfl⟩⟩, Stay.refl _ _⟩
  go_loopg [9, 10] n (fun gg v9 v10 wr => ∃ (k : Nat) (a : Option Addr) (cap : Nat), k ≤ n ∧ gg = n - k ∧ v9 = .slice a (part y L i k).length cap ∧ v10 = .int .i64 (k : Int) ∧ Hid (wr.ownsRow W5.heap.size 40 6 (.slice a (part y L i k).length cap) (part y L i k).length (wc (part y L i k)) ∧ Stay (fun _ => False) W5 wr))
  case atStart => exact ⟨0, none, 0, Nat.zero_le _, rfl, by rw [part_zero]; rfl, rfl, by rw [part_zero]; exact HL0⟩
  case round =>
   clear HL0
   obtain ⟨k, a, cap, hk, rfl, rfl, rfl, HL⟩ := hrel
   by_cases hlt : k < n
   · skip
     have kn : (k : Int) < (n : Nat) := by omega
     obtain ⟨t, ht⟩ : ∃ t, L[k]? = some t := ⟨_, List.getElem?_eq_getElem (by rw [← HN.out]; exact hlt)⟩
     obtain ⟨g, o, hxa, hpb⟩ := (HXA1.out.keep HL.out.2).rd k t ht
     obtain ⟨c0, c1, c2, c3, c4, c5⟩ := hpb
     obtain ⟨e0, e1, e2, _⟩ := HB3.out.keep HL.out.2
     simp only [xs] at e0 e1 e2
     have HXE := hide' hxa
     rw [hxa] at e0
     obtain ⟨bq, hbq⟩ : ∃ b, b = wr.heap.size := ⟨_, rfl⟩
     obtain ⟨W6, hW6⟩ : ∃ W, W = wr.alloc (.cells #[.int .i64 t.pid, .int .i64 t.par, .int .i64 t.grp, .int .i64 t.ses, .int .i64 t.tty, .bool t.df] 40) := ⟨_, rfl⟩
     have hs6 : Stay (fun _ => False) wr W6 := by rw [hW6]; exact (Stay.refl _ _).alloc _
     have HP6' := hide' (show PBox W6 bq t by rw [hW6]; exact PBox.new t hbq.symm)
     have HBQ : Hid (W5.heap.size ≤ bq) := by show _ ≤ _; rw [hbq]; exact HL.out.2.size
     have HO6 := hide' (hs6.owns HL.out.1 (fun _ _ h => h))
     have HS6 := hide' (HL.out.2.trans hs6)
     have HOB : Hid (∀ j, (Value.slice a (part y L i k).length cap).ownBlock = some j → ¬ j = bq) := fun j hj => by
       have h1 := (HL.out.1.lt j hj).2
       show ¬ _
       omega
     have HT := hide' ht
     clear ht hxa hs6
     go_upto_region 11 with fail
     rw [← hbq, ← hW6]
     clear hbq hW6 c0 c1 c2 c3 c4 c5 e0 e1 e2 HL
     obtain ⟨d0, d1, d2, d3, d4, d5, q0, q1, q2, q3, q4, q5⟩ := HP6'.out
     by_cases hpr : t.par = y
     · have z1 : (t.par == y) = true := beq_iff_eq.2 hpr
       have HPR := hide' hpr
       clear hpr
       by_cases hy1 : y = 1
       · have z2 : (y == 1) = true := beq_iff_eq.2 hy1
         have HY1 := hide' hy1
         clear hy1
         obtain ⟨u, hu⟩ : ∃ u, u = adopt y t := ⟨_, rfl⟩
         have HU := hide' hu
         obtain ⟨W7, hW7⟩ : ∃ W, W = (W6.setCell ⟨bq, 1, none⟩ (.int .i64 1)).setCell ⟨bq, 1, none⟩ (.int .i64 0) := ⟨_, rfl⟩
         have HP7 : Hid (PBox W7 bq u) := by rw [hW7, hu]; exact (HP6'.out.put1 (q := ⟨t.pid, 1, t.grp, t.ses, t.tty, t.df⟩) rfl).put1 (by unfold adopt; rw [if_pos HPR.out, if_pos HY1.out])
         have hs7 : Stay (fun j => j = bq) W6 W7 := by rw [hW7]; exact ((Stay.refl (fun j => j = bq) W6).setCell (p := ⟨bq, 1, none⟩) rfl _).setCell (p := ⟨bq, 1, none⟩) rfl _
         have HO7 := hide' (hs7.owns HO6.out (fun j hj e => HOB.out j hj e))
         have HS7 : Hid (Stay (fun _ => False) W5 W7) := HS6.out.trans2 hs7 (fun j hj e => by have : j = bq := e; have := HBQ.out; omega)
         clear hs7 hu
         go_upto_region 15 with fail
         rw [← hW7]
         clear hW7 d0 d1 d2 d3 d4 d5 q0 q1 q2 q3 q4 q5 HP6'
         obtain ⟨d0, d1, d2, d3, d4, d5, _⟩ := HP7.out
         by_cases hki : k = i
         · have z3 : ((k : Int) != (i : Nat)) = false := by simp; omega
           go_wp2
           clear d0 d1 d2 d3 d4 d5
           have HN1 := hide' (show W7.ownsRow W5.heap.size 40 6 (.slice a (part y L i (k + 1)).length cap) (part y L i (k + 1)).length (wc (part y L i (k + 1))) ∧ Stay (fun _ => False) W5 W7 by rw [part_skip HT.out hki]; exact ⟨HO7.out, HS7.out⟩)
           have HEQ : Hid (part y L i (k + 1) = part y L i k) := part_skip HT.out hki
           go_roundg (n - (k + 1))
           case measure => omega
           case rel => exact ⟨k + 1, a, cap, by omega, rfl, by rw [HEQ.out], by go_num, HN1⟩
         · have z3 : ((k : Int) != (i : Nat)) = true := by simp; omega
           have HOA := hide' (fun o : Obj => ((Stay.refl (fun _ => False) W7).alloc o).owns HO7.out (fun _ _ h => h))
           have HSRC := hide' (isRowS_new W7 #[.int .i64 u.pid, .int .i64 u.par, .int .i64 u.grp, .int .i64 u.ses, .int .i64 u.tty, .bool u.df] 40 6 1 rfl)
           have HLE : Hid (∀ o : Obj, W5.heap.size ≤ (W7.alloc o).heap.size) := fun o => by have := HS7.out.size; rw [World.size_alloc]; omega
           have HLP : Hid ((part y L i k).length ≤ k) := part_len y L i k
           have HXQ := hide' (part_add (y := y) HT.out hki)
           obtain ⟨c, hc⟩ : ∃ c, c = (part y L i k).length := ⟨_, rfl⟩
           have HC := hide' hc
           rw [← hc] at HOA HLP ⊢
           clear hc
           have hcn : c ≤ 256 := by have := HLP.out; omega
           go_wp2_with (at_builtin; refine appS rfl _ _ 26 rfl Try.underlying26 info40 rfl (by decide) (by decide) (HOA.out _) rfl HSRC.out rfl (Pr.parts_one u) (by omega) (HLE.out _) ?_; intro v2 W8 ho2 hst2 hb2; have HO8 := hide' ho2; have HS8 := hide' hst2; clear ho2 hst2 hb2; obtain ⟨a2, cap2, hv2, _, _⟩ := Ws.of_owns (L := part y L i k ++ [u]) (by have h2 := HO8.out; rw [wc_append, wc_cons, wc_nil, List.append_nil]; exact h2); subst hv2)
           go_wp2
           clear d0 d1 d2 d3 d4 d5
           have HN1 : Hid (W8.ownsRow W5.heap.size 40 6 (.slice a2 (part y L i (k + 1)).length cap2) (part y L i (k + 1)).length (wc (part y L i (k + 1))) ∧ Stay (fun _ => False) W5 W8) := by
             rw [HXQ.out, ← HU.out, List.length_append, ← HC.out, wc_append, wc_cons, wc_nil, List.append_nil]
             refine ⟨HO8.out, ((HS7.out.trans ((Stay.refl (fun _ => False) W7).alloc _))).trans2 HS8.out (fun j hj e => ?_)⟩
             rw [HC.out] at e
             have h1 := (HO7.out.lt j e).1
             omega
           have HEQ : Hid ((part y L i (k + 1)).length = c + 1) := by
             show _ = _
             rw [HXQ.out, List.length_append, ← HC.out]
             rfl
           go_roundg (n - (k + 1))
           case measure => omega
           case rel => exact ⟨k + 1, a2, cap2, by omega, rfl, by rw [HEQ.out], by go_num, HN1⟩
       · have z2 : (y == 1) = false := beq_eq_false_iff_ne.2 hy1
         have HY1 := hide' hy1
         clear hy1
         obtain ⟨u, hu⟩ : ∃ u, u = adopt y t := ⟨_, rfl⟩
         have HU := hide' hu
         obtain ⟨W7, hW7⟩ : ∃ W, W = W6.setCell ⟨bq, 1, none⟩ (.int .i64 1) := ⟨_, rfl⟩
         have HP7 : Hid (PBox W7 bq u) := by rw [hW7, hu]; exact HP6'.out.put1 (by unfold adopt; rw [if_pos HPR.out, if_neg HY1.out])
         have hs7 : Stay (fun j => j = bq) W6 W7 := by rw [hW7]; exact (Stay.refl (fun j => j = bq) W6).setCell (p := ⟨bq, 1, none⟩) rfl _
         have HO7 := hide' (hs7.owns HO6.out (fun j hj e => HOB.out j hj e))
         have HS7 : Hid (Stay (fun _ => False) W5 W7) := HS6.out.trans2 hs7 (fun j hj e => by have : j = bq := e; have := HBQ.out; omega)
         clear hs7 hu
         go_upto_region 15 with fail
         rw [← hW7]
         clear hW7 d0 d1 d2 d3 d4 d5 q0 q1 q2 q3 q4 q5 HP6'
         obtain ⟨d0, d1, d2, d3, d4, d5, _⟩ := HP7.out
         by_cases hki : k = i
         · have z3 : ((k : Int) != (i : Nat)) = false := by simp; omega
           go_wp2
           clear d0 d1 d2 d3 d4 d5
           have HN1 := hide' (show W7.ownsRow W5.heap.size 40 6 (.slice a (part y L i (k + 1)).length cap) (part y L i (k + 1)).length (wc (part y L i (k + 1))) ∧ Stay (fun _ => False) W5 W7 by rw [part_skip HT.out hki]; exact ⟨HO7.out, HS7.out⟩)
           have HEQ : Hid (part y L i (k + 1) = part y L i k) := part_skip HT.out hki
           go_roundg (n - (k + 1))
           case measure => omega
           case rel => exact ⟨k + 1, a, cap, by omega, rfl, by rw [HEQ.out], by go_num, HN1⟩
         · have z3 : ((k : Int) != (i : Nat)) = true := by simp; omega
           have HOA := hide' (fun o : Obj => ((Stay.refl (fun _ => False) W7).alloc o).owns HO7.out (fun _ _ h => h))
           have HSRC := hide' (isRowS_new W7 #[.int .i64 u.pid, .int .i64 u.par, .int .i64 u.grp, .int .i64 u.ses, .int .i64 u.tty, .bool u.df] 40 6 1 rfl)
           have HLE : Hid (∀ o : Obj, W5.heap.size ≤ (W7.alloc o).heap.size) := fun o => by have := HS7.out.size; rw [World.size_alloc]; omega
           have HLP : Hid ((part y L i k).length ≤ k) := part_len y L i k
           have HXQ := hide' (part_add (y := y) HT.out hki)
           obtain ⟨c, hc⟩ : ∃ c, c = (part y L i k).length := ⟨_, rfl⟩
           have HC := hide' hc
           rw [← hc] at HOA HLP ⊢
           clear hc
           have hcn : c ≤ 256 := by have := HLP.out; omega
           go_wp2_with (at_builtin; refine appS rfl _ _ 26 rfl Try.underlying26 info40 rfl (by decide) (by decide) (HOA.out _) rfl HSRC.out rfl (Pr.parts_one u) (by omega) (HLE.out _) ?_; intro v2 W8 ho2 hst2 hb2; have HO8 := hide' ho2; have HS8 := hide' hst2; clear ho2 hst2 hb2; obtain ⟨a2, cap2, hv2, _, _⟩ := Ws.of_owns (L := part y L i k ++ [u]) (by have h2 := HO8.out; rw [wc_append, wc_cons, wc_nil, List.append_nil]; exact h2); subst hv2)
           go_wp2
           clear d0 d1 d2 d3 d4 d5
           have HN1 : Hid (W8.ownsRow W5.heap.size 40 6 (.slice a2 (part y L i (k + 1)).length cap2) (part y L i (k + 1)).length (wc (part y L i (k + 1))) ∧ Stay (fun _ => False) W5 W8) := by
             rw [HXQ.out, ← HU.out, List.length_append, ← HC.out, wc_append, wc_cons, wc_nil, List.append_nil]
             refine ⟨HO8.out, ((HS7.out.trans ((Stay.refl (fun _ => False) W7).alloc _))).trans2 HS8.out (fun j hj e => ?_)⟩
             rw [HC.out] at e
             have h1 := (HO7.out.lt j e).1
             omega
           have HEQ : Hid ((part y L i (k + 1)).length = c + 1) := by
             show _ = _
             rw [HXQ.out, List.length_append, ← HC.out]
             rfl
           go_roundg (n - (k + 1))
           case measure => omega
           case rel => exact ⟨k + 1, a2, cap2, by omega, rfl, by rw [HEQ.out], by go_num, HN1⟩
     · have z1 : (t.par == y) = false := beq_eq_false_iff_ne.2 hpr
       have HPR := hide' hpr
       clear hpr
       obtain ⟨u, hu⟩ : ∃ u, u = adopt y t := ⟨_, rfl⟩
       have HU := hide' hu
       obtain ⟨W7, hW7⟩ : ∃ W, W = W6 := ⟨_, rfl⟩
       have HP7 : Hid (PBox W7 bq u) := by rw [hW7, hu]; exact (by rw [show adopt y t = t from if_neg HPR.out]; exact HP6'.out)
       have hs7 : Stay (fun j => j = bq) W6 W7 := by rw [hW7]; exact Stay.refl _ _
       have HO7 := hide' (hs7.owns HO6.out (fun j hj e => HOB.out j hj e))
       have HS7 : Hid (Stay (fun _ => False) W5 W7) := HS6.out.trans2 hs7 (fun j hj e => by have : j = bq := e; have := HBQ.out; omega)
       clear hs7 hu
       go_upto_region 15 with fail
       rw [← hW7]
       clear hW7 d0 d1 d2 d3 d4 d5 q0 q1 q2 q3 q4 q5 HP6'
       obtain ⟨d0, d1, d2, d3, d4, d5, _⟩ := HP7.out
       by_cases hki : k = i
       · have z3 : ((k : Int) != (i : Nat)) = false := by simp; omega
         go_wp2
         clear d0 d1 d2 d3 d4 d5
         have HN1 := hide' (show W7.ownsRow W5.heap.size 40 6 (.slice a (part y L i (k + 1)).length cap) (part y L i (k + 1)).length (wc (part y L i (k + 1))) ∧ Stay (fun _ => False) W5 W7 by rw [part_skip HT.out hki]; exact ⟨HO7.out, HS7.out⟩)
         have HEQ : Hid (part y L i (k + 1) = part y L i k) := part_skip HT.out hki
         go_roundg (n - (k + 1))
         case measure => omega
         case rel => exact ⟨k + 1, a, cap, by omega, rfl, by rw [HEQ.out], by go_num, HN1⟩
       · have z3 : ((k : Int) != (i : Nat)) = true := by simp; omega
         have HOA := hide' (fun o : Obj => ((Stay.refl (fun _ => False) W7).alloc o).owns HO7.out (fun _ _ h => h))
         have HSRC := hide' (isRowS_new W7 #[.int .i64 u.pid, .int .i64 u.par, .int .i64 u.grp, .int .i64 u.ses, .int .i64 u.tty, .bool u.df] 40 6 1 rfl)
         have HLE : Hid (∀ o : Obj, W5.heap.size ≤ (W7.alloc o).heap.size) := fun o => by have := HS7.out.size; rw [World.size_alloc]; omega
         have HLP : Hid ((part y L i k).length ≤ k) := part_len y L i k
         have HXQ := hide' (part_add (y := y) HT.out hki)
         obtain ⟨c, hc⟩ : ∃ c, c = (part y L i k).length := ⟨_, rfl⟩
         have HC := hide' hc
         rw [← hc] at HOA HLP ⊢
         clear hc
         have hcn : c ≤ 256 := by have := HLP.out; omega
         go_wp2_with (at_builtin; refine appS rfl _ _ 26 rfl Try.underlying26 info40 rfl (by decide) (by decide) (HOA.out _) rfl HSRC.out rfl (Pr.parts_one u) (by omega) (HLE.out _) ?_; intro v2 W8 ho2 hst2 hb2; have HO8 := hide' ho2; have HS8 := hide' hst2; clear ho2 hst2 hb2; obtain ⟨a2, cap2, hv2, _, _⟩ := Ws.of_owns (L := part y L i k ++ [u]) (by have h2 := HO8.out; rw [wc_append, wc_cons, wc_nil, List.append_nil]; exact h2); subst hv2)
         go_wp2
         clear d0 d1 d2 d3 d4 d5
         have HN1 : Hid (W8.ownsRow W5.heap.size 40 6 (.slice a2 (part y L i (k + 1)).length cap2) (part y L i (k + 1)).length (wc (part y L i (k + 1))) ∧ Stay (fun _ => False) W5 W8) := by
           rw [HXQ.out, ← HU.out, List.length_append, ← HC.out, wc_append, wc_cons, wc_nil, List.append_nil]
           refine ⟨HO8.out, ((HS7.out.trans ((Stay.refl (fun _ => False) W7).alloc _))).trans2 HS8.out (fun j hj e => ?_)⟩
           rw [HC.out] at e
           have h1 := (HO7.out.lt j e).1
           omega
         have HEQ : Hid ((part y L i (k + 1)).length = c + 1) := by
           show _ = _
           rw [HXQ.out, List.length_append, ← HC.out]
           rfl
         go_roundg (n - (k + 1))
         case measure => omega
         case rel => exact ⟨k + 1, a2, cap2, by omega, rfl, by rw [HEQ.out], by go_num, HN1⟩
   · have e : k = n := by omega
     subst e
     have hpa : part y L i k = L1 := by rw [HQ1.out]; exact part_all (by rw [← HN.out]; exact Nat.le_refl _)
     rw [hpa] at HL ⊢
     obtain ⟨n1, hn1'⟩ : ∃ n1, n1 = L1.length := ⟨_, rfl⟩
     have HN1 := hide' hn1'
     have hl1 : L1.length ≤ 256 := by rw [← hpa]; exact Nat.le_trans (part_len y L i k) hn256
     obtain ⟨a', cap', hv', hws, hbs⟩ := Ws.of_owns HL.out.1
     cases hv'
     obtain ⟨x1, hx1⟩ : ∃ x1 : Xr, x1 = ⟨a, cap, x.a2, x.c2⟩ := ⟨_, rfl⟩
     obtain ⟨b12, hb12⟩ : ∃ b, b = wr.heap.size := ⟨_, rfl⟩
     obtain ⟨W8, hW8⟩ : ∃ W, W = wr.alloc (.cells #[.slice a n1 cap, .int .i64 nx, .slice x.a2 65 x.c2] 29) := ⟨_, rfl⟩
     have hs8 : Stay (fun _ => False) wr W8 := by rw [hW8]; exact (Stay.refl _ _).alloc _
     have HB12 : Hid (XBox W8 b12 (xs x1 n1 nx)) := by rw [hW8, hx1]; exact xbox_new wr ⟨a, cap, x.a2, x.c2⟩ n1 nx hb12.symm
     have STX := hide' (HL.out.2.trans hs8)
     have hxp := HXA1.out.procs STX.out (hws.keep hs8) hws.nocap hbs hl1
     have hxp0 : ∀ j, x1.has j → j < wr.heap.size := fun j hj => by
       rw [hx1] at hj
       rcases hj with e | e
       · exact hws.lt j e
       · exact Nat.lt_of_lt_of_le (HXA1.out.lt j (.inr e)) HL.out.2.size
     rw [← hx1] at hxp
     have HX1 := hide' hxp.1
     have HXN12 : Hid (∀ j, x1.has j → ¬ j = b12) := fun j hj e => by have := hxp0 j hj; omega
     have HF1W : Hid (XFrom w x x1) := fun j hj => by
       rcases hxp.2 j hj with e | e
       · exact .inl e
       · exact .inr (Nat.le_trans HS9.out.size e)
     have HF1 : Hid (∀ j, x1.has j → x.has j ∨ W0.heap.size ≤ j) := fun j hj => by
       rcases hxp.2 j hj with e | e
       · exact .inl e
       · exact .inr (Nat.le_trans HW05.out e)
     have HBL : Hid (W5.heap.size ≤ b12) := by show _ ≤ _; rw [hb12]; exact HL.out.2.size
     obtain ⟨e0, e1, e2, _⟩ := HB3.out.keep HL.out.2
     simp only [xs] at e0 e1 e2
     clear hpa hxp hxp0 hws hbs hs8 hx1
     rw [← hn1']
     clear hn1'
     go_upto_region 18 with fail
     rw [← hb12, ← hW8]
     clear hb12 hW8 e0 e1 e2 HL
     obtain ⟨d0, d1, d2, d3, d4, d5, _⟩ := HP5.out.keep STX.out
     obtain ⟨e0, e1, e2, _⟩ := HB3.out.keep STX.out
     simp only [xs] at e0 e1 e2
     have hfr := front19 p.tty nx (HXA1.out.keep STX.out) (fun hh => absurd ⟨HK65.out.2.1, HK65.out.2.2⟩ hh)
     rw [← HN.out] at hfr
     have HFR := hide' hfr
     clear hfr
     go_wp2_with fail
     refine HFR.out.mono ?_
     rintro _ W9 ⟨rfl, hs⟩
     have HB12' := hide' (HB12.out.keep hs)
     have HX1' := hide' (HX1.out.keep hs)
     have STX' := hide' (STX.out.trans hs)
     clear hs HFR HB12 HX1 STX e0 e1 e2 d0 d1 d2 d3 d4 d5
     have HB12 := HB12'
     have HX1 := HX1'
     have STX := STX'
     clear HB12' HX1' STX'
     have hha := has41 (f p.tty) 0 nx HX1.out
     rw [hasB_zero, HHH.out, ← HN1.out] at hha
     have HHA := hide' hha
     obtain ⟨e0, e1, e2, _⟩ := HB12.out
     simp only [xs] at e0 e1 e2
     clear hha
     go_wp2_with fail
     refine HHA.out.mono ?_
     rintro _ wA ⟨rfl, hs⟩
     have HB12' := hide' (HB12.out.keep hs)
     have HX1' := hide' (HX1.out.keep hs)
     have STX' := hide' (STX.out.trans hs)
     clear hs HHA HB12 HX1 STX e0 e1 e2
     have HB12 := HB12'
     have HX1 := HX1'
     have STX := STX'
     clear HB12' HX1' STX'
     have HWIN : Hid (∀ o, Win (wA.alloc o) 2 (.slice none 0 0) 0 (sc [])) := fun o => Win.nil _ 2
     have HSRC : Hid (∀ ad, (some ⟨wA.heap.size, 0, none⟩ : Option Addr) = some ad → ∀ i u, (sc [⟨f p.tty, 4⟩])[i]? = some u → (wA.alloc (.cells #[.int .i64 (f p.tty), .int .i64 4] 60)).cell? (ad.add i) = some u) := by
       intro ad e i u hu
       have hN := isRowS_new wA #[.int .i64 (f p.tty), .int .i64 4] 60 2 1 rfl
       rcases hN with ⟨h, _⟩ | ⟨ad', cc, h, _, h3⟩
       · cases h
       · cases h
         cases e
         exact h3 i u hu
     go_upto_region 22 with (at_builtin; refine wpList_append_win rfl _ _ 35 rfl Try.underlying35 info60 rfl (by decide) (by decide) (HWIN.out _) rfl (m := 1) (news := sc [⟨f p.tty, 4⟩]) rfl HSRC.out (fun e => by cases e) (sc_all _) (by omega) rfl ?_; intro v2 w2 hw2 hs2 hb2; have HW2 := hide' hw2; have HS2 := hide' hs2; have HB2 := hide' hb2; clear hw2 hs2 hb2; obtain ⟨a3, cap3, hv2, _, _⟩ := HW2.out.shape; subst hv2)
     have hst : Stay (fun _ => False) wA w2 := ((Stay.refl (fun _ => False) wA).alloc _).trans (HS2.out.mono (fun i _ e => by cases e))
     have HSVM : Hid (SV w2 a3 cap3 [⟨f p.tty, 4⟩]) := by have h1 := HW2.out; unfold SV; exact h1
     have HSB : Hid (∀ j, a3.map Addr.block = some j → wA.heap.size < j) := fun j hj => by
       have hi2 : (Value.slice a3 (0 + 1) cap3).ownBlock = some j := by cases a3 <;> exact hj
       rcases HB2.out with e | e
       · rw [e] at hi2
         cases hi2
       · rw [e] at hi2
         cases hi2
         rw [World.size_alloc]
         exact Nat.lt_succ_self _
     have HB12' := hide' (HB12.out.keep hst)
     have HX1' := hide' (HX1.out.keep hst)
     have STX' := hide' (STX.out.trans hst)
     have HBLT : Hid (b12 < wA.heap.size) := HB12.out.lt
     have HXLT := hide' (fun j (hj : x1.has j) => HX1.out.lt j hj)
     have HSB3 : Hid (∀ j, a3.map Addr.block = some j → ¬ j = b12) := fun j hj => by have := HSB.out j hj; have := HBLT.out; omega
     have HSB5 : Hid (∀ j, a3.map Addr.block = some j → W5.heap.size ≤ j) := fun j hj => by have := HSB.out j hj; have := STX.out.size; omega
     have HSLT : Hid (∀ j, a3.map Addr.block = some j → j < w2.heap.size) := fun j hj => Win.lt HSVM.out j (by cases a3 <;> exact hj)
     clear hst HWIN HSRC HW2 HS2 HB2 HB12 HX1 STX
     have HB12 := HB12'
     have HX1 := HX1'
     have STX := STX'
     clear HB12' HX1' STX'
     have HB12Z : Hid (b12 < w2.heap.size) := HB12.out.lt
     have HSZ0 : Hid (W5.heap.size ≤ w2.heap.size) := STX.out.size
     have HN8 : Hid (¬ b8 = b12) := by have := HP5.out.lt; have := HBL.out; show ¬ _; omega
     obtain ⟨wd, hwd⟩ : ∃ W, W = w2.drew := ⟨_, rfl⟩
     have hsd : Stay (fun _ => False) w2 wd := by rw [hwd]; exact (Stay.refl _ _).drew
     have hgv := give58 y 0 nx (HX1.out.keep hsd)
     rw [← HN1.out, ← HQ3.out] at hgv
     have HGV := hide' hgv
     have HB12' := hide' (HB12.out.keep hsd)
     have HP8 := hide' (HP5.out.keep (STX.out.trans hsd))
     have STX' := hide' (STX.out.trans hsd)
     have HSVM' := hide' (HSVM.out.keep hsd)
     have HDZ : Hid (w2.heap.size ≤ wd.heap.size) := hsd.size
     clear hsd hgv HX1
     refine any_begin (fun w' => PBox w' b8 p) (by kernel_rfl) (fun K0 hK0 => ?_)
     rw [← hwd]
     clear hwd
     clear HB12
     have HB12 := HB12'
     clear HB12'
     clear STX
     have STX := STX'
     clear STX'
     clear HSVM
     have HSVM := HSVM'
     clear HSVM'
     refine any_take (i := 1) hK0 (some 82) (.move (.tmp 1)) 3 _ (by kernel_rfl) (fun _ d _ _ _ h => by cases d <;> exact h) (by kernel_rfl) (by kernel_rfl) (fun w' hS' => by simp only [opr]; go_simp; try with_reducible rfl) HP8.out (fun K1 hK1 => ?_)
     clear hK0 K0
     try simp only [Act.put, lA, lZ, lS]
     refine any_take (i := 3) hK1 (some 84) (.fieldAddr 40 (.tmp 8) 4) 0 _ (by kernel_rfl) (fun _ d _ _ _ h => by cases d <;> exact h) (by kernel_rfl) (by kernel_rfl) (fun w' hS' => by simp only [opr]; go_simp; try with_reducible rfl) HP8.out (fun K2 hK2 => ?_)
     clear hK1 K1
     try simp only [Act.put, lA, lZ, lS]
     refine any_take (i := 4) hK2 (some 85) (.load 3 (.tmp 84)) 3 _ (by kernel_rfl) (fun _ d _ _ _ h => by cases d <;> exact h) (by kernel_rfl) (by kernel_rfl) (fun w' hS' => by (obtain ⟨_, _, _, _, y4, _⟩ := hS'; simp only [opr]; go_simp; try with_reducible rfl)) HP8.out (fun K3 hK3 => ?_)
     clear hK2 K2
     try simp only [Act.put, lA, lZ, lS]
     refine any_pick (rs := [0]) hK3 (by kernel_rfl) (fun K4 hK4 => ?_)
     clear hK3 K3
     intro i hi
     simp only [List.mem_cons, List.not_mem_nil, or_false] at hi
     rcases hi with rfl
     refine op_plain (some 81) (.load 29 (.tmp 12)) 29 (by kernel_rfl) (by kernel_rfl) ?_
     obtain ⟨t0, t1, t2, _⟩ := HB12.out
     simp only [xs] at t0 t1 t2
     go_wp2
     clear t0 t1 t2
     refine hK4 0 (by simp) _ _ HP8.out (any_more fun K5 hK5 => ?_)
     clear hK4 K4
     refine any_pick (rs := [2]) hK5 (by kernel_rfl) (fun K6 hK6 => ?_)
     clear hK5 K5
     intro i hi
     simp only [List.mem_cons, List.not_mem_nil, or_false] at hi
     rcases hi with rfl
     refine op_plain (some 83) (.call { callee := Callee.value (.func 58), args := #[.tmp 81, .tmp 82, .const (Value.int IntKind.i64 0)], argTypes := #[29, 3, 3] }) 29 (by kernel_rfl) (by kernel_rfl) ?_
     go_wp2_with fail
     refine HGV.out.mono ?_
     rintro _ w5 ⟨x2, rfl, hx2, hs, hf2⟩
     have HB12' := hide' (HB12.out.keep hs)
     have HP8' := hide' (HP8.out.keep hs)
     have STX' := hide' (STX.out.trans hs)
     have HSVM' := hide' (HSVM.out.keep hs)
     have HFT : Hid (Calls Try.prog 57 #[.agg #[.slice x2.a L3.length x2.cap, .int .i64 nx, .slice x2.a2 65 x2.c2], .int .i64 p.tty, .int .i64 0] w5 (XGives x2 L3 nx (upd f p.tty 0) w5)) := by
       have hft := front57 kt 0 nx hx2 HK65.out.1
       rw [← HKT.out] at hft
       exact hft
     have HFA := hide' hf2
     have HSZ1 := hide' hs.size
     clear hx2 hs hf2 HGV
     clear HB12
     have HB12 := HB12'
     clear HB12'
     clear HP8
     have HP8 := HP8'
     clear HP8'
     clear STX
     have STX := STX'
     clear STX'
     clear HSVM
     have HSVM := HSVM'
     clear HSVM'
     go_wp2
     refine hK6 2 (by simp) _ _ HP8.out (any_more fun K7 hK7 => ?_)
     clear hK6 K6
     refine any_pick (rs := [5]) hK7 (by kernel_rfl) (fun K8 hK8 => ?_)
     clear hK7 K7
     intro i hi
     simp only [List.mem_cons, List.not_mem_nil, or_false] at hi
     rcases hi with rfl
     refine op_plain (some 86) (.call { callee := Callee.value (.func 57), args := #[.tmp 83, .tmp 85, .const (Value.int IntKind.i64 0)], argTypes := #[29, 3, 3] }) 29 (by kernel_rfl) (by kernel_rfl) ?_
     go_wp2_with fail
     refine HFT.out.mono ?_
     rintro _ w6 ⟨x3, rfl, hx3, hs, hf3⟩
     have HB12' := hide' (HB12.out.keep hs)
     have HP8' := hide' (HP8.out.keep hs)
     have HX3 := hide' hx3
     have HNB : Hid (∀ j, x3.has j → ¬ j = b12) := fun j hj => by
       have hb := HB12Z.out
       have hd := HDZ.out
       have hz := HSZ1.out
       rcases hf3 j hj with e | e
       · rcases HFA.out j e with e | e
         · exact HXN12.out j e
         · omega
       · omega
     have HF3W : Hid (XFrom w x x3) := fun j hj => by
       have h9 := HS9.out.size
       have h10 := HSZ0.out
       have hd := HDZ.out
       have hz := HSZ1.out
       rcases hf3 j hj with e | e
       · rcases HFA.out j e with e | e
         · exact HF1W.out j e
         · exact .inr (by omega)
       · exact .inr (by omega)
     have HF3 : Hid (∀ j, x3.has j → x.has j ∨ W0.heap.size ≤ j) := fun j hj => by
       have h9 := HW05.out
       have h10 := HSZ0.out
       have hd := HDZ.out
       have hz := HSZ1.out
       rcases hf3 j hj with e | e
       · rcases HFA.out j e with e | e
         · exact HF1.out j e
         · exact .inr (by omega)
       · exact .inr (by omega)
     have HNS : Hid (∀ j, a3.map Addr.block = some j → ¬ x3.has j) := fun j hj hh => by
       have h1 := HSLT.out j hj
       have h2 := HDZ.out
       have h3 := HSZ1.out
       rcases hf3 j hh with e | e
       · rcases HFA.out j e with e | e
         · have h1 := HXLT.out j e; have h2 := HSB.out j hj; omega
         · omega
       · omega
     have STX' := hide' (STX.out.trans hs)
     have HSVM' := hide' (HSVM.out.keep hs)
     clear hx3 hs hf3 HFT HFA
     clear HB12
     have HB12 := HB12'
     clear HB12'
     clear HP8
     have HP8 := HP8'
     clear HP8'
     clear STX
     have STX := STX'
     clear STX'
     clear HSVM
     have HSVM := HSVM'
     clear HSVM'
     go_wp2
     refine hK8 5 (by simp) _ _ HP8.out (any_more fun K9 hK9 => ?_)
     clear hK8 K8
     refine any_pick (rs := [6]) hK9 (by kernel_rfl) (fun K10 hK10 => ?_)
     clear hK9 K9
     intro i hi
     simp only [List.mem_cons, List.not_mem_nil, or_false] at hi
     rcases hi with rfl
     refine op_plain none (.store 29 (.tmp 12) (.tmp 86)) 0 (by kernel_rfl) (by kernel_rfl) ?_
     obtain ⟨k0, k1, k2, r0, r1, r2⟩ := HB12.out
     go_wp2
     clear k0 k1 k2 r0 r1 r2
     have hps := XBox.put_stay w6 b12 (.slice x3.a L3.length x3.cap) (.int .i64 nx) (.slice x3.a2 65 x3.c2)
     obtain ⟨w7, hw7⟩ : ∃ W, W = ((w6.setCell ⟨b12, 0, none⟩ (.slice x3.a L3.length x3.cap)).setCell ⟨b12, 1, none⟩ (.int .i64 nx)).setCell ⟨b12, 2, none⟩ (.slice x3.a2 65 x3.c2) := ⟨_, rfl⟩
     have HE0 : Hid (E34 W5 b12 nx x3 L3 (upd f p.tty 0) (allS ([⟨f p.tty, 4⟩] : List Sg) L L3 0) a3 cap3 w7) := by
       rw [hw7, allS_zero]
       exact ⟨HSVM.out.stay hps (fun j hj e => HSB3.out j hj e), XBox.stay_put STX.out HBL.out _ _ _, HB12.out.put (xs x3 L3.length nx), HX3.out.stay hps HNB.out, fun j hj => ⟨HSB5.out j hj, HSB3.out j hj, HNS.out j hj⟩⟩
     have HP8' : Hid (PBox w7 b8 p) := by rw [hw7]; exact HP8.out.stay hps HN8.out
     rw [← hw7]
     clear hps hw7 HB12 STX HSVM
     clear HP8
     have HP8 := HP8'
     clear HP8'
     refine hK10 6 (by simp) _ _ HP8.out (any_more fun K11 hK11 => ?_)
     clear hK10 K10
     refine any_done hK11 (by kernel_rfl) ?_
     clear hK11 K11
     go_wp2
     go_loopg [7, 14] m (fun gg v7 v14 wr => ∃ (j : Nat) (a2 : Option Addr) (cap2 : Nat), j ≤ m ∧ gg = m - j ∧ v7 = .slice a2 (allS ([⟨f p.tty, 4⟩] : List Sg) L L3 j).length cap2 ∧ v14 = .int .i64 ((j : Int) + 1) ∧ Hid (E34 W5 b12 nx x3 L3 (upd f p.tty 0) (allS ([⟨f p.tty, 4⟩] : List Sg) L L3 j) a2 cap2 wr))
     case atStart => exact ⟨0, a3, cap3, Nat.zero_le _, rfl, by rw [allS_zero]; rfl, rfl, HE0⟩
     case round =>
       clear HE0
       obtain ⟨j, a2, cap2, hj, rfl, rfl, rfl, HR⟩ := hrel
       obtain ⟨e0, e1, e2, _⟩ := HB3.out.keep HR.out.st
       obtain ⟨t0, t1, t2, _⟩ := HR.out.bx
       simp only [xs] at e0 e1 e2 t0 t1 t2
       by_cases hlt2 : j < m
       · have jn : (j : Int) + 1 < nx := by have := HMX.out; omega
         have ho3 := rorphan17 ((j : Int) + 1) nx HR.out.xa HUP3.out
         cases d1 : orphB L3 ((j : Int) + 1)
         · rw [d1] at ho3
           have HO3 := hide' ho3
           have HEQ : Hid (allS ([⟨f p.tty, 4⟩] : List Sg) L L3 (j + 1) = allS ([⟨f p.tty, 4⟩] : List Sg) L L3 j) := allS_none (by rw [d1]; rfl)
           clear ho3 e0 e2
           go_wp2_with fail
           refine HO3.out.mono ?_
           rintro _ wa ⟨rfl, hs⟩
           have HR2 := hide' (HR.out.keep hs)
           clear hs HO3 HR t0 t1 t2 e1
           go_wp2
           go_roundg (m - (j + 1))
           case measure => omega
           case rel => exact ⟨j + 1, a2, cap2, by omega, rfl, by rw [HEQ.out], by go_num, by rw [HEQ.out]; exact HR2⟩
         · rw [d1] at ho3
           have HO3 := hide' ho3
           clear ho3
           clear e0 e2
           cases d2 : orphB L ((j : Int) + 1)
           · have HEQ : Hid (allS ([⟨f p.tty, 4⟩] : List Sg) L L3 (j + 1) = allS ([⟨f p.tty, 4⟩] : List Sg) L L3 j ++ [⟨(j : Int) + 1, 4⟩, ⟨(j : Int) + 1, 5⟩]) := allS_some (by rw [d1, d2]; rfl)
             have HTL := hide' (allS_len ([⟨f p.tty, 4⟩] : List Sg) L L3 j)
             go_wp2_with fail
             refine HO3.out.mono ?_
             rintro _ wa ⟨rfl, hs⟩
             have HR2 := hide' (HR.out.keep hs)
             clear e1
             obtain ⟨e0, e1, e2, _⟩ := HB3.out.keep HR2.out.st
             simp only [xs] at e0 e1 e2
             have ho1 := rorphan17 ((j : Int) + 1) nx (HXA1.out.keep HR2.out.st) HUP.out
             rw [← HN.out, d2] at ho1
             have HO1 := hide' ho1
             clear hs HO3 HR ho1 t0 t1 t2
             go_wp2_with fail
             refine HO1.out.mono ?_
             rintro _ wb ⟨rfl, hs⟩
             have HR3 := hide' (HR2.out.keep hs)
             clear hs HO1 HR2 e0 e1 e2
             have HR2 := HR3
             clear HR3
             obtain ⟨N, hN⟩ : ∃ N, N = (allS ([⟨f p.tty, 4⟩] : List Sg) L L3 j).length := ⟨_, rfl⟩
             have HNN := hide' hN
             have HWIN : Hid (∀ o, Win (wb.alloc o) 2 (.slice a2 N cap2) N (sc (allS ([⟨f p.tty, 4⟩] : List Sg) L L3 j))) := fun o => by
               have := HR2.out.sv.keep ((Stay.refl (fun _ => False) wb).alloc o)
               unfold SV at this
               rw [← hN] at this
               exact this
             have hN2 : N ≤ 10000 := by
               have h1 := HTL.out
               simp only [List.length_nil, List.length_cons] at h1
               omega
             have HSRC : Hid (∀ ad, (some ⟨wb.heap.size, 0, none⟩ : Option Addr) = some ad → ∀ i u, (sc [⟨(j : Int) + 1, 4⟩, ⟨(j : Int) + 1, 5⟩])[i]? = some u → (wb.alloc (.cells #[.int .i64 ((j : Int) + 1), .int .i64 4, .int .i64 ((j : Int) + 1), .int .i64 5] 60)).cell? (ad.add i) = some u) := by
               intro ad e i u hu
               have hN := isRowS_new wb #[.int .i64 ((j : Int) + 1), .int .i64 4, .int .i64 ((j : Int) + 1), .int .i64 5] 60 2 2 rfl
               rcases hN with ⟨h, _⟩ | ⟨ad', cc, h, _, h3⟩
               · cases h
               · cases h
                 cases e
                 exact h3 i u hu
             rw [← hN]
             clear hN
             go_wp2_with (at_builtin; refine wpList_append_win rfl _ _ 35 rfl Try.underlying35 info60 rfl (by decide) (by decide) (HWIN.out _) rfl (m := 2) (news := sc [⟨(j : Int) + 1, 4⟩, ⟨(j : Int) + 1, 5⟩]) rfl HSRC.out (fun e => by cases e) (sc_all _) (by omega) rfl ?_; intro v2 w2 hw2 hs2 hb2; have HW2 := hide' hw2; have HS2 := hide' hs2; have HB2 := hide' hb2; clear hw2 hs2 hb2; obtain ⟨a3, cap3, hv2, _, _⟩ := HW2.out.shape; subst hv2)
             have HLE2 : Hid ((allS ([⟨f p.tty, 4⟩] : List Sg) L L3 (j + 1)) = (allS ([⟨f p.tty, 4⟩] : List Sg) L L3 j) ++ [⟨(j : Int) + 1, 4⟩, ⟨(j : Int) + 1, 5⟩]) := HEQ.out
             have HLL : Hid ((allS ([⟨f p.tty, 4⟩] : List Sg) L L3 (j + 1)).length = N + 2) := by show _ = _; rw [HLE2.out, List.length_append, ← HNN.out]; rfl
             have HE1 : Hid (E34 W5 b12 nx x3 L3 (upd f p.tty 0) (allS ([⟨f p.tty, 4⟩] : List Sg) L L3 (j + 1)) a3 cap3 w2) := by
               refine (HR2.out.keep ((Stay.refl (fun _ => False) wb).alloc (.cells #[.int .i64 ((j : Int) + 1), .int .i64 4, .int .i64 ((j : Int) + 1), .int .i64 5] 60))).more (HS2.out.mono (fun i _ e => by cases a2 <;> exact e)) ?_ ?_
               · have h1 := HW2.out
                 rw [← sc_append] at h1
                 unfold SV
                 rw [HLL.out, HLE2.out]
                 exact h1
               · rcases HB2.out with e | e
                 · exact .inl (fun i hi => by
                     have hi2 : (Value.slice a3 (N + 2) cap3).ownBlock = some i := by cases a3 <;> exact hi
                     rw [e] at hi2
                     cases a2 <;> exact hi2)
                 · exact .inr (fun i hi => by
                     have hi2 : (Value.slice a3 (N + 2) cap3).ownBlock = some i := by cases a3 <;> exact hi
                     rw [e] at hi2
                     cases hi2
                     rfl)
             clear HR2 HWIN HSRC HW2 HS2 HB2
             go_wp2
             go_roundg (m - (j + 1))
             case measure => omega
             case rel => exact ⟨j + 1, a3, cap3, by omega, rfl, by rw [HLL.out], by go_num, HE1⟩
           · have HEQ : Hid (allS ([⟨f p.tty, 4⟩] : List Sg) L L3 (j + 1) = allS ([⟨f p.tty, 4⟩] : List Sg) L L3 j) := allS_none (by rw [d1, d2]; rfl)
             go_wp2_with fail
             refine HO3.out.mono ?_
             rintro _ wa ⟨rfl, hs⟩
             have HR2 := hide' (HR.out.keep hs)
             clear e1
             obtain ⟨e0, e1, e2, _⟩ := HB3.out.keep HR2.out.st
             simp only [xs] at e0 e1 e2
             have ho1 := rorphan17 ((j : Int) + 1) nx (HXA1.out.keep HR2.out.st) HUP.out
             rw [← HN.out, d2] at ho1
             have HO1 := hide' ho1
             clear hs HO3 HR ho1 t0 t1 t2
             go_wp2_with fail
             refine HO1.out.mono ?_
             rintro _ wb ⟨rfl, hs⟩
             have HR3 := hide' (HR2.out.keep hs)
             clear hs HO1 HR2 e0 e1 e2
             have HR2 := HR3
             clear HR3
             go_wp2
             go_roundg (m - (j + 1))
             case measure => omega
             case rel => exact ⟨j + 1, a2, cap2, by omega, rfl, by rw [HEQ.out], by go_num, by rw [HEQ.out]; exact HR2⟩
       · have e : j = m := by omega
         subst e
         have jn : ¬ (j : Int) + 1 < nx := by have := HMX.out; omega
         obtain ⟨k0, k1, k2, r0, r1, r2⟩ := HB6.out.keep HR.out.st
         have HLX : Hid (∀ i, x3.has i → ¬ i = b4) := fun i hi => by
           rcases HF3.out i hi with e | e
           · have := HX0.out.lt i e; have := HNBL.out; omega
           · have := HLB4.out; omega
         have HW34 := hide' (show b4 < W5.heap.size from HB6.out.lt)
         clear e0 e2
         go_wp2
         have h3 := XBox.stay_put (HS9.out.trans HR.out.st) HZb4.out (.slice x3.a L3.length x3.cap) (.int .i64 nx) (.slice x3.a2 65 x3.c2)
         have hps := XBox.put_stay wr b4 (.slice x3.a L3.length x3.cap) (.int .i64 nx) (.slice x3.a2 65 x3.c2)
         have h5 := HR.out.xa.stay hps HLX.out
         have h6 := HR.out.sv.stay hps (fun i hi e => by have h7 := (HR.out.nw i hi).1; have h8 := HW34.out; have : i = b4 := e; omega)
         exact bodyPost_ret (results_x1 rfl _ _ b4 x3 _ nx _ rfl rfl ((HB6.out.keep HR.out.st).put (xs x3 _ nx))) rfl ⟨x3, a2, cap2, rfl, h5, h6, h3, HF3W.out, fun i hi => Nat.le_trans HS9.out.size (HR.out.nw i hi).1⟩

end Go.Proofs.Ytefpifnfinkbaaa
