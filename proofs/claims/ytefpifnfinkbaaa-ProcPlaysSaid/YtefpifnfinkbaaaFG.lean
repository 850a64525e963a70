/-
  A process goes, as the document says (nolead): walked. No conditions.
-/
import Derived.Test.YtefpifnfinkbaaaFF
import Derived.ArgAppend
import Derived.Deep.DeepCutAuto
import Derived.Deep.CutBlock
namespace Go.Proofs.Ytefpifnfinkbaaa
open Go.RowKit

variable {w : World} {x : Xr} {L : List Pr} {f : Int → Int}

theorem rexit34_none (y nx : Int) (h : XAt w x L f) (hx : ∀ p ∈ L, p.pid ≠ y) : Calls Try.prog 34 #[.agg #[.slice x.a L.length x.cap, .int .i64 nx, .slice x.a2 65 x.c2], .int .i64 y] w (XG4 x L nx f [] w) := by
  obtain ⟨n, hn⟩ : ∃ n, n = L.length := ⟨_, rfl⟩
  obtain ⟨b2, hb2⟩ : ∃ b, b = w.heap.size := ⟨_, rfl⟩
  obtain ⟨Wq0, hWq0⟩ : ∃ W, W = w.alloc (.cells #[.slice x.a n x.cap, .int .i64 nx, .slice x.a2 65 x.c2] 29) := ⟨_, rfl⟩
  have hsWq0 : Stay (fun _ => False) w Wq0 := by rw [hWq0]; exact (Stay.refl _ _).alloc _
  have hpb2 : w.heap.size = b2 := by rw [hb2]
  obtain ⟨b4, hb4⟩ : ∃ b, b = w.heap.size + 1 := ⟨_, rfl⟩
  obtain ⟨W0, hW0⟩ : ∃ W, W = Wq0.alloc (.cells #[.slice none 0 0, .int .i64 0, .slice none 0 0] 29) := ⟨_, rfl⟩
  have hsW0 : Stay (fun _ => False) Wq0 W0 := by rw [hW0]; exact (Stay.refl _ _).alloc _
  have hpb4 : Wq0.heap.size = b4 := by rw [hb4]; rw [hWq0, World.size_alloc]
  have HBb2 := hide' (show XBox W0 b2 (xs x n nx) from (show XBox Wq0 b2 (xs x n nx) from (by rw [hWq0]; exact xbox_new w x n nx hpb2)).keep ((Stay.refl (fun _ => False) Wq0).trans hsW0))
  have HZb2 : Hid (w.heap.size ≤ b2) := by show _ ≤ _; omega
  have HBb4 := hide' (show XBox W0 b4 ⟨.slice none 0 0, 0, .slice none 0 0⟩ from (show XBox W0 b4 ⟨.slice none 0 0, 0, .slice none 0 0⟩ from (by rw [hW0]; exact XBox.new ⟨.slice none 0 0, 0, .slice none 0 0⟩ hpb4)).keep (Stay.refl (fun _ => False) W0))
  have HZb4 : Hid (w.heap.size ≤ b4) := by show _ ≤ _; omega
  have HS0 := hide' (((Stay.refl (fun _ => False) w).trans hsWq0).trans hsW0)
  have HW0 : Hid (W0 = ((w.alloc (.cells #[.slice x.a n x.cap, .int .i64 nx, .slice x.a2 65 x.c2] 29)).alloc (.cells #[.slice none 0 0, .int .i64 0, .slice none 0 0] 29))) := by show _ = _; rw [hW0, hWq0]
  have HXA := hide' (h.keep HS0.out)
  have HX0 := hide' h
  have HN := hide' hn
  have hn1 : (n : Int) ≤ 256 := by have := h.len; omega
  have hat := at14 y nx HXA.out
  rw [ixI_no hx, ← hn] at hat
  have HAT := hide' hat
  clear hat
  rw [← hn]
  clear h hn hx
  clear hWq0 hW0 hsWq0 hsW0 hpb2 hpb4
  obtain ⟨e0, e1, e2, _⟩ := HBb2.out
  simp only [xs] at e0 e1 e2
  go_enter Try.func34, Try.ntmps34
  go_upto_region 1 with fail
  rw [← HW0.out, ← hb4, ← hb2]
  clear HW0 hb2 hb4
  go_wp2_with fail
  refine HAT.out.mono ?_
  rintro _ w1 ⟨rfl, hs⟩
  have HB3 := hide' (HBb2.out.keep hs)
  have HB6 := hide' (HBb4.out.keep hs)
  have HS9 := hide' (HS0.out.trans hs)
  have HXA1 := hide' (HXA.out.keep hs)
  have HW01 := hide' hs.size
  clear hs HAT HBb2 HBb4 HXA e0 e1 e2
  obtain ⟨e0, e1, e2, _⟩ := HB3.out
  simp only [xs] at e0 e1 e2
  obtain ⟨k0, k1, k2, r0, r1, r2⟩ := HB6.out
  go_wp2
  have h3 := XBox.stay_put HS9.out HZb4.out (.slice x.a n x.cap) (.int .i64 nx) (.slice x.a2 65 x.c2)
  have h5 := HX0.out.keep h3
  rw [HN.out] at h3 h5 ⊢
  exact bodyPost_ret (results_x1 rfl _ _ b4 x _ nx _ rfl rfl (HB6.out.put (xs x _ nx))) rfl ⟨x, none, 0, rfl, h5, SV.nil _, h3, XFrom.refl _ _, fun j hj => by cases hj⟩

set_option maxHeartbeats 4000000 in
set_option maxRecDepth 100000 in
theorem rexit34_nolead (y nx : Int) {i : Nat} {p : Pr} (h : XAt w x L f) (hu : Up L) (hp : L[i]? = some p) (hx : p.pid = y) (L1 : List Pr) (hL1 : L1 = (L.eraseIdx i).map (adopt y)) (hu3 : Up L1) (n0 : 1 ≤ nx) (n1 : nx ≤ 4096) (hl : (p.ses == y) = false) : Calls Try.prog 34 #[.agg #[.slice x.a L.length x.cap, .int .i64 nx, .slice x.a2 65 x.c2], .int .i64 y] w (XG4 x L1 nx f (allS ([] : List Sg) L L1 (nx - 1).toNat) w) := by
  obtain ⟨n, hn⟩ : ∃ n, n = L.length := ⟨_, rfl⟩
  obtain ⟨b2, hb2⟩ : ∃ b, b = w.heap.size := ⟨_, rfl⟩
  obtain ⟨Wq0, hWq0⟩ : ∃ W, W = w.alloc (.cells #[.slice x.a n x.cap, .int .i64 nx, .slice x.a2 65 x.c2] 29) := ⟨_, rfl⟩
  have hsWq0 : Stay (fun _ => False) w Wq0 := by rw [hWq0]; exact (Stay.refl _ _).alloc _
  have hpb2 : w.heap.size = b2 := by rw [hb2]
  obtain ⟨b4, hb4⟩ : ∃ b, b = w.heap.size + 1 := ⟨_, rfl⟩
  obtain ⟨W0, hW0⟩ : ∃ W, W = Wq0.alloc (.cells #[.slice none 0 0, .int .i64 0, .slice none 0 0] 29) := ⟨_, rfl⟩
  have hsW0 : Stay (fun _ => False) Wq0 W0 := by rw [hW0]; exact (Stay.refl _ _).alloc _
  have hpb4 : Wq0.heap.size = b4 := by rw [hb4]; rw [hWq0, World.size_alloc]
  have HBb2 := hide' (show XBox W0 b2 (xs x n nx) from (show XBox Wq0 b2 (xs x n nx) from (by rw [hWq0]; exact xbox_new w x n nx hpb2)).keep ((Stay.refl (fun _ => False) Wq0).trans hsW0))
  have HZb2 : Hid (w.heap.size ≤ b2) := by show _ ≤ _; omega
  have HBb4 := hide' (show XBox W0 b4 ⟨.slice none 0 0, 0, .slice none 0 0⟩ from (show XBox W0 b4 ⟨.slice none 0 0, 0, .slice none 0 0⟩ from (by rw [hW0]; exact XBox.new ⟨.slice none 0 0, 0, .slice none 0 0⟩ hpb4)).keep (Stay.refl (fun _ => False) W0))
  have HZb4 : Hid (w.heap.size ≤ b4) := by show _ ≤ _; omega
  have HS0 := hide' (((Stay.refl (fun _ => False) w).trans hsWq0).trans hsW0)
  have HW0 : Hid (W0 = ((w.alloc (.cells #[.slice x.a n x.cap, .int .i64 nx, .slice x.a2 65 x.c2] 29)).alloc (.cells #[.slice none 0 0, .int .i64 0, .slice none 0 0] 29))) := by show _ = _; rw [hW0, hWq0]
  have HLB4 : Hid (b4 < W0.heap.size) := HBb4.out.lt
  have HNBL : Hid (w.heap.size ≤ b4) := HZb4.out
  have HXA := hide' (h.keep HS0.out)
  have HX0 := hide' h
  have HN := hide' hn
  have hn1 : (n : Int) ≤ 256 := by have := h.len; omega
  have hat := at14 y nx HXA.out
  rw [ixI_at hu hp hx, ← hn] at hat
  have HAT := hide' hat
  clear hat
  have HP := hide' hp
  have hin1 : (i : Int) < (n : Nat) := by have := (List.getElem?_eq_some_iff.1 hp).1; omega
  have HUP := hide' hu
  have HUP3 := hide' hu3
  have HQ1 := hide' hL1
  have hnL := h.len
  have hn256 : n ≤ 256 := by omega
  obtain ⟨m, hm⟩ : ∃ m : Nat, nx = (m : Int) + 1 := ⟨(nx - 1).toNat, by omega⟩
  have hmm : (nx - 1).toNat = m := by omega
  rw [hmm]
  have hm1 : m ≤ 4096 := by omega
  have HMX := hide' hm
  rw [← hn]
  clear h hn hx hu hp hu3 hnL hmm hm hL1
  clear hWq0 hW0 hsWq0 hsW0 hpb2 hpb4
  obtain ⟨e0, e1, e2, _⟩ := HBb2.out
  simp only [xs] at e0 e1 e2
  go_enter Try.func34, Try.ntmps34
  go_upto_region 1 with fail
  rw [← HW0.out, ← hb4, ← hb2]
  clear HW0 hb2 hb4
  go_wp2_with fail
  refine HAT.out.mono ?_
  rintro _ w1 ⟨rfl, hs⟩
  have HB3 := hide' (HBb2.out.keep hs)
  have HB6 := hide' (HBb4.out.keep hs)
  have HS9 := hide' (HS0.out.trans hs)
  have HXA1 := hide' (HXA.out.keep hs)
  have HW01 := hide' hs.size
  clear hs HAT HBb2 HBb4 HXA e0 e1 e2
  obtain ⟨e0, e1, e2, _⟩ := HB3.out
  simp only [xs] at e0 e1 e2
  obtain ⟨g, o, hxa, hpb⟩ := HXA1.out.rd i p HP.out
  obtain ⟨d0, d1, d2, d3, d4, d5⟩ := hpb
  rw [hxa] at e0
  obtain ⟨b8, hb8⟩ : ∃ b, b = w1.heap.size := ⟨_, rfl⟩
  obtain ⟨W5, hW5⟩ : ∃ W, W = w1.alloc (.cells #[.int .i64 p.pid, .int .i64 p.par, .int .i64 p.grp, .int .i64 p.ses, .int .i64 p.tty, .bool p.df] 40) := ⟨_, rfl⟩
  have hs5 : Stay (fun _ => False) w1 W5 := by rw [hW5]; exact (Stay.refl _ _).alloc _
  have HP5 : Hid (PBox W5 b8 p) := by rw [hW5]; exact PBox.new p hb8.symm
  have HB3' := hide' (HB3.out.keep hs5)
  have HB6' := hide' (HB6.out.keep hs5)
  have HS9' := hide' (HS9.out.trans hs5)
  have HXA1' := hide' (HXA1.out.keep hs5)
  have HW05 : Hid (W0.heap.size ≤ W5.heap.size) := Nat.le_trans HW01.out hs5.size
  have HPL : Hid (w.heap.size ≤ b8) := by show _ ≤ _; rw [hb8]; exact HS9.out.size
  have HPN : Hid (w1.heap.size ≤ b8) := by show _ ≤ _; rw [hb8]; exact Nat.le_refl _
  have HP6 : Hid (¬ b8 = b4) := by have := HB6.out.lt; show ¬ _; omega
  clear hs5 hxa
  go_upto_region 6 with fail
  rw [← hb8, ← hW5]
  clear hb8 hW5 e0 e1 e2 d0 d1 d2 d3 d4 d5 HB3 HB6 HS9 HXA1
  have HB3 := HB3'
  clear HB3'
  have HB6 := HB6'
  clear HB6'
  have HS9 := HS9'
  clear HS9'
  have HXA1 := HXA1'
  clear HXA1'
  go_wp2
  have HL0 : Hid (W5.ownsRow W5.heap.size 40 6 (.slice none 0 0) 0 (wc []) ∧ Stay (fun _ => False) W5 W5) := ⟨⟨rfl, .inl ⟨rfl, rfl⟩⟩, Stay.refl _ _⟩
  go_loopg [9, 10] n (fun gg v9 v10 wr => ∃ (k : Nat) (a : Option Addr) (cap : Nat), k ≤ n ∧ gg = n - k ∧ v9 = .slice a (part y L i k).length cap ∧ v10 = .int .i64 (k : Int) ∧ Hid (wr.ownsRow W5.heap.size 40 6 (.slice a (part y L i k).length cap) (part y L i k).length (wc (part y L i k)) ∧ Stay (fun _ => False) W5 wr))
  case atStart => exact ⟨0, none, 0, Nat.zero_le _, rfl, by rw [part_zero]; rfl, rfl, by rw [part_zero]; exact HL0⟩
  case round =>
   clear HL0
   obtain ⟨k, a, cap, hk, rfl, rfl, rfl, HL⟩ := hrel
   by_cases hlt : k < n
   · skip
     have kn : (k : Int) < (n : Nat) := by omega
     obtain ⟨t, ht⟩ : ∃ t, L[k]? = some t := ⟨_, List.getElem?_eq_getElem (by rw [← HN.out]; exact hlt)⟩
     obtain ⟨g, o, hxa, hpb⟩ := (HXA1.out.keep HL.out.2).rd k t ht
     obtain ⟨c0, c1, c2, c3, c4, c5⟩ := hpb
     obtain ⟨e0, e1, e2, _⟩ := HB3.out.keep HL.out.2
     simp only [xs] at e0 e1 e2
     have HXE := hide' hxa
     rw [hxa] at e0
     obtain ⟨bq, hbq⟩ : ∃ b, b = wr.heap.size := ⟨_, rfl⟩
     obtain ⟨W6, hW6⟩ : ∃ W, W = wr.alloc (.cells #[.int .i64 t.pid, .int .i64 t.par, .int .i64 t.grp, .int .i64 t.ses, .int .i64 t.tty, .bool t.df] 40) := ⟨_, rfl⟩
     have hs6 : Stay (fun _ => False) wr W6 := by rw [hW6]; exact (Stay.refl _ _).alloc _
     have HP6' := hide' (show PBox W6 bq t by rw [hW6]; exact PBox.new t hbq.symm)
     have HBQ : Hid (W5.heap.size ≤ bq) := by show _ ≤ _; rw [hbq]; exact HL.out.2.size
     have HO6 := hide' (hs6.owns HL.out.1 (fun _ _ h => h))
     have HS6 := hide' (HL.out.2.trans hs6)
     have HOB : Hid (∀ j, (Value.slice a (part y L i k).length cap).ownBlock = some j → ¬ j = bq) := fun j hj => by
       have h1 := (HL.out.1.lt j hj).2
       show ¬ _
       omega
     have HT := hide' ht
     clear ht hxa hs6
     go_upto_region 11 with fail
     rw [← hbq, ← hW6]
     clear hbq hW6 c0 c1 c2 c3 c4 c5 e0 e1 e2 HL
     obtain ⟨d0, d1, d2, d3, d4, d5, q0, q1, q2, q3, q4, q5⟩ := HP6'.out
     by_cases hpr : t.par = y
     · have z1 : (t.par == y) = true := beq_iff_eq.2 hpr
       have HPR := hide' hpr
       clear hpr
       by_cases hy1 : y = 1
       · have z2 : (y == 1) = true := beq_iff_eq.2 hy1
         have HY1 := hide' hy1
         clear hy1
         obtain ⟨u, hu⟩ : ∃ u, u = adopt y t := ⟨_, rfl⟩
         have HU := hide' hu
         obtain ⟨W7, hW7⟩ : ∃ W, W = (W6.setCell ⟨bq, 1, none⟩ (.int .i64 1)).setCell ⟨bq, 1, none⟩ (.int .i64 0) := ⟨_, rfl⟩
         have HP7 : Hid (PBox W7 bq u) := by rw [hW7, hu]; exact (HP6'.out.put1 (q := ⟨t.pid, 1, t.grp, t.ses, t.tty, t.df⟩) rfl).put1 (by unfold adopt; rw [if_pos HPR.out, if_pos HY1.out])
         have hs7 : Stay (fun j => j = bq) W6 W7 := by rw [hW7]; exact ((Stay.refl (fun j => j = bq) W6).setCell (p := ⟨bq, 1, none⟩) rfl _).setCell (p := ⟨bq, 1, none⟩) rfl _
         have HO7 := hide' (hs7.owns HO6.out (fun j hj e => HOB.out j hj e))
         have HS7 : Hid (Stay (fun _ => False) W5 W7) := HS6.out.trans2 hs7 (fun j hj e => by have : j = bq := e; have := HBQ.out; omega)
         clear hs7 hu
         go_upto_region 15 with fail
         rw [← hW7]
         clear hW7 d0 d1 d2 d3 d4 d5 q0 q1 q2 q3 q4 q5 HP6'
         obtain ⟨d0, d1, d2, d3, d4, d5, _⟩ := HP7.out
         by_cases hki : k = i
         · have z3 : ((k : Int) != (i : Nat)) = false := by simp; omega
           go_wp2
           clear d0 d1 d2 d3 d4 d5
           have HN1 := hide' (show W7.ownsRow W5.heap.size 40 6 (.slice a (part y L i (k + 1)).length cap) (part y L i (k + 1)).length (wc (part y L i (k + 1))) ∧ Stay (fun _ => False) W5 W7 by rw [part_skip HT.out hki]; exact ⟨HO7.out, HS7.out⟩)
           have HEQ : Hid (part y L i (k + 1) = part y L i k) := part_skip HT.out hki
           go_roundg (n - (k + 1))
           case measure => omega
           case rel => exact ⟨k + 1, a, cap, by omega, rfl, by rw [HEQ.out], by go_num, HN1⟩
         · have z3 : ((k : Int) != (i : Nat)) = true := by simp; omega
           have HOA := hide' (fun o : Obj => ((Stay.refl (fun _ => False) W7).alloc o).owns HO7.out (fun _ _ h => h))
           have HSRC := hide' (isRowS_new W7 #[.int .i64 u.pid, .int .i64 u.par, .int .i64 u.grp, .int .i64 u.ses, .int .i64 u.tty, .bool u.df] 40 6 1 rfl)
           have HLE : Hid (∀ o : Obj, W5.heap.size ≤ (W7.alloc o).heap.size) := fun o => by have := HS7.out.size; rw [World.size_alloc]; omega
           have HLP : Hid ((part y L i k).length ≤ k) := part_len y L i k
           have HXQ := hide' (part_add (y := y) HT.out hki)
           obtain ⟨c, hc⟩ : ∃ c, c = (part y L i k).length := ⟨_, rfl⟩
           have HC := hide' hc
           rw [← hc] at HOA HLP ⊢
           clear hc
           have hcn : c ≤ 256 := by have := HLP.out; omega
           go_wp2_with (at_builtin; refine appS rfl _ _ 26 rfl Try.underlying26 info40 rfl (by decide) (by decide) (HOA.out _) rfl HSRC.out rfl (Pr.parts_one u) (by omega) (HLE.out _) ?_; intro v2 W8 ho2 hst2 hb2; have HO8 := hide' ho2; have HS8 := hide' hst2; clear ho2 hst2 hb2; obtain ⟨a2, cap2, hv2, _, _⟩ := Ws.of_owns (L := part y L i k ++ [u]) (by have h2 := HO8.out; rw [wc_append, wc_cons, wc_nil, List.append_nil]; exact h2); subst hv2)
           go_wp2
           clear d0 d1 d2 d3 d4 d5
           have HN1 : Hid (W8.ownsRow W5.heap.size 40 6 (.slice a2 (part y L i (k + 1)).length cap2) (part y L i (k + 1)).length (wc (part y L i (k + 1))) ∧ Stay (fun _ => False) W5 W8) := by
             rw [HXQ.out, ← HU.out, List.length_append, ← HC.out, wc_append, wc_cons, wc_nil, List.append_nil]
             refine ⟨HO8.out, ((HS7.out.trans ((Stay.refl (fun _ => False) W7).alloc _))).trans2 HS8.out (fun j hj e => ?_)⟩
             rw [HC.out] at e
             have h1 := (HO7.out.lt j e).1
             omega
           have HEQ : Hid ((part y L i (k + 1)).length = c + 1) := by
             show _ = _
             rw [HXQ.out, List.length_append, ← HC.out]
             rfl
           go_roundg (n - (k + 1))
           case measure => omega
           case rel => exact ⟨k + 1, a2, cap2, by omega, rfl, by rw [HEQ.out], by go_num, HN1⟩
       · have z2 : (y == 1) = false := beq_eq_false_iff_ne.2 hy1
         have HY1 := hide' hy1
         clear hy1
         obtain ⟨u, hu⟩ : ∃ u, u = adopt y t := ⟨_, rfl⟩
         have HU := hide' hu
         obtain ⟨W7, hW7⟩ : ∃ W, W = W6.setCell ⟨bq, 1, none⟩ (.int .i64 1) := ⟨_, rfl⟩
         have HP7 : Hid (PBox W7 bq u) := by rw [hW7, hu]; exact HP6'.out.put1 (by unfold adopt; rw [if_pos HPR.out, if_neg HY1.out])
         have hs7 : Stay (fun j => j = bq) W6 W7 := by rw [hW7]; exact (Stay.refl (fun j => j = bq) W6).setCell (p := ⟨bq, 1, none⟩) rfl _
         have HO7 := hide' (hs7.owns HO6.out (fun j hj e => HOB.out j hj e))
         have HS7 : Hid (Stay (fun _ => False) W5 W7) := HS6.out.trans2 hs7 (fun j hj e => by have : j = bq := e; have := HBQ.out; omega)
         clear hs7 hu
         go_upto_region 15 with fail
         rw [← hW7]
         clear hW7 d0 d1 d2 d3 d4 d5 q0 q1 q2 q3 q4 q5 HP6'
         obtain ⟨d0, d1, d2, d3, d4, d5, _⟩ := HP7.out
         by_cases hki : k = i
         · have z3 : ((k : Int) != (i : Nat)) = false := by simp; omega
           go_wp2
           clear d0 d1 d2 d3 d4 d5
           have HN1 := hide' (show W7.ownsRow W5.heap.size 40 6 (.slice a (part y L i (k + 1)).length cap) (part y L i (k + 1)).length (wc (part y L i (k + 1))) ∧ Stay (fun _ => False) W5 W7 by rw [part_skip HT.out hki]; exact ⟨HO7.out, HS7.out⟩)
           have HEQ : Hid (part y L i (k + 1) = part y L i k) := part_skip HT.out hki
           go_roundg (n - (k + 1))
           case measure => omega
           case rel => exact ⟨k + 1, a, cap, by omega, rfl, by rw [HEQ.out], by go_num, HN1⟩
         · have z3 : ((k : Int) != (i : Nat)) = true := by simp; omega
           have HOA := hide' (fun o : Obj => ((Stay.refl (fun _ => False) W7).alloc o).owns HO7.out (fun _ _ h => h))
           have HSRC := hide' (isRowS_new W7 #[.int .i64 u.pid, .int .i64 u.par, .int .i64 u.grp, .int .i64 u.ses, .int .i64 u.tty, .bool u.df] 40 6 1 rfl)
           have HLE : Hid (∀ o : Obj, W5.heap.size ≤ (W7.alloc o).heap.size) := fun o => by have := HS7.out.size; rw [World.size_alloc]; omega
           have HLP : Hid ((part y L i k).length ≤ k) := part_len y L i k
           have HXQ := hide' (part_add (y := y) HT.out hki)
           obtain ⟨c, hc⟩ : ∃ c, c = (part y L i k).length := ⟨_, rfl⟩
           have HC := hide' hc
           rw [← hc] at HOA HLP ⊢
           clear hc
           have hcn : c ≤ 256 := by have := HLP.out; omega
           go_wp2_with (at_builtin; refine appS rfl _ _ 26 rfl Try.underlying26 info40 rfl (by decide) (by decide) (HOA.out _) rfl HSRC.out rfl (Pr.parts_one u) (by omega) (HLE.out _) ?_; intro v2 W8 ho2 hst2 hb2; have HO8 := hide' ho2; have HS8 := hide' hst2; clear ho2 hst2 hb2; obtain ⟨a2, cap2, hv2, _, _⟩ := Ws.of_owns (L := part y L i k ++ [u]) (by have h2 := HO8.out; rw [wc_append, wc_cons, wc_nil, List.append_nil]; exact h2); subst hv2)
           go_wp2
           clear d0 d1 d2 d3 d4 d5
           have HN1 : Hid (W8.ownsRow W5.heap.size 40 6 (.slice a2 (part y L i (k + 1)).length cap2) (part y L i (k + 1)).length (wc (part y L i (k + 1))) ∧ Stay (fun _ => False) W5 W8) := by
             rw [HXQ.out, ← HU.out, List.length_append, ← HC.out, wc_append, wc_cons, wc_nil, List.append_nil]
             refine ⟨HO8.out, ((HS7.out.trans ((Stay.refl (fun _ => False) W7).alloc _))).trans2 HS8.out (fun j hj e => ?_)⟩
             rw [HC.out] at e
             have h1 := (HO7.out.lt j e).1
             omega
           have HEQ : Hid ((part y L i (k + 1)).length = c + 1) := by
             show _ = _
             rw [HXQ.out, List.length_append, ← HC.out]
             rfl
           go_roundg (n - (k + 1))
           case measure => omega
           case rel => exact ⟨k + 1, a2, cap2, by omega, rfl, by rw [HEQ.out], by go_num, HN1⟩
     · have z1 : (t.par == y) = false := beq_eq_false_iff_ne.2 hpr
       have HPR := hide' hpr
       clear hpr
       obtain ⟨u, hu⟩ : ∃ u, u = adopt y t := ⟨_, rfl⟩
       have HU := hide' hu
       obtain ⟨W7, hW7⟩ : ∃ W, W = W6 := ⟨_, rfl⟩
       have HP7 : Hid (PBox W7 bq u) := by rw [hW7, hu]; exact (by rw [show adopt y t = t from if_neg HPR.out]; exact HP6'.out)
       have hs7 : Stay (fun j => j = bq) W6 W7 := by rw [hW7]; exact Stay.refl _ _
       have HO7 := hide' (hs7.owns HO6.out (fun j hj e => HOB.out j hj e))
       have HS7 : Hid (Stay (fun _ => False) W5 W7) := HS6.out.trans2 hs7 (fun j hj e => by have : j = bq := e; have := HBQ.out; omega)
       clear hs7 hu
       go_upto_region 15 with fail
       rw [← hW7]
       clear hW7 d0 d1 d2 d3 d4 d5 q0 q1 q2 q3 q4 q5 HP6'
       obtain ⟨d0, d1, d2, d3, d4, d5, _⟩ := HP7.out
       by_cases hki : k = i
       · have z3 : ((k : Int) != (i : Nat)) = false := by simp; omega
         go_wp2
         clear d0 d1 d2 d3 d4 d5
         have HN1 := hide' (show W7.ownsRow W5.heap.size 40 6 (.slice a (part y L i (k + 1)).length cap) (part y L i (k + 1)).length (wc (part y L i (k + 1))) ∧ Stay (fun _ => False) W5 W7 by rw [part_skip HT.out hki]; exact ⟨HO7.out, HS7.out⟩)
         have HEQ : Hid (part y L i (k + 1) = part y L i k) := part_skip HT.out hki
         go_roundg (n - (k + 1))
         case measure => omega
         case rel => exact ⟨k + 1, a, cap, by omega, rfl, by rw [HEQ.out], by go_num, HN1⟩
       · have z3 : ((k : Int) != (i : Nat)) = true := by simp; omega
         have HOA := hide' (fun o : Obj => ((Stay.refl (fun _ => False) W7).alloc o).owns HO7.out (fun _ _ h => h))
         have HSRC := hide' (isRowS_new W7 #[.int .i64 u.pid, .int .i64 u.par, .int .i64 u.grp, .int .i64 u.ses, .int .i64 u.tty, .bool u.df] 40 6 1 rfl)
         have HLE : Hid (∀ o : Obj, W5.heap.size ≤ (W7.alloc o).heap.size) := fun o => by have := HS7.out.size; rw [World.size_alloc]; omega
         have HLP : Hid ((part y L i k).length ≤ k) := part_len y L i k
         have HXQ := hide' (part_add (y := y) HT.out hki)
         obtain ⟨c, hc⟩ : ∃ c, c = (part y L i k).length := ⟨_, rfl⟩
         have HC := hide' hc
         rw [← hc] at HOA HLP ⊢
         clear hc
         have hcn : c ≤ 256 := by have := HLP.out; omega
         go_wp2_with (at_builtin; refine appS rfl _ _ 26 rfl Try.underlying26 info40 rfl (by decide) (by decide) (HOA.out _) rfl HSRC.out rfl (Pr.parts_one u) (by omega) (HLE.out _) ?_; intro v2 W8 ho2 hst2 hb2; have HO8 := hide' ho2; have HS8 := hide' hst2; clear ho2 hst2 hb2; obtain ⟨a2, cap2, hv2, _, _⟩ := Ws.of_owns (L := part y L i k ++ [u]) (by have h2 := HO8.out; rw [wc_append, wc_cons, wc_nil, List.append_nil]; exact h2); subst hv2)
         go_wp2
         clear d0 d1 d2 d3 d4 d5
         have HN1 : Hid (W8.ownsRow W5.heap.size 40 6 (.slice a2 (part y L i (k + 1)).length cap2) (part y L i (k + 1)).length (wc (part y L i (k + 1))) ∧ Stay (fun _ => False) W5 W8) := by
           rw [HXQ.out, ← HU.out, List.length_append, ← HC.out, wc_append, wc_cons, wc_nil, List.append_nil]
           refine ⟨HO8.out, ((HS7.out.trans ((Stay.refl (fun _ => False) W7).alloc _))).trans2 HS8.out (fun j hj e => ?_)⟩
           rw [HC.out] at e
           have h1 := (HO7.out.lt j e).1
           omega
         have HEQ : Hid ((part y L i (k + 1)).length = c + 1) := by
           show _ = _
           rw [HXQ.out, List.length_append, ← HC.out]
           rfl
         go_roundg (n - (k + 1))
         case measure => omega
         case rel => exact ⟨k + 1, a2, cap2, by omega, rfl, by rw [HEQ.out], by go_num, HN1⟩
   · have e : k = n := by omega
     subst e
     have hpa : part y L i k = L1 := by rw [HQ1.out]; exact part_all (by rw [← HN.out]; exact Nat.le_refl _)
     rw [hpa] at HL ⊢
     obtain ⟨n1, hn1'⟩ : ∃ n1, n1 = L1.length := ⟨_, rfl⟩
     have HN1 := hide' hn1'
     have hl1 : L1.length ≤ 256 := by rw [← hpa]; exact Nat.le_trans (part_len y L i k) hn256
     obtain ⟨a', cap', hv', hws, hbs⟩ := Ws.of_owns HL.out.1
     cases hv'
     obtain ⟨x1, hx1⟩ : ∃ x1 : Xr, x1 = ⟨a, cap, x.a2, x.c2⟩ := ⟨_, rfl⟩
     obtain ⟨b12, hb12⟩ : ∃ b, b = wr.heap.size := ⟨_, rfl⟩
     obtain ⟨W8, hW8⟩ : ∃ W, W = wr.alloc (.cells #[.slice a n1 cap, .int .i64 nx, .slice x.a2 65 x.c2] 29) := ⟨_, rfl⟩
     have hs8 : Stay (fun _ => False) wr W8 := by rw [hW8]; exact (Stay.refl _ _).alloc _
     have HB12 : Hid (XBox W8 b12 (xs x1 n1 nx)) := by rw [hW8, hx1]; exact xbox_new wr ⟨a, cap, x.a2, x.c2⟩ n1 nx hb12.symm
     have STX := hide' (HL.out.2.trans hs8)
     have hxp := HXA1.out.procs STX.out (hws.keep hs8) hws.nocap hbs hl1
     have hxp0 : ∀ j, x1.has j → j < wr.heap.size := fun j hj => by
       rw [hx1] at hj
       rcases hj with e | e
       · exact hws.lt j e
       · exact Nat.lt_of_lt_of_le (HXA1.out.lt j (.inr e)) HL.out.2.size
     rw [← hx1] at hxp
     have HX1 := hide' hxp.1
     have HXN12 : Hid (∀ j, x1.has j → ¬ j = b12) := fun j hj e => by have := hxp0 j hj; omega
     have HF1W : Hid (XFrom w x x1) := fun j hj => by
       rcases hxp.2 j hj with e | e
       · exact .inl e
       · exact .inr (Nat.le_trans HS9.out.size e)
     have HF1 : Hid (∀ j, x1.has j → x.has j ∨ W0.heap.size ≤ j) := fun j hj => by
       rcases hxp.2 j hj with e | e
       · exact .inl e
       · exact .inr (Nat.le_trans HW05.out e)
     have HBL : Hid (W5.heap.size ≤ b12) := by show _ ≤ _; rw [hb12]; exact HL.out.2.size
     obtain ⟨e0, e1, e2, _⟩ := HB3.out.keep HL.out.2
     simp only [xs] at e0 e1 e2
     clear hpa hxp hxp0 hws hbs hs8 hx1
     rw [← hn1']
     clear hn1'
     go_upto_region 18 with fail
     rw [← hb12, ← hW8]
     clear hb12 hW8 e0 e1 e2 HL
     obtain ⟨d0, d1, d2, d3, d4, d5, _⟩ := HP5.out.keep STX.out
     go_wp2
     clear d0 d1 d2 d3 d4 d5
     have HF3W := HF1W
     have HE0 : Hid (E34 W5 b12 nx x1 L1 f (allS ([] : List Sg) L L1 0) none 0 W8) := by
       rw [allS_zero]
       exact ⟨SV.nil _, STX.out, by rw [← HN1.out]; exact HB12.out, HX1.out, fun j hj => by cases hj⟩
     clear HB12 HX1 STX HP5
     go_loopg [7, 14] m (fun gg v7 v14 wr => ∃ (j : Nat) (a2 : Option Addr) (cap2 : Nat), j ≤ m ∧ gg = m - j ∧ v7 = .slice a2 (allS ([] : List Sg) L L1 j).length cap2 ∧ v14 = .int .i64 ((j : Int) + 1) ∧ Hid (E34 W5 b12 nx x1 L1 f (allS ([] : List Sg) L L1 j) a2 cap2 wr))
     case atStart => exact ⟨0, none, 0, Nat.zero_le _, rfl, by rw [allS_zero]; rfl, rfl, HE0⟩
     case round =>
       clear HE0
       obtain ⟨j, a2, cap2, hj, rfl, rfl, rfl, HR⟩ := hrel
       obtain ⟨e0, e1, e2, _⟩ := HB3.out.keep HR.out.st
       obtain ⟨t0, t1, t2, _⟩ := HR.out.bx
       simp only [xs] at e0 e1 e2 t0 t1 t2
       by_cases hlt2 : j < m
       · have jn : (j : Int) + 1 < nx := by have := HMX.out; omega
         have ho3 := rorphan17 ((j : Int) + 1) nx HR.out.xa HUP3.out
         cases d1 : orphB L1 ((j : Int) + 1)
         · rw [d1] at ho3
           have HO3 := hide' ho3
           have HEQ : Hid (allS ([] : List Sg) L L1 (j + 1) = allS ([] : List Sg) L L1 j) := allS_none (by rw [d1]; rfl)
           clear ho3 e0 e2
           go_wp2_with fail
           refine HO3.out.mono ?_
           rintro _ wa ⟨rfl, hs⟩
           have HR2 := hide' (HR.out.keep hs)
           clear hs HO3 HR t0 t1 t2 e1
           go_wp2
           go_roundg (m - (j + 1))
           case measure => omega
           case rel => exact ⟨j + 1, a2, cap2, by omega, rfl, by rw [HEQ.out], by go_num, by rw [HEQ.out]; exact HR2⟩
         · rw [d1] at ho3
           have HO3 := hide' ho3
           clear ho3
           clear e0 e2
           cases d2 : orphB L ((j : Int) + 1)
           · have HEQ : Hid (allS ([] : List Sg) L L1 (j + 1) = allS ([] : List Sg) L L1 j ++ [⟨(j : Int) + 1, 4⟩, ⟨(j : Int) + 1, 5⟩]) := allS_some (by rw [d1, d2]; rfl)
             have HTL := hide' (allS_len ([] : List Sg) L L1 j)
             go_wp2_with fail
             refine HO3.out.mono ?_
             rintro _ wa ⟨rfl, hs⟩
             have HR2 := hide' (HR.out.keep hs)
             clear e1
             obtain ⟨e0, e1, e2, _⟩ := HB3.out.keep HR2.out.st
             simp only [xs] at e0 e1 e2
             have ho1 := rorphan17 ((j : Int) + 1) nx (HXA1.out.keep HR2.out.st) HUP.out
             rw [← HN.out, d2] at ho1
             have HO1 := hide' ho1
             clear hs HO3 HR ho1 t0 t1 t2
             go_wp2_with fail
             refine HO1.out.mono ?_
             rintro _ wb ⟨rfl, hs⟩
             have HR3 := hide' (HR2.out.keep hs)
             clear hs HO1 HR2 e0 e1 e2
             have HR2 := HR3
             clear HR3
             obtain ⟨N, hN⟩ : ∃ N, N = (allS ([] : List Sg) L L1 j).length := ⟨_, rfl⟩
             have HNN := hide' hN
             have HWIN : Hid (∀ o, Win (wb.alloc o) 2 (.slice a2 N cap2) N (sc (allS ([] : List Sg) L L1 j))) := fun o => by
               have := HR2.out.sv.keep ((Stay.refl (fun _ => False) wb).alloc o)
               unfold SV at this
               rw [← hN] at this
               exact this
             have hN2 : N ≤ 10000 := by
               have h1 := HTL.out
               simp only [List.length_nil] at h1
               omega
             have HSRC : Hid (∀ ad, (some ⟨wb.heap.size, 0, none⟩ : Option Addr) = some ad → ∀ i u, (sc [⟨(j : Int) + 1, 4⟩, ⟨(j : Int) + 1, 5⟩])[i]? = some u → (wb.alloc (.cells #[.int .i64 ((j : Int) + 1), .int .i64 4, .int .i64 ((j : Int) + 1), .int .i64 5] 60)).cell? (ad.add i) = some u) := by
               intro ad e i u hu
               have hN := isRowS_new wb #[.int .i64 ((j : Int) + 1), .int .i64 4, .int .i64 ((j : Int) + 1), .int .i64 5] 60 2 2 rfl
               rcases hN with ⟨h, _⟩ | ⟨ad', cc, h, _, h3⟩
               · cases h
               · cases h
                 cases e
                 exact h3 i u hu
             rw [← hN]
             clear hN
             go_wp2_with (at_builtin; refine wpList_append_win rfl _ _ 35 rfl Try.underlying35 info60 rfl (by decide) (by decide) (HWIN.out _) rfl (m := 2) (news := sc [⟨(j : Int) + 1, 4⟩, ⟨(j : Int) + 1, 5⟩]) rfl HSRC.out (fun e => by cases e) (sc_all _) (by omega) rfl ?_; intro v2 w2 hw2 hs2 hb2; have HW2 := hide' hw2; have HS2 := hide' hs2; have HB2 := hide' hb2; clear hw2 hs2 hb2; obtain ⟨a3, cap3, hv2, _, _⟩ := HW2.out.shape; subst hv2)
             have HLE2 : Hid ((allS ([] : List Sg) L L1 (j + 1)) = (allS ([] : List Sg) L L1 j) ++ [⟨(j : Int) + 1, 4⟩, ⟨(j : Int) + 1, 5⟩]) := HEQ.out
             have HLL : Hid ((allS ([] : List Sg) L L1 (j + 1)).length = N + 2) := by show _ = _; rw [HLE2.out, List.length_append, ← HNN.out]; rfl
             have HE1 : Hid (E34 W5 b12 nx x1 L1 f (allS ([] : List Sg) L L1 (j + 1)) a3 cap3 w2) := by
               refine (HR2.out.keep ((Stay.refl (fun _ => False) wb).alloc (.cells #[.int .i64 ((j : Int) + 1), .int .i64 4, .int .i64 ((j : Int) + 1), .int .i64 5] 60))).more (HS2.out.mono (fun i _ e => by cases a2 <;> exact e)) ?_ ?_
               · have h1 := HW2.out
                 rw [← sc_append] at h1
                 unfold SV
                 rw [HLL.out, HLE2.out]
                 exact h1
               · rcases HB2.out with e | e
                 · exact .inl (fun i hi => by
                     have hi2 : (Value.slice a3 (N + 2) cap3).ownBlock = some i := by cases a3 <;> exact hi
                     rw [e] at hi2
                     cases a2 <;> exact hi2)
                 · exact .inr (fun i hi => by
                     have hi2 : (Value.slice a3 (N + 2) cap3).ownBlock = some i := by cases a3 <;> exact hi
                     rw [e] at hi2
                     cases hi2
                     rfl)
             clear HR2 HWIN HSRC HW2 HS2 HB2
             go_wp2
             go_roundg (m - (j + 1))
             case measure => omega
             case rel => exact ⟨j + 1, a3, cap3, by omega, rfl, by rw [HLL.out], by go_num, HE1⟩
           · have HEQ : Hid (allS ([] : List Sg) L L1 (j + 1) = allS ([] : List Sg) L L1 j) := allS_none (by rw [d1, d2]; rfl)
             go_wp2_with fail
             refine HO3.out.mono ?_
             rintro _ wa ⟨rfl, hs⟩
             have HR2 := hide' (HR.out.keep hs)
             clear e1
             obtain ⟨e0, e1, e2, _⟩ := HB3.out.keep HR2.out.st
             simp only [xs] at e0 e1 e2
             have ho1 := rorphan17 ((j : Int) + 1) nx (HXA1.out.keep HR2.out.st) HUP.out
             rw [← HN.out, d2] at ho1
             have HO1 := hide' ho1
             clear hs HO3 HR ho1 t0 t1 t2
             go_wp2_with fail
             refine HO1.out.mono ?_
             rintro _ wb ⟨rfl, hs⟩
             have HR3 := hide' (HR2.out.keep hs)
             clear hs HO1 HR2 e0 e1 e2
             have HR2 := HR3
             clear HR3
             go_wp2
             go_roundg (m - (j + 1))
             case measure => omega
             case rel => exact ⟨j + 1, a2, cap2, by omega, rfl, by rw [HEQ.out], by go_num, by rw [HEQ.out]; exact HR2⟩
       · have e : j = m := by omega
         subst e
         have jn : ¬ (j : Int) + 1 < nx := by have := HMX.out; omega
         obtain ⟨k0, k1, k2, r0, r1, r2⟩ := HB6.out.keep HR.out.st
         have HLX : Hid (∀ i, x1.has i → ¬ i = b4) := fun i hi => by
           rcases HF1.out i hi with e | e
           · have := HX0.out.lt i e; have := HNBL.out; omega
           · have := HLB4.out; omega
         have HW34 := hide' (show b4 < W5.heap.size from HB6.out.lt)
         clear e0 e2
         go_wp2
         have h3 := XBox.stay_put (HS9.out.trans HR.out.st) HZb4.out (.slice x1.a L1.length x1.cap) (.int .i64 nx) (.slice x1.a2 65 x1.c2)
         have hps := XBox.put_stay wr b4 (.slice x1.a L1.length x1.cap) (.int .i64 nx) (.slice x1.a2 65 x1.c2)
         have h5 := HR.out.xa.stay hps HLX.out
         have h6 := HR.out.sv.stay hps (fun i hi e => by have h7 := (HR.out.nw i hi).1; have h8 := HW34.out; have : i = b4 := e; omega)
         exact bodyPost_ret (results_x1 rfl _ _ b4 x1 _ nx _ rfl rfl ((HB6.out.keep HR.out.st).put (xs x1 _ nx))) rfl ⟨x1, a2, cap2, rfl, h5, h6, h3, HF3W.out, fun i hi => Nat.le_trans HS9.out.size (HR.out.nw i hi).1⟩

end Go.Proofs.Ytefpifnfinkbaaa
