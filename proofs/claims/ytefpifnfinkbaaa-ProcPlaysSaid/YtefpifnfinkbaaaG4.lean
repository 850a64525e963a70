/-
  A terminal hangs up, as the document says; the first table: walked. No conditions.
  The document's first table: walked. No conditions.
-/
import Derived.Test.YtefpifnfinkbaaaFF
import Derived.ArgAppend
import Derived.Deep.DeepCutAuto
import Derived.Deep.CutBlock
namespace Go.Proofs.Ytefpifnfinkbaaa
open Go.RowKit

variable {w : World} {x : Xr} {L : List Pr} {f : Int → Int}

theorem rhang35_none (t nx : Int) (h : XAt w x L f) (hz : sesI L t = 0) : Calls Try.prog 35 #[.agg #[.slice x.a L.length x.cap, .int .i64 nx, .slice x.a2 65 x.c2], .int .i64 t] w (XG4 x L nx f [] w) := by
  obtain ⟨n, hn⟩ : ∃ n, n = L.length := ⟨_, rfl⟩
  obtain ⟨b2, hb2⟩ : ∃ b, b = w.heap.size := ⟨_, rfl⟩
  obtain ⟨Wq0, hWq0⟩ : ∃ W, W = w.alloc (.cells #[.slice x.a n x.cap, .int .i64 nx, .slice x.a2 65 x.c2] 29) := ⟨_, rfl⟩
  have hsWq0 : Stay (fun _ => False) w Wq0 := by rw [hWq0]; exact (Stay.refl _ _).alloc _
  have hpb2 : w.heap.size = b2 := by rw [hb2]
  obtain ⟨b4, hb4⟩ : ∃ b, b = w.heap.size + 1 := ⟨_, rfl⟩
  obtain ⟨W0, hW0⟩ : ∃ W, W = Wq0.alloc (.cells #[.slice none 0 0, .int .i64 0, .slice none 0 0] 29) := ⟨_, rfl⟩
  have hsW0 : Stay (fun _ => False) Wq0 W0 := by rw [hW0]; exact (Stay.refl _ _).alloc _
  have hpb4 : Wq0.heap.size = b4 := by rw [hb4]; rw [hWq0, World.size_alloc]
  have HBb2 := hide' (show XBox W0 b2 (xs x n nx) from (show XBox Wq0 b2 (xs x n nx) from (by rw [hWq0]; exact xbox_new w x n nx hpb2)).keep ((Stay.refl (fun _ => False) Wq0).trans hsW0))
  have HZb2 : Hid (w.heap.size ≤ b2) := by show _ ≤ _; omega
  have HBb4 := hide' (show XBox W0 b4 ⟨.slice none 0 0, 0, .slice none 0 0⟩ from (show XBox W0 b4 ⟨.slice none 0 0, 0, .slice none 0 0⟩ from (by rw [hW0]; exact XBox.new ⟨.slice none 0 0, 0, .slice none 0 0⟩ hpb4)).keep (Stay.refl (fun _ => False) W0))
  have HZb4 : Hid (w.heap.size ≤ b4) := by show _ ≤ _; omega
  have HS0 := hide' (((Stay.refl (fun _ => False) w).trans hsWq0).trans hsW0)
  have HW0 : Hid (W0 = ((w.alloc (.cells #[.slice x.a n x.cap, .int .i64 nx, .slice x.a2 65 x.c2] 29)).alloc (.cells #[.slice none 0 0, .int .i64 0, .slice none 0 0] 29))) := by show _ = _; rw [hW0, hWq0]
  have HXA := hide' (h.keep HS0.out)
  have HX0 := hide' h
  have HN := hide' hn
  have hn1 : (n : Int) ≤ 256 := by have := h.len; omega
  have hse := session56 t nx HXA.out
  rw [hz, ← hn] at hse
  have HAT := hide' hse
  clear hse
  rw [← hn]
  clear h hn hz
  clear hWq0 hW0 hsWq0 hsW0 hpb2 hpb4
  obtain ⟨e0, e1, e2, _⟩ := HBb2.out
  simp only [xs] at e0 e1 e2
  go_enter Try.func35, Try.ntmps35
  go_upto_region 1 with fail
  rw [← HW0.out, ← hb4, ← hb2]
  clear HW0 hb2 hb4
  go_wp2_with fail
  refine HAT.out.mono ?_
  rintro _ w1 ⟨rfl, hs⟩
  have HB3 := hide' (HBb2.out.keep hs)
  have HB6 := hide' (HBb4.out.keep hs)
  have HS9 := hide' (HS0.out.trans hs)
  have HXA1 := hide' (HXA.out.keep hs)
  clear hs HAT HBb2 HBb4 HXA e0 e1 e2
  obtain ⟨e0, e1, e2, _⟩ := HB3.out
  simp only [xs] at e0 e1 e2
  obtain ⟨k0, k1, k2, r0, r1, r2⟩ := HB6.out
  go_wp2
  have h3 := XBox.stay_put HS9.out HZb4.out (.slice x.a n x.cap) (.int .i64 nx) (.slice x.a2 65 x.c2)
  have h5 := HX0.out.keep h3
  rw [HN.out] at h3 h5 ⊢
  exact bodyPost_ret (results_x1 rfl _ _ b4 x _ nx _ rfl rfl (HB6.out.put (xs x _ nx))) rfl ⟨x, none, 0, rfl, h5, SV.nil _, h3, XFrom.refl _ _, fun j hj => by cases hj⟩

set_option maxHeartbeats 1000000 in
set_option maxRecDepth 100000 in
theorem rhang35_no (t nx z : Int) (h : XAt w x L f) (h1 : 1 ≤ t) (h2 : t ≤ 64) (hz : sesI L t = z) (z0 : (z == 0) = false) (L3 : List Pr) (hL3 : L3 = L.map (giveS z 0)) (hh : L3.any (fun p => p.grp == f t) = false) : Calls Try.prog 35 #[.agg #[.slice x.a L.length x.cap, .int .i64 nx, .slice x.a2 65 x.c2], .int .i64 t] w (XG4 x L3 nx (upd f t 0) ([] : List Sg) w) := by
  obtain ⟨n, hn⟩ : ∃ n, n = L.length := ⟨_, rfl⟩
  obtain ⟨b2, hb2⟩ : ∃ b, b = w.heap.size := ⟨_, rfl⟩
  obtain ⟨Wq0, hWq0⟩ : ∃ W, W = w.alloc (.cells #[.slice x.a n x.cap, .int .i64 nx, .slice x.a2 65 x.c2] 29) := ⟨_, rfl⟩
  have hsWq0 : Stay (fun _ => False) w Wq0 := by rw [hWq0]; exact (Stay.refl _ _).alloc _
  have hpb2 : w.heap.size = b2 := by rw [hb2]
  obtain ⟨b4, hb4⟩ : ∃ b, b = w.heap.size + 1 := ⟨_, rfl⟩
  obtain ⟨W0, hW0⟩ : ∃ W, W = Wq0.alloc (.cells #[.slice none 0 0, .int .i64 0, .slice none 0 0] 29) := ⟨_, rfl⟩
  have hsW0 : Stay (fun _ => False) Wq0 W0 := by rw [hW0]; exact (Stay.refl _ _).alloc _
  have hpb4 : Wq0.heap.size = b4 := by rw [hb4]; rw [hWq0, World.size_alloc]
  have HBb2 := hide' (show XBox W0 b2 (xs x n nx) from (show XBox Wq0 b2 (xs x n nx) from (by rw [hWq0]; exact xbox_new w x n nx hpb2)).keep ((Stay.refl (fun _ => False) Wq0).trans hsW0))
  have HZb2 : Hid (w.heap.size ≤ b2) := by show _ ≤ _; omega
  have HBb4 := hide' (show XBox W0 b4 ⟨.slice none 0 0, 0, .slice none 0 0⟩ from (show XBox W0 b4 ⟨.slice none 0 0, 0, .slice none 0 0⟩ from (by rw [hW0]; exact XBox.new ⟨.slice none 0 0, 0, .slice none 0 0⟩ hpb4)).keep (Stay.refl (fun _ => False) W0))
  have HZb4 : Hid (w.heap.size ≤ b4) := by show _ ≤ _; omega
  have HS0 := hide' (((Stay.refl (fun _ => False) w).trans hsWq0).trans hsW0)
  have HW0 : Hid (W0 = ((w.alloc (.cells #[.slice x.a n x.cap, .int .i64 nx, .slice x.a2 65 x.c2] 29)).alloc (.cells #[.slice none 0 0, .int .i64 0, .slice none 0 0] 29))) := by show _ = _; rw [hW0, hWq0]
  have HLB4 : Hid (b4 < W0.heap.size) := HBb4.out.lt
  have HNBL : Hid (w.heap.size ≤ b4) := HZb4.out
  have HXA := hide' (h.keep HS0.out)
  have HX0 := hide' h
  have HN := hide' hn
  have hn1 : (n : Int) ≤ 256 := by have := h.len; omega
  have hse := session56 t nx HXA.out
  rw [hz, ← hn] at hse
  have HAT := hide' hse
  clear hse
  obtain ⟨kt, hkt⟩ : ∃ k : Nat, t = (k : Int) := ⟨t.toNat, by omega⟩
  have HKT := hide' hkt
  have HK65 : Hid (kt < 65 ∧ 1 ≤ t ∧ t ≤ 64) := ⟨by omega, h1, h2⟩
  have HHH := hide' hh
  have HQ3 := hide' hL3
  rw [← hn]
  clear h hn hz hkt h1 h2 hh hL3
  clear hWq0 hW0 hsWq0 hsW0 hpb2 hpb4
  obtain ⟨e0, e1, e2, _⟩ := HBb2.out
  simp only [xs] at e0 e1 e2
  go_enter Try.func35, Try.ntmps35
  go_upto_region 1 with fail
  rw [← HW0.out, ← hb4, ← hb2]
  clear HW0 hb2 hb4
  go_wp2_with fail
  refine HAT.out.mono ?_
  rintro _ w1 ⟨rfl, hs⟩
  have HB3 := hide' (HBb2.out.keep hs)
  have HB6 := hide' (HBb4.out.keep hs)
  have HS9 := hide' (HS0.out.trans hs)
  have HXA1 := hide' (HXA.out.keep hs)
  clear hs HAT HBb2 HBb4 HXA e0 e1 e2
  obtain ⟨e0, e1, e2, _⟩ := HB3.out
  simp only [xs] at e0 e1 e2
  have hfr := front19 t nx HXA1.out (fun hh => absurd ⟨HK65.out.2.1, HK65.out.2.2⟩ hh)
  rw [← HN.out] at hfr
  have HFR := hide' hfr
  clear hfr
  go_wp2_with fail
  refine HFR.out.mono ?_
  rintro _ w2 ⟨rfl, hs⟩
  have HB3' := hide' (HB3.out.keep hs)
  have HB6' := hide' (HB6.out.keep hs)
  have HS9' := hide' (HS9.out.trans hs)
  have HXA1' := hide' (HXA1.out.keep hs)
  clear hs HFR e0 e1 e2
  clear HB3
  have HB3 := HB3'
  clear HB3'
  clear HB6
  have HB6 := HB6'
  clear HB6'
  clear HS9
  have HS9 := HS9'
  clear HS9'
  clear HXA1
  have HXA1 := HXA1'
  clear HXA1'
  obtain ⟨e0, e1, e2, _⟩ := HB3.out
  simp only [xs] at e0 e1 e2
  have hgv := give58 z 0 nx HXA1.out
  rw [← HN.out, ← HQ3.out] at hgv
  have HGV := hide' hgv
  clear hgv
  go_wp2_with fail
  refine HGV.out.mono ?_
  rintro _ w5 ⟨x2, rfl, hx2, hs, hf2⟩
  have HFT : Hid (Calls Try.prog 57 #[.agg #[.slice x2.a L3.length x2.cap, .int .i64 nx, .slice x2.a2 65 x2.c2], .int .i64 t, .int .i64 0] w5 (XGives x2 L3 nx (upd f t 0) w5)) := by
    have hft := front57 kt 0 nx hx2 HK65.out.1
    rw [← HKT.out] at hft
    exact hft
  have HB6' := hide' (HB6.out.keep hs)
  have HS9' := hide' (HS9.out.trans hs)
  have HFA := hide' hf2
  have HSZ1 := hide' hs.size
  have HSZ2 := hide' HS9.out.size
  have HLB2 : Hid (b4 < w2.heap.size) := HB6.out.lt
  clear hx2 hs hf2 HGV e0 e1 e2
  clear HB6
  have HB6 := HB6'
  clear HB6'
  clear HS9
  have HS9 := HS9'
  clear HS9'
  go_wp2_with fail
  refine HFT.out.mono ?_
  rintro _ w6 ⟨x3, rfl, hx3, hs, hf3⟩
  have HB6' := hide' (HB6.out.keep hs)
  have HX3 := hide' hx3
  have HF3W : Hid (XFrom w x x3) := fun j hj => by
    have hz := HSZ1.out
    have hz2 := HSZ2.out
    rcases hf3 j hj with e | e
    · rcases HFA.out j e with e | e
      · exact .inl e
      · exact .inr (by omega)
    · exact .inr (by omega)
  have HNB : Hid (∀ j, x3.has j → ¬ j = b4) := fun j hj => by
    have hz := HSZ1.out
    have hb := HLB2.out
    rcases hf3 j hj with e | e
    · rcases HFA.out j e with e | e
      · have := HX0.out.lt j e; have := HNBL.out; omega
      · omega
    · omega
  have HS9' := hide' (HS9.out.trans hs)
  clear hx3 hs hf3 HFT HFA
  clear HB6
  have HB6 := HB6'
  clear HB6'
  clear HS9
  have HS9 := HS9'
  clear HS9'
  obtain ⟨b8, hb8⟩ : ∃ b, b = w6.heap.size := ⟨_, rfl⟩
  obtain ⟨W8, hW8⟩ : ∃ W, W = w6.alloc (.cells #[.slice x3.a L3.length x3.cap, .int .i64 nx, .slice x3.a2 65 x3.c2] 29) := ⟨_, rfl⟩
  have hs8 : Stay (fun _ => False) w6 W8 := by rw [hW8]; exact (Stay.refl _ _).alloc _
  have HB8 : Hid (XBox W8 b8 (xs x3 L3.length nx)) := by rw [hW8]; exact xbox_new w6 x3 L3.length nx hb8.symm
  have HX8 := hide' (HX3.out.keep hs8)
  have HB68 := hide' (HB6.out.keep hs8)
  have HS98 := hide' (HS9.out.trans hs8)
  clear hs8 HB6 HS9 HX3
  go_upto_region 6 with fail
  rw [← hb8, ← hW8]
  clear hb8 hW8
  have hha := has41 (f t) 0 nx HX8.out
  rw [hasB_zero, HHH.out] at hha
  have HHA := hide' hha
  obtain ⟨t0, t1, t2, _⟩ := HB8.out
  simp only [xs] at t0 t1 t2
  clear hha
  go_wp2_with fail
  refine HHA.out.mono ?_
  rintro _ w9 ⟨rfl, hs⟩
  have HX9 := hide' (HX8.out.keep hs)
  have HB69 := hide' (HB68.out.keep hs)
  have HS99 := hide' (HS98.out.trans hs)
  have HB9 := hide' (HB8.out.keep hs)
  clear hs HHA t0 t1 t2 HB8 HX8 HB68 HS98
  obtain ⟨t0, t1, t2, _⟩ := HB9.out
  simp only [xs] at t0 t1 t2
  obtain ⟨k0, k1, k2, r0, r1, r2⟩ := HB69.out
  go_wp2
  have h3 := XBox.stay_put HS99.out HZb4.out (.slice x3.a L3.length x3.cap) (.int .i64 nx) (.slice x3.a2 65 x3.c2)
  have hps := XBox.put_stay w9 b4 (.slice x3.a L3.length x3.cap) (.int .i64 nx) (.slice x3.a2 65 x3.c2)
  have h5 := HX9.out.stay hps HNB.out
  exact bodyPost_ret (results_x1 rfl _ _ b4 x3 _ nx _ rfl rfl (HB69.out.put (xs x3 _ nx))) rfl ⟨x3, none, 0, rfl, h5, SV.nil _, h3, HF3W.out, fun j hj => by cases hj⟩

set_option maxHeartbeats 1000000 in
set_option maxRecDepth 100000 in
theorem rhang35_has (t nx z : Int) (h : XAt w x L f) (h1 : 1 ≤ t) (h2 : t ≤ 64) (hz : sesI L t = z) (z0 : (z == 0) = false) (L3 : List Pr) (hL3 : L3 = L.map (giveS z 0)) (hh : L3.any (fun p => p.grp == f t) = true) : Calls Try.prog 35 #[.agg #[.slice x.a L.length x.cap, .int .i64 nx, .slice x.a2 65 x.c2], .int .i64 t] w (XG4 x L3 nx (upd f t 0) ([⟨f t, 4⟩, ⟨f t, 5⟩] : List Sg) w) := by
  obtain ⟨n, hn⟩ : ∃ n, n = L.length := ⟨_, rfl⟩
  obtain ⟨b2, hb2⟩ : ∃ b, b = w.heap.size := ⟨_, rfl⟩
  obtain ⟨Wq0, hWq0⟩ : ∃ W, W = w.alloc (.cells #[.slice x.a n x.cap, .int .i64 nx, .slice x.a2 65 x.c2] 29) := ⟨_, rfl⟩
  have hsWq0 : Stay (fun _ => False) w Wq0 := by rw [hWq0]; exact (Stay.refl _ _).alloc _
  have hpb2 : w.heap.size = b2 := by rw [hb2]
  obtain ⟨b4, hb4⟩ : ∃ b, b = w.heap.size + 1 := ⟨_, rfl⟩
  obtain ⟨W0, hW0⟩ : ∃ W, W = Wq0.alloc (.cells #[.slice none 0 0, .int .i64 0, .slice none 0 0] 29) := ⟨_, rfl⟩
  have hsW0 : Stay (fun _ => False) Wq0 W0 := by rw [hW0]; exact (Stay.refl _ _).alloc _
  have hpb4 : Wq0.heap.size = b4 := by rw [hb4]; rw [hWq0, World.size_alloc]
  have HBb2 := hide' (show XBox W0 b2 (xs x n nx) from (show XBox Wq0 b2 (xs x n nx) from (by rw [hWq0]; exact xbox_new w x n nx hpb2)).keep ((Stay.refl (fun _ => False) Wq0).trans hsW0))
  have HZb2 : Hid (w.heap.size ≤ b2) := by show _ ≤ _; omega
  have HBb4 := hide' (show XBox W0 b4 ⟨.slice none 0 0, 0, .slice none 0 0⟩ from (show XBox W0 b4 ⟨.slice none 0 0, 0, .slice none 0 0⟩ from (by rw [hW0]; exact XBox.new ⟨.slice none 0 0, 0, .slice none 0 0⟩ hpb4)).keep (Stay.refl (fun _ => False) W0))
  have HZb4 : Hid (w.heap.size ≤ b4) := by show _ ≤ _; omega
  have HS0 := hide' (((Stay.refl (fun _ => False) w).trans hsWq0).trans hsW0)
  have HW0 : Hid (W0 = ((w.alloc (.cells #[.slice x.a n x.cap, .int .i64 nx, .slice x.a2 65 x.c2] 29)).alloc (.cells #[.slice none 0 0, .int .i64 0, .slice none 0 0] 29))) := by show _ = _; rw [hW0, hWq0]
  have HLB4 : Hid (b4 < W0.heap.size) := HBb4.out.lt
  have HNBL : Hid (w.heap.size ≤ b4) := HZb4.out
  have HXA := hide' (h.keep HS0.out)
  have HX0 := hide' h
  have HN := hide' hn
  have hn1 : (n : Int) ≤ 256 := by have := h.len; omega
  have hse := session56 t nx HXA.out
  rw [hz, ← hn] at hse
  have HAT := hide' hse
  clear hse
  obtain ⟨kt, hkt⟩ : ∃ k : Nat, t = (k : Int) := ⟨t.toNat, by omega⟩
  have HKT := hide' hkt
  have HK65 : Hid (kt < 65 ∧ 1 ≤ t ∧ t ≤ 64) := ⟨by omega, h1, h2⟩
  have HHH := hide' hh
  have HQ3 := hide' hL3
  rw [← hn]
  clear h hn hz hkt h1 h2 hh hL3
  clear hWq0 hW0 hsWq0 hsW0 hpb2 hpb4
  obtain ⟨e0, e1, e2, _⟩ := HBb2.out
  simp only [xs] at e0 e1 e2
  go_enter Try.func35, Try.ntmps35
  go_upto_region 1 with fail
  rw [← HW0.out, ← hb4, ← hb2]
  clear HW0 hb2 hb4
  go_wp2_with fail
  refine HAT.out.mono ?_
  rintro _ w1 ⟨rfl, hs⟩
  have HB3 := hide' (HBb2.out.keep hs)
  have HB6 := hide' (HBb4.out.keep hs)
  have HS9 := hide' (HS0.out.trans hs)
  have HXA1 := hide' (HXA.out.keep hs)
  clear hs HAT HBb2 HBb4 HXA e0 e1 e2
  obtain ⟨e0, e1, e2, _⟩ := HB3.out
  simp only [xs] at e0 e1 e2
  have hfr := front19 t nx HXA1.out (fun hh => absurd ⟨HK65.out.2.1, HK65.out.2.2⟩ hh)
  rw [← HN.out] at hfr
  have HFR := hide' hfr
  clear hfr
  go_wp2_with fail
  refine HFR.out.mono ?_
  rintro _ w2 ⟨rfl, hs⟩
  have HB3' := hide' (HB3.out.keep hs)
  have HB6' := hide' (HB6.out.keep hs)
  have HS9' := hide' (HS9.out.trans hs)
  have HXA1' := hide' (HXA1.out.keep hs)
  clear hs HFR e0 e1 e2
  clear HB3
  have HB3 := HB3'
  clear HB3'
  clear HB6
  have HB6 := HB6'
  clear HB6'
  clear HS9
  have HS9 := HS9'
  clear HS9'
  clear HXA1
  have HXA1 := HXA1'
  clear HXA1'
  obtain ⟨e0, e1, e2, _⟩ := HB3.out
  simp only [xs] at e0 e1 e2
  have hgv := give58 z 0 nx HXA1.out
  rw [← HN.out, ← HQ3.out] at hgv
  have HGV := hide' hgv
  clear hgv
  go_wp2_with fail
  refine HGV.out.mono ?_
  rintro _ w5 ⟨x2, rfl, hx2, hs, hf2⟩
  have HFT : Hid (Calls Try.prog 57 #[.agg #[.slice x2.a L3.length x2.cap, .int .i64 nx, .slice x2.a2 65 x2.c2], .int .i64 t, .int .i64 0] w5 (XGives x2 L3 nx (upd f t 0) w5)) := by
    have hft := front57 kt 0 nx hx2 HK65.out.1
    rw [← HKT.out] at hft
    exact hft
  have HB6' := hide' (HB6.out.keep hs)
  have HS9' := hide' (HS9.out.trans hs)
  have HFA := hide' hf2
  have HSZ1 := hide' hs.size
  have HSZ2 := hide' HS9.out.size
  have HLB2 : Hid (b4 < w2.heap.size) := HB6.out.lt
  clear hx2 hs hf2 HGV e0 e1 e2
  clear HB6
  have HB6 := HB6'
  clear HB6'
  clear HS9
  have HS9 := HS9'
  clear HS9'
  go_wp2_with fail
  refine HFT.out.mono ?_
  rintro _ w6 ⟨x3, rfl, hx3, hs, hf3⟩
  have HB6' := hide' (HB6.out.keep hs)
  have HX3 := hide' hx3
  have HF3W : Hid (XFrom w x x3) := fun j hj => by
    have hz := HSZ1.out
    have hz2 := HSZ2.out
    rcases hf3 j hj with e | e
    · rcases HFA.out j e with e | e
      · exact .inl e
      · exact .inr (by omega)
    · exact .inr (by omega)
  have HNB : Hid (∀ j, x3.has j → ¬ j = b4) := fun j hj => by
    have hz := HSZ1.out
    have hb := HLB2.out
    rcases hf3 j hj with e | e
    · rcases HFA.out j e with e | e
      · have := HX0.out.lt j e; have := HNBL.out; omega
      · omega
    · omega
  have HS9' := hide' (HS9.out.trans hs)
  clear hx3 hs hf3 HFT HFA
  clear HB6
  have HB6 := HB6'
  clear HB6'
  clear HS9
  have HS9 := HS9'
  clear HS9'
  obtain ⟨b8, hb8⟩ : ∃ b, b = w6.heap.size := ⟨_, rfl⟩
  obtain ⟨W8, hW8⟩ : ∃ W, W = w6.alloc (.cells #[.slice x3.a L3.length x3.cap, .int .i64 nx, .slice x3.a2 65 x3.c2] 29) := ⟨_, rfl⟩
  have hs8 : Stay (fun _ => False) w6 W8 := by rw [hW8]; exact (Stay.refl _ _).alloc _
  have HB8 : Hid (XBox W8 b8 (xs x3 L3.length nx)) := by rw [hW8]; exact xbox_new w6 x3 L3.length nx hb8.symm
  have HX8 := hide' (HX3.out.keep hs8)
  have HB68 := hide' (HB6.out.keep hs8)
  have HS98 := hide' (HS9.out.trans hs8)
  clear hs8 HB6 HS9 HX3
  go_upto_region 6 with fail
  rw [← hb8, ← hW8]
  clear hb8 hW8
  have hha := has41 (f t) 0 nx HX8.out
  rw [hasB_zero, HHH.out] at hha
  have HHA := hide' hha
  obtain ⟨t0, t1, t2, _⟩ := HB8.out
  simp only [xs] at t0 t1 t2
  clear hha
  go_wp2_with fail
  refine HHA.out.mono ?_
  rintro _ w9 ⟨rfl, hs⟩
  have HX9 := hide' (HX8.out.keep hs)
  have HB69 := hide' (HB68.out.keep hs)
  have HS99 := hide' (HS98.out.trans hs)
  have HB9 := hide' (HB8.out.keep hs)
  clear hs HHA t0 t1 t2 HB8 HX8 HB68 HS98
  obtain ⟨bq, hbq⟩ : ∃ b, b = w9.heap.size := ⟨_, rfl⟩
  obtain ⟨wq, hwq⟩ : ∃ W, W = w9.alloc (.cells #[.int .i64 (f t), .int .i64 4, .int .i64 (f t), .int .i64 5] 60) := ⟨_, rfl⟩
  have hsq : Stay (fun _ => False) w9 wq := by rw [hwq]; exact (Stay.refl _ _).alloc _
  have HSV : Hid (SV wq (some ⟨bq, 0, none⟩) 2 [⟨f t, 4⟩, ⟨f t, 5⟩]) := by rw [hwq, hbq]; exact SV.made w9 [⟨f t, 4⟩, ⟨f t, 5⟩] (by show 2 ≤ maxLen; decide)
  have HBQ := hide' hbq
  have HWQ := hide' hwq
  have HXQ := hide' (HX9.out.keep hsq)
  have HSQ := hide' (HS99.out.trans hsq)
  have HBQ4 := hide' (HB69.out.keep hsq)
  have HNE : Hid (¬ bq = b4) := by have := HB69.out.lt; show ¬ _; omega
  have HBZ : Hid (w.heap.size ≤ bq) := by show _ ≤ _; rw [hbq]; exact HS99.out.size
  have k := HBQ4.out
  rw [hwq] at k
  obtain ⟨k0, k1, k2, r0, r1, r2⟩ := k
  obtain ⟨t0, t1, t2, _⟩ := HB9.out
  simp only [xs] at t0 t1 t2
  clear hsq hbq hwq
  go_wp2
  rw [← HBQ.out, ← HWQ.out]
  have h3 := XBox.stay_put HSQ.out HZb4.out (.slice x3.a L3.length x3.cap) (.int .i64 nx) (.slice x3.a2 65 x3.c2)
  have hps := XBox.put_stay wq b4 (.slice x3.a L3.length x3.cap) (.int .i64 nx) (.slice x3.a2 65 x3.c2)
  have h5 := HXQ.out.stay hps HNB.out
  have h6 := HSV.out.stay hps (fun j hj e => by cases hj; exact HNE.out e)
  exact bodyPost_ret (results_x1 rfl _ _ b4 x3 _ nx _ rfl rfl (HBQ4.out.put (xs x3 _ nx))) rfl ⟨x3, some ⟨bq, 0, none⟩, 2, rfl, h5, h6, h3, HF3W.out, fun j hj => by cases hj; exact HBZ.out⟩

end Go.Proofs.Ytefpifnfinkbaaa

namespace Go.Proofs.Ytefpifnfinkbaaa
open Go.RowKit

variable {w : World}

/-- Sixty-five zeros. -/
def zs65 : Array Value := Array.replicate 65 (.int .i64 0)

theorem make27 (w : World) : (Instr.makeSlice 27 (.int .i64 65) (.int .i64 65)).run Try.prog w = .ok (.slice (some ⟨w.heap.size, 0, none⟩) 65 65) (w.alloc (.cells zs65 3)) := by kernel_rfl

theorem zs65_at (w : World) (k : Nat) (hk : k < 65) : (w.alloc (.cells zs65 3)).cell? ⟨w.heap.size, k, none⟩ = some (.int .i64 0) := by
  rw [cell_of_row _ _ _ _ _ (0, 0) (heap_alloc_new w _)]
  show zs65[k]? = _
  unfold zs65
  rw [Array.getElem?_replicate, if_pos hk]

theorem rnew9 : Calls Try.prog 9 #[] w (fun e w' => ∃ x : Xr, e = .returned (.agg #[.slice x.a 1 x.cap, .int .i64 2, .slice x.a2 65 x.c2]) ∧ XAt w' x [⟨1, 0, 1, 1, 0, false⟩] (fun _ => 0) ∧ Stay (fun _ => False) w w' ∧ ∀ j, x.has j → w.heap.size ≤ j) := by
  obtain ⟨b0, hb0⟩ : ∃ b, b = w.heap.size := ⟨_, rfl⟩
  obtain ⟨W0, hW0⟩ : ∃ W, W = w.alloc (.cells #[.slice none 0 0, .int .i64 0, .slice none 0 0] 29) := ⟨_, rfl⟩
  have hs0 : Stay (fun _ => False) w W0 := by rw [hW0]; exact (Stay.refl _ _).alloc _
  have HZ : Hid (XBox W0 b0 ⟨.slice none 0 0, 0, .slice none 0 0⟩) := by rw [hW0]; exact XBox.new ⟨.slice none 0 0, 0, .slice none 0 0⟩ hb0.symm
  obtain ⟨b1, hb1⟩ : ∃ b, b = W0.heap.size := ⟨_, rfl⟩
  obtain ⟨W1, hW1⟩ : ∃ W, W = W0.alloc (.cells #[.int .i64 1, .int .i64 0, .int .i64 1, .int .i64 1, .int .i64 0, .bool false] 40) := ⟨_, rfl⟩
  have hs1 : Stay (fun _ => False) W0 W1 := by rw [hW1]; exact (Stay.refl _ _).alloc _
  have hws : Ws W1 (some ⟨b1, 0, none⟩) 1 1 [⟨1, 0, 1, 1, 0, false⟩] := by
    have h := owns_newS W0 #[.int .i64 1, .int .i64 0, .int .i64 1, .int .i64 1, .int .i64 0, .bool false] 40 6 1 rfl (by decide)
    rw [← hW1, ← hb1] at h
    obtain ⟨a, cap, e, hw, _⟩ := Ws.of_owns (L := [⟨1, 0, 1, 1, 0, false⟩]) h
    cases e
    exact hw
  obtain ⟨b2, hb2⟩ : ∃ b, b = W1.heap.size := ⟨_, rfl⟩
  obtain ⟨W2, hW2⟩ : ∃ W, W = W1.alloc (.cells zs65 3) := ⟨_, rfl⟩
  have hs2 : Stay (fun _ => False) W1 W2 := by rw [hW2]; exact (Stay.refl _ _).alloc _
  have hfr : ∀ k : Nat, k < 65 → W2.cell? ⟨b2, k, none⟩ = some (.int .i64 0) := fun k hk => by rw [hW2, hb2]; exact zs65_at W1 k hk
  have HFR := hide' hfr
  have HWS := hide' (hws.keep hs2)
  have HS0 := hide' ((hs0.trans hs1).trans hs2)
  have HZ2 := hide' (HZ.out.keep (hs1.trans hs2))
  have hz1 : b1 = b0 + 1 := by rw [hb1, hW0, World.size_alloc, hb0]
  have hz2 : b2 = b0 + 2 := by rw [hb2, hW1, World.size_alloc, ← hb1, hz1]
  have HNE : Hid (¬ b1 = b0 ∧ ¬ b2 = b0 ∧ w.heap.size ≤ b0 ∧ w.heap.size ≤ b1 ∧ w.heap.size ≤ b2 ∧ b2 < W2.heap.size) := by
    refine ⟨by omega, by omega, by omega, by omega, by omega, ?_⟩
    rw [hW2, World.size_alloc, ← hb2]
    exact Nat.lt_succ_self _
  have HW2 := hide' hW2
  have HB2 := hide' (show b2 = b1 + 1 by omega)
  have HW1 := hide' hW1
  have HB1 := hide' hb1
  have k := HZ2.out
  rw [hW2, hW1] at k
  have hmk : ∀ w : World, (Instr.makeSlice 27 (.int .i64 65) (.int .i64 65)).run Try.prog w = .ok (.slice (some ⟨w.heap.size, 0, none⟩) 65 65) (w.alloc (.cells zs65 3)) := make27
  clear hs0 hs1 hs2 hws hfr hb1 hW1 hb2 hW2 hz1 hz2
  go_enter Try.func9, Try.ntmps9
  go_upto_region 1 with fail
  rw [← hb0, ← hW0]
  clear hb0 hW0 HZ
  obtain ⟨k0, k1, k2, r0, r1, r2⟩ := k
  go_wp2
  rw [← HW1.out, ← HB1.out, ← HW2.out, ← HB2.out]
  have h3 : Stay (fun _ => False) w _ := XBox.stay_put HS0.out HNE.out.2.2.1 (.slice (some ⟨b1, 0, none⟩) 1 1) (.int .i64 2) (.slice (some ⟨b2, 0, none⟩) 65 65)
  have hps := XBox.put_stay W2 b0 (.slice (some ⟨b1, 0, none⟩) 1 1) (.int .i64 2) (.slice (some ⟨b2, 0, none⟩) 65 65)
  have hx : XAt W2 ⟨some ⟨b1, 0, none⟩, 1, some ⟨b2, 0, none⟩, 65⟩ [⟨1, 0, 1, 1, 0, false⟩] (fun _ => 0) :=
    ⟨HWS.out.rd, (fun e => by cases e), (show 1 ≤ 1 by decide), (show 1 ≤ maxLen by decide), (show 1 ≤ 256 by decide), ⟨b2, rfl, fun k hk => HFR.out k hk⟩, (show 65 ≤ 65 by decide), (show 65 ≤ maxLen by decide), fun j hj => by
      rcases hj with e | e
      · exact HWS.out.lt j e
      · cases e; exact HNE.out.2.2.2.2.2⟩
  exact bodyPost_ret (results_xs rfl _ _ b0 ⟨some ⟨b1, 0, none⟩, 1, some ⟨b2, 0, none⟩, 65⟩ 1 2 rfl (HZ2.out.put (xs ⟨some ⟨b1, 0, none⟩, 1, some ⟨b2, 0, none⟩, 65⟩ 1 2))) rfl ⟨_, rfl, hx.stay hps (fun j hj e => by
    have e2 : j = b0 := e
    rcases hj with e | e
    · cases e; exact HNE.out.1 e2
    · cases e; exact HNE.out.2.1 e2), h3, fun j hj => by
    rcases hj with e | e
    · cases e; exact HNE.out.2.2.2.1
    · cases e; exact HNE.out.2.2.2.2.1⟩

end Go.Proofs.Ytefpifnfinkbaaa
