/-
  The document lets a process be by itself, and go to a group: walked. No conditions.
-/
import Derived.Test.YtefpifnfinkbaaaF6
import Derived.ArgAppend
import Derived.Deep.DeepCutAuto
namespace Go.Proofs.Ytefpifnfinkbaaa
open Go.RowKit

variable {w : World} {x : Xr} {L : List Pr} {f : Int → Int}

theorem rsetsid29_none (y nx : Int) (h : XAt w x L f) (hx : ∀ p ∈ L, p.pid ≠ y) : Calls Try.prog 29 #[.agg #[.slice x.a L.length x.cap, .int .i64 nx, .slice x.a2 65 x.c2], .int .i64 y] w (XG2 x L nx f 5 w) := by
  obtain ⟨n, hn⟩ : ∃ n, n = L.length := ⟨_, rfl⟩
  obtain ⟨b2, hb2⟩ : ∃ b, b = w.heap.size := ⟨_, rfl⟩
  obtain ⟨Wq0, hWq0⟩ : ∃ W, W = w.alloc (.cells #[.slice x.a n x.cap, .int .i64 nx, .slice x.a2 65 x.c2] 29) := ⟨_, rfl⟩
  have hsWq0 : Stay (fun _ => False) w Wq0 := by rw [hWq0]; exact (Stay.refl _ _).alloc _
  have hpb2 : w.heap.size = b2 := by rw [hb2]
  obtain ⟨b4, hb4⟩ : ∃ b, b = w.heap.size + 1 := ⟨_, rfl⟩
  obtain ⟨W0, hW0⟩ : ∃ W, W = Wq0.alloc (.cells #[.slice none 0 0, .int .i64 0, .slice none 0 0] 29) := ⟨_, rfl⟩
  have hsW0 : Stay (fun _ => False) Wq0 W0 := by rw [hW0]; exact (Stay.refl _ _).alloc _
  have hpb4 : Wq0.heap.size = b4 := by rw [hb4]; rw [hWq0, World.size_alloc]
  have HBb2 := hide' (show XBox W0 b2 (xs x n nx) from (show XBox Wq0 b2 (xs x n nx) from (by rw [hWq0]; exact xbox_new w x n nx hpb2)).keep ((Stay.refl (fun _ => False) Wq0).trans hsW0))
  have HZb2 : Hid (w.heap.size ≤ b2) := by show _ ≤ _; omega
  have HBb4 := hide' (show XBox W0 b4 ⟨.slice none 0 0, 0, .slice none 0 0⟩ from (show XBox W0 b4 ⟨.slice none 0 0, 0, .slice none 0 0⟩ from (by rw [hW0]; exact XBox.new ⟨.slice none 0 0, 0, .slice none 0 0⟩ hpb4)).keep (Stay.refl (fun _ => False) W0))
  have HZb4 : Hid (w.heap.size ≤ b4) := by show _ ≤ _; omega
  have HS0 := hide' (((Stay.refl (fun _ => False) w).trans hsWq0).trans hsW0)
  have HW0 : Hid (W0 = ((w.alloc (.cells #[.slice x.a n x.cap, .int .i64 nx, .slice x.a2 65 x.c2] 29)).alloc (.cells #[.slice none 0 0, .int .i64 0, .slice none 0 0] 29))) := by show _ = _; rw [hW0, hWq0]
  have HXA := hide' (h.keep HS0.out)
  have HX0 := hide' h
  have HN := hide' hn
  have hn1 : (n : Int) ≤ 256 := by have := h.len; omega
  have hat := at14 y nx HXA.out
  rw [ixI_no hx, ← hn] at hat
  have HAT := hide' hat
  clear hat
  rw [← hn]
  clear h hn hx
  clear hWq0 hW0 hsWq0 hsW0 hpb2 hpb4
  obtain ⟨e0, e1, e2, _⟩ := HBb2.out
  simp only [xs] at e0 e1 e2
  go_enter Try.func29, Try.ntmps29
  go_upto_region 1 with fail
  rw [← HW0.out, ← hb4, ← hb2]
  clear HW0 hb2 hb4
  go_wp2_with fail
  refine HAT.out.mono ?_
  rintro _ w1 ⟨rfl, hs⟩
  have HB2 := hide' (HBb2.out.keep hs)
  have HB4 := hide' (HBb4.out.keep hs)
  have HS9 := hide' (HS0.out.trans hs)
  have HXA1 := hide' (HXA.out.keep hs)
  clear hs HAT HBb2 HBb4 HXA
  clear e0 e1 e2
  obtain ⟨e0, e1, e2, _⟩ := HB2.out
  simp only [xs] at e0 e1 e2
  obtain ⟨k0, k1, k2, r0, r1, r2⟩ := HB4.out
  go_wp2
  have h3 := XBox.stay_put HS9.out HZb4.out (.slice x.a n x.cap) (.int .i64 nx) (.slice x.a2 65 x.c2)
  have h5 := HX0.out.keep h3
  rw [HN.out] at h3 h5 ⊢
  exact bodyPost_ret (results_x1 rfl _ _ b4 x _ nx _ rfl rfl ( HB4.out.put (xs x _ nx))) rfl ⟨x, rfl, h5, h3, XFrom.refl _ _⟩

theorem rsetsid29_perm (y nx : Int) {i : Nat} {p : Pr} (h : XAt w x L f) (hu : Up L) (hp : L[i]? = some p) (hx : p.pid = y) (hq : L.any (fun p => p.grp == y) = true) : Calls Try.prog 29 #[.agg #[.slice x.a L.length x.cap, .int .i64 nx, .slice x.a2 65 x.c2], .int .i64 y] w (XG2 x L nx f 8 w) := by
  obtain ⟨n, hn⟩ : ∃ n, n = L.length := ⟨_, rfl⟩
  obtain ⟨b2, hb2⟩ : ∃ b, b = w.heap.size := ⟨_, rfl⟩
  obtain ⟨Wq0, hWq0⟩ : ∃ W, W = w.alloc (.cells #[.slice x.a n x.cap, .int .i64 nx, .slice x.a2 65 x.c2] 29) := ⟨_, rfl⟩
  have hsWq0 : Stay (fun _ => False) w Wq0 := by rw [hWq0]; exact (Stay.refl _ _).alloc _
  have hpb2 : w.heap.size = b2 := by rw [hb2]
  obtain ⟨b4, hb4⟩ : ∃ b, b = w.heap.size + 1 := ⟨_, rfl⟩
  obtain ⟨W0, hW0⟩ : ∃ W, W = Wq0.alloc (.cells #[.slice none 0 0, .int .i64 0, .slice none 0 0] 29) := ⟨_, rfl⟩
  have hsW0 : Stay (fun _ => False) Wq0 W0 := by rw [hW0]; exact (Stay.refl _ _).alloc _
  have hpb4 : Wq0.heap.size = b4 := by rw [hb4]; rw [hWq0, World.size_alloc]
  have HBb2 := hide' (show XBox W0 b2 (xs x n nx) from (show XBox Wq0 b2 (xs x n nx) from (by rw [hWq0]; exact xbox_new w x n nx hpb2)).keep ((Stay.refl (fun _ => False) Wq0).trans hsW0))
  have HZb2 : Hid (w.heap.size ≤ b2) := by show _ ≤ _; omega
  have HBb4 := hide' (show XBox W0 b4 ⟨.slice none 0 0, 0, .slice none 0 0⟩ from (show XBox W0 b4 ⟨.slice none 0 0, 0, .slice none 0 0⟩ from (by rw [hW0]; exact XBox.new ⟨.slice none 0 0, 0, .slice none 0 0⟩ hpb4)).keep (Stay.refl (fun _ => False) W0))
  have HZb4 : Hid (w.heap.size ≤ b4) := by show _ ≤ _; omega
  have HS0 := hide' (((Stay.refl (fun _ => False) w).trans hsWq0).trans hsW0)
  have HW0 : Hid (W0 = ((w.alloc (.cells #[.slice x.a n x.cap, .int .i64 nx, .slice x.a2 65 x.c2] 29)).alloc (.cells #[.slice none 0 0, .int .i64 0, .slice none 0 0] 29))) := by show _ = _; rw [hW0, hWq0]
  have HXA := hide' (h.keep HS0.out)
  have HX0 := hide' h
  have HN := hide' hn
  have hn1 : (n : Int) ≤ 256 := by have := h.len; omega
  have hat := at14 y nx HXA.out
  rw [ixI_at hu hp hx, ← hn] at hat
  have HAT := hide' hat
  clear hat
  have HQ := hide' hq
  rw [← hn]
  clear h hn hx hu hp hq
  clear hWq0 hW0 hsWq0 hsW0 hpb2 hpb4
  obtain ⟨e0, e1, e2, _⟩ := HBb2.out
  simp only [xs] at e0 e1 e2
  go_enter Try.func29, Try.ntmps29
  go_upto_region 1 with fail
  rw [← HW0.out, ← hb4, ← hb2]
  clear HW0 hb2 hb4
  go_wp2_with fail
  refine HAT.out.mono ?_
  rintro _ w1 ⟨rfl, hs⟩
  have HB2 := hide' (HBb2.out.keep hs)
  have HB4 := hide' (HBb4.out.keep hs)
  have HS9 := hide' (HS0.out.trans hs)
  have HXA1 := hide' (HXA.out.keep hs)
  clear hs HAT HBb2 HBb4 HXA
  clear e0 e1 e2
  have hha := fun W (hs : Stay (fun _ => False) w1 W) => has41 y 0 nx (HXA1.out.keep hs)
  rw [hasB_zero, HQ.out, ← HN.out] at hha
  have HHA := hide' hha
  clear hha
  obtain ⟨e0, e1, e2, _⟩ := HB2.out
  simp only [xs] at e0 e1 e2
  go_wp2_with fail
  refine (HHA.out _ (Stay.refl _ _)).mono ?_
  rintro _ w3 ⟨rfl, hs⟩
  have HB2' := hide' (HB2.out.keep hs)
  have HB4' := hide' (HB4.out.keep hs)
  have HS9' := hide' (HS9.out.trans hs)
  have HXA1' := hide' (HXA1.out.keep hs)
  clear hs HHA HB2 HB4 HS9 HXA1 e0 e1 e2
  have HB2 := HB2'
  have HB4 := HB4'
  have HS9 := HS9'
  have HXA1 := HXA1'
  clear HB2' HB4' HS9' HXA1'
  obtain ⟨e0, e1, e2, _⟩ := HB2.out
  simp only [xs] at e0 e1 e2
  obtain ⟨k0, k1, k2, r0, r1, r2⟩ := HB4.out
  go_wp2
  have h3 := XBox.stay_put HS9.out HZb4.out (.slice x.a n x.cap) (.int .i64 nx) (.slice x.a2 65 x.c2)
  have h5 := HX0.out.keep h3
  rw [HN.out] at h3 h5 ⊢
  exact bodyPost_ret (results_x1 rfl _ _ b4 x _ nx _ rfl rfl ( HB4.out.put (xs x _ nx))) rfl ⟨x, rfl, h5, h3, XFrom.refl _ _⟩

set_option maxRecDepth 100000 in
theorem rsetsid29 (y nx : Int) {i : Nat} {p : Pr} (h : XAt w x L f) (hu : Up L) (hp : L[i]? = some p) (hx : p.pid = y) (hq : L.any (fun p => p.grp == y) = false) : Calls Try.prog 29 #[.agg #[.slice x.a L.length x.cap, .int .i64 nx, .slice x.a2 65 x.c2], .int .i64 y] w (XG2 x (L.set i ⟨p.pid, p.par, y, y, 0, p.df⟩) nx f 0 w) := by
  obtain ⟨n, hn⟩ : ∃ n, n = L.length := ⟨_, rfl⟩
  obtain ⟨b2, hb2⟩ : ∃ b, b = w.heap.size := ⟨_, rfl⟩
  obtain ⟨Wq0, hWq0⟩ : ∃ W, W = w.alloc (.cells #[.slice x.a n x.cap, .int .i64 nx, .slice x.a2 65 x.c2] 29) := ⟨_, rfl⟩
  have hsWq0 : Stay (fun _ => False) w Wq0 := by rw [hWq0]; exact (Stay.refl _ _).alloc _
  have hpb2 : w.heap.size = b2 := by rw [hb2]
  obtain ⟨b4, hb4⟩ : ∃ b, b = w.heap.size + 1 := ⟨_, rfl⟩
  obtain ⟨W0, hW0⟩ : ∃ W, W = Wq0.alloc (.cells #[.slice none 0 0, .int .i64 0, .slice none 0 0] 29) := ⟨_, rfl⟩
  have hsW0 : Stay (fun _ => False) Wq0 W0 := by rw [hW0]; exact (Stay.refl _ _).alloc _
  have hpb4 : Wq0.heap.size = b4 := by rw [hb4]; rw [hWq0, World.size_alloc]
  have HBb2 := hide' (show XBox W0 b2 (xs x n nx) from (show XBox Wq0 b2 (xs x n nx) from (by rw [hWq0]; exact xbox_new w x n nx hpb2)).keep ((Stay.refl (fun _ => False) Wq0).trans hsW0))
  have HZb2 : Hid (w.heap.size ≤ b2) := by show _ ≤ _; omega
  have HBb4 := hide' (show XBox W0 b4 ⟨.slice none 0 0, 0, .slice none 0 0⟩ from (show XBox W0 b4 ⟨.slice none 0 0, 0, .slice none 0 0⟩ from (by rw [hW0]; exact XBox.new ⟨.slice none 0 0, 0, .slice none 0 0⟩ hpb4)).keep (Stay.refl (fun _ => False) W0))
  have HZb4 : Hid (w.heap.size ≤ b4) := by show _ ≤ _; omega
  have HS0 := hide' (((Stay.refl (fun _ => False) w).trans hsWq0).trans hsW0)
  have HW0 : Hid (W0 = ((w.alloc (.cells #[.slice x.a n x.cap, .int .i64 nx, .slice x.a2 65 x.c2] 29)).alloc (.cells #[.slice none 0 0, .int .i64 0, .slice none 0 0] 29))) := by show _ = _; rw [hW0, hWq0]
  have HXA := hide' (h.keep HS0.out)
  have HX0 := hide' h
  have HN := hide' hn
  have hn1 : (n : Int) ≤ 256 := by have := h.len; omega
  have hat := at14 y nx HXA.out
  rw [ixI_at hu hp hx, ← hn] at hat
  have HAT := hide' hat
  clear hat
  have HQ := hide' hq
  have HP := hide' hp
  have hin1 : (i : Int) < (n : Nat) := by have := (List.getElem?_eq_some_iff.1 hp).1; omega
  have HNBL : Hid (w.heap.size ≤ b4) := HZb4.out
  rw [← hn]
  clear h hn hx hu hp hq
  clear hWq0 hW0 hsWq0 hsW0 hpb2 hpb4
  obtain ⟨e0, e1, e2, _⟩ := HBb2.out
  simp only [xs] at e0 e1 e2
  go_enter Try.func29, Try.ntmps29
  go_upto_region 1 with fail
  rw [← HW0.out, ← hb4, ← hb2]
  clear HW0 hb2 hb4
  go_wp2_with fail
  refine HAT.out.mono ?_
  rintro _ w1 ⟨rfl, hs⟩
  have HB2 := hide' (HBb2.out.keep hs)
  have HB4 := hide' (HBb4.out.keep hs)
  have HS9 := hide' (HS0.out.trans hs)
  have HXA1 := hide' (HXA.out.keep hs)
  clear hs HAT HBb2 HBb4 HXA
  clear e0 e1 e2
  have hha := fun W (hs : Stay (fun _ => False) w1 W) => has41 y 0 nx (HXA1.out.keep hs)
  rw [hasB_zero, HQ.out, ← HN.out] at hha
  have HHA := hide' hha
  clear hha
  obtain ⟨e0, e1, e2, _⟩ := HB2.out
  simp only [xs] at e0 e1 e2
  go_wp2_with fail
  refine (HHA.out _ (Stay.refl _ _)).mono ?_
  rintro _ w3 ⟨rfl, hs⟩
  have HB2' := hide' (HB2.out.keep hs)
  have HB4' := hide' (HB4.out.keep hs)
  have HS9' := hide' (HS9.out.trans hs)
  have HXA1' := hide' (HXA1.out.keep hs)
  clear hs HHA HB2 HB4 HS9 HXA1 e0 e1 e2
  have HB2 := HB2'
  have HB4 := HB4'
  have HS9 := HS9'
  have HXA1 := HXA1'
  clear HB2' HB4' HS9' HXA1'
  obtain ⟨e0, e1, e2, _⟩ := HB2.out
  simp only [xs] at e0 e1 e2
  obtain ⟨g, o, hxa, hpb⟩ := HXA1.out.rd i p HP.out
  obtain ⟨d0, d1, d2, d3, d4, d5⟩ := hpb
  rw [hxa] at e0
  obtain ⟨b7, hb7⟩ : ∃ b, b = w3.heap.size := ⟨_, rfl⟩
  obtain ⟨W4, hW4⟩ : ∃ W, W = w3.alloc (.cells #[.int .i64 p.pid, .int .i64 p.par, .int .i64 y, .int .i64 y, .int .i64 0, .bool p.df] 40) := ⟨_, rfl⟩
  have hs4 : Stay (fun _ => False) w3 W4 := by rw [hW4]; exact (Stay.refl _ _).alloc _
  have HP4 : Hid (PBox W4 b7 ⟨p.pid, p.par, y, y, 0, p.df⟩) := by rw [hW4]; exact PBox.new ⟨p.pid, p.par, y, y, 0, p.df⟩ hb7.symm
  have HX4 := hide' (HB2.out.keep hs4)
  have HZ4 := hide' (HB4.out.keep hs4)
  have HS4 := hide' (HS9.out.trans hs4)
  have HXA4 := hide' (HXA1.out.keep hs4)
  have hw := with55 i ⟨p.pid, p.par, y, y, 0, p.df⟩ nx HXA4.out (List.getElem?_eq_some_iff.1 HP.out).1
  rw [← HN.out] at hw
  have HW := hide' hw
  clear hw hs4 HB2 HB4 HS9 HXA1 hxa
  go_upto_region 10 with fail
  rw [← hb7, ← hW4]
  clear hb7 hW4 e0 e1 e2 d0 d1 d2 d3 d4 d5
  obtain ⟨e0, e1, e2, _⟩ := HX4.out
  simp only [xs] at e0 e1 e2
  obtain ⟨d0, d1, d2, d3, d4, d5, _⟩ := HP4.out
  go_wp2_with fail
  refine HW.out.mono ?_
  rintro _ w5 ⟨x2, rfl, hx2, hs, hf2⟩
  have HX2 := hide' hx2
  have HB4 := hide' (HZ4.out.keep hs)
  have HS9 := hide' (HS4.out.trans hs)
  have HNB : Hid (∀ j, x2.has j → ¬ j = b4) := fun j hj => by
    rcases hf2 j hj with e | e
    · have := HX0.out.lt j e; have := HNBL.out; omega
    · have := HZ4.out.lt; omega
  have HF2 : Hid (XFrom w x x2) := fun j hj => by
    rcases hf2 j hj with e | e
    · exact .inl e
    · have := HS4.out.size; exact .inr (by omega)
  obtain ⟨n2, hn2⟩ : ∃ z, z = (L.set i ⟨p.pid, p.par, y, y, 0, p.df⟩).length := ⟨_, rfl⟩
  have HN2 := hide' hn2
  rw [← hn2]
  clear hx2 hs hf2 hn2 HW HX4 HZ4 HS4 HP4 HXA4 e0 e1 e2 d0 d1 d2 d3 d4 d5
  obtain ⟨k0, k1, k2, r0, r1, r2⟩ := HB4.out
  go_wp2
  have h3 := XBox.stay_put HS9.out HZb4.out (.slice x2.a n2 x2.cap) (.int .i64 nx) (.slice x2.a2 65 x2.c2)
  have h5 := HX2.out.stay (XBox.put_stay _ b4 (.slice x2.a n2 x2.cap) (.int .i64 nx) (.slice x2.a2 65 x2.c2)) HNB.out
  rw [HN2.out] at h3 h5 ⊢
  exact bodyPost_ret (results_x1 rfl _ _ b4 x2 _ nx _ rfl rfl ( HB4.out.put (xs x2 _ nx))) rfl ⟨x2, rfl, h5, h3, HF2.out⟩

end Go.Proofs.Ytefpifnfinkbaaa
