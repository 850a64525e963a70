/-
  The document puts a group in front: walked. No conditions.
-/
import Derived.Test.YtefpifnfinkbaaaFA
import Derived.ArgAppend
import Derived.Deep.DeepCutAuto
import Derived.Deep.CutBlock
namespace Go.Proofs.Ytefpifnfinkbaaa
open Go.RowKit

variable {w : World} {x : Xr} {L : List Pr} {f : Int → Int}

theorem rfore33_none (y t z nx : Int) (h : XAt w x L f) (hx : ∀ p ∈ L, p.pid ≠ y) : Calls Try.prog 33 #[.agg #[.slice x.a L.length x.cap, .int .i64 nx, .slice x.a2 65 x.c2], .int .i64 y, .int .i64 t, .int .i64 z] w (XG2 x L nx f 5 w) := by
  obtain ⟨n, hn⟩ : ∃ n, n = L.length := ⟨_, rfl⟩
  obtain ⟨b4, hb4⟩ : ∃ b, b = w.heap.size := ⟨_, rfl⟩
  obtain ⟨Wq0, hWq0⟩ : ∃ W, W = w.alloc (.cells #[.slice x.a n x.cap, .int .i64 nx, .slice x.a2 65 x.c2] 29) := ⟨_, rfl⟩
  have hsWq0 : Stay (fun _ => False) w Wq0 := by rw [hWq0]; exact (Stay.refl _ _).alloc _
  have hpb4 : w.heap.size = b4 := by rw [hb4]
  obtain ⟨b8, hb8⟩ : ∃ b, b = w.heap.size + 1 := ⟨_, rfl⟩
  obtain ⟨W0, hW0⟩ : ∃ W, W = Wq0.alloc (.cells #[.slice none 0 0, .int .i64 0, .slice none 0 0] 29) := ⟨_, rfl⟩
  have hsW0 : Stay (fun _ => False) Wq0 W0 := by rw [hW0]; exact (Stay.refl _ _).alloc _
  have hpb8 : Wq0.heap.size = b8 := by rw [hb8]; rw [hWq0, World.size_alloc]
  have HBb4 := hide' (show XBox W0 b4 (xs x n nx) from (show XBox Wq0 b4 (xs x n nx) from (by rw [hWq0]; exact xbox_new w x n nx hpb4)).keep ((Stay.refl (fun _ => False) Wq0).trans hsW0))
  have HZb4 : Hid (w.heap.size ≤ b4) := by show _ ≤ _; omega
  have HBb8 := hide' (show XBox W0 b8 ⟨.slice none 0 0, 0, .slice none 0 0⟩ from (show XBox W0 b8 ⟨.slice none 0 0, 0, .slice none 0 0⟩ from (by rw [hW0]; exact XBox.new ⟨.slice none 0 0, 0, .slice none 0 0⟩ hpb8)).keep (Stay.refl (fun _ => False) W0))
  have HZb8 : Hid (w.heap.size ≤ b8) := by show _ ≤ _; omega
  have HS0 := hide' (((Stay.refl (fun _ => False) w).trans hsWq0).trans hsW0)
  have HW0 : Hid (W0 = ((w.alloc (.cells #[.slice x.a n x.cap, .int .i64 nx, .slice x.a2 65 x.c2] 29)).alloc (.cells #[.slice none 0 0, .int .i64 0, .slice none 0 0] 29))) := by show _ = _; rw [hW0, hWq0]
  have HXA := hide' (h.keep HS0.out)
  have HX0 := hide' h
  have HN := hide' hn
  have hn1 : (n : Int) ≤ 256 := by have := h.len; omega
  have hat := at14 y nx HXA.out
  rw [ixI_no hx, ← hn] at hat
  have HAT := hide' hat
  clear hat
  rw [← hn]
  clear h hn hx
  clear hWq0 hW0 hsWq0 hsW0 hpb4 hpb8
  obtain ⟨e0, e1, e2, _⟩ := HBb4.out
  simp only [xs] at e0 e1 e2
  go_enter Try.func33, Try.ntmps33
  go_upto_region 1 with fail
  rw [← HW0.out, ← hb8, ← hb4]
  clear HW0 hb4 hb8
  go_wp2_with fail
  refine HAT.out.mono ?_
  rintro _ w1 ⟨rfl, hs⟩
  have HB3 := hide' (HBb4.out.keep hs)
  have HB6 := hide' (HBb8.out.keep hs)
  have HS9 := hide' (HS0.out.trans hs)
  have HXA1 := hide' (HXA.out.keep hs)
  clear hs HAT HBb4 HBb8 HXA e0 e1 e2
  obtain ⟨e0, e1, e2, _⟩ := HB3.out
  simp only [xs] at e0 e1 e2
  obtain ⟨k0, k1, k2, r0, r1, r2⟩ := HB6.out
  go_wp2
  have h3 := XBox.stay_put HS9.out HZb8.out (.slice x.a n x.cap) (.int .i64 nx) (.slice x.a2 65 x.c2)
  have h5 := HX0.out.keep h3
  rw [HN.out] at h3 h5 ⊢
  exact bodyPost_ret (results_x1 rfl _ _ b8 x _ nx _ rfl rfl ( HB6.out.put (xs x _ nx))) rfl ⟨x, rfl, h5, h3, XFrom.refl _ _⟩

theorem rfore33_zero (y t z nx : Int) {i : Nat} {p : Pr} (h : XAt w x L f) (hu : Up L) (hp : L[i]? = some p) (hx : p.pid = y) (ht : (t == 0) = true) : Calls Try.prog 33 #[.agg #[.slice x.a L.length x.cap, .int .i64 nx, .slice x.a2 65 x.c2], .int .i64 y, .int .i64 t, .int .i64 z] w (XG2 x L nx f 14 w) := by
  obtain ⟨n, hn⟩ : ∃ n, n = L.length := ⟨_, rfl⟩
  obtain ⟨b4, hb4⟩ : ∃ b, b = w.heap.size := ⟨_, rfl⟩
  obtain ⟨Wq0, hWq0⟩ : ∃ W, W = w.alloc (.cells #[.slice x.a n x.cap, .int .i64 nx, .slice x.a2 65 x.c2] 29) := ⟨_, rfl⟩
  have hsWq0 : Stay (fun _ => False) w Wq0 := by rw [hWq0]; exact (Stay.refl _ _).alloc _
  have hpb4 : w.heap.size = b4 := by rw [hb4]
  obtain ⟨b8, hb8⟩ : ∃ b, b = w.heap.size + 1 := ⟨_, rfl⟩
  obtain ⟨W0, hW0⟩ : ∃ W, W = Wq0.alloc (.cells #[.slice none 0 0, .int .i64 0, .slice none 0 0] 29) := ⟨_, rfl⟩
  have hsW0 : Stay (fun _ => False) Wq0 W0 := by rw [hW0]; exact (Stay.refl _ _).alloc _
  have hpb8 : Wq0.heap.size = b8 := by rw [hb8]; rw [hWq0, World.size_alloc]
  have HBb4 := hide' (show XBox W0 b4 (xs x n nx) from (show XBox Wq0 b4 (xs x n nx) from (by rw [hWq0]; exact xbox_new w x n nx hpb4)).keep ((Stay.refl (fun _ => False) Wq0).trans hsW0))
  have HZb4 : Hid (w.heap.size ≤ b4) := by show _ ≤ _; omega
  have HBb8 := hide' (show XBox W0 b8 ⟨.slice none 0 0, 0, .slice none 0 0⟩ from (show XBox W0 b8 ⟨.slice none 0 0, 0, .slice none 0 0⟩ from (by rw [hW0]; exact XBox.new ⟨.slice none 0 0, 0, .slice none 0 0⟩ hpb8)).keep (Stay.refl (fun _ => False) W0))
  have HZb8 : Hid (w.heap.size ≤ b8) := by show _ ≤ _; omega
  have HS0 := hide' (((Stay.refl (fun _ => False) w).trans hsWq0).trans hsW0)
  have HW0 : Hid (W0 = ((w.alloc (.cells #[.slice x.a n x.cap, .int .i64 nx, .slice x.a2 65 x.c2] 29)).alloc (.cells #[.slice none 0 0, .int .i64 0, .slice none 0 0] 29))) := by show _ = _; rw [hW0, hWq0]
  have HXA := hide' (h.keep HS0.out)
  have HX0 := hide' h
  have HN := hide' hn
  have hn1 : (n : Int) ≤ 256 := by have := h.len; omega
  have hat := at14 y nx HXA.out
  rw [ixI_at hu hp hx, ← hn] at hat
  have HAT := hide' hat
  clear hat
  have HP := hide' hp
  have hin1 : (i : Int) < (n : Nat) := by have := (List.getElem?_eq_some_iff.1 hp).1; omega
  rw [← hn]
  clear h hn hx hu hp
  clear hWq0 hW0 hsWq0 hsW0 hpb4 hpb8
  obtain ⟨e0, e1, e2, _⟩ := HBb4.out
  simp only [xs] at e0 e1 e2
  go_enter Try.func33, Try.ntmps33
  go_upto_region 1 with fail
  rw [← HW0.out, ← hb8, ← hb4]
  clear HW0 hb4 hb8
  go_wp2_with fail
  refine HAT.out.mono ?_
  rintro _ w1 ⟨rfl, hs⟩
  have HB3 := hide' (HBb4.out.keep hs)
  have HB6 := hide' (HBb8.out.keep hs)
  have HS9 := hide' (HS0.out.trans hs)
  have HXA1 := hide' (HXA.out.keep hs)
  clear hs HAT HBb4 HBb8 HXA e0 e1 e2
  obtain ⟨e0, e1, e2, _⟩ := HB3.out
  simp only [xs] at e0 e1 e2
  obtain ⟨k0, k1, k2, r0, r1, r2⟩ := HB6.out
  go_wp2
  have h3 := XBox.stay_put HS9.out HZb8.out (.slice x.a n x.cap) (.int .i64 nx) (.slice x.a2 65 x.c2)
  have h5 := HX0.out.keep h3
  rw [HN.out] at h3 h5 ⊢
  exact bodyPost_ret (results_x1 rfl _ _ b8 x _ nx _ rfl rfl ( HB6.out.put (xs x _ nx))) rfl ⟨x, rfl, h5, h3, XFrom.refl _ _⟩

theorem rfore33_tty (y t z nx : Int) {i : Nat} {p : Pr} (h : XAt w x L f) (hu : Up L) (hp : L[i]? = some p) (hx : p.pid = y) (ht : (t == 0) = false) (hy : (p.tty != t) = true) : Calls Try.prog 33 #[.agg #[.slice x.a L.length x.cap, .int .i64 nx, .slice x.a2 65 x.c2], .int .i64 y, .int .i64 t, .int .i64 z] w (XG2 x L nx f 14 w) := by
  obtain ⟨n, hn⟩ : ∃ n, n = L.length := ⟨_, rfl⟩
  obtain ⟨b4, hb4⟩ : ∃ b, b = w.heap.size := ⟨_, rfl⟩
  obtain ⟨Wq0, hWq0⟩ : ∃ W, W = w.alloc (.cells #[.slice x.a n x.cap, .int .i64 nx, .slice x.a2 65 x.c2] 29) := ⟨_, rfl⟩
  have hsWq0 : Stay (fun _ => False) w Wq0 := by rw [hWq0]; exact (Stay.refl _ _).alloc _
  have hpb4 : w.heap.size = b4 := by rw [hb4]
  obtain ⟨b8, hb8⟩ : ∃ b, b = w.heap.size + 1 := ⟨_, rfl⟩
  obtain ⟨W0, hW0⟩ : ∃ W, W = Wq0.alloc (.cells #[.slice none 0 0, .int .i64 0, .slice none 0 0] 29) := ⟨_, rfl⟩
  have hsW0 : Stay (fun _ => False) Wq0 W0 := by rw [hW0]; exact (Stay.refl _ _).alloc _
  have hpb8 : Wq0.heap.size = b8 := by rw [hb8]; rw [hWq0, World.size_alloc]
  have HBb4 := hide' (show XBox W0 b4 (xs x n nx) from (show XBox Wq0 b4 (xs x n nx) from (by rw [hWq0]; exact xbox_new w x n nx hpb4)).keep ((Stay.refl (fun _ => False) Wq0).trans hsW0))
  have HZb4 : Hid (w.heap.size ≤ b4) := by show _ ≤ _; omega
  have HBb8 := hide' (show XBox W0 b8 ⟨.slice none 0 0, 0, .slice none 0 0⟩ from (show XBox W0 b8 ⟨.slice none 0 0, 0, .slice none 0 0⟩ from (by rw [hW0]; exact XBox.new ⟨.slice none 0 0, 0, .slice none 0 0⟩ hpb8)).keep (Stay.refl (fun _ => False) W0))
  have HZb8 : Hid (w.heap.size ≤ b8) := by show _ ≤ _; omega
  have HS0 := hide' (((Stay.refl (fun _ => False) w).trans hsWq0).trans hsW0)
  have HW0 : Hid (W0 = ((w.alloc (.cells #[.slice x.a n x.cap, .int .i64 nx, .slice x.a2 65 x.c2] 29)).alloc (.cells #[.slice none 0 0, .int .i64 0, .slice none 0 0] 29))) := by show _ = _; rw [hW0, hWq0]
  have HXA := hide' (h.keep HS0.out)
  have HX0 := hide' h
  have HN := hide' hn
  have hn1 : (n : Int) ≤ 256 := by have := h.len; omega
  have hat := at14 y nx HXA.out
  rw [ixI_at hu hp hx, ← hn] at hat
  have HAT := hide' hat
  clear hat
  have HP := hide' hp
  have hin1 : (i : Int) < (n : Nat) := by have := (List.getElem?_eq_some_iff.1 hp).1; omega
  rw [← hn]
  clear h hn hx hu hp
  clear hWq0 hW0 hsWq0 hsW0 hpb4 hpb8
  obtain ⟨e0, e1, e2, _⟩ := HBb4.out
  simp only [xs] at e0 e1 e2
  go_enter Try.func33, Try.ntmps33
  go_upto_region 1 with fail
  rw [← HW0.out, ← hb8, ← hb4]
  clear HW0 hb4 hb8
  go_wp2_with fail
  refine HAT.out.mono ?_
  rintro _ w1 ⟨rfl, hs⟩
  have HB3 := hide' (HBb4.out.keep hs)
  have HB6 := hide' (HBb8.out.keep hs)
  have HS9 := hide' (HS0.out.trans hs)
  have HXA1 := hide' (HXA.out.keep hs)
  clear hs HAT HBb4 HBb8 HXA e0 e1 e2
  obtain ⟨e0, e1, e2, _⟩ := HB3.out
  simp only [xs] at e0 e1 e2
  obtain ⟨g, o, hxa, hpb⟩ := HXA1.out.rd i p HP.out
  obtain ⟨d0, d1, d2, d3, d4, d5⟩ := hpb
  have HXE := hide' hxa
  rw [hxa] at e0
  clear hxa
  obtain ⟨k0, k1, k2, r0, r1, r2⟩ := HB6.out
  go_wp2
  rw [← HXE.out]
  have h3 := XBox.stay_put HS9.out HZb8.out (.slice x.a n x.cap) (.int .i64 nx) (.slice x.a2 65 x.c2)
  have h5 := HX0.out.keep h3
  rw [HN.out] at h3 h5 ⊢
  exact bodyPost_ret (results_x1 rfl _ _ b8 x _ nx _ rfl rfl ( HB6.out.put (xs x _ nx))) rfl ⟨x, rfl, h5, h3, XFrom.refl _ _⟩

set_option maxHeartbeats 1000000 in
set_option maxRecDepth 100000 in
theorem rfore33_perm (y t z nx : Int) {i : Nat} {p : Pr} (h : XAt w x L f) (hu : Up L) (hp : L[i]? = some p) (hx : p.pid = y) (ht : (t == 0) = false) (hy : (p.tty != t) = false) (hz : p.ses ≠ 0) (hh : L.any (fun k => k.grp == z && k.ses == p.ses) = false) : Calls Try.prog 33 #[.agg #[.slice x.a L.length x.cap, .int .i64 nx, .slice x.a2 65 x.c2], .int .i64 y, .int .i64 t, .int .i64 z] w (XG2 x L nx f 8 w) := by
  obtain ⟨n, hn⟩ : ∃ n, n = L.length := ⟨_, rfl⟩
  obtain ⟨b4, hb4⟩ : ∃ b, b = w.heap.size := ⟨_, rfl⟩
  obtain ⟨Wq0, hWq0⟩ : ∃ W, W = w.alloc (.cells #[.slice x.a n x.cap, .int .i64 nx, .slice x.a2 65 x.c2] 29) := ⟨_, rfl⟩
  have hsWq0 : Stay (fun _ => False) w Wq0 := by rw [hWq0]; exact (Stay.refl _ _).alloc _
  have hpb4 : w.heap.size = b4 := by rw [hb4]
  obtain ⟨b8, hb8⟩ : ∃ b, b = w.heap.size + 1 := ⟨_, rfl⟩
  obtain ⟨W0, hW0⟩ : ∃ W, W = Wq0.alloc (.cells #[.slice none 0 0, .int .i64 0, .slice none 0 0] 29) := ⟨_, rfl⟩
  have hsW0 : Stay (fun _ => False) Wq0 W0 := by rw [hW0]; exact (Stay.refl _ _).alloc _
  have hpb8 : Wq0.heap.size = b8 := by rw [hb8]; rw [hWq0, World.size_alloc]
  have HBb4 := hide' (show XBox W0 b4 (xs x n nx) from (show XBox Wq0 b4 (xs x n nx) from (by rw [hWq0]; exact xbox_new w x n nx hpb4)).keep ((Stay.refl (fun _ => False) Wq0).trans hsW0))
  have HZb4 : Hid (w.heap.size ≤ b4) := by show _ ≤ _; omega
  have HBb8 := hide' (show XBox W0 b8 ⟨.slice none 0 0, 0, .slice none 0 0⟩ from (show XBox W0 b8 ⟨.slice none 0 0, 0, .slice none 0 0⟩ from (by rw [hW0]; exact XBox.new ⟨.slice none 0 0, 0, .slice none 0 0⟩ hpb8)).keep (Stay.refl (fun _ => False) W0))
  have HZb8 : Hid (w.heap.size ≤ b8) := by show _ ≤ _; omega
  have HS0 := hide' (((Stay.refl (fun _ => False) w).trans hsWq0).trans hsW0)
  have HW0 : Hid (W0 = ((w.alloc (.cells #[.slice x.a n x.cap, .int .i64 nx, .slice x.a2 65 x.c2] 29)).alloc (.cells #[.slice none 0 0, .int .i64 0, .slice none 0 0] 29))) := by show _ = _; rw [hW0, hWq0]
  have HXA := hide' (h.keep HS0.out)
  have HX0 := hide' h
  have HN := hide' hn
  have hn1 : (n : Int) ≤ 256 := by have := h.len; omega
  have hat := at14 y nx HXA.out
  rw [ixI_at hu hp hx, ← hn] at hat
  have HAT := hide' hat
  clear hat
  have HP := hide' hp
  have hin1 : (i : Int) < (n : Nat) := by have := (List.getElem?_eq_some_iff.1 hp).1; omega
  have HH : Hid (L.any (fun k => k.grp == z && k.ses == p.ses) = false ∧ p.ses ≠ 0) := ⟨hh, hz⟩
  clear hh hz
  rw [← hn]
  clear h hn hx hu hp
  clear hWq0 hW0 hsWq0 hsW0 hpb4 hpb8
  obtain ⟨e0, e1, e2, _⟩ := HBb4.out
  simp only [xs] at e0 e1 e2
  go_enter Try.func33, Try.ntmps33
  go_upto_region 1 with fail
  rw [← HW0.out, ← hb8, ← hb4]
  clear HW0 hb4 hb8
  go_wp2_with fail
  refine HAT.out.mono ?_
  rintro _ w1 ⟨rfl, hs⟩
  have HB3 := hide' (HBb4.out.keep hs)
  have HB6 := hide' (HBb8.out.keep hs)
  have HS9 := hide' (HS0.out.trans hs)
  have HXA1 := hide' (HXA.out.keep hs)
  clear hs HAT HBb4 HBb8 HXA e0 e1 e2
  obtain ⟨e0, e1, e2, _⟩ := HB3.out
  simp only [xs] at e0 e1 e2
  obtain ⟨g, o, hxa, hpb⟩ := HXA1.out.rd i p HP.out
  obtain ⟨d0, d1, d2, d3, d4, d5⟩ := hpb
  have HXE := hide' hxa
  rw [hxa] at e0
  clear hxa
  have HHA : Hid (∀ W, Stay (fun _ => False) w1 W → Calls Try.prog 41 #[.agg #[.slice x.a n x.cap, .int .i64 nx, .slice x.a2 65 x.c2], .int .i64 z, .int .i64 p.ses] W (Gives (.bool false) W)) := fun W hs => by
    have := has41 z p.ses nx (HXA1.out.keep hs)
    rw [hasB_other _ _ HH.out.2, HH.out.1, ← HN.out] at this
    exact this
  go_upto_region 6 with fail
  have hS : Stay (fun _ => False) w1 w1.drew := (Stay.refl _ _).drew
  refine wp_region_mix (fun w' => Stay (fun _ => False) w1 w') [(0, true), (1, true), (2, true), (3, true), (4, true), (5, true), (6, true), (7, true), (8, false), (9, true)] (by kernel_rfl) (by kernel_rfl) (fun _ d _ _ _ h => by cases d <;> exact h) hS ?_
  refine mix_begin (fun K0 hK0 => ?_)
  refine mix_take hK0 (some 30) (.load 29 (.tmp 4)) 29 _ (by kernel_rfl) (by kernel_rfl) (fun w' hS' => by exact run_load_XBox rfl rfl (HB3.out.keep hS')) (fun K1 hK1 => ?_)
  clear hK0 K0
  simp only [Act.put, lA, lZ, lS]
  refine mix_take hK1 (some 31) (.move (.tmp 3)) 3 _ (by kernel_rfl) (by kernel_rfl) (fun w' hS' => by (simp only [opr]; go_simp; try with_reducible rfl)) (fun K2 hK2 => ?_)
  clear hK1 K1
  simp only [Act.put, lA, lZ, lS]
  refine mix_take hK2 (some 32) (.fieldAddr 29 (.tmp 4) 0) 0 _ (by kernel_rfl) (by kernel_rfl) (fun w' hS' => by (simp only [opr]; go_simp; try with_reducible rfl)) (fun K3 hK3 => ?_)
  clear hK2 K2
  simp only [Act.put, lA, lZ, lS]
  refine mix_take hK3 (some 33) (.load 26 (.tmp 32)) 26 _ (by kernel_rfl) (by kernel_rfl) (fun w' hS' => by (have z0 := keep_cell hS' e0; simp only [opr]; go_simp; try with_reducible rfl)) (fun K4 hK4 => ?_)
  clear hK3 K3
  simp only [Act.put, lA, lZ, lS]
  refine mix_take hK4 (some 34) (.move (.tmp 10)) 3 _ (by kernel_rfl) (by kernel_rfl) (fun w' hS' => by (simp only [opr]; go_simp; try with_reducible rfl)) (fun K5 hK5 => ?_)
  clear hK4 K4
  simp only [Act.put, lA, lZ, lS]
  refine mix_take hK5 (some 35) (.indexAddr 26 (.tmp 33) (.tmp 34)) 0 _ (by kernel_rfl) (by kernel_rfl) (fun w' hS' => by (simp only [opr]; go_simp; try with_reducible rfl)) (fun K6 hK6 => ?_)
  clear hK5 K5
  simp only [Act.put, lA, lZ, lS]
  refine mix_take hK6 (some 36) (.fieldAddr 40 (.tmp 35) 3) 0 _ (by kernel_rfl) (by kernel_rfl) (fun w' hS' => by (simp only [opr]; go_simp; try with_reducible rfl)) (fun K7 hK7 => ?_)
  clear hK6 K6
  simp only [Act.put, lA, lZ, lS]
  refine mix_take hK7 (some 37) (.load 3 (.tmp 36)) 3 _ (by kernel_rfl) (by kernel_rfl) (fun w' hS' => by (have z0 := keep_cell hS' d3; simp only [opr]; go_simp; try with_reducible rfl)) (fun K8 hK8 => ?_)
  clear hK7 K7
  simp only [Act.put, lA, lZ, lS]
  refine mix_call hK8 (some 38) 41 #[.tmp 30, .tmp 31, .tmp 37] #[29, 3, 3] 4 _ (by kernel_rfl) (by kernel_rfl) (enters Try.func41 (by kernel_rfl) (by kernel_rfl)) (by go_simp; try with_reducible rfl) (fun K9 hK9 => ?_)
  clear hK8 K8
  refine (HHA.out _ hS).mono ?_
  rintro e wm1 ⟨rfl, hs1⟩
  have hS1 : _ := hS.trans hs1
  refine ⟨_, rfl, hS1, ?_⟩
  clear hs1
  simp only [Act.put, lA, lZ, lS]
  refine mix_take hK9 (some 39) (.unOp UnOp.not 4 (.tmp 38)) 4 _ (by kernel_rfl) (by kernel_rfl) (fun w' hS' => by (simp only [opr]; go_simp; try with_reducible rfl)) (fun K10 hK10 => ?_)
  clear hK9 K9
  simp only [Act.put, lA, lZ, lS]
  refine hK10 _ _ (mix_nil ?_)
  clear hK10 K10
  obtain ⟨w3, hw3⟩ : ∃ W, W = wm1 := ⟨_, rfl⟩
  have HB3' := hide' (HB3.out.keep hS1)
  have HB6' := hide' (HB6.out.keep hS1)
  have HS9' := hide' (HS9.out.trans hS1)
  have HXA1' := hide' (HXA1.out.keep hS1)
  rw [← hw3] at HB3' HB6' HS9' HXA1' ⊢
  clear hw3 hS hS1 HHA e0 e1 e2 d0 d1 d2 d3 d4 d5
  clear HB3
  have HB3 := HB3'
  clear HB3'
  clear HB6
  have HB6 := HB6'
  clear HB6'
  clear HS9
  have HS9 := HS9'
  clear HS9'
  clear HXA1
  have HXA1 := HXA1'
  clear HXA1'
  obtain ⟨e0, e1, e2, _⟩ := HB3.out
  simp only [xs] at e0 e1 e2
  obtain ⟨k0, k1, k2, r0, r1, r2⟩ := HB6.out
  go_wp2
  have h3 := XBox.stay_put HS9.out HZb8.out (.slice x.a n x.cap) (.int .i64 nx) (.slice x.a2 65 x.c2)
  have h5 := HX0.out.keep h3
  rw [HN.out] at h3 h5 ⊢
  exact bodyPost_ret (results_x1 rfl _ _ b8 x _ nx _ rfl rfl ( HB6.out.put (xs x _ nx))) rfl ⟨x, rfl, h5, h3, XFrom.refl _ _⟩

set_option maxHeartbeats 1000000 in
set_option maxRecDepth 100000 in
theorem rfore33 (y t z nx : Int) {i : Nat} {p : Pr} (h : XAt w x L f) (hu : Up L) (hp : L[i]? = some p) (hx : p.pid = y) (h1 : 1 ≤ t) (h2 : t ≤ 64) (ht : (t == 0) = false) (hy : (p.tty != t) = false) (hz : p.ses ≠ 0) (hh : L.any (fun k => k.grp == z && k.ses == p.ses) = true) : Calls Try.prog 33 #[.agg #[.slice x.a L.length x.cap, .int .i64 nx, .slice x.a2 65 x.c2], .int .i64 y, .int .i64 t, .int .i64 z] w (XG2 x L nx (upd f t z) 0 w) := by
  obtain ⟨k, rfl⟩ : ∃ k : Nat, t = (k : Int) := ⟨t.toNat, by omega⟩
  have HK : Hid (k < 65) := by show _ < _; omega
  clear h1 h2
  obtain ⟨n, hn⟩ : ∃ n, n = L.length := ⟨_, rfl⟩
  obtain ⟨b4, hb4⟩ : ∃ b, b = w.heap.size := ⟨_, rfl⟩
  obtain ⟨Wq0, hWq0⟩ : ∃ W, W = w.alloc (.cells #[.slice x.a n x.cap, .int .i64 nx, .slice x.a2 65 x.c2] 29) := ⟨_, rfl⟩
  have hsWq0 : Stay (fun _ => False) w Wq0 := by rw [hWq0]; exact (Stay.refl _ _).alloc _
  have hpb4 : w.heap.size = b4 := by rw [hb4]
  obtain ⟨b8, hb8⟩ : ∃ b, b = w.heap.size + 1 := ⟨_, rfl⟩
  obtain ⟨W0, hW0⟩ : ∃ W, W = Wq0.alloc (.cells #[.slice none 0 0, .int .i64 0, .slice none 0 0] 29) := ⟨_, rfl⟩
  have hsW0 : Stay (fun _ => False) Wq0 W0 := by rw [hW0]; exact (Stay.refl _ _).alloc _
  have hpb8 : Wq0.heap.size = b8 := by rw [hb8]; rw [hWq0, World.size_alloc]
  have HBb4 := hide' (show XBox W0 b4 (xs x n nx) from (show XBox Wq0 b4 (xs x n nx) from (by rw [hWq0]; exact xbox_new w x n nx hpb4)).keep ((Stay.refl (fun _ => False) Wq0).trans hsW0))
  have HZb4 : Hid (w.heap.size ≤ b4) := by show _ ≤ _; omega
  have HBb8 := hide' (show XBox W0 b8 ⟨.slice none 0 0, 0, .slice none 0 0⟩ from (show XBox W0 b8 ⟨.slice none 0 0, 0, .slice none 0 0⟩ from (by rw [hW0]; exact XBox.new ⟨.slice none 0 0, 0, .slice none 0 0⟩ hpb8)).keep (Stay.refl (fun _ => False) W0))
  have HZb8 : Hid (w.heap.size ≤ b8) := by show _ ≤ _; omega
  have HS0 := hide' (((Stay.refl (fun _ => False) w).trans hsWq0).trans hsW0)
  have HW0 : Hid (W0 = ((w.alloc (.cells #[.slice x.a n x.cap, .int .i64 nx, .slice x.a2 65 x.c2] 29)).alloc (.cells #[.slice none 0 0, .int .i64 0, .slice none 0 0] 29))) := by show _ = _; rw [hW0, hWq0]
  have HNBL : Hid (w.heap.size ≤ b8) := HZb8.out
  have HXA := hide' (h.keep HS0.out)
  have HX0 := hide' h
  have HN := hide' hn
  have hn1 : (n : Int) ≤ 256 := by have := h.len; omega
  have hat := at14 y nx HXA.out
  rw [ixI_at hu hp hx, ← hn] at hat
  have HAT := hide' hat
  clear hat
  have HP := hide' hp
  have hin1 : (i : Int) < (n : Nat) := by have := (List.getElem?_eq_some_iff.1 hp).1; omega
  have HH : Hid (L.any (fun k => k.grp == z && k.ses == p.ses) = true ∧ p.ses ≠ 0) := ⟨hh, hz⟩
  clear hh hz
  rw [← hn]
  clear h hn hx hu hp
  clear hWq0 hW0 hsWq0 hsW0 hpb4 hpb8
  obtain ⟨e0, e1, e2, _⟩ := HBb4.out
  simp only [xs] at e0 e1 e2
  go_enter Try.func33, Try.ntmps33
  go_upto_region 1 with fail
  rw [← HW0.out, ← hb8, ← hb4]
  clear HW0 hb4 hb8
  go_wp2_with fail
  refine HAT.out.mono ?_
  rintro _ w1 ⟨rfl, hs⟩
  have HB3 := hide' (HBb4.out.keep hs)
  have HB6 := hide' (HBb8.out.keep hs)
  have HS9 := hide' (HS0.out.trans hs)
  have HXA1 := hide' (HXA.out.keep hs)
  clear hs HAT HBb4 HBb8 HXA e0 e1 e2
  obtain ⟨e0, e1, e2, _⟩ := HB3.out
  simp only [xs] at e0 e1 e2
  obtain ⟨g, o, hxa, hpb⟩ := HXA1.out.rd i p HP.out
  obtain ⟨d0, d1, d2, d3, d4, d5⟩ := hpb
  have HXE := hide' hxa
  rw [hxa] at e0
  clear hxa
  have HHA : Hid (∀ W, Stay (fun _ => False) w1 W → Calls Try.prog 41 #[.agg #[.slice x.a n x.cap, .int .i64 nx, .slice x.a2 65 x.c2], .int .i64 z, .int .i64 p.ses] W (Gives (.bool true) W)) := fun W hs => by
    have := has41 z p.ses nx (HXA1.out.keep hs)
    rw [hasB_other _ _ HH.out.2, HH.out.1, ← HN.out] at this
    exact this
  go_upto_region 6 with fail
  have hS : Stay (fun _ => False) w1 w1.drew := (Stay.refl _ _).drew
  refine wp_region_mix (fun w' => Stay (fun _ => False) w1 w') [(0, true), (1, true), (2, true), (3, true), (4, true), (5, true), (6, true), (7, true), (8, false), (9, true)] (by kernel_rfl) (by kernel_rfl) (fun _ d _ _ _ h => by cases d <;> exact h) hS ?_
  refine mix_begin (fun K0 hK0 => ?_)
  refine mix_take hK0 (some 30) (.load 29 (.tmp 4)) 29 _ (by kernel_rfl) (by kernel_rfl) (fun w' hS' => by exact run_load_XBox rfl rfl (HB3.out.keep hS')) (fun K1 hK1 => ?_)
  clear hK0 K0
  simp only [Act.put, lA, lZ, lS]
  refine mix_take hK1 (some 31) (.move (.tmp 3)) 3 _ (by kernel_rfl) (by kernel_rfl) (fun w' hS' => by (simp only [opr]; go_simp; try with_reducible rfl)) (fun K2 hK2 => ?_)
  clear hK1 K1
  simp only [Act.put, lA, lZ, lS]
  refine mix_take hK2 (some 32) (.fieldAddr 29 (.tmp 4) 0) 0 _ (by kernel_rfl) (by kernel_rfl) (fun w' hS' => by (simp only [opr]; go_simp; try with_reducible rfl)) (fun K3 hK3 => ?_)
  clear hK2 K2
  simp only [Act.put, lA, lZ, lS]
  refine mix_take hK3 (some 33) (.load 26 (.tmp 32)) 26 _ (by kernel_rfl) (by kernel_rfl) (fun w' hS' => by (have z0 := keep_cell hS' e0; simp only [opr]; go_simp; try with_reducible rfl)) (fun K4 hK4 => ?_)
  clear hK3 K3
  simp only [Act.put, lA, lZ, lS]
  refine mix_take hK4 (some 34) (.move (.tmp 10)) 3 _ (by kernel_rfl) (by kernel_rfl) (fun w' hS' => by (simp only [opr]; go_simp; try with_reducible rfl)) (fun K5 hK5 => ?_)
  clear hK4 K4
  simp only [Act.put, lA, lZ, lS]
  refine mix_take hK5 (some 35) (.indexAddr 26 (.tmp 33) (.tmp 34)) 0 _ (by kernel_rfl) (by kernel_rfl) (fun w' hS' => by (simp only [opr]; go_simp; try with_reducible rfl)) (fun K6 hK6 => ?_)
  clear hK5 K5
  simp only [Act.put, lA, lZ, lS]
  refine mix_take hK6 (some 36) (.fieldAddr 40 (.tmp 35) 3) 0 _ (by kernel_rfl) (by kernel_rfl) (fun w' hS' => by (simp only [opr]; go_simp; try with_reducible rfl)) (fun K7 hK7 => ?_)
  clear hK6 K6
  simp only [Act.put, lA, lZ, lS]
  refine mix_take hK7 (some 37) (.load 3 (.tmp 36)) 3 _ (by kernel_rfl) (by kernel_rfl) (fun w' hS' => by (have z0 := keep_cell hS' d3; simp only [opr]; go_simp; try with_reducible rfl)) (fun K8 hK8 => ?_)
  clear hK7 K7
  simp only [Act.put, lA, lZ, lS]
  refine mix_call hK8 (some 38) 41 #[.tmp 30, .tmp 31, .tmp 37] #[29, 3, 3] 4 _ (by kernel_rfl) (by kernel_rfl) (enters Try.func41 (by kernel_rfl) (by kernel_rfl)) (by go_simp; try with_reducible rfl) (fun K9 hK9 => ?_)
  clear hK8 K8
  refine (HHA.out _ hS).mono ?_
  rintro e wm1 ⟨rfl, hs1⟩
  have hS1 : _ := hS.trans hs1
  refine ⟨_, rfl, hS1, ?_⟩
  clear hs1
  simp only [Act.put, lA, lZ, lS]
  refine mix_take hK9 (some 39) (.unOp UnOp.not 4 (.tmp 38)) 4 _ (by kernel_rfl) (by kernel_rfl) (fun w' hS' => by (simp only [opr]; go_simp; try with_reducible rfl)) (fun K10 hK10 => ?_)
  clear hK9 K9
  simp only [Act.put, lA, lZ, lS]
  refine hK10 _ _ (mix_nil ?_)
  clear hK10 K10
  obtain ⟨w3, hw3⟩ : ∃ W, W = wm1 := ⟨_, rfl⟩
  have HB3' := hide' (HB3.out.keep hS1)
  have HB6' := hide' (HB6.out.keep hS1)
  have HS9' := hide' (HS9.out.trans hS1)
  have HXA1' := hide' (HXA1.out.keep hS1)
  rw [← hw3] at HB3' HB6' HS9' HXA1' ⊢
  clear hw3 hS hS1 HHA e0 e1 e2 d0 d1 d2 d3 d4 d5
  clear HB3
  have HB3 := HB3'
  clear HB3'
  clear HB6
  have HB6 := HB6'
  clear HB6'
  clear HS9
  have HS9 := HS9'
  clear HS9'
  clear HXA1
  have HXA1 := HXA1'
  clear HXA1'
  have hft := front57 k z nx HXA1.out HK.out
  rw [← HN.out] at hft
  have HFT := hide' hft
  obtain ⟨e0, e1, e2, _⟩ := HB3.out
  simp only [xs] at e0 e1 e2
  clear hft
  go_wp2_with fail
  refine HFT.out.mono ?_
  rintro _ w5 ⟨x2, rfl, hx2, hs, hf2⟩
  have HX2 := hide' hx2
  have HNB : Hid (∀ j, x2.has j → ¬ j = b8) := fun j hj => by
    rcases hf2 j hj with e | e
    · have := HX0.out.lt j e; have := HNBL.out; omega
    · have := HB6.out.lt; omega
  have HF2 : Hid (XFrom w x x2) := fun j hj => by
    rcases hf2 j hj with e | e
    · exact .inl e
    · have := HS9.out.size; exact .inr (by omega)
  have HB6' := hide' (HB6.out.keep hs)
  have HS9' := hide' (HS9.out.trans hs)
  rw [← HN.out]
  clear hx2 hs hf2 HFT HB3 HXA1 e0 e1 e2
  clear HB6
  have HB6 := HB6'
  clear HB6'
  clear HS9
  have HS9 := HS9'
  clear HS9'
  obtain ⟨k0, k1, k2, r0, r1, r2⟩ := HB6.out
  go_wp2
  have h3 := XBox.stay_put HS9.out HZb8.out (.slice x2.a n x2.cap) (.int .i64 nx) (.slice x2.a2 65 x2.c2)
  have h5 := HX2.out.stay (XBox.put_stay _ b8 (.slice x2.a n x2.cap) (.int .i64 nx) (.slice x2.a2 65 x2.c2)) HNB.out
  rw [HN.out] at h3 h5 ⊢
  exact bodyPost_ret (results_x1 rfl _ _ b8 x2 _ nx _ rfl rfl (HB6.out.put (xs x2 _ nx))) rfl ⟨x2, rfl, h5, h3, HF2.out⟩
end Go.Proofs.Ytefpifnfinkbaaa
