/-
  The document lets a process go to a group: walked. No conditions.
-/
import Derived.Test.YtefpifnfinkbaaaF7
import Derived.ArgAppend
import Derived.Deep.DeepCutAuto
import Derived.Deep.CutBlock
namespace Go.Proofs.Ytefpifnfinkbaaa
open Go.RowKit

variable {w : World} {x : Xr} {L : List Pr} {f : Int → Int}

set_option maxRecDepth 100000 in
theorem rsetpgid30_nop (y1 y0 g0 y nx : Int) (h : XAt w x L f) (_hu : Up L) (hy : orI y0 y1 = y) (hx : ∀ p ∈ L, p.pid ≠ y1) : Calls Try.prog 30 #[.agg #[.slice x.a L.length x.cap, .int .i64 nx, .slice x.a2 65 x.c2], .int .i64 y1, .int .i64 y0, .int .i64 g0] w (XG2 x L nx f 5 w) := by
  obtain ⟨n, hn⟩ : ∃ n, n = L.length := ⟨_, rfl⟩
  obtain ⟨b4, hb4⟩ : ∃ b, b = w.heap.size := ⟨_, rfl⟩
  obtain ⟨Wq0, hWq0⟩ : ∃ W, W = w.alloc (.cells #[.slice x.a n x.cap, .int .i64 nx, .slice x.a2 65 x.c2] 29) := ⟨_, rfl⟩
  have hsWq0 : Stay (fun _ => False) w Wq0 := by rw [hWq0]; exact (Stay.refl _ _).alloc _
  have hpb4 : w.heap.size = b4 := by rw [hb4]
  obtain ⟨b8, hb8⟩ : ∃ b, b = w.heap.size + 1 := ⟨_, rfl⟩
  obtain ⟨W0, hW0⟩ : ∃ W, W = Wq0.alloc (.cells #[.slice none 0 0, .int .i64 0, .slice none 0 0] 29) := ⟨_, rfl⟩
  have hsW0 : Stay (fun _ => False) Wq0 W0 := by rw [hW0]; exact (Stay.refl _ _).alloc _
  have hpb8 : Wq0.heap.size = b8 := by rw [hb8]; rw [hWq0, World.size_alloc]
  have HBb4 := hide' (show XBox W0 b4 (xs x n nx) from (show XBox Wq0 b4 (xs x n nx) from (by rw [hWq0]; exact xbox_new w x n nx hpb4)).keep ((Stay.refl (fun _ => False) Wq0).trans hsW0))
  have HZb4 : Hid (w.heap.size ≤ b4) := by show _ ≤ _; omega
  have HBb8 := hide' (show XBox W0 b8 ⟨.slice none 0 0, 0, .slice none 0 0⟩ from (show XBox W0 b8 ⟨.slice none 0 0, 0, .slice none 0 0⟩ from (by rw [hW0]; exact XBox.new ⟨.slice none 0 0, 0, .slice none 0 0⟩ hpb8)).keep (Stay.refl (fun _ => False) W0))
  have HZb8 : Hid (w.heap.size ≤ b8) := by show _ ≤ _; omega
  have HS0 := hide' (((Stay.refl (fun _ => False) w).trans hsWq0).trans hsW0)
  have HW0 : Hid (W0 = ((w.alloc (.cells #[.slice x.a n x.cap, .int .i64 nx, .slice x.a2 65 x.c2] 29)).alloc (.cells #[.slice none 0 0, .int .i64 0, .slice none 0 0] 29))) := by show _ = _; rw [hW0, hWq0]
  have HXA := hide' (h.keep HS0.out)
  have HX0 := hide' h
  have HN := hide' hn
  have hn1 : (n : Int) ≤ 256 := by have := h.len; omega
  have HA1 := hide' (fun W (hs : Stay (fun _ => False) W0 W) => (by have hat := at14 y1 nx (HXA.out.keep hs); rw [ixI_no hx, ← HN.out] at hat; exact hat : Calls Try.prog 14 #[.agg #[.slice x.a n x.cap, .int .i64 nx, .slice x.a2 65 x.c2], .int .i64 y1] W (Gives (.int .i64 (-1)) W)))
  have HA2 := hide' (fun W (hs : Stay (fun _ => False) W0 W) => (by have hat := at14 y nx (HXA.out.keep hs); rw [show ixI L y = ixI L y from rfl, ← HN.out] at hat; exact hat : Calls Try.prog 14 #[.agg #[.slice x.a n x.cap, .int .i64 nx, .slice x.a2 65 x.c2], .int .i64 y] W (Gives (.int .i64 (ixI L y)) W)))
  have HY := hide' hy
  clear hy
  rw [← hn]
  clear h hn _hu hx
  clear hWq0 hW0 hsWq0 hsW0 hpb4 hpb8
  obtain ⟨e0, e1, e2, _⟩ := HBb4.out
  simp only [xs] at e0 e1 e2
  go_enter Try.func30, Try.ntmps30
  go_upto_region 1 with fail
  rw [← HW0.out, ← hb8, ← hb4]
  clear HW0 hb4 hb8
  go_upto_if 14 with fail
  go_cut [2] (fun s2 wx => s2 = .int .i64 y ∧ wx = W0)
  case first =>
    by_cases h0 : y0 = 0
    · have d0 : (y0 == 0) = true := beq_iff_eq.2 h0
      have HE : Hid (y1 = y) := by have := HY.out; unfold orI at this; rw [if_pos h0] at this; exact this
      clear h0
      go_wp2
      go_meet
      exact ⟨by rw [← HE.out], rfl⟩
    · have d0 : (y0 == 0) = false := beq_eq_false_iff_ne.2 h0
      have HE : Hid (y0 = y) := by have := HY.out; unfold orI at this; rw [if_neg h0] at this; exact this
      clear h0
      go_wp2
      go_meet
      exact ⟨by rw [← HE.out], rfl⟩
  case rest =>
    obtain ⟨rfl, hwc⟩ := hcut
    rw [hwc]
    clear hwc
    clear HY e0 e1 e2
    go_upto_region 3 with fail
    have hS : Stay (fun _ => False) W0 W0.drew := (Stay.refl _ _).drew
    refine wp_region_mix (fun w' => Stay (fun _ => False) W0 w') [(0, true), (1, true), (3, true), (4, true), (2, false), (5, false), (6, true), (7, true)] (by kernel_rfl) (by kernel_rfl) (fun _ d _ _ _ h => by cases d <;> exact h) hS ?_
    refine mix_begin (fun K0 hK0 => ?_)
    refine mix_take hK0 (some 16) (.load 29 (.tmp 4)) 29 _ (by kernel_rfl) (by kernel_rfl) (fun w' hS' => by exact run_load_XBox rfl rfl (HBb4.out.keep hS')) (fun K1 hK1 => ?_)
    clear hK0 K0
    simp only [Act.put, lA, lZ, lS]
    refine mix_take hK1 (some 17) (.move (.tmp 1)) 3 _ (by kernel_rfl) (by kernel_rfl) (fun w' hS' => by (simp only [opr]; go_simp; try with_reducible rfl)) (fun K2 hK2 => ?_)
    clear hK1 K1
    simp only [Act.put, lA, lZ, lS]
    refine mix_take hK2 (some 19) (.load 29 (.tmp 4)) 29 _ (by kernel_rfl) (by kernel_rfl) (fun w' hS' => by exact run_load_XBox rfl rfl (HBb4.out.keep hS')) (fun K3 hK3 => ?_)
    clear hK2 K2
    simp only [Act.put, lA, lZ, lS]
    refine mix_take hK3 (some 20) (.move (.tmp 2)) 3 _ (by kernel_rfl) (by kernel_rfl) (fun w' hS' => by (simp only [opr]; go_simp; try with_reducible rfl)) (fun K4 hK4 => ?_)
    clear hK3 K3
    simp only [Act.put, lA, lZ, lS]
    refine mix_call hK4 (some 18) 14 #[.tmp 16, .tmp 17] #[29, 3] 3 _ (by kernel_rfl) (by kernel_rfl) (enters Try.func14 (by kernel_rfl) (by kernel_rfl)) (by go_simp; try with_reducible rfl) (fun K5 hK5 => ?_)
    clear hK4 K4
    refine (HA1.out _ hS).mono ?_
    rintro e wm1 ⟨rfl, hs1⟩
    have hS1 : _ := hS.trans hs1
    refine ⟨_, rfl, hS1, ?_⟩
    clear hs1
    simp only [Act.put, lA, lZ, lS]
    refine mix_call hK5 (some 21) 14 #[.tmp 19, .tmp 20] #[29, 3] 3 _ (by kernel_rfl) (by kernel_rfl) (enters Try.func14 (by kernel_rfl) (by kernel_rfl)) (by go_simp; try with_reducible rfl) (fun K6 hK6 => ?_)
    clear hK5 K5
    refine (HA2.out _ hS1).mono ?_
    rintro e wm2 ⟨rfl, hs2⟩
    have hS2 : _ := hS1.trans hs2
    refine ⟨_, rfl, hS2, ?_⟩
    clear hs2
    simp only [Act.put, lA, lZ, lS]
    refine mix_take hK6 (some 10) (.assign (.tmp 18)) 3 _ (by kernel_rfl) (by kernel_rfl) (fun w' hS' => by (simp only [opr]; go_simp; try with_reducible rfl)) (fun K7 hK7 => ?_)
    clear hK6 K6
    simp only [Act.put, lA, lZ, lS]
    refine mix_take hK7 (some 11) (.assign (.tmp 21)) 3 _ (by kernel_rfl) (by kernel_rfl) (fun w' hS' => by (simp only [opr]; go_simp; try with_reducible rfl)) (fun K8 hK8 => ?_)
    clear hK7 K7
    simp only [Act.put, lA, lZ, lS]
    refine hK8 _ _ (mix_nil ?_)
    clear hK8 K8
    obtain ⟨w3, hw3⟩ : ∃ W, W = wm2 := ⟨_, rfl⟩
    have HB4 := hide' (HBb4.out.keep hS2)
    have HB8 := hide' (HBb8.out.keep hS2)
    have HS9 := hide' (HS0.out.trans hS2)
    have HXA1 := hide' (HXA.out.keep hS2)
    rw [← hw3] at HB4 HB8 HS9 HXA1 ⊢
    clear hw3 hS hS2 hS1 HA1 HA2 HBb4 HBb8 HXA
    obtain ⟨e0, e1, e2, _⟩ := HB4.out
    simp only [xs] at e0 e1 e2
    obtain ⟨k0, k1, k2, r0, r1, r2⟩ := HB8.out
    go_wp2
    have h3 := XBox.stay_put HS9.out HZb8.out (.slice x.a n x.cap) (.int .i64 nx) (.slice x.a2 65 x.c2)
    have h5 := HX0.out.keep h3
    rw [HN.out] at h3 h5 ⊢
    exact bodyPost_ret (results_x1 rfl _ _ b8 x _ nx _ rfl rfl (HB8.out.put (xs x _ nx))) rfl ⟨x, rfl, h5, h3, XFrom.refl _ _⟩

set_option maxRecDepth 100000 in
theorem rsetpgid30_now (y1 y0 g0 y nx : Int) (h : XAt w x L f) (hu : Up L) (hy : orI y0 y1 = y) {i : Nat} {p : Pr} (hp : L[i]? = some p) (hx : p.pid = y1) (hny : ∀ p ∈ L, p.pid ≠ y) : Calls Try.prog 30 #[.agg #[.slice x.a L.length x.cap, .int .i64 nx, .slice x.a2 65 x.c2], .int .i64 y1, .int .i64 y0, .int .i64 g0] w (XG2 x L nx f 5 w) := by
  obtain ⟨n, hn⟩ : ∃ n, n = L.length := ⟨_, rfl⟩
  obtain ⟨b4, hb4⟩ : ∃ b, b = w.heap.size := ⟨_, rfl⟩
  obtain ⟨Wq0, hWq0⟩ : ∃ W, W = w.alloc (.cells #[.slice x.a n x.cap, .int .i64 nx, .slice x.a2 65 x.c2] 29) := ⟨_, rfl⟩
  have hsWq0 : Stay (fun _ => False) w Wq0 := by rw [hWq0]; exact (Stay.refl _ _).alloc _
  have hpb4 : w.heap.size = b4 := by rw [hb4]
  obtain ⟨b8, hb8⟩ : ∃ b, b = w.heap.size + 1 := ⟨_, rfl⟩
  obtain ⟨W0, hW0⟩ : ∃ W, W = Wq0.alloc (.cells #[.slice none 0 0, .int .i64 0, .slice none 0 0] 29) := ⟨_, rfl⟩
  have hsW0 : Stay (fun _ => False) Wq0 W0 := by rw [hW0]; exact (Stay.refl _ _).alloc _
  have hpb8 : Wq0.heap.size = b8 := by rw [hb8]; rw [hWq0, World.size_alloc]
  have HBb4 := hide' (show XBox W0 b4 (xs x n nx) from (show XBox Wq0 b4 (xs x n nx) from (by rw [hWq0]; exact xbox_new w x n nx hpb4)).keep ((Stay.refl (fun _ => False) Wq0).trans hsW0))
  have HZb4 : Hid (w.heap.size ≤ b4) := by show _ ≤ _; omega
  have HBb8 := hide' (show XBox W0 b8 ⟨.slice none 0 0, 0, .slice none 0 0⟩ from (show XBox W0 b8 ⟨.slice none 0 0, 0, .slice none 0 0⟩ from (by rw [hW0]; exact XBox.new ⟨.slice none 0 0, 0, .slice none 0 0⟩ hpb8)).keep (Stay.refl (fun _ => False) W0))
  have HZb8 : Hid (w.heap.size ≤ b8) := by show _ ≤ _; omega
  have HS0 := hide' (((Stay.refl (fun _ => False) w).trans hsWq0).trans hsW0)
  have HW0 : Hid (W0 = ((w.alloc (.cells #[.slice x.a n x.cap, .int .i64 nx, .slice x.a2 65 x.c2] 29)).alloc (.cells #[.slice none 0 0, .int .i64 0, .slice none 0 0] 29))) := by show _ = _; rw [hW0, hWq0]
  have HXA := hide' (h.keep HS0.out)
  have HX0 := hide' h
  have HN := hide' hn
  have hn1 : (n : Int) ≤ 256 := by have := h.len; omega
  have HA1 := hide' (fun W (hs : Stay (fun _ => False) W0 W) => (by have hat := at14 y1 nx (HXA.out.keep hs); rw [ixI_at hu hp hx, ← HN.out] at hat; exact hat : Calls Try.prog 14 #[.agg #[.slice x.a n x.cap, .int .i64 nx, .slice x.a2 65 x.c2], .int .i64 y1] W (Gives (.int .i64 (i : Nat)) W)))
  have HA2 := hide' (fun W (hs : Stay (fun _ => False) W0 W) => (by have hat := at14 y nx (HXA.out.keep hs); rw [ixI_no hny, ← HN.out] at hat; exact hat : Calls Try.prog 14 #[.agg #[.slice x.a n x.cap, .int .i64 nx, .slice x.a2 65 x.c2], .int .i64 y] W (Gives (.int .i64 (-1)) W)))
  have HY := hide' hy
  clear hy
  rw [← hn]
  clear h hn hu hx hp hny
  clear hWq0 hW0 hsWq0 hsW0 hpb4 hpb8
  obtain ⟨e0, e1, e2, _⟩ := HBb4.out
  simp only [xs] at e0 e1 e2
  go_enter Try.func30, Try.ntmps30
  go_upto_region 1 with fail
  rw [← HW0.out, ← hb8, ← hb4]
  clear HW0 hb4 hb8
  go_upto_if 14 with fail
  go_cut [2] (fun s2 wx => s2 = .int .i64 y ∧ wx = W0)
  case first =>
    by_cases h0 : y0 = 0
    · have d0 : (y0 == 0) = true := beq_iff_eq.2 h0
      have HE : Hid (y1 = y) := by have := HY.out; unfold orI at this; rw [if_pos h0] at this; exact this
      clear h0
      go_wp2
      go_meet
      exact ⟨by rw [← HE.out], rfl⟩
    · have d0 : (y0 == 0) = false := beq_eq_false_iff_ne.2 h0
      have HE : Hid (y0 = y) := by have := HY.out; unfold orI at this; rw [if_neg h0] at this; exact this
      clear h0
      go_wp2
      go_meet
      exact ⟨by rw [← HE.out], rfl⟩
  case rest =>
    obtain ⟨rfl, hwc⟩ := hcut
    rw [hwc]
    clear hwc
    clear HY e0 e1 e2
    go_upto_region 3 with fail
    have hS : Stay (fun _ => False) W0 W0.drew := (Stay.refl _ _).drew
    refine wp_region_mix (fun w' => Stay (fun _ => False) W0 w') [(0, true), (1, true), (3, true), (4, true), (2, false), (5, false), (6, true), (7, true)] (by kernel_rfl) (by kernel_rfl) (fun _ d _ _ _ h => by cases d <;> exact h) hS ?_
    refine mix_begin (fun K0 hK0 => ?_)
    refine mix_take hK0 (some 16) (.load 29 (.tmp 4)) 29 _ (by kernel_rfl) (by kernel_rfl) (fun w' hS' => by exact run_load_XBox rfl rfl (HBb4.out.keep hS')) (fun K1 hK1 => ?_)
    clear hK0 K0
    simp only [Act.put, lA, lZ, lS]
    refine mix_take hK1 (some 17) (.move (.tmp 1)) 3 _ (by kernel_rfl) (by kernel_rfl) (fun w' hS' => by (simp only [opr]; go_simp; try with_reducible rfl)) (fun K2 hK2 => ?_)
    clear hK1 K1
    simp only [Act.put, lA, lZ, lS]
    refine mix_take hK2 (some 19) (.load 29 (.tmp 4)) 29 _ (by kernel_rfl) (by kernel_rfl) (fun w' hS' => by exact run_load_XBox rfl rfl (HBb4.out.keep hS')) (fun K3 hK3 => ?_)
    clear hK2 K2
    simp only [Act.put, lA, lZ, lS]
    refine mix_take hK3 (some 20) (.move (.tmp 2)) 3 _ (by kernel_rfl) (by kernel_rfl) (fun w' hS' => by (simp only [opr]; go_simp; try with_reducible rfl)) (fun K4 hK4 => ?_)
    clear hK3 K3
    simp only [Act.put, lA, lZ, lS]
    refine mix_call hK4 (some 18) 14 #[.tmp 16, .tmp 17] #[29, 3] 3 _ (by kernel_rfl) (by kernel_rfl) (enters Try.func14 (by kernel_rfl) (by kernel_rfl)) (by go_simp; try with_reducible rfl) (fun K5 hK5 => ?_)
    clear hK4 K4
    refine (HA1.out _ hS).mono ?_
    rintro e wm1 ⟨rfl, hs1⟩
    have hS1 : _ := hS.trans hs1
    refine ⟨_, rfl, hS1, ?_⟩
    clear hs1
    simp only [Act.put, lA, lZ, lS]
    refine mix_call hK5 (some 21) 14 #[.tmp 19, .tmp 20] #[29, 3] 3 _ (by kernel_rfl) (by kernel_rfl) (enters Try.func14 (by kernel_rfl) (by kernel_rfl)) (by go_simp; try with_reducible rfl) (fun K6 hK6 => ?_)
    clear hK5 K5
    refine (HA2.out _ hS1).mono ?_
    rintro e wm2 ⟨rfl, hs2⟩
    have hS2 : _ := hS1.trans hs2
    refine ⟨_, rfl, hS2, ?_⟩
    clear hs2
    simp only [Act.put, lA, lZ, lS]
    refine mix_take hK6 (some 10) (.assign (.tmp 18)) 3 _ (by kernel_rfl) (by kernel_rfl) (fun w' hS' => by (simp only [opr]; go_simp; try with_reducible rfl)) (fun K7 hK7 => ?_)
    clear hK6 K6
    simp only [Act.put, lA, lZ, lS]
    refine mix_take hK7 (some 11) (.assign (.tmp 21)) 3 _ (by kernel_rfl) (by kernel_rfl) (fun w' hS' => by (simp only [opr]; go_simp; try with_reducible rfl)) (fun K8 hK8 => ?_)
    clear hK7 K7
    simp only [Act.put, lA, lZ, lS]
    refine hK8 _ _ (mix_nil ?_)
    clear hK8 K8
    obtain ⟨w3, hw3⟩ : ∃ W, W = wm2 := ⟨_, rfl⟩
    have HB4 := hide' (HBb4.out.keep hS2)
    have HB8 := hide' (HBb8.out.keep hS2)
    have HS9 := hide' (HS0.out.trans hS2)
    have HXA1 := hide' (HXA.out.keep hS2)
    rw [← hw3] at HB4 HB8 HS9 HXA1 ⊢
    clear hw3 hS hS2 hS1 HA1 HA2 HBb4 HBb8 HXA
    obtain ⟨e0, e1, e2, _⟩ := HB4.out
    simp only [xs] at e0 e1 e2
    obtain ⟨k0, k1, k2, r0, r1, r2⟩ := HB8.out
    go_wp2
    have h3 := XBox.stay_put HS9.out HZb8.out (.slice x.a n x.cap) (.int .i64 nx) (.slice x.a2 65 x.c2)
    have h5 := HX0.out.keep h3
    rw [HN.out] at h3 h5 ⊢
    exact bodyPost_ret (results_x1 rfl _ _ b8 x _ nx _ rfl rfl (HB8.out.put (xs x _ nx))) rfl ⟨x, rfl, h5, h3, XFrom.refl _ _⟩

set_option maxRecDepth 100000 in
theorem rsetpgid30_nochild (y1 y0 g0 y nx : Int) (h : XAt w x L f) (hu : Up L) (hy : orI y0 y1 = y) {i : Nat} {p : Pr} (hp : L[i]? = some p) (hx : p.pid = y1) {k : Nat} {t : Pr} (ht : L[k]? = some t) (hty : t.pid = y) (hn' : (y != y1) = true) (hr : (t.par != y1) = true) : Calls Try.prog 30 #[.agg #[.slice x.a L.length x.cap, .int .i64 nx, .slice x.a2 65 x.c2], .int .i64 y1, .int .i64 y0, .int .i64 g0] w (XG2 x L nx f 5 w) := by
  obtain ⟨n, hn⟩ : ∃ n, n = L.length := ⟨_, rfl⟩
  obtain ⟨b4, hb4⟩ : ∃ b, b = w.heap.size := ⟨_, rfl⟩
  obtain ⟨Wq0, hWq0⟩ : ∃ W, W = w.alloc (.cells #[.slice x.a n x.cap, .int .i64 nx, .slice x.a2 65 x.c2] 29) := ⟨_, rfl⟩
  have hsWq0 : Stay (fun _ => False) w Wq0 := by rw [hWq0]; exact (Stay.refl _ _).alloc _
  have hpb4 : w.heap.size = b4 := by rw [hb4]
  obtain ⟨b8, hb8⟩ : ∃ b, b = w.heap.size + 1 := ⟨_, rfl⟩
  obtain ⟨W0, hW0⟩ : ∃ W, W = Wq0.alloc (.cells #[.slice none 0 0, .int .i64 0, .slice none 0 0] 29) := ⟨_, rfl⟩
  have hsW0 : Stay (fun _ => False) Wq0 W0 := by rw [hW0]; exact (Stay.refl _ _).alloc _
  have hpb8 : Wq0.heap.size = b8 := by rw [hb8]; rw [hWq0, World.size_alloc]
  have HBb4 := hide' (show XBox W0 b4 (xs x n nx) from (show XBox Wq0 b4 (xs x n nx) from (by rw [hWq0]; exact xbox_new w x n nx hpb4)).keep ((Stay.refl (fun _ => False) Wq0).trans hsW0))
  have HZb4 : Hid (w.heap.size ≤ b4) := by show _ ≤ _; omega
  have HBb8 := hide' (show XBox W0 b8 ⟨.slice none 0 0, 0, .slice none 0 0⟩ from (show XBox W0 b8 ⟨.slice none 0 0, 0, .slice none 0 0⟩ from (by rw [hW0]; exact XBox.new ⟨.slice none 0 0, 0, .slice none 0 0⟩ hpb8)).keep (Stay.refl (fun _ => False) W0))
  have HZb8 : Hid (w.heap.size ≤ b8) := by show _ ≤ _; omega
  have HS0 := hide' (((Stay.refl (fun _ => False) w).trans hsWq0).trans hsW0)
  have HW0 : Hid (W0 = ((w.alloc (.cells #[.slice x.a n x.cap, .int .i64 nx, .slice x.a2 65 x.c2] 29)).alloc (.cells #[.slice none 0 0, .int .i64 0, .slice none 0 0] 29))) := by show _ = _; rw [hW0, hWq0]
  have HXA := hide' (h.keep HS0.out)
  have HX0 := hide' h
  have HN := hide' hn
  have hn1 : (n : Int) ≤ 256 := by have := h.len; omega
  have hin1 : (i : Int) < (n : Nat) := by have := (List.getElem?_eq_some_iff.1 hp).1; omega
  have hkn1 : (k : Int) < (n : Nat) := by have := (List.getElem?_eq_some_iff.1 ht).1; omega
  have HP := hide' hp
  have HT := hide' ht
  have HA1 := hide' (fun W (hs : Stay (fun _ => False) W0 W) => (by have hat := at14 y1 nx (HXA.out.keep hs); rw [ixI_at hu hp hx, ← HN.out] at hat; exact hat : Calls Try.prog 14 #[.agg #[.slice x.a n x.cap, .int .i64 nx, .slice x.a2 65 x.c2], .int .i64 y1] W (Gives (.int .i64 (i : Nat)) W)))
  have HA2 := hide' (fun W (hs : Stay (fun _ => False) W0 W) => (by have hat := at14 y nx (HXA.out.keep hs); rw [ixI_at hu ht hty, ← HN.out] at hat; exact hat : Calls Try.prog 14 #[.agg #[.slice x.a n x.cap, .int .i64 nx, .slice x.a2 65 x.c2], .int .i64 y] W (Gives (.int .i64 (k : Nat)) W)))
  have HY := hide' hy
  clear hy
  rw [← hn]
  clear h hn hu hx hp ht hty
  clear hWq0 hW0 hsWq0 hsW0 hpb4 hpb8
  obtain ⟨e0, e1, e2, _⟩ := HBb4.out
  simp only [xs] at e0 e1 e2
  go_enter Try.func30, Try.ntmps30
  go_upto_region 1 with fail
  rw [← HW0.out, ← hb8, ← hb4]
  clear HW0 hb4 hb8
  go_upto_if 14 with fail
  go_cut [2] (fun s2 wx => s2 = .int .i64 y ∧ wx = W0)
  case first =>
    by_cases h0 : y0 = 0
    · have d0 : (y0 == 0) = true := beq_iff_eq.2 h0
      have HE : Hid (y1 = y) := by have := HY.out; unfold orI at this; rw [if_pos h0] at this; exact this
      clear h0
      go_wp2
      go_meet
      exact ⟨by rw [← HE.out], rfl⟩
    · have d0 : (y0 == 0) = false := beq_eq_false_iff_ne.2 h0
      have HE : Hid (y0 = y) := by have := HY.out; unfold orI at this; rw [if_neg h0] at this; exact this
      clear h0
      go_wp2
      go_meet
      exact ⟨by rw [← HE.out], rfl⟩
  case rest =>
    obtain ⟨rfl, hwc⟩ := hcut
    rw [hwc]
    clear hwc
    clear HY e0 e1 e2
    go_upto_region 3 with fail
    have hS : Stay (fun _ => False) W0 W0.drew := (Stay.refl _ _).drew
    refine wp_region_mix (fun w' => Stay (fun _ => False) W0 w') [(0, true), (1, true), (3, true), (4, true), (2, false), (5, false), (6, true), (7, true)] (by kernel_rfl) (by kernel_rfl) (fun _ d _ _ _ h => by cases d <;> exact h) hS ?_
    refine mix_begin (fun K0 hK0 => ?_)
    refine mix_take hK0 (some 16) (.load 29 (.tmp 4)) 29 _ (by kernel_rfl) (by kernel_rfl) (fun w' hS' => by exact run_load_XBox rfl rfl (HBb4.out.keep hS')) (fun K1 hK1 => ?_)
    clear hK0 K0
    simp only [Act.put, lA, lZ, lS]
    refine mix_take hK1 (some 17) (.move (.tmp 1)) 3 _ (by kernel_rfl) (by kernel_rfl) (fun w' hS' => by (simp only [opr]; go_simp; try with_reducible rfl)) (fun K2 hK2 => ?_)
    clear hK1 K1
    simp only [Act.put, lA, lZ, lS]
    refine mix_take hK2 (some 19) (.load 29 (.tmp 4)) 29 _ (by kernel_rfl) (by kernel_rfl) (fun w' hS' => by exact run_load_XBox rfl rfl (HBb4.out.keep hS')) (fun K3 hK3 => ?_)
    clear hK2 K2
    simp only [Act.put, lA, lZ, lS]
    refine mix_take hK3 (some 20) (.move (.tmp 2)) 3 _ (by kernel_rfl) (by kernel_rfl) (fun w' hS' => by (simp only [opr]; go_simp; try with_reducible rfl)) (fun K4 hK4 => ?_)
    clear hK3 K3
    simp only [Act.put, lA, lZ, lS]
    refine mix_call hK4 (some 18) 14 #[.tmp 16, .tmp 17] #[29, 3] 3 _ (by kernel_rfl) (by kernel_rfl) (enters Try.func14 (by kernel_rfl) (by kernel_rfl)) (by go_simp; try with_reducible rfl) (fun K5 hK5 => ?_)
    clear hK4 K4
    refine (HA1.out _ hS).mono ?_
    rintro e wm1 ⟨rfl, hs1⟩
    have hS1 : _ := hS.trans hs1
    refine ⟨_, rfl, hS1, ?_⟩
    clear hs1
    simp only [Act.put, lA, lZ, lS]
    refine mix_call hK5 (some 21) 14 #[.tmp 19, .tmp 20] #[29, 3] 3 _ (by kernel_rfl) (by kernel_rfl) (enters Try.func14 (by kernel_rfl) (by kernel_rfl)) (by go_simp; try with_reducible rfl) (fun K6 hK6 => ?_)
    clear hK5 K5
    refine (HA2.out _ hS1).mono ?_
    rintro e wm2 ⟨rfl, hs2⟩
    have hS2 : _ := hS1.trans hs2
    refine ⟨_, rfl, hS2, ?_⟩
    clear hs2
    simp only [Act.put, lA, lZ, lS]
    refine mix_take hK6 (some 10) (.assign (.tmp 18)) 3 _ (by kernel_rfl) (by kernel_rfl) (fun w' hS' => by (simp only [opr]; go_simp; try with_reducible rfl)) (fun K7 hK7 => ?_)
    clear hK6 K6
    simp only [Act.put, lA, lZ, lS]
    refine mix_take hK7 (some 11) (.assign (.tmp 21)) 3 _ (by kernel_rfl) (by kernel_rfl) (fun w' hS' => by (simp only [opr]; go_simp; try with_reducible rfl)) (fun K8 hK8 => ?_)
    clear hK7 K7
    simp only [Act.put, lA, lZ, lS]
    refine hK8 _ _ (mix_nil ?_)
    clear hK8 K8
    obtain ⟨w3, hw3⟩ : ∃ W, W = wm2 := ⟨_, rfl⟩
    have HB4 := hide' (HBb4.out.keep hS2)
    have HB8 := hide' (HBb8.out.keep hS2)
    have HS9 := hide' (HS0.out.trans hS2)
    have HXA1 := hide' (HXA.out.keep hS2)
    rw [← hw3] at HB4 HB8 HS9 HXA1 ⊢
    clear hw3 hS hS2 hS1 HA1 HA2 HBb4 HBb8 HXA
    obtain ⟨e0, e1, e2, _⟩ := HB4.out
    simp only [xs] at e0 e1 e2
    obtain ⟨g, o, hxa, hpb⟩ := HXA1.out.rd i p HP.out
    obtain ⟨g2, o2, hxa2, htb⟩ := HXA1.out.rd k t HT.out
    rw [hxa] at hxa2
    cases hxa2
    rw [hxa] at e0
    obtain ⟨c0, c1, c2, c3, c4, c5⟩ := hpb
    obtain ⟨d0, d1, d2, d3, d4, d5⟩ := htb
    obtain ⟨k0, k1, k2, r0, r1, r2⟩ := HB8.out
    go_wp2
    rw [← hxa]
    have h3 := XBox.stay_put HS9.out HZb8.out (.slice x.a n x.cap) (.int .i64 nx) (.slice x.a2 65 x.c2)
    have h5 := HX0.out.keep h3
    rw [HN.out] at h3 h5 ⊢
    exact bodyPost_ret (results_x1 rfl _ _ b8 x _ nx _ rfl rfl (HB8.out.put (xs x _ nx))) rfl ⟨x, rfl, h5, h3, XFrom.refl _ _⟩

set_option maxRecDepth 100000 in
theorem rsetpgid30_arg_self (y1 y0 g0 y nx : Int) (h : XAt w x L f) (hu : Up L) (hy : orI y0 y1 = y) {i : Nat} {p : Pr} (hp : L[i]? = some p) (hx : p.pid = y1) {k : Nat} {t : Pr} (ht : L[k]? = some t) (hty : t.pid = y) (hn' : (y != y1) = false) (hg : g0 < 0) : Calls Try.prog 30 #[.agg #[.slice x.a L.length x.cap, .int .i64 nx, .slice x.a2 65 x.c2], .int .i64 y1, .int .i64 y0, .int .i64 g0] w (XG2 x L nx f 1 w) := by
  obtain ⟨n, hn⟩ : ∃ n, n = L.length := ⟨_, rfl⟩
  obtain ⟨b4, hb4⟩ : ∃ b, b = w.heap.size := ⟨_, rfl⟩
  obtain ⟨Wq0, hWq0⟩ : ∃ W, W = w.alloc (.cells #[.slice x.a n x.cap, .int .i64 nx, .slice x.a2 65 x.c2] 29) := ⟨_, rfl⟩
  have hsWq0 : Stay (fun _ => False) w Wq0 := by rw [hWq0]; exact (Stay.refl _ _).alloc _
  have hpb4 : w.heap.size = b4 := by rw [hb4]
  obtain ⟨b8, hb8⟩ : ∃ b, b = w.heap.size + 1 := ⟨_, rfl⟩
  obtain ⟨W0, hW0⟩ : ∃ W, W = Wq0.alloc (.cells #[.slice none 0 0, .int .i64 0, .slice none 0 0] 29) := ⟨_, rfl⟩
  have hsW0 : Stay (fun _ => False) Wq0 W0 := by rw [hW0]; exact (Stay.refl _ _).alloc _
  have hpb8 : Wq0.heap.size = b8 := by rw [hb8]; rw [hWq0, World.size_alloc]
  have HBb4 := hide' (show XBox W0 b4 (xs x n nx) from (show XBox Wq0 b4 (xs x n nx) from (by rw [hWq0]; exact xbox_new w x n nx hpb4)).keep ((Stay.refl (fun _ => False) Wq0).trans hsW0))
  have HZb4 : Hid (w.heap.size ≤ b4) := by show _ ≤ _; omega
  have HBb8 := hide' (show XBox W0 b8 ⟨.slice none 0 0, 0, .slice none 0 0⟩ from (show XBox W0 b8 ⟨.slice none 0 0, 0, .slice none 0 0⟩ from (by rw [hW0]; exact XBox.new ⟨.slice none 0 0, 0, .slice none 0 0⟩ hpb8)).keep (Stay.refl (fun _ => False) W0))
  have HZb8 : Hid (w.heap.size ≤ b8) := by show _ ≤ _; omega
  have HS0 := hide' (((Stay.refl (fun _ => False) w).trans hsWq0).trans hsW0)
  have HW0 : Hid (W0 = ((w.alloc (.cells #[.slice x.a n x.cap, .int .i64 nx, .slice x.a2 65 x.c2] 29)).alloc (.cells #[.slice none 0 0, .int .i64 0, .slice none 0 0] 29))) := by show _ = _; rw [hW0, hWq0]
  have HXA := hide' (h.keep HS0.out)
  have HX0 := hide' h
  have HN := hide' hn
  have hn1 : (n : Int) ≤ 256 := by have := h.len; omega
  have hin1 : (i : Int) < (n : Nat) := by have := (List.getElem?_eq_some_iff.1 hp).1; omega
  have hkn1 : (k : Int) < (n : Nat) := by have := (List.getElem?_eq_some_iff.1 ht).1; omega
  have HP := hide' hp
  have HT := hide' ht
  have HA1 := hide' (fun W (hs : Stay (fun _ => False) W0 W) => (by have hat := at14 y1 nx (HXA.out.keep hs); rw [ixI_at hu hp hx, ← HN.out] at hat; exact hat : Calls Try.prog 14 #[.agg #[.slice x.a n x.cap, .int .i64 nx, .slice x.a2 65 x.c2], .int .i64 y1] W (Gives (.int .i64 (i : Nat)) W)))
  have HA2 := hide' (fun W (hs : Stay (fun _ => False) W0 W) => (by have hat := at14 y nx (HXA.out.keep hs); rw [ixI_at hu ht hty, ← HN.out] at hat; exact hat : Calls Try.prog 14 #[.agg #[.slice x.a n x.cap, .int .i64 nx, .slice x.a2 65 x.c2], .int .i64 y] W (Gives (.int .i64 (k : Nat)) W)))
  have HY := hide' hy
  clear hy
  rw [← hn]
  clear h hn hu hx hp ht hty
  clear hWq0 hW0 hsWq0 hsW0 hpb4 hpb8
  obtain ⟨e0, e1, e2, _⟩ := HBb4.out
  simp only [xs] at e0 e1 e2
  go_enter Try.func30, Try.ntmps30
  go_upto_region 1 with fail
  rw [← HW0.out, ← hb8, ← hb4]
  clear HW0 hb4 hb8
  go_upto_if 14 with fail
  go_cut [2] (fun s2 wx => s2 = .int .i64 y ∧ wx = W0)
  case first =>
    by_cases h0 : y0 = 0
    · have d0 : (y0 == 0) = true := beq_iff_eq.2 h0
      have HE : Hid (y1 = y) := by have := HY.out; unfold orI at this; rw [if_pos h0] at this; exact this
      clear h0
      go_wp2
      go_meet
      exact ⟨by rw [← HE.out], rfl⟩
    · have d0 : (y0 == 0) = false := beq_eq_false_iff_ne.2 h0
      have HE : Hid (y0 = y) := by have := HY.out; unfold orI at this; rw [if_neg h0] at this; exact this
      clear h0
      go_wp2
      go_meet
      exact ⟨by rw [← HE.out], rfl⟩
  case rest =>
    obtain ⟨rfl, hwc⟩ := hcut
    rw [hwc]
    clear hwc
    clear HY e0 e1 e2
    go_upto_region 3 with fail
    have hS : Stay (fun _ => False) W0 W0.drew := (Stay.refl _ _).drew
    refine wp_region_mix (fun w' => Stay (fun _ => False) W0 w') [(0, true), (1, true), (3, true), (4, true), (2, false), (5, false), (6, true), (7, true)] (by kernel_rfl) (by kernel_rfl) (fun _ d _ _ _ h => by cases d <;> exact h) hS ?_
    refine mix_begin (fun K0 hK0 => ?_)
    refine mix_take hK0 (some 16) (.load 29 (.tmp 4)) 29 _ (by kernel_rfl) (by kernel_rfl) (fun w' hS' => by exact run_load_XBox rfl rfl (HBb4.out.keep hS')) (fun K1 hK1 => ?_)
    clear hK0 K0
    simp only [Act.put, lA, lZ, lS]
    refine mix_take hK1 (some 17) (.move (.tmp 1)) 3 _ (by kernel_rfl) (by kernel_rfl) (fun w' hS' => by (simp only [opr]; go_simp; try with_reducible rfl)) (fun K2 hK2 => ?_)
    clear hK1 K1
    simp only [Act.put, lA, lZ, lS]
    refine mix_take hK2 (some 19) (.load 29 (.tmp 4)) 29 _ (by kernel_rfl) (by kernel_rfl) (fun w' hS' => by exact run_load_XBox rfl rfl (HBb4.out.keep hS')) (fun K3 hK3 => ?_)
    clear hK2 K2
    simp only [Act.put, lA, lZ, lS]
    refine mix_take hK3 (some 20) (.move (.tmp 2)) 3 _ (by kernel_rfl) (by kernel_rfl) (fun w' hS' => by (simp only [opr]; go_simp; try with_reducible rfl)) (fun K4 hK4 => ?_)
    clear hK3 K3
    simp only [Act.put, lA, lZ, lS]
    refine mix_call hK4 (some 18) 14 #[.tmp 16, .tmp 17] #[29, 3] 3 _ (by kernel_rfl) (by kernel_rfl) (enters Try.func14 (by kernel_rfl) (by kernel_rfl)) (by go_simp; try with_reducible rfl) (fun K5 hK5 => ?_)
    clear hK4 K4
    refine (HA1.out _ hS).mono ?_
    rintro e wm1 ⟨rfl, hs1⟩
    have hS1 : _ := hS.trans hs1
    refine ⟨_, rfl, hS1, ?_⟩
    clear hs1
    simp only [Act.put, lA, lZ, lS]
    refine mix_call hK5 (some 21) 14 #[.tmp 19, .tmp 20] #[29, 3] 3 _ (by kernel_rfl) (by kernel_rfl) (enters Try.func14 (by kernel_rfl) (by kernel_rfl)) (by go_simp; try with_reducible rfl) (fun K6 hK6 => ?_)
    clear hK5 K5
    refine (HA2.out _ hS1).mono ?_
    rintro e wm2 ⟨rfl, hs2⟩
    have hS2 : _ := hS1.trans hs2
    refine ⟨_, rfl, hS2, ?_⟩
    clear hs2
    simp only [Act.put, lA, lZ, lS]
    refine mix_take hK6 (some 10) (.assign (.tmp 18)) 3 _ (by kernel_rfl) (by kernel_rfl) (fun w' hS' => by (simp only [opr]; go_simp; try with_reducible rfl)) (fun K7 hK7 => ?_)
    clear hK6 K6
    simp only [Act.put, lA, lZ, lS]
    refine mix_take hK7 (some 11) (.assign (.tmp 21)) 3 _ (by kernel_rfl) (by kernel_rfl) (fun w' hS' => by (simp only [opr]; go_simp; try with_reducible rfl)) (fun K8 hK8 => ?_)
    clear hK7 K7
    simp only [Act.put, lA, lZ, lS]
    refine hK8 _ _ (mix_nil ?_)
    clear hK8 K8
    obtain ⟨w3, hw3⟩ : ∃ W, W = wm2 := ⟨_, rfl⟩
    have HB4 := hide' (HBb4.out.keep hS2)
    have HB8 := hide' (HBb8.out.keep hS2)
    have HS9 := hide' (HS0.out.trans hS2)
    have HXA1 := hide' (HXA.out.keep hS2)
    rw [← hw3] at HB4 HB8 HS9 HXA1 ⊢
    clear hw3 hS hS2 hS1 HA1 HA2 HBb4 HBb8 HXA
    obtain ⟨e0, e1, e2, _⟩ := HB4.out
    simp only [xs] at e0 e1 e2
    obtain ⟨g, o, hxa, hpb⟩ := HXA1.out.rd i p HP.out
    obtain ⟨g2, o2, hxa2, htb⟩ := HXA1.out.rd k t HT.out
    rw [hxa] at hxa2
    cases hxa2
    rw [hxa] at e0
    obtain ⟨c0, c1, c2, c3, c4, c5⟩ := hpb
    obtain ⟨d0, d1, d2, d3, d4, d5⟩ := htb
    obtain ⟨k0, k1, k2, r0, r1, r2⟩ := HB8.out
    go_wp2
    rw [← hxa]
    have h3 := XBox.stay_put HS9.out HZb8.out (.slice x.a n x.cap) (.int .i64 nx) (.slice x.a2 65 x.c2)
    have h5 := HX0.out.keep h3
    rw [HN.out] at h3 h5 ⊢
    exact bodyPost_ret (results_x1 rfl _ _ b8 x _ nx _ rfl rfl (HB8.out.put (xs x _ nx))) rfl ⟨x, rfl, h5, h3, XFrom.refl _ _⟩

set_option maxRecDepth 100000 in
theorem rsetpgid30_arg_child (y1 y0 g0 y nx : Int) (h : XAt w x L f) (hu : Up L) (hy : orI y0 y1 = y) {i : Nat} {p : Pr} (hp : L[i]? = some p) (hx : p.pid = y1) {k : Nat} {t : Pr} (ht : L[k]? = some t) (hty : t.pid = y) (hn' : (y != y1) = true) (hr : (t.par != y1) = false) (hg : g0 < 0) : Calls Try.prog 30 #[.agg #[.slice x.a L.length x.cap, .int .i64 nx, .slice x.a2 65 x.c2], .int .i64 y1, .int .i64 y0, .int .i64 g0] w (XG2 x L nx f 1 w) := by
  obtain ⟨n, hn⟩ : ∃ n, n = L.length := ⟨_, rfl⟩
  obtain ⟨b4, hb4⟩ : ∃ b, b = w.heap.size := ⟨_, rfl⟩
  obtain ⟨Wq0, hWq0⟩ : ∃ W, W = w.alloc (.cells #[.slice x.a n x.cap, .int .i64 nx, .slice x.a2 65 x.c2] 29) := ⟨_, rfl⟩
  have hsWq0 : Stay (fun _ => False) w Wq0 := by rw [hWq0]; exact (Stay.refl _ _).alloc _
  have hpb4 : w.heap.size = b4 := by rw [hb4]
  obtain ⟨b8, hb8⟩ : ∃ b, b = w.heap.size + 1 := ⟨_, rfl⟩
  obtain ⟨W0, hW0⟩ : ∃ W, W = Wq0.alloc (.cells #[.slice none 0 0, .int .i64 0, .slice none 0 0] 29) := ⟨_, rfl⟩
  have hsW0 : Stay (fun _ => False) Wq0 W0 := by rw [hW0]; exact (Stay.refl _ _).alloc _
  have hpb8 : Wq0.heap.size = b8 := by rw [hb8]; rw [hWq0, World.size_alloc]
  have HBb4 := hide' (show XBox W0 b4 (xs x n nx) from (show XBox Wq0 b4 (xs x n nx) from (by rw [hWq0]; exact xbox_new w x n nx hpb4)).keep ((Stay.refl (fun _ => False) Wq0).trans hsW0))
  have HZb4 : Hid (w.heap.size ≤ b4) := by show _ ≤ _; omega
  have HBb8 := hide' (show XBox W0 b8 ⟨.slice none 0 0, 0, .slice none 0 0⟩ from (show XBox W0 b8 ⟨.slice none 0 0, 0, .slice none 0 0⟩ from (by rw [hW0]; exact XBox.new ⟨.slice none 0 0, 0, .slice none 0 0⟩ hpb8)).keep (Stay.refl (fun _ => False) W0))
  have HZb8 : Hid (w.heap.size ≤ b8) := by show _ ≤ _; omega
  have HS0 := hide' (((Stay.refl (fun _ => False) w).trans hsWq0).trans hsW0)
  have HW0 : Hid (W0 = ((w.alloc (.cells #[.slice x.a n x.cap, .int .i64 nx, .slice x.a2 65 x.c2] 29)).alloc (.cells #[.slice none 0 0, .int .i64 0, .slice none 0 0] 29))) := by show _ = _; rw [hW0, hWq0]
  have HXA := hide' (h.keep HS0.out)
  have HX0 := hide' h
  have HN := hide' hn
  have hn1 : (n : Int) ≤ 256 := by have := h.len; omega
  have hin1 : (i : Int) < (n : Nat) := by have := (List.getElem?_eq_some_iff.1 hp).1; omega
  have hkn1 : (k : Int) < (n : Nat) := by have := (List.getElem?_eq_some_iff.1 ht).1; omega
  have HP := hide' hp
  have HT := hide' ht
  have HA1 := hide' (fun W (hs : Stay (fun _ => False) W0 W) => (by have hat := at14 y1 nx (HXA.out.keep hs); rw [ixI_at hu hp hx, ← HN.out] at hat; exact hat : Calls Try.prog 14 #[.agg #[.slice x.a n x.cap, .int .i64 nx, .slice x.a2 65 x.c2], .int .i64 y1] W (Gives (.int .i64 (i : Nat)) W)))
  have HA2 := hide' (fun W (hs : Stay (fun _ => False) W0 W) => (by have hat := at14 y nx (HXA.out.keep hs); rw [ixI_at hu ht hty, ← HN.out] at hat; exact hat : Calls Try.prog 14 #[.agg #[.slice x.a n x.cap, .int .i64 nx, .slice x.a2 65 x.c2], .int .i64 y] W (Gives (.int .i64 (k : Nat)) W)))
  have HY := hide' hy
  clear hy
  rw [← hn]
  clear h hn hu hx hp ht hty
  clear hWq0 hW0 hsWq0 hsW0 hpb4 hpb8
  obtain ⟨e0, e1, e2, _⟩ := HBb4.out
  simp only [xs] at e0 e1 e2
  go_enter Try.func30, Try.ntmps30
  go_upto_region 1 with fail
  rw [← HW0.out, ← hb8, ← hb4]
  clear HW0 hb4 hb8
  go_upto_if 14 with fail
  go_cut [2] (fun s2 wx => s2 = .int .i64 y ∧ wx = W0)
  case first =>
    by_cases h0 : y0 = 0
    · have d0 : (y0 == 0) = true := beq_iff_eq.2 h0
      have HE : Hid (y1 = y) := by have := HY.out; unfold orI at this; rw [if_pos h0] at this; exact this
      clear h0
      go_wp2
      go_meet
      exact ⟨by rw [← HE.out], rfl⟩
    · have d0 : (y0 == 0) = false := beq_eq_false_iff_ne.2 h0
      have HE : Hid (y0 = y) := by have := HY.out; unfold orI at this; rw [if_neg h0] at this; exact this
      clear h0
      go_wp2
      go_meet
      exact ⟨by rw [← HE.out], rfl⟩
  case rest =>
    obtain ⟨rfl, hwc⟩ := hcut
    rw [hwc]
    clear hwc
    clear HY e0 e1 e2
    go_upto_region 3 with fail
    have hS : Stay (fun _ => False) W0 W0.drew := (Stay.refl _ _).drew
    refine wp_region_mix (fun w' => Stay (fun _ => False) W0 w') [(0, true), (1, true), (3, true), (4, true), (2, false), (5, false), (6, true), (7, true)] (by kernel_rfl) (by kernel_rfl) (fun _ d _ _ _ h => by cases d <;> exact h) hS ?_
    refine mix_begin (fun K0 hK0 => ?_)
    refine mix_take hK0 (some 16) (.load 29 (.tmp 4)) 29 _ (by kernel_rfl) (by kernel_rfl) (fun w' hS' => by exact run_load_XBox rfl rfl (HBb4.out.keep hS')) (fun K1 hK1 => ?_)
    clear hK0 K0
    simp only [Act.put, lA, lZ, lS]
    refine mix_take hK1 (some 17) (.move (.tmp 1)) 3 _ (by kernel_rfl) (by kernel_rfl) (fun w' hS' => by (simp only [opr]; go_simp; try with_reducible rfl)) (fun K2 hK2 => ?_)
    clear hK1 K1
    simp only [Act.put, lA, lZ, lS]
    refine mix_take hK2 (some 19) (.load 29 (.tmp 4)) 29 _ (by kernel_rfl) (by kernel_rfl) (fun w' hS' => by exact run_load_XBox rfl rfl (HBb4.out.keep hS')) (fun K3 hK3 => ?_)
    clear hK2 K2
    simp only [Act.put, lA, lZ, lS]
    refine mix_take hK3 (some 20) (.move (.tmp 2)) 3 _ (by kernel_rfl) (by kernel_rfl) (fun w' hS' => by (simp only [opr]; go_simp; try with_reducible rfl)) (fun K4 hK4 => ?_)
    clear hK3 K3
    simp only [Act.put, lA, lZ, lS]
    refine mix_call hK4 (some 18) 14 #[.tmp 16, .tmp 17] #[29, 3] 3 _ (by kernel_rfl) (by kernel_rfl) (enters Try.func14 (by kernel_rfl) (by kernel_rfl)) (by go_simp; try with_reducible rfl) (fun K5 hK5 => ?_)
    clear hK4 K4
    refine (HA1.out _ hS).mono ?_
    rintro e wm1 ⟨rfl, hs1⟩
    have hS1 : _ := hS.trans hs1
    refine ⟨_, rfl, hS1, ?_⟩
    clear hs1
    simp only [Act.put, lA, lZ, lS]
    refine mix_call hK5 (some 21) 14 #[.tmp 19, .tmp 20] #[29, 3] 3 _ (by kernel_rfl) (by kernel_rfl) (enters Try.func14 (by kernel_rfl) (by kernel_rfl)) (by go_simp; try with_reducible rfl) (fun K6 hK6 => ?_)
    clear hK5 K5
    refine (HA2.out _ hS1).mono ?_
    rintro e wm2 ⟨rfl, hs2⟩
    have hS2 : _ := hS1.trans hs2
    refine ⟨_, rfl, hS2, ?_⟩
    clear hs2
    simp only [Act.put, lA, lZ, lS]
    refine mix_take hK6 (some 10) (.assign (.tmp 18)) 3 _ (by kernel_rfl) (by kernel_rfl) (fun w' hS' => by (simp only [opr]; go_simp; try with_reducible rfl)) (fun K7 hK7 => ?_)
    clear hK6 K6
    simp only [Act.put, lA, lZ, lS]
    refine mix_take hK7 (some 11) (.assign (.tmp 21)) 3 _ (by kernel_rfl) (by kernel_rfl) (fun w' hS' => by (simp only [opr]; go_simp; try with_reducible rfl)) (fun K8 hK8 => ?_)
    clear hK7 K7
    simp only [Act.put, lA, lZ, lS]
    refine hK8 _ _ (mix_nil ?_)
    clear hK8 K8
    obtain ⟨w3, hw3⟩ : ∃ W, W = wm2 := ⟨_, rfl⟩
    have HB4 := hide' (HBb4.out.keep hS2)
    have HB8 := hide' (HBb8.out.keep hS2)
    have HS9 := hide' (HS0.out.trans hS2)
    have HXA1 := hide' (HXA.out.keep hS2)
    rw [← hw3] at HB4 HB8 HS9 HXA1 ⊢
    clear hw3 hS hS2 hS1 HA1 HA2 HBb4 HBb8 HXA
    obtain ⟨e0, e1, e2, _⟩ := HB4.out
    simp only [xs] at e0 e1 e2
    obtain ⟨g, o, hxa, hpb⟩ := HXA1.out.rd i p HP.out
    obtain ⟨g2, o2, hxa2, htb⟩ := HXA1.out.rd k t HT.out
    rw [hxa] at hxa2
    cases hxa2
    rw [hxa] at e0
    obtain ⟨c0, c1, c2, c3, c4, c5⟩ := hpb
    obtain ⟨d0, d1, d2, d3, d4, d5⟩ := htb
    obtain ⟨k0, k1, k2, r0, r1, r2⟩ := HB8.out
    go_wp2
    rw [← hxa]
    have h3 := XBox.stay_put HS9.out HZb8.out (.slice x.a n x.cap) (.int .i64 nx) (.slice x.a2 65 x.c2)
    have h5 := HX0.out.keep h3
    rw [HN.out] at h3 h5 ⊢
    exact bodyPost_ret (results_x1 rfl _ _ b8 x _ nx _ rfl rfl (HB8.out.put (xs x _ nx))) rfl ⟨x, rfl, h5, h3, XFrom.refl _ _⟩

end Go.Proofs.Ytefpifnfinkbaaa
