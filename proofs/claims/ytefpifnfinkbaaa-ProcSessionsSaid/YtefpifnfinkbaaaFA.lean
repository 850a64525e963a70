/-
  The document lets a process go to a group, or doesn't: walked. No conditions.
-/
import Derived.Test.YtefpifnfinkbaaaF9
import Derived.ArgAppend
import Derived.Deep.DeepCutAuto
import Derived.Deep.CutBlock
namespace Go.Proofs.Ytefpifnfinkbaaa
open Go.RowKit

variable {w : World} {x : Xr} {L : List Pr} {f : Int → Int}

set_option maxRecDepth 100000 in
set_option maxHeartbeats 1000000 in
theorem rsetpgid30_new_self (y1 y0 g0 y nx : Int) (h : XAt w x L f) (hu : Up L) (hy : orI y0 y1 = y) (g1 : Int) {i : Nat} {p : Pr} (hp : L[i]? = some p) (hx : p.pid = y1) {k : Nat} {t : Pr} (ht : L[k]? = some t) (hty : t.pid = y) (hn' : (y != y1) = false) (hg : ¬ g0 < 0) (hgo : orI g0 y = g1) (hl : (t.ses == y) = false) (hse : (t.ses != p.ses) = false) (hgy : (g1 != y) = false) : Calls Try.prog 30 #[.agg #[.slice x.a L.length x.cap, .int .i64 nx, .slice x.a2 65 x.c2], .int .i64 y1, .int .i64 y0, .int .i64 g0] w (XG2 x (L.set k ⟨t.pid, t.par, g1, t.ses, t.tty, t.df⟩) nx f 0 w) := by
  obtain ⟨n, hn⟩ : ∃ n, n = L.length := ⟨_, rfl⟩
  obtain ⟨b4, hb4⟩ : ∃ b, b = w.heap.size := ⟨_, rfl⟩
  obtain ⟨Wq0, hWq0⟩ : ∃ W, W = w.alloc (.cells #[.slice x.a n x.cap, .int .i64 nx, .slice x.a2 65 x.c2] 29) := ⟨_, rfl⟩
  have hsWq0 : Stay (fun _ => False) w Wq0 := by rw [hWq0]; exact (Stay.refl _ _).alloc _
  have hpb4 : w.heap.size = b4 := by rw [hb4]
  obtain ⟨b8, hb8⟩ : ∃ b, b = w.heap.size + 1 := ⟨_, rfl⟩
  obtain ⟨W0, hW0⟩ : ∃ W, W = Wq0.alloc (.cells #[.slice none 0 0, .int .i64 0, .slice none 0 0] 29) := ⟨_, rfl⟩
  have hsW0 : Stay (fun _ => False) Wq0 W0 := by rw [hW0]; exact (Stay.refl _ _).alloc _
  have hpb8 : Wq0.heap.size = b8 := by rw [hb8]; rw [hWq0, World.size_alloc]
  have HBb4 := hide' (show XBox W0 b4 (xs x n nx) from (show XBox Wq0 b4 (xs x n nx) from (by rw [hWq0]; exact xbox_new w x n nx hpb4)).keep ((Stay.refl (fun _ => False) Wq0).trans hsW0))
  have HZb4 : Hid (w.heap.size ≤ b4) := by show _ ≤ _; omega
  have HBb8 := hide' (show XBox W0 b8 ⟨.slice none 0 0, 0, .slice none 0 0⟩ from (show XBox W0 b8 ⟨.slice none 0 0, 0, .slice none 0 0⟩ from (by rw [hW0]; exact XBox.new ⟨.slice none 0 0, 0, .slice none 0 0⟩ hpb8)).keep (Stay.refl (fun _ => False) W0))
  have HZb8 : Hid (w.heap.size ≤ b8) := by show _ ≤ _; omega
  have HS0 := hide' (((Stay.refl (fun _ => False) w).trans hsWq0).trans hsW0)
  have HW0 : Hid (W0 = ((w.alloc (.cells #[.slice x.a n x.cap, .int .i64 nx, .slice x.a2 65 x.c2] 29)).alloc (.cells #[.slice none 0 0, .int .i64 0, .slice none 0 0] 29))) := by show _ = _; rw [hW0, hWq0]
  have HXA := hide' (h.keep HS0.out)
  have HX0 := hide' h
  have HN := hide' hn
  have hn1 : (n : Int) ≤ 256 := by have := h.len; omega
  have hin1 : (i : Int) < (n : Nat) := by have := (List.getElem?_eq_some_iff.1 hp).1; omega
  have hkn1 : (k : Int) < (n : Nat) := by have := (List.getElem?_eq_some_iff.1 ht).1; omega
  have HP := hide' hp
  have HT := hide' ht
  have HGO := hide' hgo
  have HA1 := hide' (fun W (hs : Stay (fun _ => False) W0 W) => (by have hat := at14 y1 nx (HXA.out.keep hs); rw [ixI_at hu hp hx, ← HN.out] at hat; exact hat : Calls Try.prog 14 #[.agg #[.slice x.a n x.cap, .int .i64 nx, .slice x.a2 65 x.c2], .int .i64 y1] W (Gives (.int .i64 (i : Nat)) W)))
  have HA2 := hide' (fun W (hs : Stay (fun _ => False) W0 W) => (by have hat := at14 y nx (HXA.out.keep hs); rw [ixI_at hu ht hty, ← HN.out] at hat; exact hat : Calls Try.prog 14 #[.agg #[.slice x.a n x.cap, .int .i64 nx, .slice x.a2 65 x.c2], .int .i64 y] W (Gives (.int .i64 (k : Nat)) W)))
  have HY := hide' hy
  clear hy
  rw [← hn]
  clear h hn hu hx hp ht hty hgo
  clear hWq0 hW0 hsWq0 hsW0 hpb4 hpb8
  obtain ⟨e0, e1, e2, _⟩ := HBb4.out
  simp only [xs] at e0 e1 e2
  go_enter Try.func30, Try.ntmps30
  go_upto_region 1 with fail
  rw [← HW0.out, ← hb8, ← hb4]
  clear HW0 hb4 hb8
  go_upto_if 14 with fail
  go_cut [2] (fun s2 wx => s2 = .int .i64 y ∧ wx = W0)
  case first =>
    by_cases h0 : y0 = 0
    · have d0 : (y0 == 0) = true := beq_iff_eq.2 h0
      have HE : Hid (y1 = y) := by have := HY.out; unfold orI at this; rw [if_pos h0] at this; exact this
      clear h0
      go_wp2
      go_meet
      exact ⟨by rw [← HE.out], rfl⟩
    · have d0 : (y0 == 0) = false := beq_eq_false_iff_ne.2 h0
      have HE : Hid (y0 = y) := by have := HY.out; unfold orI at this; rw [if_neg h0] at this; exact this
      clear h0
      go_wp2
      go_meet
      exact ⟨by rw [← HE.out], rfl⟩
  case rest =>
    obtain ⟨rfl, hwc⟩ := hcut
    rw [hwc]
    clear hwc
    clear HY e0 e1 e2
    go_upto_region 3 with fail
    have hS : Stay (fun _ => False) W0 W0.drew := (Stay.refl _ _).drew
    refine wp_region_mix (fun w' => Stay (fun _ => False) W0 w') [(0, true), (1, true), (3, true), (4, true), (2, false), (5, false), (6, true), (7, true)] (by kernel_rfl) (by kernel_rfl) (fun _ d _ _ _ h => by cases d <;> exact h) hS ?_
    refine mix_begin (fun K0 hK0 => ?_)
    refine mix_take hK0 (some 16) (.load 29 (.tmp 4)) 29 _ (by kernel_rfl) (by kernel_rfl) (fun w' hS' => by exact run_load_XBox rfl rfl (HBb4.out.keep hS')) (fun K1 hK1 => ?_)
    clear hK0 K0
    simp only [Act.put, lA, lZ, lS]
    refine mix_take hK1 (some 17) (.move (.tmp 1)) 3 _ (by kernel_rfl) (by kernel_rfl) (fun w' hS' => by (simp only [opr]; go_simp; try with_reducible rfl)) (fun K2 hK2 => ?_)
    clear hK1 K1
    simp only [Act.put, lA, lZ, lS]
    refine mix_take hK2 (some 19) (.load 29 (.tmp 4)) 29 _ (by kernel_rfl) (by kernel_rfl) (fun w' hS' => by exact run_load_XBox rfl rfl (HBb4.out.keep hS')) (fun K3 hK3 => ?_)
    clear hK2 K2
    simp only [Act.put, lA, lZ, lS]
    refine mix_take hK3 (some 20) (.move (.tmp 2)) 3 _ (by kernel_rfl) (by kernel_rfl) (fun w' hS' => by (simp only [opr]; go_simp; try with_reducible rfl)) (fun K4 hK4 => ?_)
    clear hK3 K3
    simp only [Act.put, lA, lZ, lS]
    refine mix_call hK4 (some 18) 14 #[.tmp 16, .tmp 17] #[29, 3] 3 _ (by kernel_rfl) (by kernel_rfl) (enters Try.func14 (by kernel_rfl) (by kernel_rfl)) (by go_simp; try with_reducible rfl) (fun K5 hK5 => ?_)
    clear hK4 K4
    refine (HA1.out _ hS).mono ?_
    rintro e wm1 ⟨rfl, hs1⟩
    have hS1 : _ := hS.trans hs1
    refine ⟨_, rfl, hS1, ?_⟩
    clear hs1
    simp only [Act.put, lA, lZ, lS]
    refine mix_call hK5 (some 21) 14 #[.tmp 19, .tmp 20] #[29, 3] 3 _ (by kernel_rfl) (by kernel_rfl) (enters Try.func14 (by kernel_rfl) (by kernel_rfl)) (by go_simp; try with_reducible rfl) (fun K6 hK6 => ?_)
    clear hK5 K5
    refine (HA2.out _ hS1).mono ?_
    rintro e wm2 ⟨rfl, hs2⟩
    have hS2 : _ := hS1.trans hs2
    refine ⟨_, rfl, hS2, ?_⟩
    clear hs2
    simp only [Act.put, lA, lZ, lS]
    refine mix_take hK6 (some 10) (.assign (.tmp 18)) 3 _ (by kernel_rfl) (by kernel_rfl) (fun w' hS' => by (simp only [opr]; go_simp; try with_reducible rfl)) (fun K7 hK7 => ?_)
    clear hK6 K6
    simp only [Act.put, lA, lZ, lS]
    refine mix_take hK7 (some 11) (.assign (.tmp 21)) 3 _ (by kernel_rfl) (by kernel_rfl) (fun w' hS' => by (simp only [opr]; go_simp; try with_reducible rfl)) (fun K8 hK8 => ?_)
    clear hK7 K7
    simp only [Act.put, lA, lZ, lS]
    refine hK8 _ _ (mix_nil ?_)
    clear hK8 K8
    obtain ⟨w3, hw3⟩ : ∃ W, W = wm2 := ⟨_, rfl⟩
    have HB4 := hide' (HBb4.out.keep hS2)
    have HB8 := hide' (HBb8.out.keep hS2)
    have HS9 := hide' (HS0.out.trans hS2)
    have HXA1 := hide' (HXA.out.keep hS2)
    rw [← hw3] at HB4 HB8 HS9 HXA1 ⊢
    clear hw3 hS hS2 hS1 HA1 HA2 HBb4 HBb8 HXA
    obtain ⟨e0, e1, e2, _⟩ := HB4.out
    simp only [xs] at e0 e1 e2
    obtain ⟨g, o, hxa, hpb⟩ := HXA1.out.rd i p HP.out
    obtain ⟨g2, o2, hxa2, htb⟩ := HXA1.out.rd k t HT.out
    rw [hxa] at hxa2
    cases hxa2
    rw [hxa] at e0
    obtain ⟨c0, c1, c2, c3, c4, c5⟩ := hpb
    obtain ⟨d0, d1, d2, d3, d4, d5⟩ := htb
    clear c0 c1 c2 c4 c5
    go_upto_if 48 with fail
    go_cut [3] (fun s2 wx => s2 = .int .i64 g1 ∧ wx = w3)
    case first =>
      by_cases h0 : g0 = 0
      · have d0 : (g0 == 0) = true := beq_iff_eq.2 h0
        have HE : Hid (y = g1) := by have := HGO.out; unfold orI at this; rw [if_pos h0] at this; exact this
        clear h0
        go_wp2
        go_meet
        exact ⟨by rw [← HE.out], rfl⟩
      · have d0 : (g0 == 0) = false := beq_eq_false_iff_ne.2 h0
        have HE : Hid (g0 = g1) := by have := HGO.out; unfold orI at this; rw [if_neg h0] at this; exact this
        clear h0
        go_wp2
        go_meet
        exact ⟨by rw [← HE.out], rfl⟩
    case rest =>
      obtain ⟨rfl, hwd⟩ := hcut
      rw [hwd]
      clear hwd
      clear HGO
      obtain ⟨b12, hb12⟩ : ∃ b, b = w3.heap.size := ⟨_, rfl⟩
      obtain ⟨w5, hw5⟩ : ∃ W, W = w3.alloc (.cells #[.int .i64 t.pid, .int .i64 t.par, .int .i64 t.grp, .int .i64 t.ses, .int .i64 t.tty, .bool t.df] 40) := ⟨_, rfl⟩
      have hs5 : Stay (fun _ => False) w3 w5 := by rw [hw5]; exact (Stay.refl _ _).alloc _
      have HB12 : Hid (PBox w5 b12 t) := by rw [hw5]; exact PBox.new t hb12.symm
      have HNB12 : Hid (w.heap.size ≤ b12) := by rw [hb12]; exact HS9.out.size
      have HNE : Hid (¬ b4 = b12 ∧ ¬ b8 = b12) := by have h1 := HB4.out.lt; have h2 := HB8.out.lt; rw [hb12]; exact ⟨by omega, by omega⟩
      have HNB12 : Hid (w.heap.size ≤ b12) := by rw [hb12]; exact HS9.out.size
      have HNE : Hid (¬ b4 = b12 ∧ ¬ b8 = b12) := by have h1 := HB4.out.lt; have h2 := HB8.out.lt; rw [hb12]; exact ⟨by omega, by omega⟩
      have HNB12 : Hid (w.heap.size ≤ b12) := by rw [hb12]; exact HS9.out.size
      have HNE : Hid (¬ b4 = b12 ∧ ¬ b8 = b12) := by have h1 := HB4.out.lt; have h2 := HB8.out.lt; rw [hb12]; exact ⟨by omega, by omega⟩
      have HNB12 : Hid (w.heap.size ≤ b12) := by rw [hb12]; exact HS9.out.size
      have HNE : Hid (¬ b4 = b12 ∧ ¬ b8 = b12) := by have h1 := HB4.out.lt; have h2 := HB8.out.lt; rw [hb12]; exact ⟨by omega, by omega⟩
      have e0' := keep_cell hs5 e0
      have c3' := keep_cell hs5 c3
      have HB4' := hide' (HB4.out.keep hs5)
      have HB8' := hide' (HB8.out.keep hs5)
      have HS9' := hide' (HS9.out.trans hs5)
      have HXA1' := hide' (HXA1.out.keep hs5)
      have HXE := hide' hxa
      go_upto_region 11 with fail
      rw [← hb12, ← hw5]
      clear hb12 hw5 hs5 HB4 HB8 HS9 HXA1 e0 e1 e2 c3 d0 d1 d2 d3 d4 d5 hxa
      have HB4 := HB4'
      have HB8 := HB8'
      have HS9 := HS9'
      have HXA1 := HXA1'
      have e0 := e0'
      have c3 := c3'
      clear HB4' HB8' HS9' HXA1' e0' c3'
      have q3 := HB12.out.c3
      have hS : Stay (fun _ => False) w5 w5.drew := (Stay.refl _ _).drew
      refine wp_region_mix (fun w' => Stay (fun _ => False) w5 w') [(0, true), (1, true), (2, true), (3, true), (4, true), (5, true), (6, true), (7, true), (8, true), (9, true), (10, true), (11, true), (12, true), (13, true), (14, true), (15, true), (16, true), (17, true), (18, true), (19, true), (20, true), (21, true), (22, true), (23, true), (24, false), (25, true), (26, true), (27, true)] (by kernel_rfl) (by kernel_rfl) (fun _ d _ _ _ h => by cases d <;> exact h) hS ?_
      refine mix_begin (fun K0 hK0 => ?_)
      refine mix_take hK0 (some 55) (.fieldAddr 40 (.tmp 12) 3) 0 _ (by kernel_rfl) (by kernel_rfl) (fun w' hS' => by (simp only [opr]; go_simp; try with_reducible rfl)) (fun K1 hK1 => ?_)
      clear hK0 K0
      simp only [Act.put, lA, lZ, lS]
      refine mix_take hK1 (some 56) (.load 3 (.tmp 55)) 3 _ (by kernel_rfl) (by kernel_rfl) (fun w' hS' => by (have z0 := keep_cell hS' q3; simp only [opr]; go_simp; try with_reducible rfl)) (fun K2 hK2 => ?_)
      clear hK1 K1
      simp only [Act.put, lA, lZ, lS]
      refine mix_take hK2 (some 57) (.move (.tmp 2)) 3 _ (by kernel_rfl) (by kernel_rfl) (fun w' hS' => by (simp only [opr]; go_simp; try with_reducible rfl)) (fun K3 hK3 => ?_)
      clear hK2 K2
      simp only [Act.put, lA, lZ, lS]
      refine mix_take hK3 (some 58) (.binOp BinOp.eql 3 (.tmp 56) (.tmp 57) 3) 4 _ (by kernel_rfl) (by kernel_rfl) (fun w' hS' => by (simp only [opr]; go_simp; try with_reducible rfl)) (fun K4 hK4 => ?_)
      clear hK3 K3
      simp only [Act.put, lA, lZ, lS]
      refine mix_take hK4 (some 59) (.move (.tmp 58)) 4 _ (by kernel_rfl) (by kernel_rfl) (fun w' hS' => by (simp only [opr]; go_simp; try with_reducible rfl)) (fun K5 hK5 => ?_)
      clear hK4 K4
      simp only [Act.put, lA, lZ, lS]
      refine mix_take hK5 (some 60) (.fieldAddr 40 (.tmp 12) 3) 0 _ (by kernel_rfl) (by kernel_rfl) (fun w' hS' => by (simp only [opr]; go_simp; try with_reducible rfl)) (fun K6 hK6 => ?_)
      clear hK5 K5
      simp only [Act.put, lA, lZ, lS]
      refine mix_take hK6 (some 61) (.load 3 (.tmp 60)) 3 _ (by kernel_rfl) (by kernel_rfl) (fun w' hS' => by (have z0 := keep_cell hS' q3; simp only [opr]; go_simp; try with_reducible rfl)) (fun K7 hK7 => ?_)
      clear hK6 K6
      simp only [Act.put, lA, lZ, lS]
      refine mix_take hK7 (some 62) (.fieldAddr 29 (.tmp 4) 0) 0 _ (by kernel_rfl) (by kernel_rfl) (fun w' hS' => by (simp only [opr]; go_simp; try with_reducible rfl)) (fun K8 hK8 => ?_)
      clear hK7 K7
      simp only [Act.put, lA, lZ, lS]
      refine mix_take hK8 (some 63) (.load 26 (.tmp 62)) 26 _ (by kernel_rfl) (by kernel_rfl) (fun w' hS' => by (have z0 := keep_cell hS' e0; simp only [opr]; go_simp; try with_reducible rfl)) (fun K9 hK9 => ?_)
      clear hK8 K8
      simp only [Act.put, lA, lZ, lS]
      refine mix_take hK9 (some 64) (.move (.tmp 10)) 3 _ (by kernel_rfl) (by kernel_rfl) (fun w' hS' => by (simp only [opr]; go_simp; try with_reducible rfl)) (fun K10 hK10 => ?_)
      clear hK9 K9
      simp only [Act.put, lA, lZ, lS]
      refine mix_take hK10 (some 65) (.indexAddr 26 (.tmp 63) (.tmp 64)) 0 _ (by kernel_rfl) (by kernel_rfl) (fun w' hS' => by (simp only [opr]; go_simp; try with_reducible rfl)) (fun K11 hK11 => ?_)
      clear hK10 K10
      simp only [Act.put, lA, lZ, lS]
      refine mix_take hK11 (some 66) (.fieldAddr 40 (.tmp 65) 3) 0 _ (by kernel_rfl) (by kernel_rfl) (fun w' hS' => by (simp only [opr]; go_simp; try with_reducible rfl)) (fun K12 hK12 => ?_)
      clear hK11 K11
      simp only [Act.put, lA, lZ, lS]
      refine mix_take hK12 (some 67) (.load 3 (.tmp 66)) 3 _ (by kernel_rfl) (by kernel_rfl) (fun w' hS' => by (have z0 := keep_cell hS' c3; simp only [opr]; go_simp; try with_reducible rfl)) (fun K13 hK13 => ?_)
      clear hK12 K12
      simp only [Act.put, lA, lZ, lS]
      refine mix_take hK13 (some 68) (.binOp BinOp.neq 3 (.tmp 61) (.tmp 67) 3) 4 _ (by kernel_rfl) (by kernel_rfl) (fun w' hS' => by (simp only [opr]; go_simp; try with_reducible rfl)) (fun K14 hK14 => ?_)
      clear hK13 K13
      simp only [Act.put, lA, lZ, lS]
      refine mix_take hK14 (some 69) (.pick (.tmp 59) (.const (Value.bool true)) (.tmp 68)) 4 _ (by kernel_rfl) (by kernel_rfl) (fun w' hS' => by (simp only [opr]; go_simp; try with_reducible rfl)) (fun K15 hK15 => ?_)
      clear hK14 K14
      simp only [Act.put, lA, lZ, lS]
      refine mix_take hK15 (some 70) (.move (.tmp 69)) 4 _ (by kernel_rfl) (by kernel_rfl) (fun w' hS' => by (simp only [opr]; go_simp; try with_reducible rfl)) (fun K16 hK16 => ?_)
      clear hK15 K15
      simp only [Act.put, lA, lZ, lS]
      refine mix_take hK16 (some 71) (.move (.tmp 3)) 3 _ (by kernel_rfl) (by kernel_rfl) (fun w' hS' => by (simp only [opr]; go_simp; try with_reducible rfl)) (fun K17 hK17 => ?_)
      clear hK16 K16
      simp only [Act.put, lA, lZ, lS]
      refine mix_take hK17 (some 72) (.move (.tmp 2)) 3 _ (by kernel_rfl) (by kernel_rfl) (fun w' hS' => by (simp only [opr]; go_simp; try with_reducible rfl)) (fun K18 hK18 => ?_)
      clear hK17 K17
      simp only [Act.put, lA, lZ, lS]
      refine mix_take hK18 (some 73) (.binOp BinOp.neq 3 (.tmp 71) (.tmp 72) 3) 4 _ (by kernel_rfl) (by kernel_rfl) (fun w' hS' => by (simp only [opr]; go_simp; try with_reducible rfl)) (fun K19 hK19 => ?_)
      clear hK18 K18
      simp only [Act.put, lA, lZ, lS]
      refine mix_take hK19 (some 74) (.move (.tmp 73)) 4 _ (by kernel_rfl) (by kernel_rfl) (fun w' hS' => by (simp only [opr]; go_simp; try with_reducible rfl)) (fun K20 hK20 => ?_)
      clear hK19 K19
      simp only [Act.put, lA, lZ, lS]
      refine mix_skip hK20 (some 75) (by kernel_rfl) (by kernel_rfl) hS (fun K21 hK21 => ?_)
      clear hK20 K20
      simp only [Act.put, lA, lZ, lS]
      refine mix_skip hK21 (some 76) (by kernel_rfl) (by kernel_rfl) hS (fun K22 hK22 => ?_)
      clear hK21 K21
      simp only [Act.put, lA, lZ, lS]
      refine mix_skip hK22 (some 77) (by kernel_rfl) (by kernel_rfl) hS (fun K23 hK23 => ?_)
      clear hK22 K22
      simp only [Act.put, lA, lZ, lS]
      refine mix_skip hK23 (some 78) (by kernel_rfl) (by kernel_rfl) hS (fun K24 hK24 => ?_)
      clear hK23 K23
      simp only [Act.put, lA, lZ, lS]
      refine mix_skip hK24 (some 79) (by kernel_rfl) (by kernel_rfl) hS (fun K25 hK25 => ?_)
      clear hK24 K24
      simp only [Act.put, lA, lZ, lS]
      refine mix_skip hK25 (some 80) (by kernel_rfl) (by kernel_rfl) hS (fun K26 hK26 => ?_)
      clear hK25 K25
      simp only [Act.put, lA, lZ, lS]
      refine mix_take hK26 (some 81) (.pick (.tmp 74) (.tmp 80) (.const (Value.bool false))) 4 _ (by kernel_rfl) (by kernel_rfl) (fun w' hS' => by (simp only [opr]; go_simp; try with_reducible rfl)) (fun K27 hK27 => ?_)
      clear hK26 K26
      simp only [Act.put, lA, lZ, lS]
      refine mix_take hK27 (some 82) (.pick (.tmp 70) (.const (Value.bool true)) (.tmp 81)) 4 _ (by kernel_rfl) (by kernel_rfl) (fun w' hS' => by (simp only [opr]; go_simp; try with_reducible rfl)) (fun K28 hK28 => ?_)
      clear hK27 K27
      simp only [Act.put, lA, lZ, lS]
      refine hK28 _ _ (mix_nil ?_)
      clear hK28 K28
      have HSM := hide' hS
      obtain ⟨wn, hwn⟩ : ∃ W, W = w5.drew := ⟨_, rfl⟩
      have HB4' := hide' (HB4.out.keep hS)
      have HB8' := hide' (HB8.out.keep hS)
      have HS9' := hide' (HS9.out.trans hS)
      have HXA1' := hide' (HXA1.out.keep hS)
      have HB12' := hide' (HB12.out.keep hS)
      rw [← hwn] at HB4' HB8' HS9' HXA1' HB12' ⊢
      clear hwn HSM hS  HB4 HB8 HS9 HXA1 HB12 e0 c3 q3
      have HB4 := HB4'
      have HB8 := HB8'
      have HS9 := HS9'
      have HXA1 := HXA1'
      have HB12 := HB12'
      clear HB4' HB8' HS9' HXA1' HB12'
      obtain ⟨m0, m1, m2, m3, m4, m5, n0, n1, n2, n3, n4, n5⟩ := HB12.out
      obtain ⟨w7, hw7⟩ : ∃ W, W = wn.setCell ⟨b12, 2, none⟩ (.int .i64 g1) := ⟨_, rfl⟩
      have hs7 : Stay (fun _ => False) w w7 := by rw [hw7]; exact HS9.out.setNew (p := ⟨b12, 2, none⟩) (by have := HNB12.out; exact this) _
      have hst7 : Stay (fun j => j = b12) wn w7 := by rw [hw7]; exact (Stay.refl (fun j => j = b12) wn).setCell (p := ⟨b12, 2, none⟩) rfl _
      have HBC : Hid (PBox w7 b12 ⟨t.pid, t.par, g1, t.ses, t.tty, t.df⟩) := by rw [hw7]; exact HB12.out.put2 rfl
      have HB47 := hide' (HB4.out.stay hst7 HNE.out.1)
      have HB87 := hide' (HB8.out.stay hst7 HNE.out.2)
      have HXA7 := hide' (HX0.out.keep hs7)
      have hw := with55 k ⟨t.pid, t.par, g1, t.ses, t.tty, t.df⟩ nx HXA7.out (List.getElem?_eq_some_iff.1 HT.out).1
      rw [← HN.out] at hw
      have HW := hide' hw
      have HS7 := hide' hs7
      clear hw hs7 hst7
      go_upto_region 14 with fail
      rw [← hw7]
      clear hw7 m0 m1 m2 m3 m4 m5 n0 n1 n2 n3 n4 n5 HB12 HB4 HB8 HS9
      obtain ⟨e0, e1, e2, _⟩ := HB47.out
      simp only [xs] at e0 e1 e2
      obtain ⟨d0, d1, d2, d3, d4, d5, _⟩ := HBC.out
      go_wp2_with fail
      refine HW.out.mono ?_
      rintro _ w8 ⟨x2, rfl, hx2, hs, hf2⟩
      have HX2 := hide' hx2
      have HB8 := hide' (HB87.out.keep hs)
      have HS9 := hide' (HS7.out.trans hs)
      have HNB : Hid (∀ j, x2.has j → ¬ j = b8) := fun j hj => by
        rcases hf2 j hj with e | e
        · have := HX0.out.lt j e; have := HZb8.out; omega
        · have := HB87.out.lt; omega
      have HF2 : Hid (XFrom w x x2) := fun j hj => by
        rcases hf2 j hj with e | e
        · exact .inl e
        · have := HS7.out.size; exact .inr (by omega)
      obtain ⟨n2, hn2⟩ : ∃ z, z = (L.set k ⟨t.pid, t.par, g1, t.ses, t.tty, t.df⟩).length := ⟨_, rfl⟩
      have HN2 := hide' hn2
      rw [← hn2]
      clear hx2 hs hf2 hn2 HW HB47 HB87 HS7 HBC HXA7 e0 e1 e2 d0 d1 d2 d3 d4 d5
      obtain ⟨k0, k1, k2, r0, r1, r2⟩ := HB8.out
      go_wp2
      have h3 := XBox.stay_put HS9.out HZb8.out (.slice x2.a n2 x2.cap) (.int .i64 nx) (.slice x2.a2 65 x2.c2)
      have h5 := HX2.out.stay (XBox.put_stay _ b8 (.slice x2.a n2 x2.cap) (.int .i64 nx) (.slice x2.a2 65 x2.c2)) HNB.out
      rw [HN2.out] at h3 h5 ⊢
      exact bodyPost_ret (results_x1 rfl _ _ b8 x2 _ nx _ rfl rfl (HB8.out.put (xs x2 _ nx))) rfl ⟨x2, rfl, h5, h3, HF2.out⟩

set_option maxRecDepth 100000 in
set_option maxHeartbeats 1000000 in
theorem rsetpgid30_new_child (y1 y0 g0 y nx : Int) (h : XAt w x L f) (hu : Up L) (hy : orI y0 y1 = y) (g1 : Int) {i : Nat} {p : Pr} (hp : L[i]? = some p) (hx : p.pid = y1) {k : Nat} {t : Pr} (ht : L[k]? = some t) (hty : t.pid = y) (hn' : (y != y1) = true) (hr : (t.par != y1) = false) (hg : ¬ g0 < 0) (hgo : orI g0 y = g1) (hl : (t.ses == y) = false) (hse : (t.ses != p.ses) = false) (hgy : (g1 != y) = false) : Calls Try.prog 30 #[.agg #[.slice x.a L.length x.cap, .int .i64 nx, .slice x.a2 65 x.c2], .int .i64 y1, .int .i64 y0, .int .i64 g0] w (XG2 x (L.set k ⟨t.pid, t.par, g1, t.ses, t.tty, t.df⟩) nx f 0 w) := by
  obtain ⟨n, hn⟩ : ∃ n, n = L.length := ⟨_, rfl⟩
  obtain ⟨b4, hb4⟩ : ∃ b, b = w.heap.size := ⟨_, rfl⟩
  obtain ⟨Wq0, hWq0⟩ : ∃ W, W = w.alloc (.cells #[.slice x.a n x.cap, .int .i64 nx, .slice x.a2 65 x.c2] 29) := ⟨_, rfl⟩
  have hsWq0 : Stay (fun _ => False) w Wq0 := by rw [hWq0]; exact (Stay.refl _ _).alloc _
  have hpb4 : w.heap.size = b4 := by rw [hb4]
  obtain ⟨b8, hb8⟩ : ∃ b, b = w.heap.size + 1 := ⟨_, rfl⟩
  obtain ⟨W0, hW0⟩ : ∃ W, W = Wq0.alloc (.cells #[.slice none 0 0, .int .i64 0, .slice none 0 0] 29) := ⟨_, rfl⟩
  have hsW0 : Stay (fun _ => False) Wq0 W0 := by rw [hW0]; exact (Stay.refl _ _).alloc _
  have hpb8 : Wq0.heap.size = b8 := by rw [hb8]; rw [hWq0, World.size_alloc]
  have HBb4 := hide' (show XBox W0 b4 (xs x n nx) from (show XBox Wq0 b4 (xs x n nx) from (by rw [hWq0]; exact xbox_new w x n nx hpb4)).keep ((Stay.refl (fun _ => False) Wq0).trans hsW0))
  have HZb4 : Hid (w.heap.size ≤ b4) := by show _ ≤ _; omega
  have HBb8 := hide' (show XBox W0 b8 ⟨.slice none 0 0, 0, .slice none 0 0⟩ from (show XBox W0 b8 ⟨.slice none 0 0, 0, .slice none 0 0⟩ from (by rw [hW0]; exact XBox.new ⟨.slice none 0 0, 0, .slice none 0 0⟩ hpb8)).keep (Stay.refl (fun _ => False) W0))
  have HZb8 : Hid (w.heap.size ≤ b8) := by show _ ≤ _; omega
  have HS0 := hide' (((Stay.refl (fun _ => False) w).trans hsWq0).trans hsW0)
  have HW0 : Hid (W0 = ((w.alloc (.cells #[.slice x.a n x.cap, .int .i64 nx, .slice x.a2 65 x.c2] 29)).alloc (.cells #[.slice none 0 0, .int .i64 0, .slice none 0 0] 29))) := by show _ = _; rw [hW0, hWq0]
  have HXA := hide' (h.keep HS0.out)
  have HX0 := hide' h
  have HN := hide' hn
  have hn1 : (n : Int) ≤ 256 := by have := h.len; omega
  have hin1 : (i : Int) < (n : Nat) := by have := (List.getElem?_eq_some_iff.1 hp).1; omega
  have hkn1 : (k : Int) < (n : Nat) := by have := (List.getElem?_eq_some_iff.1 ht).1; omega
  have HP := hide' hp
  have HT := hide' ht
  have HGO := hide' hgo
  have HA1 := hide' (fun W (hs : Stay (fun _ => False) W0 W) => (by have hat := at14 y1 nx (HXA.out.keep hs); rw [ixI_at hu hp hx, ← HN.out] at hat; exact hat : Calls Try.prog 14 #[.agg #[.slice x.a n x.cap, .int .i64 nx, .slice x.a2 65 x.c2], .int .i64 y1] W (Gives (.int .i64 (i : Nat)) W)))
  have HA2 := hide' (fun W (hs : Stay (fun _ => False) W0 W) => (by have hat := at14 y nx (HXA.out.keep hs); rw [ixI_at hu ht hty, ← HN.out] at hat; exact hat : Calls Try.prog 14 #[.agg #[.slice x.a n x.cap, .int .i64 nx, .slice x.a2 65 x.c2], .int .i64 y] W (Gives (.int .i64 (k : Nat)) W)))
  have HY := hide' hy
  clear hy
  rw [← hn]
  clear h hn hu hx hp ht hty hgo
  clear hWq0 hW0 hsWq0 hsW0 hpb4 hpb8
  obtain ⟨e0, e1, e2, _⟩ := HBb4.out
  simp only [xs] at e0 e1 e2
  go_enter Try.func30, Try.ntmps30
  go_upto_region 1 with fail
  rw [← HW0.out, ← hb8, ← hb4]
  clear HW0 hb4 hb8
  go_upto_if 14 with fail
  go_cut [2] (fun s2 wx => s2 = .int .i64 y ∧ wx = W0)
  case first =>
    by_cases h0 : y0 = 0
    · have d0 : (y0 == 0) = true := beq_iff_eq.2 h0
      have HE : Hid (y1 = y) := by have := HY.out; unfold orI at this; rw [if_pos h0] at this; exact this
      clear h0
      go_wp2
      go_meet
      exact ⟨by rw [← HE.out], rfl⟩
    · have d0 : (y0 == 0) = false := beq_eq_false_iff_ne.2 h0
      have HE : Hid (y0 = y) := by have := HY.out; unfold orI at this; rw [if_neg h0] at this; exact this
      clear h0
      go_wp2
      go_meet
      exact ⟨by rw [← HE.out], rfl⟩
  case rest =>
    obtain ⟨rfl, hwc⟩ := hcut
    rw [hwc]
    clear hwc
    clear HY e0 e1 e2
    go_upto_region 3 with fail
    have hS : Stay (fun _ => False) W0 W0.drew := (Stay.refl _ _).drew
    refine wp_region_mix (fun w' => Stay (fun _ => False) W0 w') [(0, true), (1, true), (3, true), (4, true), (2, false), (5, false), (6, true), (7, true)] (by kernel_rfl) (by kernel_rfl) (fun _ d _ _ _ h => by cases d <;> exact h) hS ?_
    refine mix_begin (fun K0 hK0 => ?_)
    refine mix_take hK0 (some 16) (.load 29 (.tmp 4)) 29 _ (by kernel_rfl) (by kernel_rfl) (fun w' hS' => by exact run_load_XBox rfl rfl (HBb4.out.keep hS')) (fun K1 hK1 => ?_)
    clear hK0 K0
    simp only [Act.put, lA, lZ, lS]
    refine mix_take hK1 (some 17) (.move (.tmp 1)) 3 _ (by kernel_rfl) (by kernel_rfl) (fun w' hS' => by (simp only [opr]; go_simp; try with_reducible rfl)) (fun K2 hK2 => ?_)
    clear hK1 K1
    simp only [Act.put, lA, lZ, lS]
    refine mix_take hK2 (some 19) (.load 29 (.tmp 4)) 29 _ (by kernel_rfl) (by kernel_rfl) (fun w' hS' => by exact run_load_XBox rfl rfl (HBb4.out.keep hS')) (fun K3 hK3 => ?_)
    clear hK2 K2
    simp only [Act.put, lA, lZ, lS]
    refine mix_take hK3 (some 20) (.move (.tmp 2)) 3 _ (by kernel_rfl) (by kernel_rfl) (fun w' hS' => by (simp only [opr]; go_simp; try with_reducible rfl)) (fun K4 hK4 => ?_)
    clear hK3 K3
    simp only [Act.put, lA, lZ, lS]
    refine mix_call hK4 (some 18) 14 #[.tmp 16, .tmp 17] #[29, 3] 3 _ (by kernel_rfl) (by kernel_rfl) (enters Try.func14 (by kernel_rfl) (by kernel_rfl)) (by go_simp; try with_reducible rfl) (fun K5 hK5 => ?_)
    clear hK4 K4
    refine (HA1.out _ hS).mono ?_
    rintro e wm1 ⟨rfl, hs1⟩
    have hS1 : _ := hS.trans hs1
    refine ⟨_, rfl, hS1, ?_⟩
    clear hs1
    simp only [Act.put, lA, lZ, lS]
    refine mix_call hK5 (some 21) 14 #[.tmp 19, .tmp 20] #[29, 3] 3 _ (by kernel_rfl) (by kernel_rfl) (enters Try.func14 (by kernel_rfl) (by kernel_rfl)) (by go_simp; try with_reducible rfl) (fun K6 hK6 => ?_)
    clear hK5 K5
    refine (HA2.out _ hS1).mono ?_
    rintro e wm2 ⟨rfl, hs2⟩
    have hS2 : _ := hS1.trans hs2
    refine ⟨_, rfl, hS2, ?_⟩
    clear hs2
    simp only [Act.put, lA, lZ, lS]
    refine mix_take hK6 (some 10) (.assign (.tmp 18)) 3 _ (by kernel_rfl) (by kernel_rfl) (fun w' hS' => by (simp only [opr]; go_simp; try with_reducible rfl)) (fun K7 hK7 => ?_)
    clear hK6 K6
    simp only [Act.put, lA, lZ, lS]
    refine mix_take hK7 (some 11) (.assign (.tmp 21)) 3 _ (by kernel_rfl) (by kernel_rfl) (fun w' hS' => by (simp only [opr]; go_simp; try with_reducible rfl)) (fun K8 hK8 => ?_)
    clear hK7 K7
    simp only [Act.put, lA, lZ, lS]
    refine hK8 _ _ (mix_nil ?_)
    clear hK8 K8
    obtain ⟨w3, hw3⟩ : ∃ W, W = wm2 := ⟨_, rfl⟩
    have HB4 := hide' (HBb4.out.keep hS2)
    have HB8 := hide' (HBb8.out.keep hS2)
    have HS9 := hide' (HS0.out.trans hS2)
    have HXA1 := hide' (HXA.out.keep hS2)
    rw [← hw3] at HB4 HB8 HS9 HXA1 ⊢
    clear hw3 hS hS2 hS1 HA1 HA2 HBb4 HBb8 HXA
    obtain ⟨e0, e1, e2, _⟩ := HB4.out
    simp only [xs] at e0 e1 e2
    obtain ⟨g, o, hxa, hpb⟩ := HXA1.out.rd i p HP.out
    obtain ⟨g2, o2, hxa2, htb⟩ := HXA1.out.rd k t HT.out
    rw [hxa] at hxa2
    cases hxa2
    rw [hxa] at e0
    obtain ⟨c0, c1, c2, c3, c4, c5⟩ := hpb
    obtain ⟨d0, d1, d2, d3, d4, d5⟩ := htb
    clear c0 c1 c2 c4 c5
    go_upto_if 48 with fail
    go_cut [3] (fun s2 wx => s2 = .int .i64 g1 ∧ wx = w3)
    case first =>
      by_cases h0 : g0 = 0
      · have d0 : (g0 == 0) = true := beq_iff_eq.2 h0
        have HE : Hid (y = g1) := by have := HGO.out; unfold orI at this; rw [if_pos h0] at this; exact this
        clear h0
        go_wp2
        go_meet
        exact ⟨by rw [← HE.out], rfl⟩
      · have d0 : (g0 == 0) = false := beq_eq_false_iff_ne.2 h0
        have HE : Hid (g0 = g1) := by have := HGO.out; unfold orI at this; rw [if_neg h0] at this; exact this
        clear h0
        go_wp2
        go_meet
        exact ⟨by rw [← HE.out], rfl⟩
    case rest =>
      obtain ⟨rfl, hwd⟩ := hcut
      rw [hwd]
      clear hwd
      clear HGO
      obtain ⟨b12, hb12⟩ : ∃ b, b = w3.heap.size := ⟨_, rfl⟩
      obtain ⟨w5, hw5⟩ : ∃ W, W = w3.alloc (.cells #[.int .i64 t.pid, .int .i64 t.par, .int .i64 t.grp, .int .i64 t.ses, .int .i64 t.tty, .bool t.df] 40) := ⟨_, rfl⟩
      have hs5 : Stay (fun _ => False) w3 w5 := by rw [hw5]; exact (Stay.refl _ _).alloc _
      have HB12 : Hid (PBox w5 b12 t) := by rw [hw5]; exact PBox.new t hb12.symm
      have HNB12 : Hid (w.heap.size ≤ b12) := by rw [hb12]; exact HS9.out.size
      have HNE : Hid (¬ b4 = b12 ∧ ¬ b8 = b12) := by have h1 := HB4.out.lt; have h2 := HB8.out.lt; rw [hb12]; exact ⟨by omega, by omega⟩
      have HNB12 : Hid (w.heap.size ≤ b12) := by rw [hb12]; exact HS9.out.size
      have HNE : Hid (¬ b4 = b12 ∧ ¬ b8 = b12) := by have h1 := HB4.out.lt; have h2 := HB8.out.lt; rw [hb12]; exact ⟨by omega, by omega⟩
      have HNB12 : Hid (w.heap.size ≤ b12) := by rw [hb12]; exact HS9.out.size
      have HNE : Hid (¬ b4 = b12 ∧ ¬ b8 = b12) := by have h1 := HB4.out.lt; have h2 := HB8.out.lt; rw [hb12]; exact ⟨by omega, by omega⟩
      have e0' := keep_cell hs5 e0
      have c3' := keep_cell hs5 c3
      have HB4' := hide' (HB4.out.keep hs5)
      have HB8' := hide' (HB8.out.keep hs5)
      have HS9' := hide' (HS9.out.trans hs5)
      have HXA1' := hide' (HXA1.out.keep hs5)
      have HXE := hide' hxa
      go_upto_region 11 with fail
      rw [← hb12, ← hw5]
      clear hb12 hw5 hs5 HB4 HB8 HS9 HXA1 e0 e1 e2 c3 d0 d1 d2 d3 d4 d5 hxa
      have HB4 := HB4'
      have HB8 := HB8'
      have HS9 := HS9'
      have HXA1 := HXA1'
      have e0 := e0'
      have c3 := c3'
      clear HB4' HB8' HS9' HXA1' e0' c3'
      have q3 := HB12.out.c3
      have hS : Stay (fun _ => False) w5 w5.drew := (Stay.refl _ _).drew
      refine wp_region_mix (fun w' => Stay (fun _ => False) w5 w') [(0, true), (1, true), (2, true), (3, true), (4, true), (5, true), (6, true), (7, true), (8, true), (9, true), (10, true), (11, true), (12, true), (13, true), (14, true), (15, true), (16, true), (17, true), (18, true), (19, true), (20, true), (21, true), (22, true), (23, true), (24, false), (25, true), (26, true), (27, true)] (by kernel_rfl) (by kernel_rfl) (fun _ d _ _ _ h => by cases d <;> exact h) hS ?_
      refine mix_begin (fun K0 hK0 => ?_)
      refine mix_take hK0 (some 55) (.fieldAddr 40 (.tmp 12) 3) 0 _ (by kernel_rfl) (by kernel_rfl) (fun w' hS' => by (simp only [opr]; go_simp; try with_reducible rfl)) (fun K1 hK1 => ?_)
      clear hK0 K0
      simp only [Act.put, lA, lZ, lS]
      refine mix_take hK1 (some 56) (.load 3 (.tmp 55)) 3 _ (by kernel_rfl) (by kernel_rfl) (fun w' hS' => by (have z0 := keep_cell hS' q3; simp only [opr]; go_simp; try with_reducible rfl)) (fun K2 hK2 => ?_)
      clear hK1 K1
      simp only [Act.put, lA, lZ, lS]
      refine mix_take hK2 (some 57) (.move (.tmp 2)) 3 _ (by kernel_rfl) (by kernel_rfl) (fun w' hS' => by (simp only [opr]; go_simp; try with_reducible rfl)) (fun K3 hK3 => ?_)
      clear hK2 K2
      simp only [Act.put, lA, lZ, lS]
      refine mix_take hK3 (some 58) (.binOp BinOp.eql 3 (.tmp 56) (.tmp 57) 3) 4 _ (by kernel_rfl) (by kernel_rfl) (fun w' hS' => by (simp only [opr]; go_simp; try with_reducible rfl)) (fun K4 hK4 => ?_)
      clear hK3 K3
      simp only [Act.put, lA, lZ, lS]
      refine mix_take hK4 (some 59) (.move (.tmp 58)) 4 _ (by kernel_rfl) (by kernel_rfl) (fun w' hS' => by (simp only [opr]; go_simp; try with_reducible rfl)) (fun K5 hK5 => ?_)
      clear hK4 K4
      simp only [Act.put, lA, lZ, lS]
      refine mix_take hK5 (some 60) (.fieldAddr 40 (.tmp 12) 3) 0 _ (by kernel_rfl) (by kernel_rfl) (fun w' hS' => by (simp only [opr]; go_simp; try with_reducible rfl)) (fun K6 hK6 => ?_)
      clear hK5 K5
      simp only [Act.put, lA, lZ, lS]
      refine mix_take hK6 (some 61) (.load 3 (.tmp 60)) 3 _ (by kernel_rfl) (by kernel_rfl) (fun w' hS' => by (have z0 := keep_cell hS' q3; simp only [opr]; go_simp; try with_reducible rfl)) (fun K7 hK7 => ?_)
      clear hK6 K6
      simp only [Act.put, lA, lZ, lS]
      refine mix_take hK7 (some 62) (.fieldAddr 29 (.tmp 4) 0) 0 _ (by kernel_rfl) (by kernel_rfl) (fun w' hS' => by (simp only [opr]; go_simp; try with_reducible rfl)) (fun K8 hK8 => ?_)
      clear hK7 K7
      simp only [Act.put, lA, lZ, lS]
      refine mix_take hK8 (some 63) (.load 26 (.tmp 62)) 26 _ (by kernel_rfl) (by kernel_rfl) (fun w' hS' => by (have z0 := keep_cell hS' e0; simp only [opr]; go_simp; try with_reducible rfl)) (fun K9 hK9 => ?_)
      clear hK8 K8
      simp only [Act.put, lA, lZ, lS]
      refine mix_take hK9 (some 64) (.move (.tmp 10)) 3 _ (by kernel_rfl) (by kernel_rfl) (fun w' hS' => by (simp only [opr]; go_simp; try with_reducible rfl)) (fun K10 hK10 => ?_)
      clear hK9 K9
      simp only [Act.put, lA, lZ, lS]
      refine mix_take hK10 (some 65) (.indexAddr 26 (.tmp 63) (.tmp 64)) 0 _ (by kernel_rfl) (by kernel_rfl) (fun w' hS' => by (simp only [opr]; go_simp; try with_reducible rfl)) (fun K11 hK11 => ?_)
      clear hK10 K10
      simp only [Act.put, lA, lZ, lS]
      refine mix_take hK11 (some 66) (.fieldAddr 40 (.tmp 65) 3) 0 _ (by kernel_rfl) (by kernel_rfl) (fun w' hS' => by (simp only [opr]; go_simp; try with_reducible rfl)) (fun K12 hK12 => ?_)
      clear hK11 K11
      simp only [Act.put, lA, lZ, lS]
      refine mix_take hK12 (some 67) (.load 3 (.tmp 66)) 3 _ (by kernel_rfl) (by kernel_rfl) (fun w' hS' => by (have z0 := keep_cell hS' c3; simp only [opr]; go_simp; try with_reducible rfl)) (fun K13 hK13 => ?_)
      clear hK12 K12
      simp only [Act.put, lA, lZ, lS]
      refine mix_take hK13 (some 68) (.binOp BinOp.neq 3 (.tmp 61) (.tmp 67) 3) 4 _ (by kernel_rfl) (by kernel_rfl) (fun w' hS' => by (simp only [opr]; go_simp; try with_reducible rfl)) (fun K14 hK14 => ?_)
      clear hK13 K13
      simp only [Act.put, lA, lZ, lS]
      refine mix_take hK14 (some 69) (.pick (.tmp 59) (.const (Value.bool true)) (.tmp 68)) 4 _ (by kernel_rfl) (by kernel_rfl) (fun w' hS' => by (simp only [opr]; go_simp; try with_reducible rfl)) (fun K15 hK15 => ?_)
      clear hK14 K14
      simp only [Act.put, lA, lZ, lS]
      refine mix_take hK15 (some 70) (.move (.tmp 69)) 4 _ (by kernel_rfl) (by kernel_rfl) (fun w' hS' => by (simp only [opr]; go_simp; try with_reducible rfl)) (fun K16 hK16 => ?_)
      clear hK15 K15
      simp only [Act.put, lA, lZ, lS]
      refine mix_take hK16 (some 71) (.move (.tmp 3)) 3 _ (by kernel_rfl) (by kernel_rfl) (fun w' hS' => by (simp only [opr]; go_simp; try with_reducible rfl)) (fun K17 hK17 => ?_)
      clear hK16 K16
      simp only [Act.put, lA, lZ, lS]
      refine mix_take hK17 (some 72) (.move (.tmp 2)) 3 _ (by kernel_rfl) (by kernel_rfl) (fun w' hS' => by (simp only [opr]; go_simp; try with_reducible rfl)) (fun K18 hK18 => ?_)
      clear hK17 K17
      simp only [Act.put, lA, lZ, lS]
      refine mix_take hK18 (some 73) (.binOp BinOp.neq 3 (.tmp 71) (.tmp 72) 3) 4 _ (by kernel_rfl) (by kernel_rfl) (fun w' hS' => by (simp only [opr]; go_simp; try with_reducible rfl)) (fun K19 hK19 => ?_)
      clear hK18 K18
      simp only [Act.put, lA, lZ, lS]
      refine mix_take hK19 (some 74) (.move (.tmp 73)) 4 _ (by kernel_rfl) (by kernel_rfl) (fun w' hS' => by (simp only [opr]; go_simp; try with_reducible rfl)) (fun K20 hK20 => ?_)
      clear hK19 K19
      simp only [Act.put, lA, lZ, lS]
      refine mix_skip hK20 (some 75) (by kernel_rfl) (by kernel_rfl) hS (fun K21 hK21 => ?_)
      clear hK20 K20
      simp only [Act.put, lA, lZ, lS]
      refine mix_skip hK21 (some 76) (by kernel_rfl) (by kernel_rfl) hS (fun K22 hK22 => ?_)
      clear hK21 K21
      simp only [Act.put, lA, lZ, lS]
      refine mix_skip hK22 (some 77) (by kernel_rfl) (by kernel_rfl) hS (fun K23 hK23 => ?_)
      clear hK22 K22
      simp only [Act.put, lA, lZ, lS]
      refine mix_skip hK23 (some 78) (by kernel_rfl) (by kernel_rfl) hS (fun K24 hK24 => ?_)
      clear hK23 K23
      simp only [Act.put, lA, lZ, lS]
      refine mix_skip hK24 (some 79) (by kernel_rfl) (by kernel_rfl) hS (fun K25 hK25 => ?_)
      clear hK24 K24
      simp only [Act.put, lA, lZ, lS]
      refine mix_skip hK25 (some 80) (by kernel_rfl) (by kernel_rfl) hS (fun K26 hK26 => ?_)
      clear hK25 K25
      simp only [Act.put, lA, lZ, lS]
      refine mix_take hK26 (some 81) (.pick (.tmp 74) (.tmp 80) (.const (Value.bool false))) 4 _ (by kernel_rfl) (by kernel_rfl) (fun w' hS' => by (simp only [opr]; go_simp; try with_reducible rfl)) (fun K27 hK27 => ?_)
      clear hK26 K26
      simp only [Act.put, lA, lZ, lS]
      refine mix_take hK27 (some 82) (.pick (.tmp 70) (.const (Value.bool true)) (.tmp 81)) 4 _ (by kernel_rfl) (by kernel_rfl) (fun w' hS' => by (simp only [opr]; go_simp; try with_reducible rfl)) (fun K28 hK28 => ?_)
      clear hK27 K27
      simp only [Act.put, lA, lZ, lS]
      refine hK28 _ _ (mix_nil ?_)
      clear hK28 K28
      have HSM := hide' hS
      obtain ⟨wn, hwn⟩ : ∃ W, W = w5.drew := ⟨_, rfl⟩
      have HB4' := hide' (HB4.out.keep hS)
      have HB8' := hide' (HB8.out.keep hS)
      have HS9' := hide' (HS9.out.trans hS)
      have HXA1' := hide' (HXA1.out.keep hS)
      have HB12' := hide' (HB12.out.keep hS)
      rw [← hwn] at HB4' HB8' HS9' HXA1' HB12' ⊢
      clear hwn HSM hS  HB4 HB8 HS9 HXA1 HB12 e0 c3 q3
      have HB4 := HB4'
      have HB8 := HB8'
      have HS9 := HS9'
      have HXA1 := HXA1'
      have HB12 := HB12'
      clear HB4' HB8' HS9' HXA1' HB12'
      obtain ⟨m0, m1, m2, m3, m4, m5, n0, n1, n2, n3, n4, n5⟩ := HB12.out
      obtain ⟨w7, hw7⟩ : ∃ W, W = wn.setCell ⟨b12, 2, none⟩ (.int .i64 g1) := ⟨_, rfl⟩
      have hs7 : Stay (fun _ => False) w w7 := by rw [hw7]; exact HS9.out.setNew (p := ⟨b12, 2, none⟩) (by have := HNB12.out; exact this) _
      have hst7 : Stay (fun j => j = b12) wn w7 := by rw [hw7]; exact (Stay.refl (fun j => j = b12) wn).setCell (p := ⟨b12, 2, none⟩) rfl _
      have HBC : Hid (PBox w7 b12 ⟨t.pid, t.par, g1, t.ses, t.tty, t.df⟩) := by rw [hw7]; exact HB12.out.put2 rfl
      have HB47 := hide' (HB4.out.stay hst7 HNE.out.1)
      have HB87 := hide' (HB8.out.stay hst7 HNE.out.2)
      have HXA7 := hide' (HX0.out.keep hs7)
      have hw := with55 k ⟨t.pid, t.par, g1, t.ses, t.tty, t.df⟩ nx HXA7.out (List.getElem?_eq_some_iff.1 HT.out).1
      rw [← HN.out] at hw
      have HW := hide' hw
      have HS7 := hide' hs7
      clear hw hs7 hst7
      go_upto_region 14 with fail
      rw [← hw7]
      clear hw7 m0 m1 m2 m3 m4 m5 n0 n1 n2 n3 n4 n5 HB12 HB4 HB8 HS9
      obtain ⟨e0, e1, e2, _⟩ := HB47.out
      simp only [xs] at e0 e1 e2
      obtain ⟨d0, d1, d2, d3, d4, d5, _⟩ := HBC.out
      go_wp2_with fail
      refine HW.out.mono ?_
      rintro _ w8 ⟨x2, rfl, hx2, hs, hf2⟩
      have HX2 := hide' hx2
      have HB8 := hide' (HB87.out.keep hs)
      have HS9 := hide' (HS7.out.trans hs)
      have HNB : Hid (∀ j, x2.has j → ¬ j = b8) := fun j hj => by
        rcases hf2 j hj with e | e
        · have := HX0.out.lt j e; have := HZb8.out; omega
        · have := HB87.out.lt; omega
      have HF2 : Hid (XFrom w x x2) := fun j hj => by
        rcases hf2 j hj with e | e
        · exact .inl e
        · have := HS7.out.size; exact .inr (by omega)
      obtain ⟨n2, hn2⟩ : ∃ z, z = (L.set k ⟨t.pid, t.par, g1, t.ses, t.tty, t.df⟩).length := ⟨_, rfl⟩
      have HN2 := hide' hn2
      rw [← hn2]
      clear hx2 hs hf2 hn2 HW HB47 HB87 HS7 HBC HXA7 e0 e1 e2 d0 d1 d2 d3 d4 d5
      obtain ⟨k0, k1, k2, r0, r1, r2⟩ := HB8.out
      go_wp2
      have h3 := XBox.stay_put HS9.out HZb8.out (.slice x2.a n2 x2.cap) (.int .i64 nx) (.slice x2.a2 65 x2.c2)
      have h5 := HX2.out.stay (XBox.put_stay _ b8 (.slice x2.a n2 x2.cap) (.int .i64 nx) (.slice x2.a2 65 x2.c2)) HNB.out
      rw [HN2.out] at h3 h5 ⊢
      exact bodyPost_ret (results_x1 rfl _ _ b8 x2 _ nx _ rfl rfl (HB8.out.put (xs x2 _ nx))) rfl ⟨x2, rfl, h5, h3, HF2.out⟩

set_option maxRecDepth 100000 in
set_option maxHeartbeats 1000000 in
theorem rsetpgid30_join_self (y1 y0 g0 y nx : Int) (h : XAt w x L f) (hu : Up L) (hy : orI y0 y1 = y) (g1 : Int) {i : Nat} {p : Pr} (hp : L[i]? = some p) (hx : p.pid = y1) {k : Nat} {t : Pr} (ht : L[k]? = some t) (hty : t.pid = y) (hn' : (y != y1) = false) (hg : ¬ g0 < 0) (hgo : orI g0 y = g1) (hl : (t.ses == y) = false) (hse : (t.ses != p.ses) = false) (hgy : (g1 != y) = true) (hz : t.ses ≠ 0) (hh : L.any (fun k => k.grp == g1 && k.ses == t.ses) = true) : Calls Try.prog 30 #[.agg #[.slice x.a L.length x.cap, .int .i64 nx, .slice x.a2 65 x.c2], .int .i64 y1, .int .i64 y0, .int .i64 g0] w (XG2 x (L.set k ⟨t.pid, t.par, g1, t.ses, t.tty, t.df⟩) nx f 0 w) := by
  obtain ⟨n, hn⟩ : ∃ n, n = L.length := ⟨_, rfl⟩
  obtain ⟨b4, hb4⟩ : ∃ b, b = w.heap.size := ⟨_, rfl⟩
  obtain ⟨Wq0, hWq0⟩ : ∃ W, W = w.alloc (.cells #[.slice x.a n x.cap, .int .i64 nx, .slice x.a2 65 x.c2] 29) := ⟨_, rfl⟩
  have hsWq0 : Stay (fun _ => False) w Wq0 := by rw [hWq0]; exact (Stay.refl _ _).alloc _
  have hpb4 : w.heap.size = b4 := by rw [hb4]
  obtain ⟨b8, hb8⟩ : ∃ b, b = w.heap.size + 1 := ⟨_, rfl⟩
  obtain ⟨W0, hW0⟩ : ∃ W, W = Wq0.alloc (.cells #[.slice none 0 0, .int .i64 0, .slice none 0 0] 29) := ⟨_, rfl⟩
  have hsW0 : Stay (fun _ => False) Wq0 W0 := by rw [hW0]; exact (Stay.refl _ _).alloc _
  have hpb8 : Wq0.heap.size = b8 := by rw [hb8]; rw [hWq0, World.size_alloc]
  have HBb4 := hide' (show XBox W0 b4 (xs x n nx) from (show XBox Wq0 b4 (xs x n nx) from (by rw [hWq0]; exact xbox_new w x n nx hpb4)).keep ((Stay.refl (fun _ => False) Wq0).trans hsW0))
  have HZb4 : Hid (w.heap.size ≤ b4) := by show _ ≤ _; omega
  have HBb8 := hide' (show XBox W0 b8 ⟨.slice none 0 0, 0, .slice none 0 0⟩ from (show XBox W0 b8 ⟨.slice none 0 0, 0, .slice none 0 0⟩ from (by rw [hW0]; exact XBox.new ⟨.slice none 0 0, 0, .slice none 0 0⟩ hpb8)).keep (Stay.refl (fun _ => False) W0))
  have HZb8 : Hid (w.heap.size ≤ b8) := by show _ ≤ _; omega
  have HS0 := hide' (((Stay.refl (fun _ => False) w).trans hsWq0).trans hsW0)
  have HW0 : Hid (W0 = ((w.alloc (.cells #[.slice x.a n x.cap, .int .i64 nx, .slice x.a2 65 x.c2] 29)).alloc (.cells #[.slice none 0 0, .int .i64 0, .slice none 0 0] 29))) := by show _ = _; rw [hW0, hWq0]
  have HXA := hide' (h.keep HS0.out)
  have HX0 := hide' h
  have HN := hide' hn
  have hn1 : (n : Int) ≤ 256 := by have := h.len; omega
  have hin1 : (i : Int) < (n : Nat) := by have := (List.getElem?_eq_some_iff.1 hp).1; omega
  have hkn1 : (k : Int) < (n : Nat) := by have := (List.getElem?_eq_some_iff.1 ht).1; omega
  have HP := hide' hp
  have HT := hide' ht
  have HH := hide' (show L.any (fun k => k.grp == g1 && k.ses == t.ses) = true ∧ t.ses ≠ 0 from ⟨hh, hz⟩)
  clear hh hz
  have HGO := hide' hgo
  have HA1 := hide' (fun W (hs : Stay (fun _ => False) W0 W) => (by have hat := at14 y1 nx (HXA.out.keep hs); rw [ixI_at hu hp hx, ← HN.out] at hat; exact hat : Calls Try.prog 14 #[.agg #[.slice x.a n x.cap, .int .i64 nx, .slice x.a2 65 x.c2], .int .i64 y1] W (Gives (.int .i64 (i : Nat)) W)))
  have HA2 := hide' (fun W (hs : Stay (fun _ => False) W0 W) => (by have hat := at14 y nx (HXA.out.keep hs); rw [ixI_at hu ht hty, ← HN.out] at hat; exact hat : Calls Try.prog 14 #[.agg #[.slice x.a n x.cap, .int .i64 nx, .slice x.a2 65 x.c2], .int .i64 y] W (Gives (.int .i64 (k : Nat)) W)))
  have HY := hide' hy
  clear hy
  rw [← hn]
  clear h hn hu hx hp ht hty hgo
  clear hWq0 hW0 hsWq0 hsW0 hpb4 hpb8
  obtain ⟨e0, e1, e2, _⟩ := HBb4.out
  simp only [xs] at e0 e1 e2
  go_enter Try.func30, Try.ntmps30
  go_upto_region 1 with fail
  rw [← HW0.out, ← hb8, ← hb4]
  clear HW0 hb4 hb8
  go_upto_if 14 with fail
  go_cut [2] (fun s2 wx => s2 = .int .i64 y ∧ wx = W0)
  case first =>
    by_cases h0 : y0 = 0
    · have d0 : (y0 == 0) = true := beq_iff_eq.2 h0
      have HE : Hid (y1 = y) := by have := HY.out; unfold orI at this; rw [if_pos h0] at this; exact this
      clear h0
      go_wp2
      go_meet
      exact ⟨by rw [← HE.out], rfl⟩
    · have d0 : (y0 == 0) = false := beq_eq_false_iff_ne.2 h0
      have HE : Hid (y0 = y) := by have := HY.out; unfold orI at this; rw [if_neg h0] at this; exact this
      clear h0
      go_wp2
      go_meet
      exact ⟨by rw [← HE.out], rfl⟩
  case rest =>
    obtain ⟨rfl, hwc⟩ := hcut
    rw [hwc]
    clear hwc
    clear HY e0 e1 e2
    go_upto_region 3 with fail
    have hS : Stay (fun _ => False) W0 W0.drew := (Stay.refl _ _).drew
    refine wp_region_mix (fun w' => Stay (fun _ => False) W0 w') [(0, true), (1, true), (3, true), (4, true), (2, false), (5, false), (6, true), (7, true)] (by kernel_rfl) (by kernel_rfl) (fun _ d _ _ _ h => by cases d <;> exact h) hS ?_
    refine mix_begin (fun K0 hK0 => ?_)
    refine mix_take hK0 (some 16) (.load 29 (.tmp 4)) 29 _ (by kernel_rfl) (by kernel_rfl) (fun w' hS' => by exact run_load_XBox rfl rfl (HBb4.out.keep hS')) (fun K1 hK1 => ?_)
    clear hK0 K0
    simp only [Act.put, lA, lZ, lS]
    refine mix_take hK1 (some 17) (.move (.tmp 1)) 3 _ (by kernel_rfl) (by kernel_rfl) (fun w' hS' => by (simp only [opr]; go_simp; try with_reducible rfl)) (fun K2 hK2 => ?_)
    clear hK1 K1
    simp only [Act.put, lA, lZ, lS]
    refine mix_take hK2 (some 19) (.load 29 (.tmp 4)) 29 _ (by kernel_rfl) (by kernel_rfl) (fun w' hS' => by exact run_load_XBox rfl rfl (HBb4.out.keep hS')) (fun K3 hK3 => ?_)
    clear hK2 K2
    simp only [Act.put, lA, lZ, lS]
    refine mix_take hK3 (some 20) (.move (.tmp 2)) 3 _ (by kernel_rfl) (by kernel_rfl) (fun w' hS' => by (simp only [opr]; go_simp; try with_reducible rfl)) (fun K4 hK4 => ?_)
    clear hK3 K3
    simp only [Act.put, lA, lZ, lS]
    refine mix_call hK4 (some 18) 14 #[.tmp 16, .tmp 17] #[29, 3] 3 _ (by kernel_rfl) (by kernel_rfl) (enters Try.func14 (by kernel_rfl) (by kernel_rfl)) (by go_simp; try with_reducible rfl) (fun K5 hK5 => ?_)
    clear hK4 K4
    refine (HA1.out _ hS).mono ?_
    rintro e wm1 ⟨rfl, hs1⟩
    have hS1 : _ := hS.trans hs1
    refine ⟨_, rfl, hS1, ?_⟩
    clear hs1
    simp only [Act.put, lA, lZ, lS]
    refine mix_call hK5 (some 21) 14 #[.tmp 19, .tmp 20] #[29, 3] 3 _ (by kernel_rfl) (by kernel_rfl) (enters Try.func14 (by kernel_rfl) (by kernel_rfl)) (by go_simp; try with_reducible rfl) (fun K6 hK6 => ?_)
    clear hK5 K5
    refine (HA2.out _ hS1).mono ?_
    rintro e wm2 ⟨rfl, hs2⟩
    have hS2 : _ := hS1.trans hs2
    refine ⟨_, rfl, hS2, ?_⟩
    clear hs2
    simp only [Act.put, lA, lZ, lS]
    refine mix_take hK6 (some 10) (.assign (.tmp 18)) 3 _ (by kernel_rfl) (by kernel_rfl) (fun w' hS' => by (simp only [opr]; go_simp; try with_reducible rfl)) (fun K7 hK7 => ?_)
    clear hK6 K6
    simp only [Act.put, lA, lZ, lS]
    refine mix_take hK7 (some 11) (.assign (.tmp 21)) 3 _ (by kernel_rfl) (by kernel_rfl) (fun w' hS' => by (simp only [opr]; go_simp; try with_reducible rfl)) (fun K8 hK8 => ?_)
    clear hK7 K7
    simp only [Act.put, lA, lZ, lS]
    refine hK8 _ _ (mix_nil ?_)
    clear hK8 K8
    obtain ⟨w3, hw3⟩ : ∃ W, W = wm2 := ⟨_, rfl⟩
    have HB4 := hide' (HBb4.out.keep hS2)
    have HB8 := hide' (HBb8.out.keep hS2)
    have HS9 := hide' (HS0.out.trans hS2)
    have HXA1 := hide' (HXA.out.keep hS2)
    rw [← hw3] at HB4 HB8 HS9 HXA1 ⊢
    clear hw3 hS hS2 hS1 HA1 HA2 HBb4 HBb8 HXA
    obtain ⟨e0, e1, e2, _⟩ := HB4.out
    simp only [xs] at e0 e1 e2
    obtain ⟨g, o, hxa, hpb⟩ := HXA1.out.rd i p HP.out
    obtain ⟨g2, o2, hxa2, htb⟩ := HXA1.out.rd k t HT.out
    rw [hxa] at hxa2
    cases hxa2
    rw [hxa] at e0
    obtain ⟨c0, c1, c2, c3, c4, c5⟩ := hpb
    obtain ⟨d0, d1, d2, d3, d4, d5⟩ := htb
    clear c0 c1 c2 c4 c5
    go_upto_if 48 with fail
    go_cut [3] (fun s2 wx => s2 = .int .i64 g1 ∧ wx = w3)
    case first =>
      by_cases h0 : g0 = 0
      · have d0 : (g0 == 0) = true := beq_iff_eq.2 h0
        have HE : Hid (y = g1) := by have := HGO.out; unfold orI at this; rw [if_pos h0] at this; exact this
        clear h0
        go_wp2
        go_meet
        exact ⟨by rw [← HE.out], rfl⟩
      · have d0 : (g0 == 0) = false := beq_eq_false_iff_ne.2 h0
        have HE : Hid (g0 = g1) := by have := HGO.out; unfold orI at this; rw [if_neg h0] at this; exact this
        clear h0
        go_wp2
        go_meet
        exact ⟨by rw [← HE.out], rfl⟩
    case rest =>
      obtain ⟨rfl, hwd⟩ := hcut
      rw [hwd]
      clear hwd
      clear HGO
      obtain ⟨b12, hb12⟩ : ∃ b, b = w3.heap.size := ⟨_, rfl⟩
      obtain ⟨w5, hw5⟩ : ∃ W, W = w3.alloc (.cells #[.int .i64 t.pid, .int .i64 t.par, .int .i64 t.grp, .int .i64 t.ses, .int .i64 t.tty, .bool t.df] 40) := ⟨_, rfl⟩
      have hs5 : Stay (fun _ => False) w3 w5 := by rw [hw5]; exact (Stay.refl _ _).alloc _
      have HB12 : Hid (PBox w5 b12 t) := by rw [hw5]; exact PBox.new t hb12.symm
      have HNB12 : Hid (w.heap.size ≤ b12) := by rw [hb12]; exact HS9.out.size
      have HNE : Hid (¬ b4 = b12 ∧ ¬ b8 = b12) := by have h1 := HB4.out.lt; have h2 := HB8.out.lt; rw [hb12]; exact ⟨by omega, by omega⟩
      have HNB12 : Hid (w.heap.size ≤ b12) := by rw [hb12]; exact HS9.out.size
      have HNE : Hid (¬ b4 = b12 ∧ ¬ b8 = b12) := by have h1 := HB4.out.lt; have h2 := HB8.out.lt; rw [hb12]; exact ⟨by omega, by omega⟩
      have e0' := keep_cell hs5 e0
      have c3' := keep_cell hs5 c3
      have HB4' := hide' (HB4.out.keep hs5)
      have HB8' := hide' (HB8.out.keep hs5)
      have HS9' := hide' (HS9.out.trans hs5)
      have HXA1' := hide' (HXA1.out.keep hs5)
      have HXE := hide' hxa
      go_upto_region 11 with fail
      rw [← hb12, ← hw5]
      clear hb12 hw5 hs5 HB4 HB8 HS9 HXA1 e0 e1 e2 c3 d0 d1 d2 d3 d4 d5 hxa
      have HB4 := HB4'
      have HB8 := HB8'
      have HS9 := HS9'
      have HXA1 := HXA1'
      have e0 := e0'
      have c3 := c3'
      clear HB4' HB8' HS9' HXA1' e0' c3'
      have q3 := HB12.out.c3
      have hha := fun W (hs : Stay (fun _ => False) w5 W) => has41 g1 t.ses nx (HXA1.out.keep hs)
      rw [hasB_other _ _ HH.out.2, HH.out.1, ← HN.out] at hha
      have HHA := hide' hha
      clear hha
      have hS : Stay (fun _ => False) w5 w5.drew := (Stay.refl _ _).drew
      refine wp_region_mix (fun w' => Stay (fun _ => False) w5 w') [(0, true), (1, true), (2, true), (3, true), (4, true), (5, true), (6, true), (7, true), (8, true), (9, true), (10, true), (11, true), (12, true), (13, true), (14, true), (15, true), (16, true), (17, true), (18, true), (19, true), (20, true), (21, true), (22, true), (23, true), (24, false), (25, true), (26, true), (27, true)] (by kernel_rfl) (by kernel_rfl) (fun _ d _ _ _ h => by cases d <;> exact h) hS ?_
      refine mix_begin (fun K0 hK0 => ?_)
      refine mix_take hK0 (some 55) (.fieldAddr 40 (.tmp 12) 3) 0 _ (by kernel_rfl) (by kernel_rfl) (fun w' hS' => by (simp only [opr]; go_simp; try with_reducible rfl)) (fun K1 hK1 => ?_)
      clear hK0 K0
      simp only [Act.put, lA, lZ, lS]
      refine mix_take hK1 (some 56) (.load 3 (.tmp 55)) 3 _ (by kernel_rfl) (by kernel_rfl) (fun w' hS' => by (have z0 := keep_cell hS' q3; simp only [opr]; go_simp; try with_reducible rfl)) (fun K2 hK2 => ?_)
      clear hK1 K1
      simp only [Act.put, lA, lZ, lS]
      refine mix_take hK2 (some 57) (.move (.tmp 2)) 3 _ (by kernel_rfl) (by kernel_rfl) (fun w' hS' => by (simp only [opr]; go_simp; try with_reducible rfl)) (fun K3 hK3 => ?_)
      clear hK2 K2
      simp only [Act.put, lA, lZ, lS]
      refine mix_take hK3 (some 58) (.binOp BinOp.eql 3 (.tmp 56) (.tmp 57) 3) 4 _ (by kernel_rfl) (by kernel_rfl) (fun w' hS' => by (simp only [opr]; go_simp; try with_reducible rfl)) (fun K4 hK4 => ?_)
      clear hK3 K3
      simp only [Act.put, lA, lZ, lS]
      refine mix_take hK4 (some 59) (.move (.tmp 58)) 4 _ (by kernel_rfl) (by kernel_rfl) (fun w' hS' => by (simp only [opr]; go_simp; try with_reducible rfl)) (fun K5 hK5 => ?_)
      clear hK4 K4
      simp only [Act.put, lA, lZ, lS]
      refine mix_take hK5 (some 60) (.fieldAddr 40 (.tmp 12) 3) 0 _ (by kernel_rfl) (by kernel_rfl) (fun w' hS' => by (simp only [opr]; go_simp; try with_reducible rfl)) (fun K6 hK6 => ?_)
      clear hK5 K5
      simp only [Act.put, lA, lZ, lS]
      refine mix_take hK6 (some 61) (.load 3 (.tmp 60)) 3 _ (by kernel_rfl) (by kernel_rfl) (fun w' hS' => by (have z0 := keep_cell hS' q3; simp only [opr]; go_simp; try with_reducible rfl)) (fun K7 hK7 => ?_)
      clear hK6 K6
      simp only [Act.put, lA, lZ, lS]
      refine mix_take hK7 (some 62) (.fieldAddr 29 (.tmp 4) 0) 0 _ (by kernel_rfl) (by kernel_rfl) (fun w' hS' => by (simp only [opr]; go_simp; try with_reducible rfl)) (fun K8 hK8 => ?_)
      clear hK7 K7
      simp only [Act.put, lA, lZ, lS]
      refine mix_take hK8 (some 63) (.load 26 (.tmp 62)) 26 _ (by kernel_rfl) (by kernel_rfl) (fun w' hS' => by (have z0 := keep_cell hS' e0; simp only [opr]; go_simp; try with_reducible rfl)) (fun K9 hK9 => ?_)
      clear hK8 K8
      simp only [Act.put, lA, lZ, lS]
      refine mix_take hK9 (some 64) (.move (.tmp 10)) 3 _ (by kernel_rfl) (by kernel_rfl) (fun w' hS' => by (simp only [opr]; go_simp; try with_reducible rfl)) (fun K10 hK10 => ?_)
      clear hK9 K9
      simp only [Act.put, lA, lZ, lS]
      refine mix_take hK10 (some 65) (.indexAddr 26 (.tmp 63) (.tmp 64)) 0 _ (by kernel_rfl) (by kernel_rfl) (fun w' hS' => by (simp only [opr]; go_simp; try with_reducible rfl)) (fun K11 hK11 => ?_)
      clear hK10 K10
      simp only [Act.put, lA, lZ, lS]
      refine mix_take hK11 (some 66) (.fieldAddr 40 (.tmp 65) 3) 0 _ (by kernel_rfl) (by kernel_rfl) (fun w' hS' => by (simp only [opr]; go_simp; try with_reducible rfl)) (fun K12 hK12 => ?_)
      clear hK11 K11
      simp only [Act.put, lA, lZ, lS]
      refine mix_take hK12 (some 67) (.load 3 (.tmp 66)) 3 _ (by kernel_rfl) (by kernel_rfl) (fun w' hS' => by (have z0 := keep_cell hS' c3; simp only [opr]; go_simp; try with_reducible rfl)) (fun K13 hK13 => ?_)
      clear hK12 K12
      simp only [Act.put, lA, lZ, lS]
      refine mix_take hK13 (some 68) (.binOp BinOp.neq 3 (.tmp 61) (.tmp 67) 3) 4 _ (by kernel_rfl) (by kernel_rfl) (fun w' hS' => by (simp only [opr]; go_simp; try with_reducible rfl)) (fun K14 hK14 => ?_)
      clear hK13 K13
      simp only [Act.put, lA, lZ, lS]
      refine mix_take hK14 (some 69) (.pick (.tmp 59) (.const (Value.bool true)) (.tmp 68)) 4 _ (by kernel_rfl) (by kernel_rfl) (fun w' hS' => by (simp only [opr]; go_simp; try with_reducible rfl)) (fun K15 hK15 => ?_)
      clear hK14 K14
      simp only [Act.put, lA, lZ, lS]
      refine mix_take hK15 (some 70) (.move (.tmp 69)) 4 _ (by kernel_rfl) (by kernel_rfl) (fun w' hS' => by (simp only [opr]; go_simp; try with_reducible rfl)) (fun K16 hK16 => ?_)
      clear hK15 K15
      simp only [Act.put, lA, lZ, lS]
      refine mix_take hK16 (some 71) (.move (.tmp 3)) 3 _ (by kernel_rfl) (by kernel_rfl) (fun w' hS' => by (simp only [opr]; go_simp; try with_reducible rfl)) (fun K17 hK17 => ?_)
      clear hK16 K16
      simp only [Act.put, lA, lZ, lS]
      refine mix_take hK17 (some 72) (.move (.tmp 2)) 3 _ (by kernel_rfl) (by kernel_rfl) (fun w' hS' => by (simp only [opr]; go_simp; try with_reducible rfl)) (fun K18 hK18 => ?_)
      clear hK17 K17
      simp only [Act.put, lA, lZ, lS]
      refine mix_take hK18 (some 73) (.binOp BinOp.neq 3 (.tmp 71) (.tmp 72) 3) 4 _ (by kernel_rfl) (by kernel_rfl) (fun w' hS' => by (simp only [opr]; go_simp; try with_reducible rfl)) (fun K19 hK19 => ?_)
      clear hK18 K18
      simp only [Act.put, lA, lZ, lS]
      refine mix_take hK19 (some 74) (.move (.tmp 73)) 4 _ (by kernel_rfl) (by kernel_rfl) (fun w' hS' => by (simp only [opr]; go_simp; try with_reducible rfl)) (fun K20 hK20 => ?_)
      clear hK19 K19
      simp only [Act.put, lA, lZ, lS]
      refine mix_take hK20 (some 75) (.load 29 (.tmp 4)) 29 _ (by kernel_rfl) (by kernel_rfl) (fun w' hS' => by exact run_load_XBox rfl rfl (HB4.out.keep hS')) (fun K21 hK21 => ?_)
      clear hK20 K20
      simp only [Act.put, lA, lZ, lS]
      refine mix_take hK21 (some 76) (.move (.tmp 3)) 3 _ (by kernel_rfl) (by kernel_rfl) (fun w' hS' => by (simp only [opr]; go_simp; try with_reducible rfl)) (fun K22 hK22 => ?_)
      clear hK21 K21
      simp only [Act.put, lA, lZ, lS]
      refine mix_take hK22 (some 77) (.fieldAddr 40 (.tmp 12) 3) 0 _ (by kernel_rfl) (by kernel_rfl) (fun w' hS' => by (simp only [opr]; go_simp; try with_reducible rfl)) (fun K23 hK23 => ?_)
      clear hK22 K22
      simp only [Act.put, lA, lZ, lS]
      refine mix_take hK23 (some 78) (.load 3 (.tmp 77)) 3 _ (by kernel_rfl) (by kernel_rfl) (fun w' hS' => by (have z0 := keep_cell hS' q3; simp only [opr]; go_simp; try with_reducible rfl)) (fun K24 hK24 => ?_)
      clear hK23 K23
      simp only [Act.put, lA, lZ, lS]
      refine mix_call hK24 (some 79) 41 #[.tmp 75, .tmp 76, .tmp 78] #[29, 3, 3] 4 _ (by kernel_rfl) (by kernel_rfl) (enters Try.func41 (by kernel_rfl) (by kernel_rfl)) (by go_simp; try with_reducible rfl) (fun K25 hK25 => ?_)
      clear hK24 K24
      refine (HHA.out _ hS).mono ?_
      rintro e wm1 ⟨rfl, hs1⟩
      have hS1 : _ := hS.trans hs1
      refine ⟨_, rfl, hS1, ?_⟩
      clear hs1
      simp only [Act.put, lA, lZ, lS]
      refine mix_take hK25 (some 80) (.unOp UnOp.not 4 (.tmp 79)) 4 _ (by kernel_rfl) (by kernel_rfl) (fun w' hS' => by (simp only [opr]; go_simp; try with_reducible rfl)) (fun K26 hK26 => ?_)
      clear hK25 K25
      simp only [Act.put, lA, lZ, lS]
      refine mix_take hK26 (some 81) (.pick (.tmp 74) (.tmp 80) (.const (Value.bool false))) 4 _ (by kernel_rfl) (by kernel_rfl) (fun w' hS' => by (simp only [opr]; go_simp; try with_reducible rfl)) (fun K27 hK27 => ?_)
      clear hK26 K26
      simp only [Act.put, lA, lZ, lS]
      refine mix_take hK27 (some 82) (.pick (.tmp 70) (.const (Value.bool true)) (.tmp 81)) 4 _ (by kernel_rfl) (by kernel_rfl) (fun w' hS' => by (simp only [opr]; go_simp; try with_reducible rfl)) (fun K28 hK28 => ?_)
      clear hK27 K27
      simp only [Act.put, lA, lZ, lS]
      refine hK28 _ _ (mix_nil ?_)
      clear hK28 K28
      have HSM := hide' hS1
      obtain ⟨wn, hwn⟩ : ∃ W, W = wm1 := ⟨_, rfl⟩
      have HB4' := hide' (HB4.out.keep hS1)
      have HB8' := hide' (HB8.out.keep hS1)
      have HS9' := hide' (HS9.out.trans hS1)
      have HXA1' := hide' (HXA1.out.keep hS1)
      have HB12' := hide' (HB12.out.keep hS1)
      rw [← hwn] at HB4' HB8' HS9' HXA1' HB12' ⊢
      clear hwn HSM hS hS1 HHA HB4 HB8 HS9 HXA1 HB12 e0 c3 q3
      have HB4 := HB4'
      have HB8 := HB8'
      have HS9 := HS9'
      have HXA1 := HXA1'
      have HB12 := HB12'
      clear HB4' HB8' HS9' HXA1' HB12'
      obtain ⟨m0, m1, m2, m3, m4, m5, n0, n1, n2, n3, n4, n5⟩ := HB12.out
      obtain ⟨w7, hw7⟩ : ∃ W, W = wn.setCell ⟨b12, 2, none⟩ (.int .i64 g1) := ⟨_, rfl⟩
      have hs7 : Stay (fun _ => False) w w7 := by rw [hw7]; exact HS9.out.setNew (p := ⟨b12, 2, none⟩) (by have := HNB12.out; exact this) _
      have hst7 : Stay (fun j => j = b12) wn w7 := by rw [hw7]; exact (Stay.refl (fun j => j = b12) wn).setCell (p := ⟨b12, 2, none⟩) rfl _
      have HBC : Hid (PBox w7 b12 ⟨t.pid, t.par, g1, t.ses, t.tty, t.df⟩) := by rw [hw7]; exact HB12.out.put2 rfl
      have HB47 := hide' (HB4.out.stay hst7 HNE.out.1)
      have HB87 := hide' (HB8.out.stay hst7 HNE.out.2)
      have HXA7 := hide' (HX0.out.keep hs7)
      have hw := with55 k ⟨t.pid, t.par, g1, t.ses, t.tty, t.df⟩ nx HXA7.out (List.getElem?_eq_some_iff.1 HT.out).1
      rw [← HN.out] at hw
      have HW := hide' hw
      have HS7 := hide' hs7
      clear hw hs7 hst7
      go_upto_region 14 with fail
      rw [← hw7]
      clear hw7 m0 m1 m2 m3 m4 m5 n0 n1 n2 n3 n4 n5 HB12 HB4 HB8 HS9
      obtain ⟨e0, e1, e2, _⟩ := HB47.out
      simp only [xs] at e0 e1 e2
      obtain ⟨d0, d1, d2, d3, d4, d5, _⟩ := HBC.out
      go_wp2_with fail
      refine HW.out.mono ?_
      rintro _ w8 ⟨x2, rfl, hx2, hs, hf2⟩
      have HX2 := hide' hx2
      have HB8 := hide' (HB87.out.keep hs)
      have HS9 := hide' (HS7.out.trans hs)
      have HNB : Hid (∀ j, x2.has j → ¬ j = b8) := fun j hj => by
        rcases hf2 j hj with e | e
        · have := HX0.out.lt j e; have := HZb8.out; omega
        · have := HB87.out.lt; omega
      have HF2 : Hid (XFrom w x x2) := fun j hj => by
        rcases hf2 j hj with e | e
        · exact .inl e
        · have := HS7.out.size; exact .inr (by omega)
      obtain ⟨n2, hn2⟩ : ∃ z, z = (L.set k ⟨t.pid, t.par, g1, t.ses, t.tty, t.df⟩).length := ⟨_, rfl⟩
      have HN2 := hide' hn2
      rw [← hn2]
      clear hx2 hs hf2 hn2 HW HB47 HB87 HS7 HBC HXA7 e0 e1 e2 d0 d1 d2 d3 d4 d5
      obtain ⟨k0, k1, k2, r0, r1, r2⟩ := HB8.out
      go_wp2
      have h3 := XBox.stay_put HS9.out HZb8.out (.slice x2.a n2 x2.cap) (.int .i64 nx) (.slice x2.a2 65 x2.c2)
      have h5 := HX2.out.stay (XBox.put_stay _ b8 (.slice x2.a n2 x2.cap) (.int .i64 nx) (.slice x2.a2 65 x2.c2)) HNB.out
      rw [HN2.out] at h3 h5 ⊢
      exact bodyPost_ret (results_x1 rfl _ _ b8 x2 _ nx _ rfl rfl (HB8.out.put (xs x2 _ nx))) rfl ⟨x2, rfl, h5, h3, HF2.out⟩

set_option maxRecDepth 100000 in
set_option maxHeartbeats 1000000 in
theorem rsetpgid30_join_child (y1 y0 g0 y nx : Int) (h : XAt w x L f) (hu : Up L) (hy : orI y0 y1 = y) (g1 : Int) {i : Nat} {p : Pr} (hp : L[i]? = some p) (hx : p.pid = y1) {k : Nat} {t : Pr} (ht : L[k]? = some t) (hty : t.pid = y) (hn' : (y != y1) = true) (hr : (t.par != y1) = false) (hg : ¬ g0 < 0) (hgo : orI g0 y = g1) (hl : (t.ses == y) = false) (hse : (t.ses != p.ses) = false) (hgy : (g1 != y) = true) (hz : t.ses ≠ 0) (hh : L.any (fun k => k.grp == g1 && k.ses == t.ses) = true) : Calls Try.prog 30 #[.agg #[.slice x.a L.length x.cap, .int .i64 nx, .slice x.a2 65 x.c2], .int .i64 y1, .int .i64 y0, .int .i64 g0] w (XG2 x (L.set k ⟨t.pid, t.par, g1, t.ses, t.tty, t.df⟩) nx f 0 w) := by
  obtain ⟨n, hn⟩ : ∃ n, n = L.length := ⟨_, rfl⟩
  obtain ⟨b4, hb4⟩ : ∃ b, b = w.heap.size := ⟨_, rfl⟩
  obtain ⟨Wq0, hWq0⟩ : ∃ W, W = w.alloc (.cells #[.slice x.a n x.cap, .int .i64 nx, .slice x.a2 65 x.c2] 29) := ⟨_, rfl⟩
  have hsWq0 : Stay (fun _ => False) w Wq0 := by rw [hWq0]; exact (Stay.refl _ _).alloc _
  have hpb4 : w.heap.size = b4 := by rw [hb4]
  obtain ⟨b8, hb8⟩ : ∃ b, b = w.heap.size + 1 := ⟨_, rfl⟩
  obtain ⟨W0, hW0⟩ : ∃ W, W = Wq0.alloc (.cells #[.slice none 0 0, .int .i64 0, .slice none 0 0] 29) := ⟨_, rfl⟩
  have hsW0 : Stay (fun _ => False) Wq0 W0 := by rw [hW0]; exact (Stay.refl _ _).alloc _
  have hpb8 : Wq0.heap.size = b8 := by rw [hb8]; rw [hWq0, World.size_alloc]
  have HBb4 := hide' (show XBox W0 b4 (xs x n nx) from (show XBox Wq0 b4 (xs x n nx) from (by rw [hWq0]; exact xbox_new w x n nx hpb4)).keep ((Stay.refl (fun _ => False) Wq0).trans hsW0))
  have HZb4 : Hid (w.heap.size ≤ b4) := by show _ ≤ _; omega
  have HBb8 := hide' (show XBox W0 b8 ⟨.slice none 0 0, 0, .slice none 0 0⟩ from (show XBox W0 b8 ⟨.slice none 0 0, 0, .slice none 0 0⟩ from (by rw [hW0]; exact XBox.new ⟨.slice none 0 0, 0, .slice none 0 0⟩ hpb8)).keep (Stay.refl (fun _ => False) W0))
  have HZb8 : Hid (w.heap.size ≤ b8) := by show _ ≤ _; omega
  have HS0 := hide' (((Stay.refl (fun _ => False) w).trans hsWq0).trans hsW0)
  have HW0 : Hid (W0 = ((w.alloc (.cells #[.slice x.a n x.cap, .int .i64 nx, .slice x.a2 65 x.c2] 29)).alloc (.cells #[.slice none 0 0, .int .i64 0, .slice none 0 0] 29))) := by show _ = _; rw [hW0, hWq0]
  have HXA := hide' (h.keep HS0.out)
  have HX0 := hide' h
  have HN := hide' hn
  have hn1 : (n : Int) ≤ 256 := by have := h.len; omega
  have hin1 : (i : Int) < (n : Nat) := by have := (List.getElem?_eq_some_iff.1 hp).1; omega
  have hkn1 : (k : Int) < (n : Nat) := by have := (List.getElem?_eq_some_iff.1 ht).1; omega
  have HP := hide' hp
  have HT := hide' ht
  have HH := hide' (show L.any (fun k => k.grp == g1 && k.ses == t.ses) = true ∧ t.ses ≠ 0 from ⟨hh, hz⟩)
  clear hh hz
  have HGO := hide' hgo
  have HA1 := hide' (fun W (hs : Stay (fun _ => False) W0 W) => (by have hat := at14 y1 nx (HXA.out.keep hs); rw [ixI_at hu hp hx, ← HN.out] at hat; exact hat : Calls Try.prog 14 #[.agg #[.slice x.a n x.cap, .int .i64 nx, .slice x.a2 65 x.c2], .int .i64 y1] W (Gives (.int .i64 (i : Nat)) W)))
  have HA2 := hide' (fun W (hs : Stay (fun _ => False) W0 W) => (by have hat := at14 y nx (HXA.out.keep hs); rw [ixI_at hu ht hty, ← HN.out] at hat; exact hat : Calls Try.prog 14 #[.agg #[.slice x.a n x.cap, .int .i64 nx, .slice x.a2 65 x.c2], .int .i64 y] W (Gives (.int .i64 (k : Nat)) W)))
  have HY := hide' hy
  clear hy
  rw [← hn]
  clear h hn hu hx hp ht hty hgo
  clear hWq0 hW0 hsWq0 hsW0 hpb4 hpb8
  obtain ⟨e0, e1, e2, _⟩ := HBb4.out
  simp only [xs] at e0 e1 e2
  go_enter Try.func30, Try.ntmps30
  go_upto_region 1 with fail
  rw [← HW0.out, ← hb8, ← hb4]
  clear HW0 hb4 hb8
  go_upto_if 14 with fail
  go_cut [2] (fun s2 wx => s2 = .int .i64 y ∧ wx = W0)
  case first =>
    by_cases h0 : y0 = 0
    · have d0 : (y0 == 0) = true := beq_iff_eq.2 h0
      have HE : Hid (y1 = y) := by have := HY.out; unfold orI at this; rw [if_pos h0] at this; exact this
      clear h0
      go_wp2
      go_meet
      exact ⟨by rw [← HE.out], rfl⟩
    · have d0 : (y0 == 0) = false := beq_eq_false_iff_ne.2 h0
      have HE : Hid (y0 = y) := by have := HY.out; unfold orI at this; rw [if_neg h0] at this; exact this
      clear h0
      go_wp2
      go_meet
      exact ⟨by rw [← HE.out], rfl⟩
  case rest =>
    obtain ⟨rfl, hwc⟩ := hcut
    rw [hwc]
    clear hwc
    clear HY e0 e1 e2
    go_upto_region 3 with fail
    have hS : Stay (fun _ => False) W0 W0.drew := (Stay.refl _ _).drew
    refine wp_region_mix (fun w' => Stay (fun _ => False) W0 w') [(0, true), (1, true), (3, true), (4, true), (2, false), (5, false), (6, true), (7, true)] (by kernel_rfl) (by kernel_rfl) (fun _ d _ _ _ h => by cases d <;> exact h) hS ?_
    refine mix_begin (fun K0 hK0 => ?_)
    refine mix_take hK0 (some 16) (.load 29 (.tmp 4)) 29 _ (by kernel_rfl) (by kernel_rfl) (fun w' hS' => by exact run_load_XBox rfl rfl (HBb4.out.keep hS')) (fun K1 hK1 => ?_)
    clear hK0 K0
    simp only [Act.put, lA, lZ, lS]
    refine mix_take hK1 (some 17) (.move (.tmp 1)) 3 _ (by kernel_rfl) (by kernel_rfl) (fun w' hS' => by (simp only [opr]; go_simp; try with_reducible rfl)) (fun K2 hK2 => ?_)
    clear hK1 K1
    simp only [Act.put, lA, lZ, lS]
    refine mix_take hK2 (some 19) (.load 29 (.tmp 4)) 29 _ (by kernel_rfl) (by kernel_rfl) (fun w' hS' => by exact run_load_XBox rfl rfl (HBb4.out.keep hS')) (fun K3 hK3 => ?_)
    clear hK2 K2
    simp only [Act.put, lA, lZ, lS]
    refine mix_take hK3 (some 20) (.move (.tmp 2)) 3 _ (by kernel_rfl) (by kernel_rfl) (fun w' hS' => by (simp only [opr]; go_simp; try with_reducible rfl)) (fun K4 hK4 => ?_)
    clear hK3 K3
    simp only [Act.put, lA, lZ, lS]
    refine mix_call hK4 (some 18) 14 #[.tmp 16, .tmp 17] #[29, 3] 3 _ (by kernel_rfl) (by kernel_rfl) (enters Try.func14 (by kernel_rfl) (by kernel_rfl)) (by go_simp; try with_reducible rfl) (fun K5 hK5 => ?_)
    clear hK4 K4
    refine (HA1.out _ hS).mono ?_
    rintro e wm1 ⟨rfl, hs1⟩
    have hS1 : _ := hS.trans hs1
    refine ⟨_, rfl, hS1, ?_⟩
    clear hs1
    simp only [Act.put, lA, lZ, lS]
    refine mix_call hK5 (some 21) 14 #[.tmp 19, .tmp 20] #[29, 3] 3 _ (by kernel_rfl) (by kernel_rfl) (enters Try.func14 (by kernel_rfl) (by kernel_rfl)) (by go_simp; try with_reducible rfl) (fun K6 hK6 => ?_)
    clear hK5 K5
    refine (HA2.out _ hS1).mono ?_
    rintro e wm2 ⟨rfl, hs2⟩
    have hS2 : _ := hS1.trans hs2
    refine ⟨_, rfl, hS2, ?_⟩
    clear hs2
    simp only [Act.put, lA, lZ, lS]
    refine mix_take hK6 (some 10) (.assign (.tmp 18)) 3 _ (by kernel_rfl) (by kernel_rfl) (fun w' hS' => by (simp only [opr]; go_simp; try with_reducible rfl)) (fun K7 hK7 => ?_)
    clear hK6 K6
    simp only [Act.put, lA, lZ, lS]
    refine mix_take hK7 (some 11) (.assign (.tmp 21)) 3 _ (by kernel_rfl) (by kernel_rfl) (fun w' hS' => by (simp only [opr]; go_simp; try with_reducible rfl)) (fun K8 hK8 => ?_)
    clear hK7 K7
    simp only [Act.put, lA, lZ, lS]
    refine hK8 _ _ (mix_nil ?_)
    clear hK8 K8
    obtain ⟨w3, hw3⟩ : ∃ W, W = wm2 := ⟨_, rfl⟩
    have HB4 := hide' (HBb4.out.keep hS2)
    have HB8 := hide' (HBb8.out.keep hS2)
    have HS9 := hide' (HS0.out.trans hS2)
    have HXA1 := hide' (HXA.out.keep hS2)
    rw [← hw3] at HB4 HB8 HS9 HXA1 ⊢
    clear hw3 hS hS2 hS1 HA1 HA2 HBb4 HBb8 HXA
    obtain ⟨e0, e1, e2, _⟩ := HB4.out
    simp only [xs] at e0 e1 e2
    obtain ⟨g, o, hxa, hpb⟩ := HXA1.out.rd i p HP.out
    obtain ⟨g2, o2, hxa2, htb⟩ := HXA1.out.rd k t HT.out
    rw [hxa] at hxa2
    cases hxa2
    rw [hxa] at e0
    obtain ⟨c0, c1, c2, c3, c4, c5⟩ := hpb
    obtain ⟨d0, d1, d2, d3, d4, d5⟩ := htb
    clear c0 c1 c2 c4 c5
    go_upto_if 48 with fail
    go_cut [3] (fun s2 wx => s2 = .int .i64 g1 ∧ wx = w3)
    case first =>
      by_cases h0 : g0 = 0
      · have d0 : (g0 == 0) = true := beq_iff_eq.2 h0
        have HE : Hid (y = g1) := by have := HGO.out; unfold orI at this; rw [if_pos h0] at this; exact this
        clear h0
        go_wp2
        go_meet
        exact ⟨by rw [← HE.out], rfl⟩
      · have d0 : (g0 == 0) = false := beq_eq_false_iff_ne.2 h0
        have HE : Hid (g0 = g1) := by have := HGO.out; unfold orI at this; rw [if_neg h0] at this; exact this
        clear h0
        go_wp2
        go_meet
        exact ⟨by rw [← HE.out], rfl⟩
    case rest =>
      obtain ⟨rfl, hwd⟩ := hcut
      rw [hwd]
      clear hwd
      clear HGO
      obtain ⟨b12, hb12⟩ : ∃ b, b = w3.heap.size := ⟨_, rfl⟩
      obtain ⟨w5, hw5⟩ : ∃ W, W = w3.alloc (.cells #[.int .i64 t.pid, .int .i64 t.par, .int .i64 t.grp, .int .i64 t.ses, .int .i64 t.tty, .bool t.df] 40) := ⟨_, rfl⟩
      have hs5 : Stay (fun _ => False) w3 w5 := by rw [hw5]; exact (Stay.refl _ _).alloc _
      have HB12 : Hid (PBox w5 b12 t) := by rw [hw5]; exact PBox.new t hb12.symm
      have HNB12 : Hid (w.heap.size ≤ b12) := by rw [hb12]; exact HS9.out.size
      have HNE : Hid (¬ b4 = b12 ∧ ¬ b8 = b12) := by have h1 := HB4.out.lt; have h2 := HB8.out.lt; rw [hb12]; exact ⟨by omega, by omega⟩
      have e0' := keep_cell hs5 e0
      have c3' := keep_cell hs5 c3
      have HB4' := hide' (HB4.out.keep hs5)
      have HB8' := hide' (HB8.out.keep hs5)
      have HS9' := hide' (HS9.out.trans hs5)
      have HXA1' := hide' (HXA1.out.keep hs5)
      have HXE := hide' hxa
      go_upto_region 11 with fail
      rw [← hb12, ← hw5]
      clear hb12 hw5 hs5 HB4 HB8 HS9 HXA1 e0 e1 e2 c3 d0 d1 d2 d3 d4 d5 hxa
      have HB4 := HB4'
      have HB8 := HB8'
      have HS9 := HS9'
      have HXA1 := HXA1'
      have e0 := e0'
      have c3 := c3'
      clear HB4' HB8' HS9' HXA1' e0' c3'
      have q3 := HB12.out.c3
      have hha := fun W (hs : Stay (fun _ => False) w5 W) => has41 g1 t.ses nx (HXA1.out.keep hs)
      rw [hasB_other _ _ HH.out.2, HH.out.1, ← HN.out] at hha
      have HHA := hide' hha
      clear hha
      have hS : Stay (fun _ => False) w5 w5.drew := (Stay.refl _ _).drew
      refine wp_region_mix (fun w' => Stay (fun _ => False) w5 w') [(0, true), (1, true), (2, true), (3, true), (4, true), (5, true), (6, true), (7, true), (8, true), (9, true), (10, true), (11, true), (12, true), (13, true), (14, true), (15, true), (16, true), (17, true), (18, true), (19, true), (20, true), (21, true), (22, true), (23, true), (24, false), (25, true), (26, true), (27, true)] (by kernel_rfl) (by kernel_rfl) (fun _ d _ _ _ h => by cases d <;> exact h) hS ?_
      refine mix_begin (fun K0 hK0 => ?_)
      refine mix_take hK0 (some 55) (.fieldAddr 40 (.tmp 12) 3) 0 _ (by kernel_rfl) (by kernel_rfl) (fun w' hS' => by (simp only [opr]; go_simp; try with_reducible rfl)) (fun K1 hK1 => ?_)
      clear hK0 K0
      simp only [Act.put, lA, lZ, lS]
      refine mix_take hK1 (some 56) (.load 3 (.tmp 55)) 3 _ (by kernel_rfl) (by kernel_rfl) (fun w' hS' => by (have z0 := keep_cell hS' q3; simp only [opr]; go_simp; try with_reducible rfl)) (fun K2 hK2 => ?_)
      clear hK1 K1
      simp only [Act.put, lA, lZ, lS]
      refine mix_take hK2 (some 57) (.move (.tmp 2)) 3 _ (by kernel_rfl) (by kernel_rfl) (fun w' hS' => by (simp only [opr]; go_simp; try with_reducible rfl)) (fun K3 hK3 => ?_)
      clear hK2 K2
      simp only [Act.put, lA, lZ, lS]
      refine mix_take hK3 (some 58) (.binOp BinOp.eql 3 (.tmp 56) (.tmp 57) 3) 4 _ (by kernel_rfl) (by kernel_rfl) (fun w' hS' => by (simp only [opr]; go_simp; try with_reducible rfl)) (fun K4 hK4 => ?_)
      clear hK3 K3
      simp only [Act.put, lA, lZ, lS]
      refine mix_take hK4 (some 59) (.move (.tmp 58)) 4 _ (by kernel_rfl) (by kernel_rfl) (fun w' hS' => by (simp only [opr]; go_simp; try with_reducible rfl)) (fun K5 hK5 => ?_)
      clear hK4 K4
      simp only [Act.put, lA, lZ, lS]
      refine mix_take hK5 (some 60) (.fieldAddr 40 (.tmp 12) 3) 0 _ (by kernel_rfl) (by kernel_rfl) (fun w' hS' => by (simp only [opr]; go_simp; try with_reducible rfl)) (fun K6 hK6 => ?_)
      clear hK5 K5
      simp only [Act.put, lA, lZ, lS]
      refine mix_take hK6 (some 61) (.load 3 (.tmp 60)) 3 _ (by kernel_rfl) (by kernel_rfl) (fun w' hS' => by (have z0 := keep_cell hS' q3; simp only [opr]; go_simp; try with_reducible rfl)) (fun K7 hK7 => ?_)
      clear hK6 K6
      simp only [Act.put, lA, lZ, lS]
      refine mix_take hK7 (some 62) (.fieldAddr 29 (.tmp 4) 0) 0 _ (by kernel_rfl) (by kernel_rfl) (fun w' hS' => by (simp only [opr]; go_simp; try with_reducible rfl)) (fun K8 hK8 => ?_)
      clear hK7 K7
      simp only [Act.put, lA, lZ, lS]
      refine mix_take hK8 (some 63) (.load 26 (.tmp 62)) 26 _ (by kernel_rfl) (by kernel_rfl) (fun w' hS' => by (have z0 := keep_cell hS' e0; simp only [opr]; go_simp; try with_reducible rfl)) (fun K9 hK9 => ?_)
      clear hK8 K8
      simp only [Act.put, lA, lZ, lS]
      refine mix_take hK9 (some 64) (.move (.tmp 10)) 3 _ (by kernel_rfl) (by kernel_rfl) (fun w' hS' => by (simp only [opr]; go_simp; try with_reducible rfl)) (fun K10 hK10 => ?_)
      clear hK9 K9
      simp only [Act.put, lA, lZ, lS]
      refine mix_take hK10 (some 65) (.indexAddr 26 (.tmp 63) (.tmp 64)) 0 _ (by kernel_rfl) (by kernel_rfl) (fun w' hS' => by (simp only [opr]; go_simp; try with_reducible rfl)) (fun K11 hK11 => ?_)
      clear hK10 K10
      simp only [Act.put, lA, lZ, lS]
      refine mix_take hK11 (some 66) (.fieldAddr 40 (.tmp 65) 3) 0 _ (by kernel_rfl) (by kernel_rfl) (fun w' hS' => by (simp only [opr]; go_simp; try with_reducible rfl)) (fun K12 hK12 => ?_)
      clear hK11 K11
      simp only [Act.put, lA, lZ, lS]
      refine mix_take hK12 (some 67) (.load 3 (.tmp 66)) 3 _ (by kernel_rfl) (by kernel_rfl) (fun w' hS' => by (have z0 := keep_cell hS' c3; simp only [opr]; go_simp; try with_reducible rfl)) (fun K13 hK13 => ?_)
      clear hK12 K12
      simp only [Act.put, lA, lZ, lS]
      refine mix_take hK13 (some 68) (.binOp BinOp.neq 3 (.tmp 61) (.tmp 67) 3) 4 _ (by kernel_rfl) (by kernel_rfl) (fun w' hS' => by (simp only [opr]; go_simp; try with_reducible rfl)) (fun K14 hK14 => ?_)
      clear hK13 K13
      simp only [Act.put, lA, lZ, lS]
      refine mix_take hK14 (some 69) (.pick (.tmp 59) (.const (Value.bool true)) (.tmp 68)) 4 _ (by kernel_rfl) (by kernel_rfl) (fun w' hS' => by (simp only [opr]; go_simp; try with_reducible rfl)) (fun K15 hK15 => ?_)
      clear hK14 K14
      simp only [Act.put, lA, lZ, lS]
      refine mix_take hK15 (some 70) (.move (.tmp 69)) 4 _ (by kernel_rfl) (by kernel_rfl) (fun w' hS' => by (simp only [opr]; go_simp; try with_reducible rfl)) (fun K16 hK16 => ?_)
      clear hK15 K15
      simp only [Act.put, lA, lZ, lS]
      refine mix_take hK16 (some 71) (.move (.tmp 3)) 3 _ (by kernel_rfl) (by kernel_rfl) (fun w' hS' => by (simp only [opr]; go_simp; try with_reducible rfl)) (fun K17 hK17 => ?_)
      clear hK16 K16
      simp only [Act.put, lA, lZ, lS]
      refine mix_take hK17 (some 72) (.move (.tmp 2)) 3 _ (by kernel_rfl) (by kernel_rfl) (fun w' hS' => by (simp only [opr]; go_simp; try with_reducible rfl)) (fun K18 hK18 => ?_)
      clear hK17 K17
      simp only [Act.put, lA, lZ, lS]
      refine mix_take hK18 (some 73) (.binOp BinOp.neq 3 (.tmp 71) (.tmp 72) 3) 4 _ (by kernel_rfl) (by kernel_rfl) (fun w' hS' => by (simp only [opr]; go_simp; try with_reducible rfl)) (fun K19 hK19 => ?_)
      clear hK18 K18
      simp only [Act.put, lA, lZ, lS]
      refine mix_take hK19 (some 74) (.move (.tmp 73)) 4 _ (by kernel_rfl) (by kernel_rfl) (fun w' hS' => by (simp only [opr]; go_simp; try with_reducible rfl)) (fun K20 hK20 => ?_)
      clear hK19 K19
      simp only [Act.put, lA, lZ, lS]
      refine mix_take hK20 (some 75) (.load 29 (.tmp 4)) 29 _ (by kernel_rfl) (by kernel_rfl) (fun w' hS' => by exact run_load_XBox rfl rfl (HB4.out.keep hS')) (fun K21 hK21 => ?_)
      clear hK20 K20
      simp only [Act.put, lA, lZ, lS]
      refine mix_take hK21 (some 76) (.move (.tmp 3)) 3 _ (by kernel_rfl) (by kernel_rfl) (fun w' hS' => by (simp only [opr]; go_simp; try with_reducible rfl)) (fun K22 hK22 => ?_)
      clear hK21 K21
      simp only [Act.put, lA, lZ, lS]
      refine mix_take hK22 (some 77) (.fieldAddr 40 (.tmp 12) 3) 0 _ (by kernel_rfl) (by kernel_rfl) (fun w' hS' => by (simp only [opr]; go_simp; try with_reducible rfl)) (fun K23 hK23 => ?_)
      clear hK22 K22
      simp only [Act.put, lA, lZ, lS]
      refine mix_take hK23 (some 78) (.load 3 (.tmp 77)) 3 _ (by kernel_rfl) (by kernel_rfl) (fun w' hS' => by (have z0 := keep_cell hS' q3; simp only [opr]; go_simp; try with_reducible rfl)) (fun K24 hK24 => ?_)
      clear hK23 K23
      simp only [Act.put, lA, lZ, lS]
      refine mix_call hK24 (some 79) 41 #[.tmp 75, .tmp 76, .tmp 78] #[29, 3, 3] 4 _ (by kernel_rfl) (by kernel_rfl) (enters Try.func41 (by kernel_rfl) (by kernel_rfl)) (by go_simp; try with_reducible rfl) (fun K25 hK25 => ?_)
      clear hK24 K24
      refine (HHA.out _ hS).mono ?_
      rintro e wm1 ⟨rfl, hs1⟩
      have hS1 : _ := hS.trans hs1
      refine ⟨_, rfl, hS1, ?_⟩
      clear hs1
      simp only [Act.put, lA, lZ, lS]
      refine mix_take hK25 (some 80) (.unOp UnOp.not 4 (.tmp 79)) 4 _ (by kernel_rfl) (by kernel_rfl) (fun w' hS' => by (simp only [opr]; go_simp; try with_reducible rfl)) (fun K26 hK26 => ?_)
      clear hK25 K25
      simp only [Act.put, lA, lZ, lS]
      refine mix_take hK26 (some 81) (.pick (.tmp 74) (.tmp 80) (.const (Value.bool false))) 4 _ (by kernel_rfl) (by kernel_rfl) (fun w' hS' => by (simp only [opr]; go_simp; try with_reducible rfl)) (fun K27 hK27 => ?_)
      clear hK26 K26
      simp only [Act.put, lA, lZ, lS]
      refine mix_take hK27 (some 82) (.pick (.tmp 70) (.const (Value.bool true)) (.tmp 81)) 4 _ (by kernel_rfl) (by kernel_rfl) (fun w' hS' => by (simp only [opr]; go_simp; try with_reducible rfl)) (fun K28 hK28 => ?_)
      clear hK27 K27
      simp only [Act.put, lA, lZ, lS]
      refine hK28 _ _ (mix_nil ?_)
      clear hK28 K28
      have HSM := hide' hS1
      obtain ⟨wn, hwn⟩ : ∃ W, W = wm1 := ⟨_, rfl⟩
      have HB4' := hide' (HB4.out.keep hS1)
      have HB8' := hide' (HB8.out.keep hS1)
      have HS9' := hide' (HS9.out.trans hS1)
      have HXA1' := hide' (HXA1.out.keep hS1)
      have HB12' := hide' (HB12.out.keep hS1)
      rw [← hwn] at HB4' HB8' HS9' HXA1' HB12' ⊢
      clear hwn HSM hS hS1 HHA HB4 HB8 HS9 HXA1 HB12 e0 c3 q3
      have HB4 := HB4'
      have HB8 := HB8'
      have HS9 := HS9'
      have HXA1 := HXA1'
      have HB12 := HB12'
      clear HB4' HB8' HS9' HXA1' HB12'
      obtain ⟨m0, m1, m2, m3, m4, m5, n0, n1, n2, n3, n4, n5⟩ := HB12.out
      obtain ⟨w7, hw7⟩ : ∃ W, W = wn.setCell ⟨b12, 2, none⟩ (.int .i64 g1) := ⟨_, rfl⟩
      have hs7 : Stay (fun _ => False) w w7 := by rw [hw7]; exact HS9.out.setNew (p := ⟨b12, 2, none⟩) (by have := HNB12.out; exact this) _
      have hst7 : Stay (fun j => j = b12) wn w7 := by rw [hw7]; exact (Stay.refl (fun j => j = b12) wn).setCell (p := ⟨b12, 2, none⟩) rfl _
      have HBC : Hid (PBox w7 b12 ⟨t.pid, t.par, g1, t.ses, t.tty, t.df⟩) := by rw [hw7]; exact HB12.out.put2 rfl
      have HB47 := hide' (HB4.out.stay hst7 HNE.out.1)
      have HB87 := hide' (HB8.out.stay hst7 HNE.out.2)
      have HXA7 := hide' (HX0.out.keep hs7)
      have hw := with55 k ⟨t.pid, t.par, g1, t.ses, t.tty, t.df⟩ nx HXA7.out (List.getElem?_eq_some_iff.1 HT.out).1
      rw [← HN.out] at hw
      have HW := hide' hw
      have HS7 := hide' hs7
      clear hw hs7 hst7
      go_upto_region 14 with fail
      rw [← hw7]
      clear hw7 m0 m1 m2 m3 m4 m5 n0 n1 n2 n3 n4 n5 HB12 HB4 HB8 HS9
      obtain ⟨e0, e1, e2, _⟩ := HB47.out
      simp only [xs] at e0 e1 e2
      obtain ⟨d0, d1, d2, d3, d4, d5, _⟩ := HBC.out
      go_wp2_with fail
      refine HW.out.mono ?_
      rintro _ w8 ⟨x2, rfl, hx2, hs, hf2⟩
      have HX2 := hide' hx2
      have HB8 := hide' (HB87.out.keep hs)
      have HS9 := hide' (HS7.out.trans hs)
      have HNB : Hid (∀ j, x2.has j → ¬ j = b8) := fun j hj => by
        rcases hf2 j hj with e | e
        · have := HX0.out.lt j e; have := HZb8.out; omega
        · have := HB87.out.lt; omega
      have HF2 : Hid (XFrom w x x2) := fun j hj => by
        rcases hf2 j hj with e | e
        · exact .inl e
        · have := HS7.out.size; exact .inr (by omega)
      obtain ⟨n2, hn2⟩ : ∃ z, z = (L.set k ⟨t.pid, t.par, g1, t.ses, t.tty, t.df⟩).length := ⟨_, rfl⟩
      have HN2 := hide' hn2
      rw [← hn2]
      clear hx2 hs hf2 hn2 HW HB47 HB87 HS7 HBC HXA7 e0 e1 e2 d0 d1 d2 d3 d4 d5
      obtain ⟨k0, k1, k2, r0, r1, r2⟩ := HB8.out
      go_wp2
      have h3 := XBox.stay_put HS9.out HZb8.out (.slice x2.a n2 x2.cap) (.int .i64 nx) (.slice x2.a2 65 x2.c2)
      have h5 := HX2.out.stay (XBox.put_stay _ b8 (.slice x2.a n2 x2.cap) (.int .i64 nx) (.slice x2.a2 65 x2.c2)) HNB.out
      rw [HN2.out] at h3 h5 ⊢
      exact bodyPost_ret (results_x1 rfl _ _ b8 x2 _ nx _ rfl rfl (HB8.out.put (xs x2 _ nx))) rfl ⟨x2, rfl, h5, h3, HF2.out⟩

end Go.Proofs.Ytefpifnfinkbaaa
