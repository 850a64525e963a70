/-
  What the document lets a process do with a terminal: walked. No conditions.
-/
import Derived.Test.YtefpifnfinkbaaaFD
import Derived.Test.YtefpifnfinkbaaaFC
import Derived.BigQuiet
import Derived.ArgAppend
import Derived.Deep.DeepCutAuto
import Derived.Deep.CutBlock
namespace Go.Proofs.Ytefpifnfinkbaaa
open Go.RowKit

variable {w : World} {x : Xr} {L : List Pr} {f : Int → Int}

/-- Signals that are made. -/
theorem SV.made (w : World) (K : List Sg) (hk : K.length ≤ maxLen) : SV (w.alloc (.cells (sc K).toArray 60)) (some ⟨w.heap.size, 0, none⟩) K.length K := by
  have h := owns_newS w (sc K).toArray 60 2 K.length (by simp [sc_length]) hk
  exact Win.of_owns h (by simp [sc_length])

theorem rmay12_none (y t nx : Int) (wr ts : Bool) (h : XAt w x L f) (hx : ∀ p ∈ L, p.pid ≠ y) : Calls Try.prog 12 #[.agg #[.slice x.a L.length x.cap, .int .i64 nx, .slice x.a2 65 x.c2], .int .i64 y, .int .i64 t, .bool wr, .bool ts] w (GivesNS 2 [] w) := by
  obtain ⟨n, hn⟩ : ∃ n, n = L.length := ⟨_, rfl⟩
  obtain ⟨b5, hb5⟩ : ∃ b, b = w.heap.size := ⟨_, rfl⟩
  obtain ⟨W0, hW0⟩ : ∃ W, W = w.alloc (.cells #[.slice x.a n x.cap, .int .i64 nx, .slice x.a2 65 x.c2] 29) := ⟨_, rfl⟩
  have hsW0 : Stay (fun _ => False) w W0 := by rw [hW0]; exact (Stay.refl _ _).alloc _
  have hpb5 : w.heap.size = b5 := by rw [hb5]
  have HBb5 := hide' (show XBox W0 b5 (xs x n nx) from (show XBox W0 b5 (xs x n nx) from (by rw [hW0]; exact xbox_new w x n nx hpb5)).keep (Stay.refl (fun _ => False) W0))
  have HZb5 : Hid (w.heap.size ≤ b5) := by show _ ≤ _; omega
  have HS0 := hide' ((Stay.refl (fun _ => False) w).trans hsW0)
  have HW0 : Hid (W0 = (w.alloc (.cells #[.slice x.a n x.cap, .int .i64 nx, .slice x.a2 65 x.c2] 29))) := by show _ = _; rw [hW0]
  have HXA := hide' (h.keep HS0.out)
  have HX0 := hide' h
  have HN := hide' hn
  have hn1 : (n : Int) ≤ 256 := by have := h.len; omega
  have hat := at14 y nx HXA.out
  rw [ixI_no hx, ← hn] at hat
  have HAT := hide' hat
  clear hat
  rw [← hn]
  clear h hn hx
  clear hW0 hsW0 hpb5
  obtain ⟨e0, e1, e2, _⟩ := HBb5.out
  simp only [xs] at e0 e1 e2
  go_enter Try.func12, Try.ntmps12
  go_upto_region 1 with fail
  rw [← HW0.out, ← hb5]
  clear HW0 hb5
  go_wp2_with fail
  refine HAT.out.mono ?_
  rintro _ w1 ⟨rfl, hs⟩
  have HB3 := hide' (HBb5.out.keep hs)
  have HS9 := hide' (HS0.out.trans hs)
  have HXA1 := hide' (HXA.out.keep hs)
  clear hs HAT HBb5 HXA e0 e1 e2
  go_wp2
  go_returns
  exact ⟨none, 0, rfl, SV.nil _, HS9.out, fun j hj => by cases hj⟩

set_option maxRecDepth 100000 in
set_option maxHeartbeats 1000000 in
theorem rmay12_A1 (y t nx : Int) (wr ts : Bool) {i : Nat} {p : Pr} (h : XAt w x L f) (hu : Up L) (hp : L[i]? = some p) (hx : p.pid = y) (hf : ¬ (1 ≤ t ∧ t ≤ 64) → f t = 0) (htz : (t == 0) = true) : Calls Try.prog 12 #[.agg #[.slice x.a L.length x.cap, .int .i64 nx, .slice x.a2 65 x.c2], .int .i64 y, .int .i64 t, .bool wr, .bool ts] w (GivesNS 0 [] w) := by
  obtain ⟨n, hn⟩ : ∃ n, n = L.length := ⟨_, rfl⟩
  obtain ⟨b5, hb5⟩ : ∃ b, b = w.heap.size := ⟨_, rfl⟩
  obtain ⟨W0, hW0⟩ : ∃ W, W = w.alloc (.cells #[.slice x.a n x.cap, .int .i64 nx, .slice x.a2 65 x.c2] 29) := ⟨_, rfl⟩
  have hsW0 : Stay (fun _ => False) w W0 := by rw [hW0]; exact (Stay.refl _ _).alloc _
  have hpb5 : w.heap.size = b5 := by rw [hb5]
  have HBb5 := hide' (show XBox W0 b5 (xs x n nx) from (show XBox W0 b5 (xs x n nx) from (by rw [hW0]; exact xbox_new w x n nx hpb5)).keep (Stay.refl (fun _ => False) W0))
  have HZb5 : Hid (w.heap.size ≤ b5) := by show _ ≤ _; omega
  have HS0 := hide' ((Stay.refl (fun _ => False) w).trans hsW0)
  have HW0 : Hid (W0 = (w.alloc (.cells #[.slice x.a n x.cap, .int .i64 nx, .slice x.a2 65 x.c2] 29))) := by show _ = _; rw [hW0]
  have HXA := hide' (h.keep HS0.out)
  have HX0 := hide' h
  have HN := hide' hn
  have hn1 : (n : Int) ≤ 256 := by have := h.len; omega
  have hat := at14 y nx HXA.out
  rw [ixI_at hu hp hx, ← hn] at hat
  have HAT := hide' hat
  clear hat
  have HP := hide' hp
  have hin1 : (i : Int) < (n : Nat) := by have := (List.getElem?_eq_some_iff.1 hp).1; omega
  have HF := hide' hf
  have HU := hide' hu


  rw [← hn]
  clear h hn hx hu hp hf
  clear hW0 hsW0 hpb5
  obtain ⟨e0, e1, e2, _⟩ := HBb5.out
  simp only [xs] at e0 e1 e2
  go_enter Try.func12, Try.ntmps12
  go_upto_region 1 with fail
  rw [← HW0.out, ← hb5]
  clear HW0 hb5
  go_wp2_with fail
  refine HAT.out.mono ?_
  rintro _ w1 ⟨rfl, hs⟩
  have HB3 := hide' (HBb5.out.keep hs)
  have HS9 := hide' (HS0.out.trans hs)
  have HXA1 := hide' (HXA.out.keep hs)
  clear hs HAT HBb5 HXA e0 e1 e2
  obtain ⟨e0, e1, e2, _⟩ := HB3.out
  simp only [xs] at e0 e1 e2
  obtain ⟨g, o, hxa, hpb⟩ := HXA1.out.rd i p HP.out
  obtain ⟨d0, d1, d2, d3, d4, d5⟩ := hpb
  rw [hxa] at e0
  obtain ⟨b9, hb9⟩ : ∃ b, b = w1.heap.size := ⟨_, rfl⟩
  obtain ⟨W5, hW5⟩ : ∃ W, W = w1.alloc (.cells #[.int .i64 p.pid, .int .i64 p.par, .int .i64 p.grp, .int .i64 p.ses, .int .i64 p.tty, .bool p.df] 40) := ⟨_, rfl⟩
  have hs5 : Stay (fun _ => False) w1 W5 := by rw [hW5]; exact (Stay.refl _ _).alloc _
  have HP5 : Hid (PBox W5 b9 p) := by rw [hW5]; exact PBox.new p hb9.symm
  have HB3' := hide' (HB3.out.keep hs5)
  have HS9' := hide' (HS9.out.trans hs5)
  have HXA1' := hide' (HXA1.out.keep hs5)
  clear hs5 hxa
  go_upto_region 5 with fail
  rw [← hb9, ← hW5]
  clear hb9 hW5 e0 e1 e2 d0 d1 d2 d3 d4 d5 HB3 HS9 HXA1
  have HB3 := HB3'
  clear HB3'
  have HS9 := HS9'
  clear HS9'
  have HXA1 := HXA1'
  clear HXA1'
  obtain ⟨d0, d1, d2, d3, d4, d5, _⟩ := HP5.out

  have HFR : Hid (∀ W, Stay (fun _ => False) W5 W → Calls Try.prog 19 #[.agg #[.slice x.a n x.cap, .int .i64 nx, .slice x.a2 65 x.c2], .int .i64 t] W (Gives (.int .i64 (f t)) W)) := fun W hs => by
    have := front19 t nx (HXA1.out.keep hs) HF.out
    rw [← HN.out] at this
    exact this
  have hS : Stay (fun _ => False) W5 W5.drew := (Stay.refl _ _).drew
  refine wp_region_mix (fun w' => Stay (fun _ => False) W5 w') [(0, true), (1, true), (2, true), (3, true), (4, true), (5, true), (6, true), (7, true), (8, true), (9, true), (10, true), (11, true), (12, true), (13, false), (14, true), (15, true)] (by kernel_rfl) (by kernel_rfl) (fun _ d _ _ _ h => by cases d <;> exact h) hS ?_
  refine mix_begin (fun K0 hK0 => ?_)
  refine mix_take hK0 (some 24) (.move (.tmp 2)) 3 _ (by kernel_rfl) (by kernel_rfl) (fun w' hS' => by (simp only [opr]; go_simp; try with_reducible rfl)) (fun K1 hK1 => ?_)
  clear hK0 K0
  simp only [Act.put, lA, lZ, lS]
  refine mix_take hK1 (some 25) (.binOp BinOp.eql 3 (.tmp 24) (.const (Value.int IntKind.i64 0)) 3) 4 _ (by kernel_rfl) (by kernel_rfl) (fun w' hS' => by (simp only [opr]; go_simp; try with_reducible rfl)) (fun K2 hK2 => ?_)
  clear hK1 K1
  simp only [Act.put, lA, lZ, lS]
  refine mix_take hK2 (some 26) (.move (.tmp 25)) 4 _ (by kernel_rfl) (by kernel_rfl) (fun w' hS' => by (simp only [opr]; go_simp; try with_reducible rfl)) (fun K3 hK3 => ?_)
  clear hK2 K2
  simp only [Act.put, lA, lZ, lS]
  refine mix_skip hK3 (some 27) (by kernel_rfl) (by kernel_rfl) hS (fun K4 hK4 => ?_)
  clear hK3 K3
  simp only [Act.put, lA, lZ, lS]
  refine mix_skip hK4 (some 28) (by kernel_rfl) (by kernel_rfl) hS (fun K5 hK5 => ?_)
  clear hK4 K4
  simp only [Act.put, lA, lZ, lS]
  refine mix_skip hK5 (some 29) (by kernel_rfl) (by kernel_rfl) hS (fun K6 hK6 => ?_)
  clear hK5 K5
  simp only [Act.put, lA, lZ, lS]
  refine mix_skip hK6 (some 30) (by kernel_rfl) (by kernel_rfl) hS (fun K7 hK7 => ?_)
  clear hK6 K6
  simp only [Act.put, lA, lZ, lS]
  refine mix_take hK7 (some 31) (.pick (.tmp 26) (.const (Value.bool true)) (.tmp 30)) 4 _ (by kernel_rfl) (by kernel_rfl) (fun w' hS' => by (simp only [opr]; go_simp; try with_reducible rfl)) (fun K8 hK8 => ?_)
  clear hK7 K7
  simp only [Act.put, lA, lZ, lS]
  refine mix_take hK8 (some 32) (.move (.tmp 31)) 4 _ (by kernel_rfl) (by kernel_rfl) (fun w' hS' => by (simp only [opr]; go_simp; try with_reducible rfl)) (fun K9 hK9 => ?_)
  clear hK8 K8
  simp only [Act.put, lA, lZ, lS]
  refine mix_skip hK9 (some 33) (by kernel_rfl) (by kernel_rfl) hS (fun K10 hK10 => ?_)
  clear hK9 K9
  simp only [Act.put, lA, lZ, lS]
  refine mix_skip hK10 (some 34) (by kernel_rfl) (by kernel_rfl) hS (fun K11 hK11 => ?_)
  clear hK10 K10
  simp only [Act.put, lA, lZ, lS]
  refine mix_skip hK11 (some 35) (by kernel_rfl) (by kernel_rfl) hS (fun K12 hK12 => ?_)
  clear hK11 K11
  simp only [Act.put, lA, lZ, lS]
  refine mix_skip hK12 (some 36) (by kernel_rfl) (by kernel_rfl) hS (fun K13 hK13 => ?_)
  clear hK12 K12
  simp only [Act.put, lA, lZ, lS]
  refine mix_skip hK13 (some 37) (by kernel_rfl) (by kernel_rfl) hS (fun K14 hK14 => ?_)
  clear hK13 K13
  simp only [Act.put, lA, lZ, lS]
  refine mix_skip hK14 (some 38) (by kernel_rfl) (by kernel_rfl) hS (fun K15 hK15 => ?_)
  clear hK14 K14
  simp only [Act.put, lA, lZ, lS]
  refine mix_take hK15 (some 39) (.pick (.tmp 32) (.const (Value.bool true)) (.tmp 38)) 4 _ (by kernel_rfl) (by kernel_rfl) (fun w' hS' => by (simp only [opr]; go_simp; try with_reducible rfl)) (fun K16 hK16 => ?_)
  clear hK15 K15
  simp only [Act.put, lA, lZ, lS]
  refine hK16 _ _ (mix_nil ?_)
  clear hK16 K16
  have HS2 := hide' hS
  have d2 := keep_cell hS d2
  have d5 := keep_cell hS d5
  clear hS  HFR d0 d1 d3 d4
  go_wp2
  go_returns
  exact ⟨none, 0, rfl, SV.nil _, HS9.out.trans HS2.out, fun j hj => by cases hj⟩

set_option maxRecDepth 100000 in
set_option maxHeartbeats 1000000 in
theorem rmay12_A2 (y t nx : Int) (wr ts : Bool) {i : Nat} {p : Pr} (h : XAt w x L f) (hu : Up L) (hp : L[i]? = some p) (hx : p.pid = y) (hf : ¬ (1 ≤ t ∧ t ≤ 64) → f t = 0) (htz : (t == 0) = false) (htn : (p.tty != t) = true) : Calls Try.prog 12 #[.agg #[.slice x.a L.length x.cap, .int .i64 nx, .slice x.a2 65 x.c2], .int .i64 y, .int .i64 t, .bool wr, .bool ts] w (GivesNS 0 [] w) := by
  obtain ⟨n, hn⟩ : ∃ n, n = L.length := ⟨_, rfl⟩
  obtain ⟨b5, hb5⟩ : ∃ b, b = w.heap.size := ⟨_, rfl⟩
  obtain ⟨W0, hW0⟩ : ∃ W, W = w.alloc (.cells #[.slice x.a n x.cap, .int .i64 nx, .slice x.a2 65 x.c2] 29) := ⟨_, rfl⟩
  have hsW0 : Stay (fun _ => False) w W0 := by rw [hW0]; exact (Stay.refl _ _).alloc _
  have hpb5 : w.heap.size = b5 := by rw [hb5]
  have HBb5 := hide' (show XBox W0 b5 (xs x n nx) from (show XBox W0 b5 (xs x n nx) from (by rw [hW0]; exact xbox_new w x n nx hpb5)).keep (Stay.refl (fun _ => False) W0))
  have HZb5 : Hid (w.heap.size ≤ b5) := by show _ ≤ _; omega
  have HS0 := hide' ((Stay.refl (fun _ => False) w).trans hsW0)
  have HW0 : Hid (W0 = (w.alloc (.cells #[.slice x.a n x.cap, .int .i64 nx, .slice x.a2 65 x.c2] 29))) := by show _ = _; rw [hW0]
  have HXA := hide' (h.keep HS0.out)
  have HX0 := hide' h
  have HN := hide' hn
  have hn1 : (n : Int) ≤ 256 := by have := h.len; omega
  have hat := at14 y nx HXA.out
  rw [ixI_at hu hp hx, ← hn] at hat
  have HAT := hide' hat
  clear hat
  have HP := hide' hp
  have hin1 : (i : Int) < (n : Nat) := by have := (List.getElem?_eq_some_iff.1 hp).1; omega
  have HF := hide' hf
  have HU := hide' hu


  rw [← hn]
  clear h hn hx hu hp hf
  clear hW0 hsW0 hpb5
  obtain ⟨e0, e1, e2, _⟩ := HBb5.out
  simp only [xs] at e0 e1 e2
  go_enter Try.func12, Try.ntmps12
  go_upto_region 1 with fail
  rw [← HW0.out, ← hb5]
  clear HW0 hb5
  go_wp2_with fail
  refine HAT.out.mono ?_
  rintro _ w1 ⟨rfl, hs⟩
  have HB3 := hide' (HBb5.out.keep hs)
  have HS9 := hide' (HS0.out.trans hs)
  have HXA1 := hide' (HXA.out.keep hs)
  clear hs HAT HBb5 HXA e0 e1 e2
  obtain ⟨e0, e1, e2, _⟩ := HB3.out
  simp only [xs] at e0 e1 e2
  obtain ⟨g, o, hxa, hpb⟩ := HXA1.out.rd i p HP.out
  obtain ⟨d0, d1, d2, d3, d4, d5⟩ := hpb
  rw [hxa] at e0
  obtain ⟨b9, hb9⟩ : ∃ b, b = w1.heap.size := ⟨_, rfl⟩
  obtain ⟨W5, hW5⟩ : ∃ W, W = w1.alloc (.cells #[.int .i64 p.pid, .int .i64 p.par, .int .i64 p.grp, .int .i64 p.ses, .int .i64 p.tty, .bool p.df] 40) := ⟨_, rfl⟩
  have hs5 : Stay (fun _ => False) w1 W5 := by rw [hW5]; exact (Stay.refl _ _).alloc _
  have HP5 : Hid (PBox W5 b9 p) := by rw [hW5]; exact PBox.new p hb9.symm
  have HB3' := hide' (HB3.out.keep hs5)
  have HS9' := hide' (HS9.out.trans hs5)
  have HXA1' := hide' (HXA1.out.keep hs5)
  clear hs5 hxa
  go_upto_region 5 with fail
  rw [← hb9, ← hW5]
  clear hb9 hW5 e0 e1 e2 d0 d1 d2 d3 d4 d5 HB3 HS9 HXA1
  have HB3 := HB3'
  clear HB3'
  have HS9 := HS9'
  clear HS9'
  have HXA1 := HXA1'
  clear HXA1'
  obtain ⟨d0, d1, d2, d3, d4, d5, _⟩ := HP5.out

  have HFR : Hid (∀ W, Stay (fun _ => False) W5 W → Calls Try.prog 19 #[.agg #[.slice x.a n x.cap, .int .i64 nx, .slice x.a2 65 x.c2], .int .i64 t] W (Gives (.int .i64 (f t)) W)) := fun W hs => by
    have := front19 t nx (HXA1.out.keep hs) HF.out
    rw [← HN.out] at this
    exact this
  have hS : Stay (fun _ => False) W5 W5.drew := (Stay.refl _ _).drew
  refine wp_region_mix (fun w' => Stay (fun _ => False) W5 w') [(0, true), (1, true), (2, true), (3, true), (4, true), (5, true), (6, true), (7, true), (8, true), (9, true), (10, true), (11, true), (12, true), (13, false), (14, true), (15, true)] (by kernel_rfl) (by kernel_rfl) (fun _ d _ _ _ h => by cases d <;> exact h) hS ?_
  refine mix_begin (fun K0 hK0 => ?_)
  refine mix_take hK0 (some 24) (.move (.tmp 2)) 3 _ (by kernel_rfl) (by kernel_rfl) (fun w' hS' => by (simp only [opr]; go_simp; try with_reducible rfl)) (fun K1 hK1 => ?_)
  clear hK0 K0
  simp only [Act.put, lA, lZ, lS]
  refine mix_take hK1 (some 25) (.binOp BinOp.eql 3 (.tmp 24) (.const (Value.int IntKind.i64 0)) 3) 4 _ (by kernel_rfl) (by kernel_rfl) (fun w' hS' => by (simp only [opr]; go_simp; try with_reducible rfl)) (fun K2 hK2 => ?_)
  clear hK1 K1
  simp only [Act.put, lA, lZ, lS]
  refine mix_take hK2 (some 26) (.move (.tmp 25)) 4 _ (by kernel_rfl) (by kernel_rfl) (fun w' hS' => by (simp only [opr]; go_simp; try with_reducible rfl)) (fun K3 hK3 => ?_)
  clear hK2 K2
  simp only [Act.put, lA, lZ, lS]
  refine mix_take hK3 (some 27) (.fieldAddr 40 (.tmp 13) 4) 0 _ (by kernel_rfl) (by kernel_rfl) (fun w' hS' => by (simp only [opr]; go_simp; try with_reducible rfl)) (fun K4 hK4 => ?_)
  clear hK3 K3
  simp only [Act.put, lA, lZ, lS]
  refine mix_take hK4 (some 28) (.load 3 (.tmp 27)) 3 _ (by kernel_rfl) (by kernel_rfl) (fun w' hS' => by (have z0 := keep_cell hS' d4; simp only [opr]; go_simp; try with_reducible rfl)) (fun K5 hK5 => ?_)
  clear hK4 K4
  simp only [Act.put, lA, lZ, lS]
  refine mix_take hK5 (some 29) (.move (.tmp 2)) 3 _ (by kernel_rfl) (by kernel_rfl) (fun w' hS' => by (simp only [opr]; go_simp; try with_reducible rfl)) (fun K6 hK6 => ?_)
  clear hK5 K5
  simp only [Act.put, lA, lZ, lS]
  refine mix_take hK6 (some 30) (.binOp BinOp.neq 3 (.tmp 28) (.tmp 29) 3) 4 _ (by kernel_rfl) (by kernel_rfl) (fun w' hS' => by (simp only [opr]; go_simp; try with_reducible rfl)) (fun K7 hK7 => ?_)
  clear hK6 K6
  simp only [Act.put, lA, lZ, lS]
  refine mix_take hK7 (some 31) (.pick (.tmp 26) (.const (Value.bool true)) (.tmp 30)) 4 _ (by kernel_rfl) (by kernel_rfl) (fun w' hS' => by (simp only [opr]; go_simp; try with_reducible rfl)) (fun K8 hK8 => ?_)
  clear hK7 K7
  simp only [Act.put, lA, lZ, lS]
  refine mix_take hK8 (some 32) (.move (.tmp 31)) 4 _ (by kernel_rfl) (by kernel_rfl) (fun w' hS' => by (simp only [opr]; go_simp; try with_reducible rfl)) (fun K9 hK9 => ?_)
  clear hK8 K8
  simp only [Act.put, lA, lZ, lS]
  refine mix_skip hK9 (some 33) (by kernel_rfl) (by kernel_rfl) hS (fun K10 hK10 => ?_)
  clear hK9 K9
  simp only [Act.put, lA, lZ, lS]
  refine mix_skip hK10 (some 34) (by kernel_rfl) (by kernel_rfl) hS (fun K11 hK11 => ?_)
  clear hK10 K10
  simp only [Act.put, lA, lZ, lS]
  refine mix_skip hK11 (some 35) (by kernel_rfl) (by kernel_rfl) hS (fun K12 hK12 => ?_)
  clear hK11 K11
  simp only [Act.put, lA, lZ, lS]
  refine mix_skip hK12 (some 36) (by kernel_rfl) (by kernel_rfl) hS (fun K13 hK13 => ?_)
  clear hK12 K12
  simp only [Act.put, lA, lZ, lS]
  refine mix_skip hK13 (some 37) (by kernel_rfl) (by kernel_rfl) hS (fun K14 hK14 => ?_)
  clear hK13 K13
  simp only [Act.put, lA, lZ, lS]
  refine mix_skip hK14 (some 38) (by kernel_rfl) (by kernel_rfl) hS (fun K15 hK15 => ?_)
  clear hK14 K14
  simp only [Act.put, lA, lZ, lS]
  refine mix_take hK15 (some 39) (.pick (.tmp 32) (.const (Value.bool true)) (.tmp 38)) 4 _ (by kernel_rfl) (by kernel_rfl) (fun w' hS' => by (simp only [opr]; go_simp; try with_reducible rfl)) (fun K16 hK16 => ?_)
  clear hK15 K15
  simp only [Act.put, lA, lZ, lS]
  refine hK16 _ _ (mix_nil ?_)
  clear hK16 K16
  have HS2 := hide' hS
  have d2 := keep_cell hS d2
  have d5 := keep_cell hS d5
  clear hS  HFR d0 d1 d3 d4
  go_wp2
  go_returns
  exact ⟨none, 0, rfl, SV.nil _, HS9.out.trans HS2.out, fun j hj => by cases hj⟩

set_option maxRecDepth 100000 in
set_option maxHeartbeats 1000000 in
theorem rmay12_B (y t nx : Int) (wr ts : Bool) {i : Nat} {p : Pr} (h : XAt w x L f) (hu : Up L) (hp : L[i]? = some p) (hx : p.pid = y) (hf : ¬ (1 ≤ t ∧ t ≤ 64) → f t = 0) (htz : (t == 0) = false) (htn : (p.tty != t) = false) (hsame : (p.grp == f t) = true) : Calls Try.prog 12 #[.agg #[.slice x.a L.length x.cap, .int .i64 nx, .slice x.a2 65 x.c2], .int .i64 y, .int .i64 t, .bool wr, .bool ts] w (GivesNS 0 [] w) := by
  obtain ⟨n, hn⟩ : ∃ n, n = L.length := ⟨_, rfl⟩
  obtain ⟨b5, hb5⟩ : ∃ b, b = w.heap.size := ⟨_, rfl⟩
  obtain ⟨W0, hW0⟩ : ∃ W, W = w.alloc (.cells #[.slice x.a n x.cap, .int .i64 nx, .slice x.a2 65 x.c2] 29) := ⟨_, rfl⟩
  have hsW0 : Stay (fun _ => False) w W0 := by rw [hW0]; exact (Stay.refl _ _).alloc _
  have hpb5 : w.heap.size = b5 := by rw [hb5]
  have HBb5 := hide' (show XBox W0 b5 (xs x n nx) from (show XBox W0 b5 (xs x n nx) from (by rw [hW0]; exact xbox_new w x n nx hpb5)).keep (Stay.refl (fun _ => False) W0))
  have HZb5 : Hid (w.heap.size ≤ b5) := by show _ ≤ _; omega
  have HS0 := hide' ((Stay.refl (fun _ => False) w).trans hsW0)
  have HW0 : Hid (W0 = (w.alloc (.cells #[.slice x.a n x.cap, .int .i64 nx, .slice x.a2 65 x.c2] 29))) := by show _ = _; rw [hW0]
  have HXA := hide' (h.keep HS0.out)
  have HX0 := hide' h
  have HN := hide' hn
  have hn1 : (n : Int) ≤ 256 := by have := h.len; omega
  have hat := at14 y nx HXA.out
  rw [ixI_at hu hp hx, ← hn] at hat
  have HAT := hide' hat
  clear hat
  have HP := hide' hp
  have hin1 : (i : Int) < (n : Nat) := by have := (List.getElem?_eq_some_iff.1 hp).1; omega
  have HF := hide' hf
  have HU := hide' hu


  rw [← hn]
  clear h hn hx hu hp hf
  clear hW0 hsW0 hpb5
  obtain ⟨e0, e1, e2, _⟩ := HBb5.out
  simp only [xs] at e0 e1 e2
  go_enter Try.func12, Try.ntmps12
  go_upto_region 1 with fail
  rw [← HW0.out, ← hb5]
  clear HW0 hb5
  go_wp2_with fail
  refine HAT.out.mono ?_
  rintro _ w1 ⟨rfl, hs⟩
  have HB3 := hide' (HBb5.out.keep hs)
  have HS9 := hide' (HS0.out.trans hs)
  have HXA1 := hide' (HXA.out.keep hs)
  clear hs HAT HBb5 HXA e0 e1 e2
  obtain ⟨e0, e1, e2, _⟩ := HB3.out
  simp only [xs] at e0 e1 e2
  obtain ⟨g, o, hxa, hpb⟩ := HXA1.out.rd i p HP.out
  obtain ⟨d0, d1, d2, d3, d4, d5⟩ := hpb
  rw [hxa] at e0
  obtain ⟨b9, hb9⟩ : ∃ b, b = w1.heap.size := ⟨_, rfl⟩
  obtain ⟨W5, hW5⟩ : ∃ W, W = w1.alloc (.cells #[.int .i64 p.pid, .int .i64 p.par, .int .i64 p.grp, .int .i64 p.ses, .int .i64 p.tty, .bool p.df] 40) := ⟨_, rfl⟩
  have hs5 : Stay (fun _ => False) w1 W5 := by rw [hW5]; exact (Stay.refl _ _).alloc _
  have HP5 : Hid (PBox W5 b9 p) := by rw [hW5]; exact PBox.new p hb9.symm
  have HB3' := hide' (HB3.out.keep hs5)
  have HS9' := hide' (HS9.out.trans hs5)
  have HXA1' := hide' (HXA1.out.keep hs5)
  clear hs5 hxa
  go_upto_region 5 with fail
  rw [← hb9, ← hW5]
  clear hb9 hW5 e0 e1 e2 d0 d1 d2 d3 d4 d5 HB3 HS9 HXA1
  have HB3 := HB3'
  clear HB3'
  have HS9 := HS9'
  clear HS9'
  have HXA1 := HXA1'
  clear HXA1'
  obtain ⟨d0, d1, d2, d3, d4, d5, _⟩ := HP5.out

  have HFR : Hid (∀ W, Stay (fun _ => False) W5 W → Calls Try.prog 19 #[.agg #[.slice x.a n x.cap, .int .i64 nx, .slice x.a2 65 x.c2], .int .i64 t] W (Gives (.int .i64 (f t)) W)) := fun W hs => by
    have := front19 t nx (HXA1.out.keep hs) HF.out
    rw [← HN.out] at this
    exact this
  have hS : Stay (fun _ => False) W5 W5.drew := (Stay.refl _ _).drew
  refine wp_region_mix (fun w' => Stay (fun _ => False) W5 w') [(0, true), (1, true), (2, true), (3, true), (4, true), (5, true), (6, true), (7, true), (8, true), (9, true), (10, true), (11, true), (12, true), (13, false), (14, true), (15, true)] (by kernel_rfl) (by kernel_rfl) (fun _ d _ _ _ h => by cases d <;> exact h) hS ?_
  refine mix_begin (fun K0 hK0 => ?_)
  refine mix_take hK0 (some 24) (.move (.tmp 2)) 3 _ (by kernel_rfl) (by kernel_rfl) (fun w' hS' => by (simp only [opr]; go_simp; try with_reducible rfl)) (fun K1 hK1 => ?_)
  clear hK0 K0
  simp only [Act.put, lA, lZ, lS]
  refine mix_take hK1 (some 25) (.binOp BinOp.eql 3 (.tmp 24) (.const (Value.int IntKind.i64 0)) 3) 4 _ (by kernel_rfl) (by kernel_rfl) (fun w' hS' => by (simp only [opr]; go_simp; try with_reducible rfl)) (fun K2 hK2 => ?_)
  clear hK1 K1
  simp only [Act.put, lA, lZ, lS]
  refine mix_take hK2 (some 26) (.move (.tmp 25)) 4 _ (by kernel_rfl) (by kernel_rfl) (fun w' hS' => by (simp only [opr]; go_simp; try with_reducible rfl)) (fun K3 hK3 => ?_)
  clear hK2 K2
  simp only [Act.put, lA, lZ, lS]
  refine mix_take hK3 (some 27) (.fieldAddr 40 (.tmp 13) 4) 0 _ (by kernel_rfl) (by kernel_rfl) (fun w' hS' => by (simp only [opr]; go_simp; try with_reducible rfl)) (fun K4 hK4 => ?_)
  clear hK3 K3
  simp only [Act.put, lA, lZ, lS]
  refine mix_take hK4 (some 28) (.load 3 (.tmp 27)) 3 _ (by kernel_rfl) (by kernel_rfl) (fun w' hS' => by (have z0 := keep_cell hS' d4; simp only [opr]; go_simp; try with_reducible rfl)) (fun K5 hK5 => ?_)
  clear hK4 K4
  simp only [Act.put, lA, lZ, lS]
  refine mix_take hK5 (some 29) (.move (.tmp 2)) 3 _ (by kernel_rfl) (by kernel_rfl) (fun w' hS' => by (simp only [opr]; go_simp; try with_reducible rfl)) (fun K6 hK6 => ?_)
  clear hK5 K5
  simp only [Act.put, lA, lZ, lS]
  refine mix_take hK6 (some 30) (.binOp BinOp.neq 3 (.tmp 28) (.tmp 29) 3) 4 _ (by kernel_rfl) (by kernel_rfl) (fun w' hS' => by (simp only [opr]; go_simp; try with_reducible rfl)) (fun K7 hK7 => ?_)
  clear hK6 K6
  simp only [Act.put, lA, lZ, lS]
  refine mix_take hK7 (some 31) (.pick (.tmp 26) (.const (Value.bool true)) (.tmp 30)) 4 _ (by kernel_rfl) (by kernel_rfl) (fun w' hS' => by (simp only [opr]; go_simp; try with_reducible rfl)) (fun K8 hK8 => ?_)
  clear hK7 K7
  simp only [Act.put, lA, lZ, lS]
  refine mix_take hK8 (some 32) (.move (.tmp 31)) 4 _ (by kernel_rfl) (by kernel_rfl) (fun w' hS' => by (simp only [opr]; go_simp; try with_reducible rfl)) (fun K9 hK9 => ?_)
  clear hK8 K8
  simp only [Act.put, lA, lZ, lS]
  refine mix_take hK9 (some 33) (.fieldAddr 40 (.tmp 13) 2) 0 _ (by kernel_rfl) (by kernel_rfl) (fun w' hS' => by (simp only [opr]; go_simp; try with_reducible rfl)) (fun K10 hK10 => ?_)
  clear hK9 K9
  simp only [Act.put, lA, lZ, lS]
  refine mix_take hK10 (some 34) (.load 3 (.tmp 33)) 3 _ (by kernel_rfl) (by kernel_rfl) (fun w' hS' => by (have z0 := keep_cell hS' d2; simp only [opr]; go_simp; try with_reducible rfl)) (fun K11 hK11 => ?_)
  clear hK10 K10
  simp only [Act.put, lA, lZ, lS]
  refine mix_take hK11 (some 35) (.load 29 (.tmp 5)) 29 _ (by kernel_rfl) (by kernel_rfl) (fun w' hS' => by exact run_load_XBox rfl rfl (HB3.out.keep hS')) (fun K12 hK12 => ?_)
  clear hK11 K11
  simp only [Act.put, lA, lZ, lS]
  refine mix_take hK12 (some 36) (.move (.tmp 2)) 3 _ (by kernel_rfl) (by kernel_rfl) (fun w' hS' => by (simp only [opr]; go_simp; try with_reducible rfl)) (fun K13 hK13 => ?_)
  clear hK12 K12
  simp only [Act.put, lA, lZ, lS]
  refine mix_call hK13 (some 37) 19 #[.tmp 35, .tmp 36] #[29, 3] 3 _ (by kernel_rfl) (by kernel_rfl) (enters Try.func19 (by kernel_rfl) (by kernel_rfl)) (by go_simp; try with_reducible rfl) (fun K14 hK14 => ?_)
  clear hK13 K13
  refine (HFR.out _ hS).mono ?_
  rintro e wm1 ⟨rfl, hs1⟩
  have hS1 : _ := hS.trans hs1
  refine ⟨_, rfl, hS1, ?_⟩
  clear hs1
  simp only [Act.put, lA, lZ, lS]
  refine mix_take hK14 (some 38) (.binOp BinOp.eql 3 (.tmp 34) (.tmp 37) 3) 4 _ (by kernel_rfl) (by kernel_rfl) (fun w' hS' => by (simp only [opr]; go_simp; try with_reducible rfl)) (fun K15 hK15 => ?_)
  clear hK14 K14
  simp only [Act.put, lA, lZ, lS]
  refine mix_take hK15 (some 39) (.pick (.tmp 32) (.const (Value.bool true)) (.tmp 38)) 4 _ (by kernel_rfl) (by kernel_rfl) (fun w' hS' => by (simp only [opr]; go_simp; try with_reducible rfl)) (fun K16 hK16 => ?_)
  clear hK15 K15
  simp only [Act.put, lA, lZ, lS]
  refine hK16 _ _ (mix_nil ?_)
  clear hK16 K16
  have HS2 := hide' hS1
  have d2 := keep_cell hS1 d2
  have d5 := keep_cell hS1 d5
  clear hS hS1 HFR d0 d1 d3 d4
  go_wp2
  go_returns
  exact ⟨none, 0, rfl, SV.nil _, HS9.out.trans HS2.out, fun j hj => by cases hj⟩

set_option maxRecDepth 100000 in
set_option maxHeartbeats 1000000 in
theorem rmay12_C (y t nx : Int) {i : Nat} {p : Pr} (h : XAt w x L f) (hu : Up L) (hp : L[i]? = some p) (hx : p.pid = y) (hf : ¬ (1 ≤ t ∧ t ≤ 64) → f t = 0) (htz : (t == 0) = false) (htn : (p.tty != t) = false) (hsame : (p.grp == f t) = false) : Calls Try.prog 12 #[.agg #[.slice x.a L.length x.cap, .int .i64 nx, .slice x.a2 65 x.c2], .int .i64 y, .int .i64 t, .bool true, .bool false] w (GivesNS 0 [] w) := by
  obtain ⟨n, hn⟩ : ∃ n, n = L.length := ⟨_, rfl⟩
  obtain ⟨b5, hb5⟩ : ∃ b, b = w.heap.size := ⟨_, rfl⟩
  obtain ⟨W0, hW0⟩ : ∃ W, W = w.alloc (.cells #[.slice x.a n x.cap, .int .i64 nx, .slice x.a2 65 x.c2] 29) := ⟨_, rfl⟩
  have hsW0 : Stay (fun _ => False) w W0 := by rw [hW0]; exact (Stay.refl _ _).alloc _
  have hpb5 : w.heap.size = b5 := by rw [hb5]
  have HBb5 := hide' (show XBox W0 b5 (xs x n nx) from (show XBox W0 b5 (xs x n nx) from (by rw [hW0]; exact xbox_new w x n nx hpb5)).keep (Stay.refl (fun _ => False) W0))
  have HZb5 : Hid (w.heap.size ≤ b5) := by show _ ≤ _; omega
  have HS0 := hide' ((Stay.refl (fun _ => False) w).trans hsW0)
  have HW0 : Hid (W0 = (w.alloc (.cells #[.slice x.a n x.cap, .int .i64 nx, .slice x.a2 65 x.c2] 29))) := by show _ = _; rw [hW0]
  have HXA := hide' (h.keep HS0.out)
  have HX0 := hide' h
  have HN := hide' hn
  have hn1 : (n : Int) ≤ 256 := by have := h.len; omega
  have hat := at14 y nx HXA.out
  rw [ixI_at hu hp hx, ← hn] at hat
  have HAT := hide' hat
  clear hat
  have HP := hide' hp
  have hin1 : (i : Int) < (n : Nat) := by have := (List.getElem?_eq_some_iff.1 hp).1; omega
  have HF := hide' hf
  have HU := hide' hu


  rw [← hn]
  clear h hn hx hu hp hf
  clear hW0 hsW0 hpb5
  obtain ⟨e0, e1, e2, _⟩ := HBb5.out
  simp only [xs] at e0 e1 e2
  go_enter Try.func12, Try.ntmps12
  go_upto_region 1 with fail
  rw [← HW0.out, ← hb5]
  clear HW0 hb5
  go_wp2_with fail
  refine HAT.out.mono ?_
  rintro _ w1 ⟨rfl, hs⟩
  have HB3 := hide' (HBb5.out.keep hs)
  have HS9 := hide' (HS0.out.trans hs)
  have HXA1 := hide' (HXA.out.keep hs)
  clear hs HAT HBb5 HXA e0 e1 e2
  obtain ⟨e0, e1, e2, _⟩ := HB3.out
  simp only [xs] at e0 e1 e2
  obtain ⟨g, o, hxa, hpb⟩ := HXA1.out.rd i p HP.out
  obtain ⟨d0, d1, d2, d3, d4, d5⟩ := hpb
  rw [hxa] at e0
  obtain ⟨b9, hb9⟩ : ∃ b, b = w1.heap.size := ⟨_, rfl⟩
  obtain ⟨W5, hW5⟩ : ∃ W, W = w1.alloc (.cells #[.int .i64 p.pid, .int .i64 p.par, .int .i64 p.grp, .int .i64 p.ses, .int .i64 p.tty, .bool p.df] 40) := ⟨_, rfl⟩
  have hs5 : Stay (fun _ => False) w1 W5 := by rw [hW5]; exact (Stay.refl _ _).alloc _
  have HP5 : Hid (PBox W5 b9 p) := by rw [hW5]; exact PBox.new p hb9.symm
  have HB3' := hide' (HB3.out.keep hs5)
  have HS9' := hide' (HS9.out.trans hs5)
  have HXA1' := hide' (HXA1.out.keep hs5)
  clear hs5 hxa
  go_upto_region 5 with fail
  rw [← hb9, ← hW5]
  clear hb9 hW5 e0 e1 e2 d0 d1 d2 d3 d4 d5 HB3 HS9 HXA1
  have HB3 := HB3'
  clear HB3'
  have HS9 := HS9'
  clear HS9'
  have HXA1 := HXA1'
  clear HXA1'
  obtain ⟨d0, d1, d2, d3, d4, d5, _⟩ := HP5.out

  have HFR : Hid (∀ W, Stay (fun _ => False) W5 W → Calls Try.prog 19 #[.agg #[.slice x.a n x.cap, .int .i64 nx, .slice x.a2 65 x.c2], .int .i64 t] W (Gives (.int .i64 (f t)) W)) := fun W hs => by
    have := front19 t nx (HXA1.out.keep hs) HF.out
    rw [← HN.out] at this
    exact this
  have hS : Stay (fun _ => False) W5 W5.drew := (Stay.refl _ _).drew
  refine wp_region_mix (fun w' => Stay (fun _ => False) W5 w') [(0, true), (1, true), (2, true), (3, true), (4, true), (5, true), (6, true), (7, true), (8, true), (9, true), (10, true), (11, true), (12, true), (13, false), (14, true), (15, true)] (by kernel_rfl) (by kernel_rfl) (fun _ d _ _ _ h => by cases d <;> exact h) hS ?_
  refine mix_begin (fun K0 hK0 => ?_)
  refine mix_take hK0 (some 24) (.move (.tmp 2)) 3 _ (by kernel_rfl) (by kernel_rfl) (fun w' hS' => by (simp only [opr]; go_simp; try with_reducible rfl)) (fun K1 hK1 => ?_)
  clear hK0 K0
  simp only [Act.put, lA, lZ, lS]
  refine mix_take hK1 (some 25) (.binOp BinOp.eql 3 (.tmp 24) (.const (Value.int IntKind.i64 0)) 3) 4 _ (by kernel_rfl) (by kernel_rfl) (fun w' hS' => by (simp only [opr]; go_simp; try with_reducible rfl)) (fun K2 hK2 => ?_)
  clear hK1 K1
  simp only [Act.put, lA, lZ, lS]
  refine mix_take hK2 (some 26) (.move (.tmp 25)) 4 _ (by kernel_rfl) (by kernel_rfl) (fun w' hS' => by (simp only [opr]; go_simp; try with_reducible rfl)) (fun K3 hK3 => ?_)
  clear hK2 K2
  simp only [Act.put, lA, lZ, lS]
  refine mix_take hK3 (some 27) (.fieldAddr 40 (.tmp 13) 4) 0 _ (by kernel_rfl) (by kernel_rfl) (fun w' hS' => by (simp only [opr]; go_simp; try with_reducible rfl)) (fun K4 hK4 => ?_)
  clear hK3 K3
  simp only [Act.put, lA, lZ, lS]
  refine mix_take hK4 (some 28) (.load 3 (.tmp 27)) 3 _ (by kernel_rfl) (by kernel_rfl) (fun w' hS' => by (have z0 := keep_cell hS' d4; simp only [opr]; go_simp; try with_reducible rfl)) (fun K5 hK5 => ?_)
  clear hK4 K4
  simp only [Act.put, lA, lZ, lS]
  refine mix_take hK5 (some 29) (.move (.tmp 2)) 3 _ (by kernel_rfl) (by kernel_rfl) (fun w' hS' => by (simp only [opr]; go_simp; try with_reducible rfl)) (fun K6 hK6 => ?_)
  clear hK5 K5
  simp only [Act.put, lA, lZ, lS]
  refine mix_take hK6 (some 30) (.binOp BinOp.neq 3 (.tmp 28) (.tmp 29) 3) 4 _ (by kernel_rfl) (by kernel_rfl) (fun w' hS' => by (simp only [opr]; go_simp; try with_reducible rfl)) (fun K7 hK7 => ?_)
  clear hK6 K6
  simp only [Act.put, lA, lZ, lS]
  refine mix_take hK7 (some 31) (.pick (.tmp 26) (.const (Value.bool true)) (.tmp 30)) 4 _ (by kernel_rfl) (by kernel_rfl) (fun w' hS' => by (simp only [opr]; go_simp; try with_reducible rfl)) (fun K8 hK8 => ?_)
  clear hK7 K7
  simp only [Act.put, lA, lZ, lS]
  refine mix_take hK8 (some 32) (.move (.tmp 31)) 4 _ (by kernel_rfl) (by kernel_rfl) (fun w' hS' => by (simp only [opr]; go_simp; try with_reducible rfl)) (fun K9 hK9 => ?_)
  clear hK8 K8
  simp only [Act.put, lA, lZ, lS]
  refine mix_take hK9 (some 33) (.fieldAddr 40 (.tmp 13) 2) 0 _ (by kernel_rfl) (by kernel_rfl) (fun w' hS' => by (simp only [opr]; go_simp; try with_reducible rfl)) (fun K10 hK10 => ?_)
  clear hK9 K9
  simp only [Act.put, lA, lZ, lS]
  refine mix_take hK10 (some 34) (.load 3 (.tmp 33)) 3 _ (by kernel_rfl) (by kernel_rfl) (fun w' hS' => by (have z0 := keep_cell hS' d2; simp only [opr]; go_simp; try with_reducible rfl)) (fun K11 hK11 => ?_)
  clear hK10 K10
  simp only [Act.put, lA, lZ, lS]
  refine mix_take hK11 (some 35) (.load 29 (.tmp 5)) 29 _ (by kernel_rfl) (by kernel_rfl) (fun w' hS' => by exact run_load_XBox rfl rfl (HB3.out.keep hS')) (fun K12 hK12 => ?_)
  clear hK11 K11
  simp only [Act.put, lA, lZ, lS]
  refine mix_take hK12 (some 36) (.move (.tmp 2)) 3 _ (by kernel_rfl) (by kernel_rfl) (fun w' hS' => by (simp only [opr]; go_simp; try with_reducible rfl)) (fun K13 hK13 => ?_)
  clear hK12 K12
  simp only [Act.put, lA, lZ, lS]
  refine mix_call hK13 (some 37) 19 #[.tmp 35, .tmp 36] #[29, 3] 3 _ (by kernel_rfl) (by kernel_rfl) (enters Try.func19 (by kernel_rfl) (by kernel_rfl)) (by go_simp; try with_reducible rfl) (fun K14 hK14 => ?_)
  clear hK13 K13
  refine (HFR.out _ hS).mono ?_
  rintro e wm1 ⟨rfl, hs1⟩
  have hS1 : _ := hS.trans hs1
  refine ⟨_, rfl, hS1, ?_⟩
  clear hs1
  simp only [Act.put, lA, lZ, lS]
  refine mix_take hK14 (some 38) (.binOp BinOp.eql 3 (.tmp 34) (.tmp 37) 3) 4 _ (by kernel_rfl) (by kernel_rfl) (fun w' hS' => by (simp only [opr]; go_simp; try with_reducible rfl)) (fun K15 hK15 => ?_)
  clear hK14 K14
  simp only [Act.put, lA, lZ, lS]
  refine mix_take hK15 (some 39) (.pick (.tmp 32) (.const (Value.bool true)) (.tmp 38)) 4 _ (by kernel_rfl) (by kernel_rfl) (fun w' hS' => by (simp only [opr]; go_simp; try with_reducible rfl)) (fun K16 hK16 => ?_)
  clear hK15 K15
  simp only [Act.put, lA, lZ, lS]
  refine hK16 _ _ (mix_nil ?_)
  clear hK16 K16
  have HS2 := hide' hS1
  have d2 := keep_cell hS1 d2
  have d5 := keep_cell hS1 d5
  clear hS hS1 HFR d0 d1 d3 d4
  go_wp2
  go_returns
  exact ⟨none, 0, rfl, SV.nil _, HS9.out.trans HS2.out, fun j hj => by cases hj⟩

set_option maxRecDepth 100000 in
set_option maxHeartbeats 1000000 in
theorem rmay12_D (y t nx : Int) {i : Nat} {p : Pr} (h : XAt w x L f) (hu : Up L) (hp : L[i]? = some p) (hx : p.pid = y) (hf : ¬ (1 ≤ t ∧ t ≤ 64) → f t = 0) (htz : (t == 0) = false) (htn : (p.tty != t) = false) (hsame : (p.grp == f t) = false) (hdf : p.df = true) : Calls Try.prog 12 #[.agg #[.slice x.a L.length x.cap, .int .i64 nx, .slice x.a2 65 x.c2], .int .i64 y, .int .i64 t, .bool true, .bool true] w (GivesNS 0 [] w) := by
  obtain ⟨n, hn⟩ : ∃ n, n = L.length := ⟨_, rfl⟩
  obtain ⟨b5, hb5⟩ : ∃ b, b = w.heap.size := ⟨_, rfl⟩
  obtain ⟨W0, hW0⟩ : ∃ W, W = w.alloc (.cells #[.slice x.a n x.cap, .int .i64 nx, .slice x.a2 65 x.c2] 29) := ⟨_, rfl⟩
  have hsW0 : Stay (fun _ => False) w W0 := by rw [hW0]; exact (Stay.refl _ _).alloc _
  have hpb5 : w.heap.size = b5 := by rw [hb5]
  have HBb5 := hide' (show XBox W0 b5 (xs x n nx) from (show XBox W0 b5 (xs x n nx) from (by rw [hW0]; exact xbox_new w x n nx hpb5)).keep (Stay.refl (fun _ => False) W0))
  have HZb5 : Hid (w.heap.size ≤ b5) := by show _ ≤ _; omega
  have HS0 := hide' ((Stay.refl (fun _ => False) w).trans hsW0)
  have HW0 : Hid (W0 = (w.alloc (.cells #[.slice x.a n x.cap, .int .i64 nx, .slice x.a2 65 x.c2] 29))) := by show _ = _; rw [hW0]
  have HXA := hide' (h.keep HS0.out)
  have HX0 := hide' h
  have HN := hide' hn
  have hn1 : (n : Int) ≤ 256 := by have := h.len; omega
  have hat := at14 y nx HXA.out
  rw [ixI_at hu hp hx, ← hn] at hat
  have HAT := hide' hat
  clear hat
  have HP := hide' hp
  have hin1 : (i : Int) < (n : Nat) := by have := (List.getElem?_eq_some_iff.1 hp).1; omega
  have HF := hide' hf
  have HU := hide' hu

  have HDF := hide' hdf
  rw [← hn]
  clear h hn hx hu hp hf hdf
  clear hW0 hsW0 hpb5
  obtain ⟨e0, e1, e2, _⟩ := HBb5.out
  simp only [xs] at e0 e1 e2
  go_enter Try.func12, Try.ntmps12
  go_upto_region 1 with fail
  rw [← HW0.out, ← hb5]
  clear HW0 hb5
  go_wp2_with fail
  refine HAT.out.mono ?_
  rintro _ w1 ⟨rfl, hs⟩
  have HB3 := hide' (HBb5.out.keep hs)
  have HS9 := hide' (HS0.out.trans hs)
  have HXA1 := hide' (HXA.out.keep hs)
  clear hs HAT HBb5 HXA e0 e1 e2
  obtain ⟨e0, e1, e2, _⟩ := HB3.out
  simp only [xs] at e0 e1 e2
  obtain ⟨g, o, hxa, hpb⟩ := HXA1.out.rd i p HP.out
  obtain ⟨d0, d1, d2, d3, d4, d5⟩ := hpb
  rw [hxa] at e0
  obtain ⟨b9, hb9⟩ : ∃ b, b = w1.heap.size := ⟨_, rfl⟩
  obtain ⟨W5, hW5⟩ : ∃ W, W = w1.alloc (.cells #[.int .i64 p.pid, .int .i64 p.par, .int .i64 p.grp, .int .i64 p.ses, .int .i64 p.tty, .bool p.df] 40) := ⟨_, rfl⟩
  have hs5 : Stay (fun _ => False) w1 W5 := by rw [hW5]; exact (Stay.refl _ _).alloc _
  have HP5 : Hid (PBox W5 b9 p) := by rw [hW5]; exact PBox.new p hb9.symm
  have HB3' := hide' (HB3.out.keep hs5)
  have HS9' := hide' (HS9.out.trans hs5)
  have HXA1' := hide' (HXA1.out.keep hs5)
  clear hs5 hxa
  go_upto_region 5 with fail
  rw [← hb9, ← hW5]
  clear hb9 hW5 e0 e1 e2 d0 d1 d2 d3 d4 d5 HB3 HS9 HXA1
  have HB3 := HB3'
  clear HB3'
  have HS9 := HS9'
  clear HS9'
  have HXA1 := HXA1'
  clear HXA1'
  obtain ⟨d0, d1, d2, d3, d4, d5, _⟩ := HP5.out
  rw [HDF.out] at d5
  have HFR : Hid (∀ W, Stay (fun _ => False) W5 W → Calls Try.prog 19 #[.agg #[.slice x.a n x.cap, .int .i64 nx, .slice x.a2 65 x.c2], .int .i64 t] W (Gives (.int .i64 (f t)) W)) := fun W hs => by
    have := front19 t nx (HXA1.out.keep hs) HF.out
    rw [← HN.out] at this
    exact this
  have hS : Stay (fun _ => False) W5 W5.drew := (Stay.refl _ _).drew
  refine wp_region_mix (fun w' => Stay (fun _ => False) W5 w') [(0, true), (1, true), (2, true), (3, true), (4, true), (5, true), (6, true), (7, true), (8, true), (9, true), (10, true), (11, true), (12, true), (13, false), (14, true), (15, true)] (by kernel_rfl) (by kernel_rfl) (fun _ d _ _ _ h => by cases d <;> exact h) hS ?_
  refine mix_begin (fun K0 hK0 => ?_)
  refine mix_take hK0 (some 24) (.move (.tmp 2)) 3 _ (by kernel_rfl) (by kernel_rfl) (fun w' hS' => by (simp only [opr]; go_simp; try with_reducible rfl)) (fun K1 hK1 => ?_)
  clear hK0 K0
  simp only [Act.put, lA, lZ, lS]
  refine mix_take hK1 (some 25) (.binOp BinOp.eql 3 (.tmp 24) (.const (Value.int IntKind.i64 0)) 3) 4 _ (by kernel_rfl) (by kernel_rfl) (fun w' hS' => by (simp only [opr]; go_simp; try with_reducible rfl)) (fun K2 hK2 => ?_)
  clear hK1 K1
  simp only [Act.put, lA, lZ, lS]
  refine mix_take hK2 (some 26) (.move (.tmp 25)) 4 _ (by kernel_rfl) (by kernel_rfl) (fun w' hS' => by (simp only [opr]; go_simp; try with_reducible rfl)) (fun K3 hK3 => ?_)
  clear hK2 K2
  simp only [Act.put, lA, lZ, lS]
  refine mix_take hK3 (some 27) (.fieldAddr 40 (.tmp 13) 4) 0 _ (by kernel_rfl) (by kernel_rfl) (fun w' hS' => by (simp only [opr]; go_simp; try with_reducible rfl)) (fun K4 hK4 => ?_)
  clear hK3 K3
  simp only [Act.put, lA, lZ, lS]
  refine mix_take hK4 (some 28) (.load 3 (.tmp 27)) 3 _ (by kernel_rfl) (by kernel_rfl) (fun w' hS' => by (have z0 := keep_cell hS' d4; simp only [opr]; go_simp; try with_reducible rfl)) (fun K5 hK5 => ?_)
  clear hK4 K4
  simp only [Act.put, lA, lZ, lS]
  refine mix_take hK5 (some 29) (.move (.tmp 2)) 3 _ (by kernel_rfl) (by kernel_rfl) (fun w' hS' => by (simp only [opr]; go_simp; try with_reducible rfl)) (fun K6 hK6 => ?_)
  clear hK5 K5
  simp only [Act.put, lA, lZ, lS]
  refine mix_take hK6 (some 30) (.binOp BinOp.neq 3 (.tmp 28) (.tmp 29) 3) 4 _ (by kernel_rfl) (by kernel_rfl) (fun w' hS' => by (simp only [opr]; go_simp; try with_reducible rfl)) (fun K7 hK7 => ?_)
  clear hK6 K6
  simp only [Act.put, lA, lZ, lS]
  refine mix_take hK7 (some 31) (.pick (.tmp 26) (.const (Value.bool true)) (.tmp 30)) 4 _ (by kernel_rfl) (by kernel_rfl) (fun w' hS' => by (simp only [opr]; go_simp; try with_reducible rfl)) (fun K8 hK8 => ?_)
  clear hK7 K7
  simp only [Act.put, lA, lZ, lS]
  refine mix_take hK8 (some 32) (.move (.tmp 31)) 4 _ (by kernel_rfl) (by kernel_rfl) (fun w' hS' => by (simp only [opr]; go_simp; try with_reducible rfl)) (fun K9 hK9 => ?_)
  clear hK8 K8
  simp only [Act.put, lA, lZ, lS]
  refine mix_take hK9 (some 33) (.fieldAddr 40 (.tmp 13) 2) 0 _ (by kernel_rfl) (by kernel_rfl) (fun w' hS' => by (simp only [opr]; go_simp; try with_reducible rfl)) (fun K10 hK10 => ?_)
  clear hK9 K9
  simp only [Act.put, lA, lZ, lS]
  refine mix_take hK10 (some 34) (.load 3 (.tmp 33)) 3 _ (by kernel_rfl) (by kernel_rfl) (fun w' hS' => by (have z0 := keep_cell hS' d2; simp only [opr]; go_simp; try with_reducible rfl)) (fun K11 hK11 => ?_)
  clear hK10 K10
  simp only [Act.put, lA, lZ, lS]
  refine mix_take hK11 (some 35) (.load 29 (.tmp 5)) 29 _ (by kernel_rfl) (by kernel_rfl) (fun w' hS' => by exact run_load_XBox rfl rfl (HB3.out.keep hS')) (fun K12 hK12 => ?_)
  clear hK11 K11
  simp only [Act.put, lA, lZ, lS]
  refine mix_take hK12 (some 36) (.move (.tmp 2)) 3 _ (by kernel_rfl) (by kernel_rfl) (fun w' hS' => by (simp only [opr]; go_simp; try with_reducible rfl)) (fun K13 hK13 => ?_)
  clear hK12 K12
  simp only [Act.put, lA, lZ, lS]
  refine mix_call hK13 (some 37) 19 #[.tmp 35, .tmp 36] #[29, 3] 3 _ (by kernel_rfl) (by kernel_rfl) (enters Try.func19 (by kernel_rfl) (by kernel_rfl)) (by go_simp; try with_reducible rfl) (fun K14 hK14 => ?_)
  clear hK13 K13
  refine (HFR.out _ hS).mono ?_
  rintro e wm1 ⟨rfl, hs1⟩
  have hS1 : _ := hS.trans hs1
  refine ⟨_, rfl, hS1, ?_⟩
  clear hs1
  simp only [Act.put, lA, lZ, lS]
  refine mix_take hK14 (some 38) (.binOp BinOp.eql 3 (.tmp 34) (.tmp 37) 3) 4 _ (by kernel_rfl) (by kernel_rfl) (fun w' hS' => by (simp only [opr]; go_simp; try with_reducible rfl)) (fun K15 hK15 => ?_)
  clear hK14 K14
  simp only [Act.put, lA, lZ, lS]
  refine mix_take hK15 (some 39) (.pick (.tmp 32) (.const (Value.bool true)) (.tmp 38)) 4 _ (by kernel_rfl) (by kernel_rfl) (fun w' hS' => by (simp only [opr]; go_simp; try with_reducible rfl)) (fun K16 hK16 => ?_)
  clear hK15 K15
  simp only [Act.put, lA, lZ, lS]
  refine hK16 _ _ (mix_nil ?_)
  clear hK16 K16
  have HS2 := hide' hS1
  have d2 := keep_cell hS1 d2
  have d5 := keep_cell hS1 d5
  clear hS hS1 HFR d0 d1 d3 d4
  go_wp2
  go_returns
  exact ⟨none, 0, rfl, SV.nil _, HS9.out.trans HS2.out, fun j hj => by cases hj⟩

set_option maxRecDepth 100000 in
set_option maxHeartbeats 1000000 in
theorem rmay12_E1 (y t nx : Int) (ts : Bool) {i : Nat} {p : Pr} (h : XAt w x L f) (hu : Up L) (hp : L[i]? = some p) (hx : p.pid = y) (hf : ¬ (1 ≤ t ∧ t ≤ 64) → f t = 0) (htz : (t == 0) = false) (htn : (p.tty != t) = false) (hsame : (p.grp == f t) = false) (hdf : p.df = true) : Calls Try.prog 12 #[.agg #[.slice x.a L.length x.cap, .int .i64 nx, .slice x.a2 65 x.c2], .int .i64 y, .int .i64 t, .bool false, .bool ts] w (GivesNS 2 [] w) := by
  obtain ⟨n, hn⟩ : ∃ n, n = L.length := ⟨_, rfl⟩
  obtain ⟨b5, hb5⟩ : ∃ b, b = w.heap.size := ⟨_, rfl⟩
  obtain ⟨W0, hW0⟩ : ∃ W, W = w.alloc (.cells #[.slice x.a n x.cap, .int .i64 nx, .slice x.a2 65 x.c2] 29) := ⟨_, rfl⟩
  have hsW0 : Stay (fun _ => False) w W0 := by rw [hW0]; exact (Stay.refl _ _).alloc _
  have hpb5 : w.heap.size = b5 := by rw [hb5]
  have HBb5 := hide' (show XBox W0 b5 (xs x n nx) from (show XBox W0 b5 (xs x n nx) from (by rw [hW0]; exact xbox_new w x n nx hpb5)).keep (Stay.refl (fun _ => False) W0))
  have HZb5 : Hid (w.heap.size ≤ b5) := by show _ ≤ _; omega
  have HS0 := hide' ((Stay.refl (fun _ => False) w).trans hsW0)
  have HW0 : Hid (W0 = (w.alloc (.cells #[.slice x.a n x.cap, .int .i64 nx, .slice x.a2 65 x.c2] 29))) := by show _ = _; rw [hW0]
  have HXA := hide' (h.keep HS0.out)
  have HX0 := hide' h
  have HN := hide' hn
  have hn1 : (n : Int) ≤ 256 := by have := h.len; omega
  have hat := at14 y nx HXA.out
  rw [ixI_at hu hp hx, ← hn] at hat
  have HAT := hide' hat
  clear hat
  have HP := hide' hp
  have hin1 : (i : Int) < (n : Nat) := by have := (List.getElem?_eq_some_iff.1 hp).1; omega
  have HF := hide' hf
  have HU := hide' hu

  have HDF := hide' hdf
  rw [← hn]
  clear h hn hx hu hp hf hdf
  clear hW0 hsW0 hpb5
  obtain ⟨e0, e1, e2, _⟩ := HBb5.out
  simp only [xs] at e0 e1 e2
  go_enter Try.func12, Try.ntmps12
  go_upto_region 1 with fail
  rw [← HW0.out, ← hb5]
  clear HW0 hb5
  go_wp2_with fail
  refine HAT.out.mono ?_
  rintro _ w1 ⟨rfl, hs⟩
  have HB3 := hide' (HBb5.out.keep hs)
  have HS9 := hide' (HS0.out.trans hs)
  have HXA1 := hide' (HXA.out.keep hs)
  clear hs HAT HBb5 HXA e0 e1 e2
  obtain ⟨e0, e1, e2, _⟩ := HB3.out
  simp only [xs] at e0 e1 e2
  obtain ⟨g, o, hxa, hpb⟩ := HXA1.out.rd i p HP.out
  obtain ⟨d0, d1, d2, d3, d4, d5⟩ := hpb
  rw [hxa] at e0
  obtain ⟨b9, hb9⟩ : ∃ b, b = w1.heap.size := ⟨_, rfl⟩
  obtain ⟨W5, hW5⟩ : ∃ W, W = w1.alloc (.cells #[.int .i64 p.pid, .int .i64 p.par, .int .i64 p.grp, .int .i64 p.ses, .int .i64 p.tty, .bool p.df] 40) := ⟨_, rfl⟩
  have hs5 : Stay (fun _ => False) w1 W5 := by rw [hW5]; exact (Stay.refl _ _).alloc _
  have HP5 : Hid (PBox W5 b9 p) := by rw [hW5]; exact PBox.new p hb9.symm
  have HB3' := hide' (HB3.out.keep hs5)
  have HS9' := hide' (HS9.out.trans hs5)
  have HXA1' := hide' (HXA1.out.keep hs5)
  clear hs5 hxa
  go_upto_region 5 with fail
  rw [← hb9, ← hW5]
  clear hb9 hW5 e0 e1 e2 d0 d1 d2 d3 d4 d5 HB3 HS9 HXA1
  have HB3 := HB3'
  clear HB3'
  have HS9 := HS9'
  clear HS9'
  have HXA1 := HXA1'
  clear HXA1'
  obtain ⟨d0, d1, d2, d3, d4, d5, _⟩ := HP5.out
  rw [HDF.out] at d5
  have HFR : Hid (∀ W, Stay (fun _ => False) W5 W → Calls Try.prog 19 #[.agg #[.slice x.a n x.cap, .int .i64 nx, .slice x.a2 65 x.c2], .int .i64 t] W (Gives (.int .i64 (f t)) W)) := fun W hs => by
    have := front19 t nx (HXA1.out.keep hs) HF.out
    rw [← HN.out] at this
    exact this
  have hS : Stay (fun _ => False) W5 W5.drew := (Stay.refl _ _).drew
  refine wp_region_mix (fun w' => Stay (fun _ => False) W5 w') [(0, true), (1, true), (2, true), (3, true), (4, true), (5, true), (6, true), (7, true), (8, true), (9, true), (10, true), (11, true), (12, true), (13, false), (14, true), (15, true)] (by kernel_rfl) (by kernel_rfl) (fun _ d _ _ _ h => by cases d <;> exact h) hS ?_
  refine mix_begin (fun K0 hK0 => ?_)
  refine mix_take hK0 (some 24) (.move (.tmp 2)) 3 _ (by kernel_rfl) (by kernel_rfl) (fun w' hS' => by (simp only [opr]; go_simp; try with_reducible rfl)) (fun K1 hK1 => ?_)
  clear hK0 K0
  simp only [Act.put, lA, lZ, lS]
  refine mix_take hK1 (some 25) (.binOp BinOp.eql 3 (.tmp 24) (.const (Value.int IntKind.i64 0)) 3) 4 _ (by kernel_rfl) (by kernel_rfl) (fun w' hS' => by (simp only [opr]; go_simp; try with_reducible rfl)) (fun K2 hK2 => ?_)
  clear hK1 K1
  simp only [Act.put, lA, lZ, lS]
  refine mix_take hK2 (some 26) (.move (.tmp 25)) 4 _ (by kernel_rfl) (by kernel_rfl) (fun w' hS' => by (simp only [opr]; go_simp; try with_reducible rfl)) (fun K3 hK3 => ?_)
  clear hK2 K2
  simp only [Act.put, lA, lZ, lS]
  refine mix_take hK3 (some 27) (.fieldAddr 40 (.tmp 13) 4) 0 _ (by kernel_rfl) (by kernel_rfl) (fun w' hS' => by (simp only [opr]; go_simp; try with_reducible rfl)) (fun K4 hK4 => ?_)
  clear hK3 K3
  simp only [Act.put, lA, lZ, lS]
  refine mix_take hK4 (some 28) (.load 3 (.tmp 27)) 3 _ (by kernel_rfl) (by kernel_rfl) (fun w' hS' => by (have z0 := keep_cell hS' d4; simp only [opr]; go_simp; try with_reducible rfl)) (fun K5 hK5 => ?_)
  clear hK4 K4
  simp only [Act.put, lA, lZ, lS]
  refine mix_take hK5 (some 29) (.move (.tmp 2)) 3 _ (by kernel_rfl) (by kernel_rfl) (fun w' hS' => by (simp only [opr]; go_simp; try with_reducible rfl)) (fun K6 hK6 => ?_)
  clear hK5 K5
  simp only [Act.put, lA, lZ, lS]
  refine mix_take hK6 (some 30) (.binOp BinOp.neq 3 (.tmp 28) (.tmp 29) 3) 4 _ (by kernel_rfl) (by kernel_rfl) (fun w' hS' => by (simp only [opr]; go_simp; try with_reducible rfl)) (fun K7 hK7 => ?_)
  clear hK6 K6
  simp only [Act.put, lA, lZ, lS]
  refine mix_take hK7 (some 31) (.pick (.tmp 26) (.const (Value.bool true)) (.tmp 30)) 4 _ (by kernel_rfl) (by kernel_rfl) (fun w' hS' => by (simp only [opr]; go_simp; try with_reducible rfl)) (fun K8 hK8 => ?_)
  clear hK7 K7
  simp only [Act.put, lA, lZ, lS]
  refine mix_take hK8 (some 32) (.move (.tmp 31)) 4 _ (by kernel_rfl) (by kernel_rfl) (fun w' hS' => by (simp only [opr]; go_simp; try with_reducible rfl)) (fun K9 hK9 => ?_)
  clear hK8 K8
  simp only [Act.put, lA, lZ, lS]
  refine mix_take hK9 (some 33) (.fieldAddr 40 (.tmp 13) 2) 0 _ (by kernel_rfl) (by kernel_rfl) (fun w' hS' => by (simp only [opr]; go_simp; try with_reducible rfl)) (fun K10 hK10 => ?_)
  clear hK9 K9
  simp only [Act.put, lA, lZ, lS]
  refine mix_take hK10 (some 34) (.load 3 (.tmp 33)) 3 _ (by kernel_rfl) (by kernel_rfl) (fun w' hS' => by (have z0 := keep_cell hS' d2; simp only [opr]; go_simp; try with_reducible rfl)) (fun K11 hK11 => ?_)
  clear hK10 K10
  simp only [Act.put, lA, lZ, lS]
  refine mix_take hK11 (some 35) (.load 29 (.tmp 5)) 29 _ (by kernel_rfl) (by kernel_rfl) (fun w' hS' => by exact run_load_XBox rfl rfl (HB3.out.keep hS')) (fun K12 hK12 => ?_)
  clear hK11 K11
  simp only [Act.put, lA, lZ, lS]
  refine mix_take hK12 (some 36) (.move (.tmp 2)) 3 _ (by kernel_rfl) (by kernel_rfl) (fun w' hS' => by (simp only [opr]; go_simp; try with_reducible rfl)) (fun K13 hK13 => ?_)
  clear hK12 K12
  simp only [Act.put, lA, lZ, lS]
  refine mix_call hK13 (some 37) 19 #[.tmp 35, .tmp 36] #[29, 3] 3 _ (by kernel_rfl) (by kernel_rfl) (enters Try.func19 (by kernel_rfl) (by kernel_rfl)) (by go_simp; try with_reducible rfl) (fun K14 hK14 => ?_)
  clear hK13 K13
  refine (HFR.out _ hS).mono ?_
  rintro e wm1 ⟨rfl, hs1⟩
  have hS1 : _ := hS.trans hs1
  refine ⟨_, rfl, hS1, ?_⟩
  clear hs1
  simp only [Act.put, lA, lZ, lS]
  refine mix_take hK14 (some 38) (.binOp BinOp.eql 3 (.tmp 34) (.tmp 37) 3) 4 _ (by kernel_rfl) (by kernel_rfl) (fun w' hS' => by (simp only [opr]; go_simp; try with_reducible rfl)) (fun K15 hK15 => ?_)
  clear hK14 K14
  simp only [Act.put, lA, lZ, lS]
  refine mix_take hK15 (some 39) (.pick (.tmp 32) (.const (Value.bool true)) (.tmp 38)) 4 _ (by kernel_rfl) (by kernel_rfl) (fun w' hS' => by (simp only [opr]; go_simp; try with_reducible rfl)) (fun K16 hK16 => ?_)
  clear hK15 K15
  simp only [Act.put, lA, lZ, lS]
  refine hK16 _ _ (mix_nil ?_)
  clear hK16 K16
  have HS2 := hide' hS1
  have d2 := keep_cell hS1 d2
  have d5 := keep_cell hS1 d5
  clear hS hS1 HFR d0 d1 d3 d4
  go_wp2
  go_returns
  exact ⟨none, 0, rfl, SV.nil _, HS9.out.trans HS2.out, fun j hj => by cases hj⟩

set_option maxRecDepth 100000 in
set_option maxHeartbeats 1000000 in
theorem rmay12_E2 (y t nx : Int) (ts : Bool) {i : Nat} {p : Pr} (h : XAt w x L f) (hu : Up L) (hp : L[i]? = some p) (hx : p.pid = y) (hf : ¬ (1 ≤ t ∧ t ≤ 64) → f t = 0) (htz : (t == 0) = false) (htn : (p.tty != t) = false) (hsame : (p.grp == f t) = false) (hdf : p.df = false) (hor : orphB L p.grp = true) : Calls Try.prog 12 #[.agg #[.slice x.a L.length x.cap, .int .i64 nx, .slice x.a2 65 x.c2], .int .i64 y, .int .i64 t, .bool false, .bool ts] w (GivesNS 2 [] w) := by
  obtain ⟨n, hn⟩ : ∃ n, n = L.length := ⟨_, rfl⟩
  obtain ⟨b5, hb5⟩ : ∃ b, b = w.heap.size := ⟨_, rfl⟩
  obtain ⟨W0, hW0⟩ : ∃ W, W = w.alloc (.cells #[.slice x.a n x.cap, .int .i64 nx, .slice x.a2 65 x.c2] 29) := ⟨_, rfl⟩
  have hsW0 : Stay (fun _ => False) w W0 := by rw [hW0]; exact (Stay.refl _ _).alloc _
  have hpb5 : w.heap.size = b5 := by rw [hb5]
  have HBb5 := hide' (show XBox W0 b5 (xs x n nx) from (show XBox W0 b5 (xs x n nx) from (by rw [hW0]; exact xbox_new w x n nx hpb5)).keep (Stay.refl (fun _ => False) W0))
  have HZb5 : Hid (w.heap.size ≤ b5) := by show _ ≤ _; omega
  have HS0 := hide' ((Stay.refl (fun _ => False) w).trans hsW0)
  have HW0 : Hid (W0 = (w.alloc (.cells #[.slice x.a n x.cap, .int .i64 nx, .slice x.a2 65 x.c2] 29))) := by show _ = _; rw [hW0]
  have HXA := hide' (h.keep HS0.out)
  have HX0 := hide' h
  have HN := hide' hn
  have hn1 : (n : Int) ≤ 256 := by have := h.len; omega
  have hat := at14 y nx HXA.out
  rw [ixI_at hu hp hx, ← hn] at hat
  have HAT := hide' hat
  clear hat
  have HP := hide' hp
  have hin1 : (i : Int) < (n : Nat) := by have := (List.getElem?_eq_some_iff.1 hp).1; omega
  have HF := hide' hf
  have HU := hide' hu
  have HOR := hide' hor
  have HDF := hide' hdf
  rw [← hn]
  clear h hn hx hu hp hf hor hdf
  clear hW0 hsW0 hpb5
  obtain ⟨e0, e1, e2, _⟩ := HBb5.out
  simp only [xs] at e0 e1 e2
  go_enter Try.func12, Try.ntmps12
  go_upto_region 1 with fail
  rw [← HW0.out, ← hb5]
  clear HW0 hb5
  go_wp2_with fail
  refine HAT.out.mono ?_
  rintro _ w1 ⟨rfl, hs⟩
  have HB3 := hide' (HBb5.out.keep hs)
  have HS9 := hide' (HS0.out.trans hs)
  have HXA1 := hide' (HXA.out.keep hs)
  clear hs HAT HBb5 HXA e0 e1 e2
  obtain ⟨e0, e1, e2, _⟩ := HB3.out
  simp only [xs] at e0 e1 e2
  obtain ⟨g, o, hxa, hpb⟩ := HXA1.out.rd i p HP.out
  obtain ⟨d0, d1, d2, d3, d4, d5⟩ := hpb
  rw [hxa] at e0
  obtain ⟨b9, hb9⟩ : ∃ b, b = w1.heap.size := ⟨_, rfl⟩
  obtain ⟨W5, hW5⟩ : ∃ W, W = w1.alloc (.cells #[.int .i64 p.pid, .int .i64 p.par, .int .i64 p.grp, .int .i64 p.ses, .int .i64 p.tty, .bool p.df] 40) := ⟨_, rfl⟩
  have hs5 : Stay (fun _ => False) w1 W5 := by rw [hW5]; exact (Stay.refl _ _).alloc _
  have HP5 : Hid (PBox W5 b9 p) := by rw [hW5]; exact PBox.new p hb9.symm
  have HB3' := hide' (HB3.out.keep hs5)
  have HS9' := hide' (HS9.out.trans hs5)
  have HXA1' := hide' (HXA1.out.keep hs5)
  clear hs5 hxa
  go_upto_region 5 with fail
  rw [← hb9, ← hW5]
  clear hb9 hW5 e0 e1 e2 d0 d1 d2 d3 d4 d5 HB3 HS9 HXA1
  have HB3 := HB3'
  clear HB3'
  have HS9 := HS9'
  clear HS9'
  have HXA1 := HXA1'
  clear HXA1'
  obtain ⟨d0, d1, d2, d3, d4, d5, _⟩ := HP5.out
  rw [HDF.out] at d5
  have HFR : Hid (∀ W, Stay (fun _ => False) W5 W → Calls Try.prog 19 #[.agg #[.slice x.a n x.cap, .int .i64 nx, .slice x.a2 65 x.c2], .int .i64 t] W (Gives (.int .i64 (f t)) W)) := fun W hs => by
    have := front19 t nx (HXA1.out.keep hs) HF.out
    rw [← HN.out] at this
    exact this
  have hS : Stay (fun _ => False) W5 W5.drew := (Stay.refl _ _).drew
  refine wp_region_mix (fun w' => Stay (fun _ => False) W5 w') [(0, true), (1, true), (2, true), (3, true), (4, true), (5, true), (6, true), (7, true), (8, true), (9, true), (10, true), (11, true), (12, true), (13, false), (14, true), (15, true)] (by kernel_rfl) (by kernel_rfl) (fun _ d _ _ _ h => by cases d <;> exact h) hS ?_
  refine mix_begin (fun K0 hK0 => ?_)
  refine mix_take hK0 (some 24) (.move (.tmp 2)) 3 _ (by kernel_rfl) (by kernel_rfl) (fun w' hS' => by (simp only [opr]; go_simp; try with_reducible rfl)) (fun K1 hK1 => ?_)
  clear hK0 K0
  simp only [Act.put, lA, lZ, lS]
  refine mix_take hK1 (some 25) (.binOp BinOp.eql 3 (.tmp 24) (.const (Value.int IntKind.i64 0)) 3) 4 _ (by kernel_rfl) (by kernel_rfl) (fun w' hS' => by (simp only [opr]; go_simp; try with_reducible rfl)) (fun K2 hK2 => ?_)
  clear hK1 K1
  simp only [Act.put, lA, lZ, lS]
  refine mix_take hK2 (some 26) (.move (.tmp 25)) 4 _ (by kernel_rfl) (by kernel_rfl) (fun w' hS' => by (simp only [opr]; go_simp; try with_reducible rfl)) (fun K3 hK3 => ?_)
  clear hK2 K2
  simp only [Act.put, lA, lZ, lS]
  refine mix_take hK3 (some 27) (.fieldAddr 40 (.tmp 13) 4) 0 _ (by kernel_rfl) (by kernel_rfl) (fun w' hS' => by (simp only [opr]; go_simp; try with_reducible rfl)) (fun K4 hK4 => ?_)
  clear hK3 K3
  simp only [Act.put, lA, lZ, lS]
  refine mix_take hK4 (some 28) (.load 3 (.tmp 27)) 3 _ (by kernel_rfl) (by kernel_rfl) (fun w' hS' => by (have z0 := keep_cell hS' d4; simp only [opr]; go_simp; try with_reducible rfl)) (fun K5 hK5 => ?_)
  clear hK4 K4
  simp only [Act.put, lA, lZ, lS]
  refine mix_take hK5 (some 29) (.move (.tmp 2)) 3 _ (by kernel_rfl) (by kernel_rfl) (fun w' hS' => by (simp only [opr]; go_simp; try with_reducible rfl)) (fun K6 hK6 => ?_)
  clear hK5 K5
  simp only [Act.put, lA, lZ, lS]
  refine mix_take hK6 (some 30) (.binOp BinOp.neq 3 (.tmp 28) (.tmp 29) 3) 4 _ (by kernel_rfl) (by kernel_rfl) (fun w' hS' => by (simp only [opr]; go_simp; try with_reducible rfl)) (fun K7 hK7 => ?_)
  clear hK6 K6
  simp only [Act.put, lA, lZ, lS]
  refine mix_take hK7 (some 31) (.pick (.tmp 26) (.const (Value.bool true)) (.tmp 30)) 4 _ (by kernel_rfl) (by kernel_rfl) (fun w' hS' => by (simp only [opr]; go_simp; try with_reducible rfl)) (fun K8 hK8 => ?_)
  clear hK7 K7
  simp only [Act.put, lA, lZ, lS]
  refine mix_take hK8 (some 32) (.move (.tmp 31)) 4 _ (by kernel_rfl) (by kernel_rfl) (fun w' hS' => by (simp only [opr]; go_simp; try with_reducible rfl)) (fun K9 hK9 => ?_)
  clear hK8 K8
  simp only [Act.put, lA, lZ, lS]
  refine mix_take hK9 (some 33) (.fieldAddr 40 (.tmp 13) 2) 0 _ (by kernel_rfl) (by kernel_rfl) (fun w' hS' => by (simp only [opr]; go_simp; try with_reducible rfl)) (fun K10 hK10 => ?_)
  clear hK9 K9
  simp only [Act.put, lA, lZ, lS]
  refine mix_take hK10 (some 34) (.load 3 (.tmp 33)) 3 _ (by kernel_rfl) (by kernel_rfl) (fun w' hS' => by (have z0 := keep_cell hS' d2; simp only [opr]; go_simp; try with_reducible rfl)) (fun K11 hK11 => ?_)
  clear hK10 K10
  simp only [Act.put, lA, lZ, lS]
  refine mix_take hK11 (some 35) (.load 29 (.tmp 5)) 29 _ (by kernel_rfl) (by kernel_rfl) (fun w' hS' => by exact run_load_XBox rfl rfl (HB3.out.keep hS')) (fun K12 hK12 => ?_)
  clear hK11 K11
  simp only [Act.put, lA, lZ, lS]
  refine mix_take hK12 (some 36) (.move (.tmp 2)) 3 _ (by kernel_rfl) (by kernel_rfl) (fun w' hS' => by (simp only [opr]; go_simp; try with_reducible rfl)) (fun K13 hK13 => ?_)
  clear hK12 K12
  simp only [Act.put, lA, lZ, lS]
  refine mix_call hK13 (some 37) 19 #[.tmp 35, .tmp 36] #[29, 3] 3 _ (by kernel_rfl) (by kernel_rfl) (enters Try.func19 (by kernel_rfl) (by kernel_rfl)) (by go_simp; try with_reducible rfl) (fun K14 hK14 => ?_)
  clear hK13 K13
  refine (HFR.out _ hS).mono ?_
  rintro e wm1 ⟨rfl, hs1⟩
  have hS1 : _ := hS.trans hs1
  refine ⟨_, rfl, hS1, ?_⟩
  clear hs1
  simp only [Act.put, lA, lZ, lS]
  refine mix_take hK14 (some 38) (.binOp BinOp.eql 3 (.tmp 34) (.tmp 37) 3) 4 _ (by kernel_rfl) (by kernel_rfl) (fun w' hS' => by (simp only [opr]; go_simp; try with_reducible rfl)) (fun K15 hK15 => ?_)
  clear hK14 K14
  simp only [Act.put, lA, lZ, lS]
  refine mix_take hK15 (some 39) (.pick (.tmp 32) (.const (Value.bool true)) (.tmp 38)) 4 _ (by kernel_rfl) (by kernel_rfl) (fun w' hS' => by (simp only [opr]; go_simp; try with_reducible rfl)) (fun K16 hK16 => ?_)
  clear hK15 K15
  simp only [Act.put, lA, lZ, lS]
  refine hK16 _ _ (mix_nil ?_)
  clear hK16 K16
  have HS2 := hide' hS1
  have d2 := keep_cell hS1 d2
  have d5 := keep_cell hS1 d5
  clear hS hS1 HFR d0 d1 d3 d4
  have hr := rorphan17 p.grp nx (HXA1.out.keep HS2.out) HU.out
  rw [HOR.out, ← HN.out] at hr
  have HR := hide' hr
  obtain ⟨e0, e1, e2, _⟩ := HB3.out.keep HS2.out
  simp only [xs] at e0 e1 e2
  clear hr
  go_wp2_with fail
  refine HR.out.mono ?_
  rintro _ w4 ⟨rfl, hs⟩
  have HS4 := hide' (HS9.out.trans (HS2.out.trans hs))
  have HP4 := hide' (HP5.out.keep (HS2.out.trans hs))
  clear hs HR e0 e1 e2 d2 d5
  go_wp2
  go_returns
  exact ⟨none, 0, rfl, SV.nil _, HS4.out, fun j hj => by cases hj⟩

set_option maxRecDepth 100000 in
set_option maxHeartbeats 1000000 in
theorem rmay12_E3 (y t nx : Int) (ts : Bool) {i : Nat} {p : Pr} (h : XAt w x L f) (hu : Up L) (hp : L[i]? = some p) (hx : p.pid = y) (hf : ¬ (1 ≤ t ∧ t ≤ 64) → f t = 0) (htz : (t == 0) = false) (htn : (p.tty != t) = false) (hsame : (p.grp == f t) = false) (hdf : p.df = false) (hor : orphB L p.grp = false) : Calls Try.prog 12 #[.agg #[.slice x.a L.length x.cap, .int .i64 nx, .slice x.a2 65 x.c2], .int .i64 y, .int .i64 t, .bool false, .bool ts] w (GivesNS 1 [⟨p.grp, 6⟩] w) := by
  obtain ⟨n, hn⟩ : ∃ n, n = L.length := ⟨_, rfl⟩
  obtain ⟨b5, hb5⟩ : ∃ b, b = w.heap.size := ⟨_, rfl⟩
  obtain ⟨W0, hW0⟩ : ∃ W, W = w.alloc (.cells #[.slice x.a n x.cap, .int .i64 nx, .slice x.a2 65 x.c2] 29) := ⟨_, rfl⟩
  have hsW0 : Stay (fun _ => False) w W0 := by rw [hW0]; exact (Stay.refl _ _).alloc _
  have hpb5 : w.heap.size = b5 := by rw [hb5]
  have HBb5 := hide' (show XBox W0 b5 (xs x n nx) from (show XBox W0 b5 (xs x n nx) from (by rw [hW0]; exact xbox_new w x n nx hpb5)).keep (Stay.refl (fun _ => False) W0))
  have HZb5 : Hid (w.heap.size ≤ b5) := by show _ ≤ _; omega
  have HS0 := hide' ((Stay.refl (fun _ => False) w).trans hsW0)
  have HW0 : Hid (W0 = (w.alloc (.cells #[.slice x.a n x.cap, .int .i64 nx, .slice x.a2 65 x.c2] 29))) := by show _ = _; rw [hW0]
  have HXA := hide' (h.keep HS0.out)
  have HX0 := hide' h
  have HN := hide' hn
  have hn1 : (n : Int) ≤ 256 := by have := h.len; omega
  have hat := at14 y nx HXA.out
  rw [ixI_at hu hp hx, ← hn] at hat
  have HAT := hide' hat
  clear hat
  have HP := hide' hp
  have hin1 : (i : Int) < (n : Nat) := by have := (List.getElem?_eq_some_iff.1 hp).1; omega
  have HF := hide' hf
  have HU := hide' hu
  have HOR := hide' hor
  have HDF := hide' hdf
  rw [← hn]
  clear h hn hx hu hp hf hor hdf
  clear hW0 hsW0 hpb5
  obtain ⟨e0, e1, e2, _⟩ := HBb5.out
  simp only [xs] at e0 e1 e2
  go_enter Try.func12, Try.ntmps12
  go_upto_region 1 with fail
  rw [← HW0.out, ← hb5]
  clear HW0 hb5
  go_wp2_with fail
  refine HAT.out.mono ?_
  rintro _ w1 ⟨rfl, hs⟩
  have HB3 := hide' (HBb5.out.keep hs)
  have HS9 := hide' (HS0.out.trans hs)
  have HXA1 := hide' (HXA.out.keep hs)
  clear hs HAT HBb5 HXA e0 e1 e2
  obtain ⟨e0, e1, e2, _⟩ := HB3.out
  simp only [xs] at e0 e1 e2
  obtain ⟨g, o, hxa, hpb⟩ := HXA1.out.rd i p HP.out
  obtain ⟨d0, d1, d2, d3, d4, d5⟩ := hpb
  rw [hxa] at e0
  obtain ⟨b9, hb9⟩ : ∃ b, b = w1.heap.size := ⟨_, rfl⟩
  obtain ⟨W5, hW5⟩ : ∃ W, W = w1.alloc (.cells #[.int .i64 p.pid, .int .i64 p.par, .int .i64 p.grp, .int .i64 p.ses, .int .i64 p.tty, .bool p.df] 40) := ⟨_, rfl⟩
  have hs5 : Stay (fun _ => False) w1 W5 := by rw [hW5]; exact (Stay.refl _ _).alloc _
  have HP5 : Hid (PBox W5 b9 p) := by rw [hW5]; exact PBox.new p hb9.symm
  have HB3' := hide' (HB3.out.keep hs5)
  have HS9' := hide' (HS9.out.trans hs5)
  have HXA1' := hide' (HXA1.out.keep hs5)
  clear hs5 hxa
  go_upto_region 5 with fail
  rw [← hb9, ← hW5]
  clear hb9 hW5 e0 e1 e2 d0 d1 d2 d3 d4 d5 HB3 HS9 HXA1
  have HB3 := HB3'
  clear HB3'
  have HS9 := HS9'
  clear HS9'
  have HXA1 := HXA1'
  clear HXA1'
  obtain ⟨d0, d1, d2, d3, d4, d5, _⟩ := HP5.out
  rw [HDF.out] at d5
  have HFR : Hid (∀ W, Stay (fun _ => False) W5 W → Calls Try.prog 19 #[.agg #[.slice x.a n x.cap, .int .i64 nx, .slice x.a2 65 x.c2], .int .i64 t] W (Gives (.int .i64 (f t)) W)) := fun W hs => by
    have := front19 t nx (HXA1.out.keep hs) HF.out
    rw [← HN.out] at this
    exact this
  have hS : Stay (fun _ => False) W5 W5.drew := (Stay.refl _ _).drew
  refine wp_region_mix (fun w' => Stay (fun _ => False) W5 w') [(0, true), (1, true), (2, true), (3, true), (4, true), (5, true), (6, true), (7, true), (8, true), (9, true), (10, true), (11, true), (12, true), (13, false), (14, true), (15, true)] (by kernel_rfl) (by kernel_rfl) (fun _ d _ _ _ h => by cases d <;> exact h) hS ?_
  refine mix_begin (fun K0 hK0 => ?_)
  refine mix_take hK0 (some 24) (.move (.tmp 2)) 3 _ (by kernel_rfl) (by kernel_rfl) (fun w' hS' => by (simp only [opr]; go_simp; try with_reducible rfl)) (fun K1 hK1 => ?_)
  clear hK0 K0
  simp only [Act.put, lA, lZ, lS]
  refine mix_take hK1 (some 25) (.binOp BinOp.eql 3 (.tmp 24) (.const (Value.int IntKind.i64 0)) 3) 4 _ (by kernel_rfl) (by kernel_rfl) (fun w' hS' => by (simp only [opr]; go_simp; try with_reducible rfl)) (fun K2 hK2 => ?_)
  clear hK1 K1
  simp only [Act.put, lA, lZ, lS]
  refine mix_take hK2 (some 26) (.move (.tmp 25)) 4 _ (by kernel_rfl) (by kernel_rfl) (fun w' hS' => by (simp only [opr]; go_simp; try with_reducible rfl)) (fun K3 hK3 => ?_)
  clear hK2 K2
  simp only [Act.put, lA, lZ, lS]
  refine mix_take hK3 (some 27) (.fieldAddr 40 (.tmp 13) 4) 0 _ (by kernel_rfl) (by kernel_rfl) (fun w' hS' => by (simp only [opr]; go_simp; try with_reducible rfl)) (fun K4 hK4 => ?_)
  clear hK3 K3
  simp only [Act.put, lA, lZ, lS]
  refine mix_take hK4 (some 28) (.load 3 (.tmp 27)) 3 _ (by kernel_rfl) (by kernel_rfl) (fun w' hS' => by (have z0 := keep_cell hS' d4; simp only [opr]; go_simp; try with_reducible rfl)) (fun K5 hK5 => ?_)
  clear hK4 K4
  simp only [Act.put, lA, lZ, lS]
  refine mix_take hK5 (some 29) (.move (.tmp 2)) 3 _ (by kernel_rfl) (by kernel_rfl) (fun w' hS' => by (simp only [opr]; go_simp; try with_reducible rfl)) (fun K6 hK6 => ?_)
  clear hK5 K5
  simp only [Act.put, lA, lZ, lS]
  refine mix_take hK6 (some 30) (.binOp BinOp.neq 3 (.tmp 28) (.tmp 29) 3) 4 _ (by kernel_rfl) (by kernel_rfl) (fun w' hS' => by (simp only [opr]; go_simp; try with_reducible rfl)) (fun K7 hK7 => ?_)
  clear hK6 K6
  simp only [Act.put, lA, lZ, lS]
  refine mix_take hK7 (some 31) (.pick (.tmp 26) (.const (Value.bool true)) (.tmp 30)) 4 _ (by kernel_rfl) (by kernel_rfl) (fun w' hS' => by (simp only [opr]; go_simp; try with_reducible rfl)) (fun K8 hK8 => ?_)
  clear hK7 K7
  simp only [Act.put, lA, lZ, lS]
  refine mix_take hK8 (some 32) (.move (.tmp 31)) 4 _ (by kernel_rfl) (by kernel_rfl) (fun w' hS' => by (simp only [opr]; go_simp; try with_reducible rfl)) (fun K9 hK9 => ?_)
  clear hK8 K8
  simp only [Act.put, lA, lZ, lS]
  refine mix_take hK9 (some 33) (.fieldAddr 40 (.tmp 13) 2) 0 _ (by kernel_rfl) (by kernel_rfl) (fun w' hS' => by (simp only [opr]; go_simp; try with_reducible rfl)) (fun K10 hK10 => ?_)
  clear hK9 K9
  simp only [Act.put, lA, lZ, lS]
  refine mix_take hK10 (some 34) (.load 3 (.tmp 33)) 3 _ (by kernel_rfl) (by kernel_rfl) (fun w' hS' => by (have z0 := keep_cell hS' d2; simp only [opr]; go_simp; try with_reducible rfl)) (fun K11 hK11 => ?_)
  clear hK10 K10
  simp only [Act.put, lA, lZ, lS]
  refine mix_take hK11 (some 35) (.load 29 (.tmp 5)) 29 _ (by kernel_rfl) (by kernel_rfl) (fun w' hS' => by exact run_load_XBox rfl rfl (HB3.out.keep hS')) (fun K12 hK12 => ?_)
  clear hK11 K11
  simp only [Act.put, lA, lZ, lS]
  refine mix_take hK12 (some 36) (.move (.tmp 2)) 3 _ (by kernel_rfl) (by kernel_rfl) (fun w' hS' => by (simp only [opr]; go_simp; try with_reducible rfl)) (fun K13 hK13 => ?_)
  clear hK12 K12
  simp only [Act.put, lA, lZ, lS]
  refine mix_call hK13 (some 37) 19 #[.tmp 35, .tmp 36] #[29, 3] 3 _ (by kernel_rfl) (by kernel_rfl) (enters Try.func19 (by kernel_rfl) (by kernel_rfl)) (by go_simp; try with_reducible rfl) (fun K14 hK14 => ?_)
  clear hK13 K13
  refine (HFR.out _ hS).mono ?_
  rintro e wm1 ⟨rfl, hs1⟩
  have hS1 : _ := hS.trans hs1
  refine ⟨_, rfl, hS1, ?_⟩
  clear hs1
  simp only [Act.put, lA, lZ, lS]
  refine mix_take hK14 (some 38) (.binOp BinOp.eql 3 (.tmp 34) (.tmp 37) 3) 4 _ (by kernel_rfl) (by kernel_rfl) (fun w' hS' => by (simp only [opr]; go_simp; try with_reducible rfl)) (fun K15 hK15 => ?_)
  clear hK14 K14
  simp only [Act.put, lA, lZ, lS]
  refine mix_take hK15 (some 39) (.pick (.tmp 32) (.const (Value.bool true)) (.tmp 38)) 4 _ (by kernel_rfl) (by kernel_rfl) (fun w' hS' => by (simp only [opr]; go_simp; try with_reducible rfl)) (fun K16 hK16 => ?_)
  clear hK15 K15
  simp only [Act.put, lA, lZ, lS]
  refine hK16 _ _ (mix_nil ?_)
  clear hK16 K16
  have HS2 := hide' hS1
  have d2 := keep_cell hS1 d2
  have d5 := keep_cell hS1 d5
  clear hS hS1 HFR d0 d1 d3 d4
  have hr := rorphan17 p.grp nx (HXA1.out.keep HS2.out) HU.out
  rw [HOR.out, ← HN.out] at hr
  have HR := hide' hr
  obtain ⟨e0, e1, e2, _⟩ := HB3.out.keep HS2.out
  simp only [xs] at e0 e1 e2
  clear hr
  go_wp2_with fail
  refine HR.out.mono ?_
  rintro _ w4 ⟨rfl, hs⟩
  have HS4 := hide' (HS9.out.trans (HS2.out.trans hs))
  have HP4 := hide' (HP5.out.keep (HS2.out.trans hs))
  clear hs HR e0 e1 e2 d2 d5
  obtain ⟨wd, hwd⟩ : ∃ W, W = w4.drew := ⟨_, rfl⟩
  have hsd : Stay (fun _ => False) w4 wd := by rw [hwd]; exact (Stay.refl _ _).drew
  obtain ⟨bs, hbs⟩ : ∃ b, b = wd.heap.size := ⟨_, rfl⟩
  obtain ⟨ws, hws⟩ : ∃ W, W = wd.alloc (.cells #[.int .i64 p.grp, .int .i64 6] 60) := ⟨_, rfl⟩
  have hsw : Stay (fun _ => False) wd ws := by rw [hws]; exact (Stay.refl _ _).alloc _
  have HSV : Hid (SV ws (some ⟨bs, 0, none⟩) 1 [⟨p.grp, 6⟩]) := by rw [hws, hbs]; exact SV.made wd [⟨p.grp, 6⟩] (by show 1 ≤ maxLen; decide)
  have HS6 := hide' (HS4.out.trans (hsd.trans hsw))
  have HBZ : Hid (∀ j, (some ⟨bs, 0, none⟩ : Option Addr).map Addr.block = some j → w.heap.size ≤ j) := fun j hj => by
    cases hj
    have := (HS4.out.trans hsd).size
    rw [hbs]
    exact this
  have HP4' := hide' (HP4.out.keep hsd)
  have HP6 := hide' (HP4'.out.keep hsw)
  have HWS := hide' hws
  have HBS := hide' hbs
  clear hsd hsw hws hbs
  go_upto_region 13 with fail
  refine any_begin (fun w' => PBox w' b9 p) (by kernel_rfl) (fun K0 hK0 => ?_)
  rw [← hwd]
  clear hwd HP4
  have HP4 := HP4'
  clear HP4'
  refine any_take (i := 0) hK0 (some 62) (.fieldAddr 40 (.tmp 13) 2) 0 _ (by kernel_rfl) (fun _ d _ _ _ h => by cases d <;> exact h) (by kernel_rfl) (by kernel_rfl) (fun w' hS' => by simp only [opr]; go_simp; try with_reducible rfl) HP4.out (fun K1 hK1 => ?_)
  clear hK0 K0
  try simp only [Act.put, lA, lZ, lS]
  refine any_take (i := 1) hK1 (some 63) (.load 3 (.tmp 62)) 3 _ (by kernel_rfl) (fun _ d _ _ _ h => by cases d <;> exact h) (by kernel_rfl) (by kernel_rfl) (fun w' hS' => by (obtain ⟨_, _, y2, _⟩ := hS'; simp only [opr]; go_simp; try with_reducible rfl)) HP4.out (fun K2 hK2 => ?_)
  clear hK1 K1
  try simp only [Act.put, lA, lZ, lS]
  refine any_take (i := 2) hK2 (some 64) (.build 60 #[(0, .tmp 63), (1, .const (Value.int IntKind.i64 6))]) 60 _ (by kernel_rfl) (fun _ d _ _ _ h => by cases d <;> exact h) (by kernel_rfl) (by kernel_rfl) (fun w' hS' => by simp only [opr]; go_simp; try with_reducible rfl) HP4.out (fun K3 hK3 => ?_)
  clear hK2 K2
  try simp only [Act.put, lA, lZ, lS]
  refine any_take (i := 4) hK3 (some 10) (.assign (.const (Value.int IntKind.i64 1))) 3 _ (by kernel_rfl) (fun _ d _ _ _ h => by cases d <;> exact h) (by kernel_rfl) (by kernel_rfl) (fun w' hS' => by simp only [opr]; go_simp; try with_reducible rfl) HP4.out (fun K4 hK4 => ?_)
  clear hK3 K3
  try simp only [Act.put, lA, lZ, lS]
  refine any_pick (rs := [3]) hK4 (by kernel_rfl) (fun K5 hK5 => ?_)
  clear hK4 K4
  intro i hi
  simp only [List.mem_cons, List.not_mem_nil, or_false] at hi
  rcases hi with rfl
  refine op_plain (some 65) (.buildSlice 35 1 #[(0, .tmp 64)]) 35 (by kernel_rfl) (by kernel_rfl) ?_
  go_wp2
  rw [← HWS.out, ← HBS.out]
  clear HP4
  have HP4 := HP6
  refine hK5 3 (by simp) _ _ HP4.out (any_more fun K6 hK6 => ?_)
  clear hK5 K5
  refine any_take (i := 5) hK6 (some 11) (.assign (.tmp 65)) 35 _ (by kernel_rfl) (fun _ d _ _ _ h => by cases d <;> exact h) (by kernel_rfl) (by kernel_rfl) (fun w' hS' => by simp only [opr]; go_simp; try with_reducible rfl) HP4.out (fun K7 hK7 => ?_)
  clear hK6 K6
  try simp only [Act.put, lA, lZ, lS]
  refine any_done hK7 (by kernel_rfl) ?_
  clear hK7 K7
  go_wp2
  go_returns
  exact ⟨some ⟨bs, 0, none⟩, 1, rfl, HSV.out, HS6.out, HBZ.out⟩

set_option maxRecDepth 100000 in
set_option maxHeartbeats 1000000 in
theorem rmay12_F1 (y t nx : Int) {i : Nat} {p : Pr} (h : XAt w x L f) (hu : Up L) (hp : L[i]? = some p) (hx : p.pid = y) (hf : ¬ (1 ≤ t ∧ t ≤ 64) → f t = 0) (htz : (t == 0) = false) (htn : (p.tty != t) = false) (hsame : (p.grp == f t) = false) (hdf : p.df = false) (hor : orphB L p.grp = true) : Calls Try.prog 12 #[.agg #[.slice x.a L.length x.cap, .int .i64 nx, .slice x.a2 65 x.c2], .int .i64 y, .int .i64 t, .bool true, .bool true] w (GivesNS 2 [] w) := by
  obtain ⟨n, hn⟩ : ∃ n, n = L.length := ⟨_, rfl⟩
  obtain ⟨b5, hb5⟩ : ∃ b, b = w.heap.size := ⟨_, rfl⟩
  obtain ⟨W0, hW0⟩ : ∃ W, W = w.alloc (.cells #[.slice x.a n x.cap, .int .i64 nx, .slice x.a2 65 x.c2] 29) := ⟨_, rfl⟩
  have hsW0 : Stay (fun _ => False) w W0 := by rw [hW0]; exact (Stay.refl _ _).alloc _
  have hpb5 : w.heap.size = b5 := by rw [hb5]
  have HBb5 := hide' (show XBox W0 b5 (xs x n nx) from (show XBox W0 b5 (xs x n nx) from (by rw [hW0]; exact xbox_new w x n nx hpb5)).keep (Stay.refl (fun _ => False) W0))
  have HZb5 : Hid (w.heap.size ≤ b5) := by show _ ≤ _; omega
  have HS0 := hide' ((Stay.refl (fun _ => False) w).trans hsW0)
  have HW0 : Hid (W0 = (w.alloc (.cells #[.slice x.a n x.cap, .int .i64 nx, .slice x.a2 65 x.c2] 29))) := by show _ = _; rw [hW0]
  have HXA := hide' (h.keep HS0.out)
  have HX0 := hide' h
  have HN := hide' hn
  have hn1 : (n : Int) ≤ 256 := by have := h.len; omega
  have hat := at14 y nx HXA.out
  rw [ixI_at hu hp hx, ← hn] at hat
  have HAT := hide' hat
  clear hat
  have HP := hide' hp
  have hin1 : (i : Int) < (n : Nat) := by have := (List.getElem?_eq_some_iff.1 hp).1; omega
  have HF := hide' hf
  have HU := hide' hu
  have HOR := hide' hor
  have HDF := hide' hdf
  rw [← hn]
  clear h hn hx hu hp hf hor hdf
  clear hW0 hsW0 hpb5
  obtain ⟨e0, e1, e2, _⟩ := HBb5.out
  simp only [xs] at e0 e1 e2
  go_enter Try.func12, Try.ntmps12
  go_upto_region 1 with fail
  rw [← HW0.out, ← hb5]
  clear HW0 hb5
  go_wp2_with fail
  refine HAT.out.mono ?_
  rintro _ w1 ⟨rfl, hs⟩
  have HB3 := hide' (HBb5.out.keep hs)
  have HS9 := hide' (HS0.out.trans hs)
  have HXA1 := hide' (HXA.out.keep hs)
  clear hs HAT HBb5 HXA e0 e1 e2
  obtain ⟨e0, e1, e2, _⟩ := HB3.out
  simp only [xs] at e0 e1 e2
  obtain ⟨g, o, hxa, hpb⟩ := HXA1.out.rd i p HP.out
  obtain ⟨d0, d1, d2, d3, d4, d5⟩ := hpb
  rw [hxa] at e0
  obtain ⟨b9, hb9⟩ : ∃ b, b = w1.heap.size := ⟨_, rfl⟩
  obtain ⟨W5, hW5⟩ : ∃ W, W = w1.alloc (.cells #[.int .i64 p.pid, .int .i64 p.par, .int .i64 p.grp, .int .i64 p.ses, .int .i64 p.tty, .bool p.df] 40) := ⟨_, rfl⟩
  have hs5 : Stay (fun _ => False) w1 W5 := by rw [hW5]; exact (Stay.refl _ _).alloc _
  have HP5 : Hid (PBox W5 b9 p) := by rw [hW5]; exact PBox.new p hb9.symm
  have HB3' := hide' (HB3.out.keep hs5)
  have HS9' := hide' (HS9.out.trans hs5)
  have HXA1' := hide' (HXA1.out.keep hs5)
  clear hs5 hxa
  go_upto_region 5 with fail
  rw [← hb9, ← hW5]
  clear hb9 hW5 e0 e1 e2 d0 d1 d2 d3 d4 d5 HB3 HS9 HXA1
  have HB3 := HB3'
  clear HB3'
  have HS9 := HS9'
  clear HS9'
  have HXA1 := HXA1'
  clear HXA1'
  obtain ⟨d0, d1, d2, d3, d4, d5, _⟩ := HP5.out
  rw [HDF.out] at d5
  have HFR : Hid (∀ W, Stay (fun _ => False) W5 W → Calls Try.prog 19 #[.agg #[.slice x.a n x.cap, .int .i64 nx, .slice x.a2 65 x.c2], .int .i64 t] W (Gives (.int .i64 (f t)) W)) := fun W hs => by
    have := front19 t nx (HXA1.out.keep hs) HF.out
    rw [← HN.out] at this
    exact this
  have hS : Stay (fun _ => False) W5 W5.drew := (Stay.refl _ _).drew
  refine wp_region_mix (fun w' => Stay (fun _ => False) W5 w') [(0, true), (1, true), (2, true), (3, true), (4, true), (5, true), (6, true), (7, true), (8, true), (9, true), (10, true), (11, true), (12, true), (13, false), (14, true), (15, true)] (by kernel_rfl) (by kernel_rfl) (fun _ d _ _ _ h => by cases d <;> exact h) hS ?_
  refine mix_begin (fun K0 hK0 => ?_)
  refine mix_take hK0 (some 24) (.move (.tmp 2)) 3 _ (by kernel_rfl) (by kernel_rfl) (fun w' hS' => by (simp only [opr]; go_simp; try with_reducible rfl)) (fun K1 hK1 => ?_)
  clear hK0 K0
  simp only [Act.put, lA, lZ, lS]
  refine mix_take hK1 (some 25) (.binOp BinOp.eql 3 (.tmp 24) (.const (Value.int IntKind.i64 0)) 3) 4 _ (by kernel_rfl) (by kernel_rfl) (fun w' hS' => by (simp only [opr]; go_simp; try with_reducible rfl)) (fun K2 hK2 => ?_)
  clear hK1 K1
  simp only [Act.put, lA, lZ, lS]
  refine mix_take hK2 (some 26) (.move (.tmp 25)) 4 _ (by kernel_rfl) (by kernel_rfl) (fun w' hS' => by (simp only [opr]; go_simp; try with_reducible rfl)) (fun K3 hK3 => ?_)
  clear hK2 K2
  simp only [Act.put, lA, lZ, lS]
  refine mix_take hK3 (some 27) (.fieldAddr 40 (.tmp 13) 4) 0 _ (by kernel_rfl) (by kernel_rfl) (fun w' hS' => by (simp only [opr]; go_simp; try with_reducible rfl)) (fun K4 hK4 => ?_)
  clear hK3 K3
  simp only [Act.put, lA, lZ, lS]
  refine mix_take hK4 (some 28) (.load 3 (.tmp 27)) 3 _ (by kernel_rfl) (by kernel_rfl) (fun w' hS' => by (have z0 := keep_cell hS' d4; simp only [opr]; go_simp; try with_reducible rfl)) (fun K5 hK5 => ?_)
  clear hK4 K4
  simp only [Act.put, lA, lZ, lS]
  refine mix_take hK5 (some 29) (.move (.tmp 2)) 3 _ (by kernel_rfl) (by kernel_rfl) (fun w' hS' => by (simp only [opr]; go_simp; try with_reducible rfl)) (fun K6 hK6 => ?_)
  clear hK5 K5
  simp only [Act.put, lA, lZ, lS]
  refine mix_take hK6 (some 30) (.binOp BinOp.neq 3 (.tmp 28) (.tmp 29) 3) 4 _ (by kernel_rfl) (by kernel_rfl) (fun w' hS' => by (simp only [opr]; go_simp; try with_reducible rfl)) (fun K7 hK7 => ?_)
  clear hK6 K6
  simp only [Act.put, lA, lZ, lS]
  refine mix_take hK7 (some 31) (.pick (.tmp 26) (.const (Value.bool true)) (.tmp 30)) 4 _ (by kernel_rfl) (by kernel_rfl) (fun w' hS' => by (simp only [opr]; go_simp; try with_reducible rfl)) (fun K8 hK8 => ?_)
  clear hK7 K7
  simp only [Act.put, lA, lZ, lS]
  refine mix_take hK8 (some 32) (.move (.tmp 31)) 4 _ (by kernel_rfl) (by kernel_rfl) (fun w' hS' => by (simp only [opr]; go_simp; try with_reducible rfl)) (fun K9 hK9 => ?_)
  clear hK8 K8
  simp only [Act.put, lA, lZ, lS]
  refine mix_take hK9 (some 33) (.fieldAddr 40 (.tmp 13) 2) 0 _ (by kernel_rfl) (by kernel_rfl) (fun w' hS' => by (simp only [opr]; go_simp; try with_reducible rfl)) (fun K10 hK10 => ?_)
  clear hK9 K9
  simp only [Act.put, lA, lZ, lS]
  refine mix_take hK10 (some 34) (.load 3 (.tmp 33)) 3 _ (by kernel_rfl) (by kernel_rfl) (fun w' hS' => by (have z0 := keep_cell hS' d2; simp only [opr]; go_simp; try with_reducible rfl)) (fun K11 hK11 => ?_)
  clear hK10 K10
  simp only [Act.put, lA, lZ, lS]
  refine mix_take hK11 (some 35) (.load 29 (.tmp 5)) 29 _ (by kernel_rfl) (by kernel_rfl) (fun w' hS' => by exact run_load_XBox rfl rfl (HB3.out.keep hS')) (fun K12 hK12 => ?_)
  clear hK11 K11
  simp only [Act.put, lA, lZ, lS]
  refine mix_take hK12 (some 36) (.move (.tmp 2)) 3 _ (by kernel_rfl) (by kernel_rfl) (fun w' hS' => by (simp only [opr]; go_simp; try with_reducible rfl)) (fun K13 hK13 => ?_)
  clear hK12 K12
  simp only [Act.put, lA, lZ, lS]
  refine mix_call hK13 (some 37) 19 #[.tmp 35, .tmp 36] #[29, 3] 3 _ (by kernel_rfl) (by kernel_rfl) (enters Try.func19 (by kernel_rfl) (by kernel_rfl)) (by go_simp; try with_reducible rfl) (fun K14 hK14 => ?_)
  clear hK13 K13
  refine (HFR.out _ hS).mono ?_
  rintro e wm1 ⟨rfl, hs1⟩
  have hS1 : _ := hS.trans hs1
  refine ⟨_, rfl, hS1, ?_⟩
  clear hs1
  simp only [Act.put, lA, lZ, lS]
  refine mix_take hK14 (some 38) (.binOp BinOp.eql 3 (.tmp 34) (.tmp 37) 3) 4 _ (by kernel_rfl) (by kernel_rfl) (fun w' hS' => by (simp only [opr]; go_simp; try with_reducible rfl)) (fun K15 hK15 => ?_)
  clear hK14 K14
  simp only [Act.put, lA, lZ, lS]
  refine mix_take hK15 (some 39) (.pick (.tmp 32) (.const (Value.bool true)) (.tmp 38)) 4 _ (by kernel_rfl) (by kernel_rfl) (fun w' hS' => by (simp only [opr]; go_simp; try with_reducible rfl)) (fun K16 hK16 => ?_)
  clear hK15 K15
  simp only [Act.put, lA, lZ, lS]
  refine hK16 _ _ (mix_nil ?_)
  clear hK16 K16
  have HS2 := hide' hS1
  have d2 := keep_cell hS1 d2
  have d5 := keep_cell hS1 d5
  clear hS hS1 HFR d0 d1 d3 d4
  have hr := rorphan17 p.grp nx (HXA1.out.keep HS2.out) HU.out
  rw [HOR.out, ← HN.out] at hr
  have HR := hide' hr
  obtain ⟨e0, e1, e2, _⟩ := HB3.out.keep HS2.out
  simp only [xs] at e0 e1 e2
  clear hr
  go_wp2_with fail
  refine HR.out.mono ?_
  rintro _ w4 ⟨rfl, hs⟩
  have HS4 := hide' (HS9.out.trans (HS2.out.trans hs))
  have HP4 := hide' (HP5.out.keep (HS2.out.trans hs))
  clear hs HR e0 e1 e2 d2 d5
  go_wp2
  go_returns
  exact ⟨none, 0, rfl, SV.nil _, HS4.out, fun j hj => by cases hj⟩

set_option maxRecDepth 100000 in
set_option maxHeartbeats 1000000 in
theorem rmay12_F2 (y t nx : Int) {i : Nat} {p : Pr} (h : XAt w x L f) (hu : Up L) (hp : L[i]? = some p) (hx : p.pid = y) (hf : ¬ (1 ≤ t ∧ t ≤ 64) → f t = 0) (htz : (t == 0) = false) (htn : (p.tty != t) = false) (hsame : (p.grp == f t) = false) (hdf : p.df = false) (hor : orphB L p.grp = false) : Calls Try.prog 12 #[.agg #[.slice x.a L.length x.cap, .int .i64 nx, .slice x.a2 65 x.c2], .int .i64 y, .int .i64 t, .bool true, .bool true] w (GivesNS 1 [⟨p.grp, 7⟩] w) := by
  obtain ⟨n, hn⟩ : ∃ n, n = L.length := ⟨_, rfl⟩
  obtain ⟨b5, hb5⟩ : ∃ b, b = w.heap.size := ⟨_, rfl⟩
  obtain ⟨W0, hW0⟩ : ∃ W, W = w.alloc (.cells #[.slice x.a n x.cap, .int .i64 nx, .slice x.a2 65 x.c2] 29) := ⟨_, rfl⟩
  have hsW0 : Stay (fun _ => False) w W0 := by rw [hW0]; exact (Stay.refl _ _).alloc _
  have hpb5 : w.heap.size = b5 := by rw [hb5]
  have HBb5 := hide' (show XBox W0 b5 (xs x n nx) from (show XBox W0 b5 (xs x n nx) from (by rw [hW0]; exact xbox_new w x n nx hpb5)).keep (Stay.refl (fun _ => False) W0))
  have HZb5 : Hid (w.heap.size ≤ b5) := by show _ ≤ _; omega
  have HS0 := hide' ((Stay.refl (fun _ => False) w).trans hsW0)
  have HW0 : Hid (W0 = (w.alloc (.cells #[.slice x.a n x.cap, .int .i64 nx, .slice x.a2 65 x.c2] 29))) := by show _ = _; rw [hW0]
  have HXA := hide' (h.keep HS0.out)
  have HX0 := hide' h
  have HN := hide' hn
  have hn1 : (n : Int) ≤ 256 := by have := h.len; omega
  have hat := at14 y nx HXA.out
  rw [ixI_at hu hp hx, ← hn] at hat
  have HAT := hide' hat
  clear hat
  have HP := hide' hp
  have hin1 : (i : Int) < (n : Nat) := by have := (List.getElem?_eq_some_iff.1 hp).1; omega
  have HF := hide' hf
  have HU := hide' hu
  have HOR := hide' hor
  have HDF := hide' hdf
  rw [← hn]
  clear h hn hx hu hp hf hor hdf
  clear hW0 hsW0 hpb5
  obtain ⟨e0, e1, e2, _⟩ := HBb5.out
  simp only [xs] at e0 e1 e2
  go_enter Try.func12, Try.ntmps12
  go_upto_region 1 with fail
  rw [← HW0.out, ← hb5]
  clear HW0 hb5
  go_wp2_with fail
  refine HAT.out.mono ?_
  rintro _ w1 ⟨rfl, hs⟩
  have HB3 := hide' (HBb5.out.keep hs)
  have HS9 := hide' (HS0.out.trans hs)
  have HXA1 := hide' (HXA.out.keep hs)
  clear hs HAT HBb5 HXA e0 e1 e2
  obtain ⟨e0, e1, e2, _⟩ := HB3.out
  simp only [xs] at e0 e1 e2
  obtain ⟨g, o, hxa, hpb⟩ := HXA1.out.rd i p HP.out
  obtain ⟨d0, d1, d2, d3, d4, d5⟩ := hpb
  rw [hxa] at e0
  obtain ⟨b9, hb9⟩ : ∃ b, b = w1.heap.size := ⟨_, rfl⟩
  obtain ⟨W5, hW5⟩ : ∃ W, W = w1.alloc (.cells #[.int .i64 p.pid, .int .i64 p.par, .int .i64 p.grp, .int .i64 p.ses, .int .i64 p.tty, .bool p.df] 40) := ⟨_, rfl⟩
  have hs5 : Stay (fun _ => False) w1 W5 := by rw [hW5]; exact (Stay.refl _ _).alloc _
  have HP5 : Hid (PBox W5 b9 p) := by rw [hW5]; exact PBox.new p hb9.symm
  have HB3' := hide' (HB3.out.keep hs5)
  have HS9' := hide' (HS9.out.trans hs5)
  have HXA1' := hide' (HXA1.out.keep hs5)
  clear hs5 hxa
  go_upto_region 5 with fail
  rw [← hb9, ← hW5]
  clear hb9 hW5 e0 e1 e2 d0 d1 d2 d3 d4 d5 HB3 HS9 HXA1
  have HB3 := HB3'
  clear HB3'
  have HS9 := HS9'
  clear HS9'
  have HXA1 := HXA1'
  clear HXA1'
  obtain ⟨d0, d1, d2, d3, d4, d5, _⟩ := HP5.out
  rw [HDF.out] at d5
  have HFR : Hid (∀ W, Stay (fun _ => False) W5 W → Calls Try.prog 19 #[.agg #[.slice x.a n x.cap, .int .i64 nx, .slice x.a2 65 x.c2], .int .i64 t] W (Gives (.int .i64 (f t)) W)) := fun W hs => by
    have := front19 t nx (HXA1.out.keep hs) HF.out
    rw [← HN.out] at this
    exact this
  have hS : Stay (fun _ => False) W5 W5.drew := (Stay.refl _ _).drew
  refine wp_region_mix (fun w' => Stay (fun _ => False) W5 w') [(0, true), (1, true), (2, true), (3, true), (4, true), (5, true), (6, true), (7, true), (8, true), (9, true), (10, true), (11, true), (12, true), (13, false), (14, true), (15, true)] (by kernel_rfl) (by kernel_rfl) (fun _ d _ _ _ h => by cases d <;> exact h) hS ?_
  refine mix_begin (fun K0 hK0 => ?_)
  refine mix_take hK0 (some 24) (.move (.tmp 2)) 3 _ (by kernel_rfl) (by kernel_rfl) (fun w' hS' => by (simp only [opr]; go_simp; try with_reducible rfl)) (fun K1 hK1 => ?_)
  clear hK0 K0
  simp only [Act.put, lA, lZ, lS]
  refine mix_take hK1 (some 25) (.binOp BinOp.eql 3 (.tmp 24) (.const (Value.int IntKind.i64 0)) 3) 4 _ (by kernel_rfl) (by kernel_rfl) (fun w' hS' => by (simp only [opr]; go_simp; try with_reducible rfl)) (fun K2 hK2 => ?_)
  clear hK1 K1
  simp only [Act.put, lA, lZ, lS]
  refine mix_take hK2 (some 26) (.move (.tmp 25)) 4 _ (by kernel_rfl) (by kernel_rfl) (fun w' hS' => by (simp only [opr]; go_simp; try with_reducible rfl)) (fun K3 hK3 => ?_)
  clear hK2 K2
  simp only [Act.put, lA, lZ, lS]
  refine mix_take hK3 (some 27) (.fieldAddr 40 (.tmp 13) 4) 0 _ (by kernel_rfl) (by kernel_rfl) (fun w' hS' => by (simp only [opr]; go_simp; try with_reducible rfl)) (fun K4 hK4 => ?_)
  clear hK3 K3
  simp only [Act.put, lA, lZ, lS]
  refine mix_take hK4 (some 28) (.load 3 (.tmp 27)) 3 _ (by kernel_rfl) (by kernel_rfl) (fun w' hS' => by (have z0 := keep_cell hS' d4; simp only [opr]; go_simp; try with_reducible rfl)) (fun K5 hK5 => ?_)
  clear hK4 K4
  simp only [Act.put, lA, lZ, lS]
  refine mix_take hK5 (some 29) (.move (.tmp 2)) 3 _ (by kernel_rfl) (by kernel_rfl) (fun w' hS' => by (simp only [opr]; go_simp; try with_reducible rfl)) (fun K6 hK6 => ?_)
  clear hK5 K5
  simp only [Act.put, lA, lZ, lS]
  refine mix_take hK6 (some 30) (.binOp BinOp.neq 3 (.tmp 28) (.tmp 29) 3) 4 _ (by kernel_rfl) (by kernel_rfl) (fun w' hS' => by (simp only [opr]; go_simp; try with_reducible rfl)) (fun K7 hK7 => ?_)
  clear hK6 K6
  simp only [Act.put, lA, lZ, lS]
  refine mix_take hK7 (some 31) (.pick (.tmp 26) (.const (Value.bool true)) (.tmp 30)) 4 _ (by kernel_rfl) (by kernel_rfl) (fun w' hS' => by (simp only [opr]; go_simp; try with_reducible rfl)) (fun K8 hK8 => ?_)
  clear hK7 K7
  simp only [Act.put, lA, lZ, lS]
  refine mix_take hK8 (some 32) (.move (.tmp 31)) 4 _ (by kernel_rfl) (by kernel_rfl) (fun w' hS' => by (simp only [opr]; go_simp; try with_reducible rfl)) (fun K9 hK9 => ?_)
  clear hK8 K8
  simp only [Act.put, lA, lZ, lS]
  refine mix_take hK9 (some 33) (.fieldAddr 40 (.tmp 13) 2) 0 _ (by kernel_rfl) (by kernel_rfl) (fun w' hS' => by (simp only [opr]; go_simp; try with_reducible rfl)) (fun K10 hK10 => ?_)
  clear hK9 K9
  simp only [Act.put, lA, lZ, lS]
  refine mix_take hK10 (some 34) (.load 3 (.tmp 33)) 3 _ (by kernel_rfl) (by kernel_rfl) (fun w' hS' => by (have z0 := keep_cell hS' d2; simp only [opr]; go_simp; try with_reducible rfl)) (fun K11 hK11 => ?_)
  clear hK10 K10
  simp only [Act.put, lA, lZ, lS]
  refine mix_take hK11 (some 35) (.load 29 (.tmp 5)) 29 _ (by kernel_rfl) (by kernel_rfl) (fun w' hS' => by exact run_load_XBox rfl rfl (HB3.out.keep hS')) (fun K12 hK12 => ?_)
  clear hK11 K11
  simp only [Act.put, lA, lZ, lS]
  refine mix_take hK12 (some 36) (.move (.tmp 2)) 3 _ (by kernel_rfl) (by kernel_rfl) (fun w' hS' => by (simp only [opr]; go_simp; try with_reducible rfl)) (fun K13 hK13 => ?_)
  clear hK12 K12
  simp only [Act.put, lA, lZ, lS]
  refine mix_call hK13 (some 37) 19 #[.tmp 35, .tmp 36] #[29, 3] 3 _ (by kernel_rfl) (by kernel_rfl) (enters Try.func19 (by kernel_rfl) (by kernel_rfl)) (by go_simp; try with_reducible rfl) (fun K14 hK14 => ?_)
  clear hK13 K13
  refine (HFR.out _ hS).mono ?_
  rintro e wm1 ⟨rfl, hs1⟩
  have hS1 : _ := hS.trans hs1
  refine ⟨_, rfl, hS1, ?_⟩
  clear hs1
  simp only [Act.put, lA, lZ, lS]
  refine mix_take hK14 (some 38) (.binOp BinOp.eql 3 (.tmp 34) (.tmp 37) 3) 4 _ (by kernel_rfl) (by kernel_rfl) (fun w' hS' => by (simp only [opr]; go_simp; try with_reducible rfl)) (fun K15 hK15 => ?_)
  clear hK14 K14
  simp only [Act.put, lA, lZ, lS]
  refine mix_take hK15 (some 39) (.pick (.tmp 32) (.const (Value.bool true)) (.tmp 38)) 4 _ (by kernel_rfl) (by kernel_rfl) (fun w' hS' => by (simp only [opr]; go_simp; try with_reducible rfl)) (fun K16 hK16 => ?_)
  clear hK15 K15
  simp only [Act.put, lA, lZ, lS]
  refine hK16 _ _ (mix_nil ?_)
  clear hK16 K16
  have HS2 := hide' hS1
  have d2 := keep_cell hS1 d2
  have d5 := keep_cell hS1 d5
  clear hS hS1 HFR d0 d1 d3 d4
  have hr := rorphan17 p.grp nx (HXA1.out.keep HS2.out) HU.out
  rw [HOR.out, ← HN.out] at hr
  have HR := hide' hr
  obtain ⟨e0, e1, e2, _⟩ := HB3.out.keep HS2.out
  simp only [xs] at e0 e1 e2
  clear hr
  go_wp2_with fail
  refine HR.out.mono ?_
  rintro _ w4 ⟨rfl, hs⟩
  have HS4 := hide' (HS9.out.trans (HS2.out.trans hs))
  have HP4 := hide' (HP5.out.keep (HS2.out.trans hs))
  clear hs HR e0 e1 e2 d2 d5
  obtain ⟨wd, hwd⟩ : ∃ W, W = w4.drew := ⟨_, rfl⟩
  have hsd : Stay (fun _ => False) w4 wd := by rw [hwd]; exact (Stay.refl _ _).drew
  obtain ⟨bs, hbs⟩ : ∃ b, b = wd.heap.size := ⟨_, rfl⟩
  obtain ⟨ws, hws⟩ : ∃ W, W = wd.alloc (.cells #[.int .i64 p.grp, .int .i64 7] 60) := ⟨_, rfl⟩
  have hsw : Stay (fun _ => False) wd ws := by rw [hws]; exact (Stay.refl _ _).alloc _
  have HSV : Hid (SV ws (some ⟨bs, 0, none⟩) 1 [⟨p.grp, 7⟩]) := by rw [hws, hbs]; exact SV.made wd [⟨p.grp, 7⟩] (by show 1 ≤ maxLen; decide)
  have HS6 := hide' (HS4.out.trans (hsd.trans hsw))
  have HBZ : Hid (∀ j, (some ⟨bs, 0, none⟩ : Option Addr).map Addr.block = some j → w.heap.size ≤ j) := fun j hj => by
    cases hj
    have := (HS4.out.trans hsd).size
    rw [hbs]
    exact this
  have HP4' := hide' (HP4.out.keep hsd)
  have HP6 := hide' (HP4'.out.keep hsw)
  have HWS := hide' hws
  have HBS := hide' hbs
  clear hsd hsw hws hbs
  go_upto_region 12 with fail
  refine any_begin (fun w' => PBox w' b9 p) (by kernel_rfl) (fun K0 hK0 => ?_)
  rw [← hwd]
  clear hwd HP4
  have HP4 := HP4'
  clear HP4'
  refine any_take (i := 0) hK0 (some 58) (.fieldAddr 40 (.tmp 13) 2) 0 _ (by kernel_rfl) (fun _ d _ _ _ h => by cases d <;> exact h) (by kernel_rfl) (by kernel_rfl) (fun w' hS' => by simp only [opr]; go_simp; try with_reducible rfl) HP4.out (fun K1 hK1 => ?_)
  clear hK0 K0
  try simp only [Act.put, lA, lZ, lS]
  refine any_take (i := 1) hK1 (some 59) (.load 3 (.tmp 58)) 3 _ (by kernel_rfl) (fun _ d _ _ _ h => by cases d <;> exact h) (by kernel_rfl) (by kernel_rfl) (fun w' hS' => by (obtain ⟨_, _, y2, _⟩ := hS'; simp only [opr]; go_simp; try with_reducible rfl)) HP4.out (fun K2 hK2 => ?_)
  clear hK1 K1
  try simp only [Act.put, lA, lZ, lS]
  refine any_take (i := 2) hK2 (some 60) (.build 60 #[(0, .tmp 59), (1, .const (Value.int IntKind.i64 7))]) 60 _ (by kernel_rfl) (fun _ d _ _ _ h => by cases d <;> exact h) (by kernel_rfl) (by kernel_rfl) (fun w' hS' => by simp only [opr]; go_simp; try with_reducible rfl) HP4.out (fun K3 hK3 => ?_)
  clear hK2 K2
  try simp only [Act.put, lA, lZ, lS]
  refine any_take (i := 4) hK3 (some 10) (.assign (.const (Value.int IntKind.i64 1))) 3 _ (by kernel_rfl) (fun _ d _ _ _ h => by cases d <;> exact h) (by kernel_rfl) (by kernel_rfl) (fun w' hS' => by simp only [opr]; go_simp; try with_reducible rfl) HP4.out (fun K4 hK4 => ?_)
  clear hK3 K3
  try simp only [Act.put, lA, lZ, lS]
  refine any_pick (rs := [3]) hK4 (by kernel_rfl) (fun K5 hK5 => ?_)
  clear hK4 K4
  intro i hi
  simp only [List.mem_cons, List.not_mem_nil, or_false] at hi
  rcases hi with rfl
  refine op_plain (some 61) (.buildSlice 35 1 #[(0, .tmp 60)]) 35 (by kernel_rfl) (by kernel_rfl) ?_
  go_wp2
  rw [← HWS.out, ← HBS.out]
  clear HP4
  have HP4 := HP6
  refine hK5 3 (by simp) _ _ HP4.out (any_more fun K6 hK6 => ?_)
  clear hK5 K5
  refine any_take (i := 5) hK6 (some 11) (.assign (.tmp 61)) 35 _ (by kernel_rfl) (fun _ d _ _ _ h => by cases d <;> exact h) (by kernel_rfl) (by kernel_rfl) (fun w' hS' => by simp only [opr]; go_simp; try with_reducible rfl) HP4.out (fun K7 hK7 => ?_)
  clear hK6 K6
  try simp only [Act.put, lA, lZ, lS]
  refine any_done hK7 (by kernel_rfl) ?_
  clear hK7 K7
  go_wp2
  go_returns
  exact ⟨some ⟨bs, 0, none⟩, 1, rfl, HSV.out, HS6.out, HBZ.out⟩

end Go.Proofs.Ytefpifnfinkbaaa
