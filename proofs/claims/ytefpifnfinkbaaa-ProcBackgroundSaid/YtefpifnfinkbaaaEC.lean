/-
  What a process may do with a terminal: walked. No conditions.
-/
import Derived.Test.YtefpifnfinkbaaaEB
namespace Go.Proofs.Ytefpifnfinkbaaa
open Go.RowKit

variable {q : Tq} {L : List Pr} {md : Int} {f : Int → Int} {c : Nat} {w : World} {i g : Nat} {p : Pr}

/-- An answer with signals. -/
def GivesNS (n : Int) (K : List Sg) (w : World) (e : Ending) (w' : World) : Prop := ∃ a cap, e = .returned (.tuple #[.int .i64 n, .slice a K.length cap]) ∧ SV w' a cap K ∧ Stay (fun _ => False) w w' ∧ ∀ j, a.map Addr.block = some j → w.heap.size ≤ j

theorem TM.w64 (h : TAt w q L md f c) (hc : c ≤ 4096) : ∀ p ∈ L, W64 p.grp := fun p hp => (h.ok.w64 (by have := h.mc; omega) hp).2.2.1

theorem may11_none (x t : Int) (wr ts : Bool) (h : TM w q L md f c) (hx : ∀ p ∈ L, p.pid ≠ x) : Calls Try.prog 11 #[.pointer (some ⟨q.b, 0, none⟩), .int .i64 x, .int .i64 t, .bool wr, .bool ts] w (GivesNS 2 [] w) := by
  have HF := hide' (find37_no x h hx)
  clear h hx
  go_enter Try.func11, Try.ntmps11
  go_wp2_with fail
  refine HF.out.mono ?_
  rintro _ w1 ⟨rfl, hs⟩
  have HS := hide' hs
  clear hs HF
  go_wp2
  go_returns
  exact ⟨none, 0, rfl, SV.nil _, HS.out, fun j hj => by cases hj⟩

set_option maxRecDepth 100000 in
set_option maxHeartbeats 1000000 in
theorem may11_A (x t : Int) (wr ts : Bool) (h : TM w q L md f c) (hp : L[i]? = some p) (hx : p.pid = x) (ht : W64 t) (hw : ∀ p ∈ L, W64 p.grp) (hon : onB p t = false) : Calls Try.prog 11 #[.pointer (some ⟨q.b, 0, none⟩), .int .i64 x, .int .i64 t, .bool wr, .bool ts] w (GivesNS 0 [] w) := by
  obtain ⟨g, hg⟩ := h.rb
  have HF := hide' (find37_at x h hp hx hg)
  have HT := hide' h
  have HCC := hide' (h.cellsAt hg hp).1
  have HON := hide' hon
  have HWT := hide' ht
  have HWG := hide' (show (∀ p ∈ L, W64 p.grp) ∧ W64 p.grp from ⟨hw, hw p (mem_at hp)⟩)

  clear h hp hx hg hon ht hw
  go_enter Try.func11, Try.ntmps11
  go_wp2_with fail
  refine HF.out.mono ?_
  rintro _ w1 ⟨rfl, hs⟩
  have HC := hide' (HCC.out.keep hs)
  have HO := hide' (fun w' (hs' : Stay (fun _ => False) w1 w') => on38 g (i * 6) p t w' (HC.out.keep hs'))
  rw [HON.out] at HO
  have HT1 := hide' (HT.out.keep hs)
  have HFR := hide' (fun w' (hs' : Stay (fun _ => False) w1 w') => front18 t (HT1.out.keep hs') HWT.out)
  have HS1 := hide' hs
  have c5 := HC.out.c5

  clear hs HF HCC HT
  go_upto_region 4 with fail
  have hS : Stay (fun _ => False) w1 w1.drew := (Stay.refl _ _).drew
  refine wp_region_mix (fun w' => Stay (fun _ => False) w1 w') [(0, true), (1, true), (2, false), (3, true), (4, true), (5, true), (6, true), (7, true), (8, true), (9, true), (10, true), (11, false), (12, true), (13, true), (14, true), (15, true), (16, true), (17, true), (18, true), (19, true), (20, true), (21, true), (22, true), (23, true), (24, true), (25, true), (26, true), (27, true)] (by kernel_rfl) (by kernel_rfl) (fun _ d _ _ _ h => by cases d <;> exact h) hS ?_
  refine mix_begin (fun K0 hK0 => ?_)
  refine mix_take hK0 (some 20) (.move (.tmp 12)) 74 _ (by kernel_rfl) (by kernel_rfl) (fun w' hS' => by (simp only [opr]; go_simp; try with_reducible rfl)) (fun K1 hK1 => ?_)
  clear hK0 K0
  simp only [Act.put, lA, lZ, lS]
  refine mix_take hK1 (some 21) (.move (.tmp 2)) 3 _ (by kernel_rfl) (by kernel_rfl) (fun w' hS' => by (simp only [opr]; go_simp; try with_reducible rfl)) (fun K2 hK2 => ?_)
  clear hK1 K1
  simp only [Act.put, lA, lZ, lS]
  refine mix_call hK2 (some 22) 38 #[.tmp 20, .tmp 21] #[74, 3] 4 _ (by kernel_rfl) (by kernel_rfl) (enters Try.func38 (by kernel_rfl) (by kernel_rfl)) (by go_simp; try with_reducible rfl) (fun K3 hK3 => ?_)
  clear hK2 K2
  refine (HO.out _ hS).mono ?_
  rintro e wm1 ⟨rfl, hs1⟩
  have hS1 : _ := hS.trans hs1
  refine ⟨_, rfl, hS1, ?_⟩
  clear hs1
  simp only [Act.put, lA, lZ, lS]
  refine mix_take hK3 (some 23) (.unOp UnOp.not 4 (.tmp 22)) 4 _ (by kernel_rfl) (by kernel_rfl) (fun w' hS' => by (simp only [opr]; go_simp; try with_reducible rfl)) (fun K4 hK4 => ?_)
  clear hK3 K3
  simp only [Act.put, lA, lZ, lS]
  refine mix_take hK4 (some 24) (.move (.tmp 23)) 4 _ (by kernel_rfl) (by kernel_rfl) (fun w' hS' => by (simp only [opr]; go_simp; try with_reducible rfl)) (fun K5 hK5 => ?_)
  clear hK4 K4
  simp only [Act.put, lA, lZ, lS]
  refine mix_skip hK5 (some 25) (by kernel_rfl) (by kernel_rfl) hS1 (fun K6 hK6 => ?_)
  clear hK5 K5
  simp only [Act.put, lA, lZ, lS]
  refine mix_skip hK6 (some 26) (by kernel_rfl) (by kernel_rfl) hS1 (fun K7 hK7 => ?_)
  clear hK6 K6
  simp only [Act.put, lA, lZ, lS]
  refine mix_skip hK7 (some 27) (by kernel_rfl) (by kernel_rfl) hS1 (fun K8 hK8 => ?_)
  clear hK7 K7
  simp only [Act.put, lA, lZ, lS]
  refine mix_skip hK8 (some 28) (by kernel_rfl) (by kernel_rfl) hS1 (fun K9 hK9 => ?_)
  clear hK8 K8
  simp only [Act.put, lA, lZ, lS]
  refine mix_skip hK9 (some 29) (by kernel_rfl) (by kernel_rfl) hS1 (fun K10 hK10 => ?_)
  clear hK9 K9
  simp only [Act.put, lA, lZ, lS]
  refine mix_skip hK10 (some 30) (by kernel_rfl) (by kernel_rfl) hS1 (fun K11 hK11 => ?_)
  clear hK10 K10
  simp only [Act.put, lA, lZ, lS]
  refine mix_skip hK11 (some 31) (by kernel_rfl) (by kernel_rfl) hS1 (fun K12 hK12 => ?_)
  clear hK11 K11
  simp only [Act.put, lA, lZ, lS]
  refine mix_skip hK12 (some 32) (by kernel_rfl) (by kernel_rfl) hS1 (fun K13 hK13 => ?_)
  clear hK12 K12
  simp only [Act.put, lA, lZ, lS]
  refine mix_take hK13 (some 33) (.pick (.tmp 24) (.const (Value.bool true)) (.tmp 32)) 4 _ (by kernel_rfl) (by kernel_rfl) (fun w' hS' => by (simp only [opr]; go_simp; try with_reducible rfl)) (fun K14 hK14 => ?_)
  clear hK13 K13
  simp only [Act.put, lA, lZ, lS]
  refine mix_take hK14 (some 34) (.move (.tmp 33)) 4 _ (by kernel_rfl) (by kernel_rfl) (fun w' hS' => by (simp only [opr]; go_simp; try with_reducible rfl)) (fun K15 hK15 => ?_)
  clear hK14 K14
  simp only [Act.put, lA, lZ, lS]
  refine mix_skip hK15 (some 35) (by kernel_rfl) (by kernel_rfl) hS1 (fun K16 hK16 => ?_)
  clear hK15 K15
  simp only [Act.put, lA, lZ, lS]
  refine mix_skip hK16 (some 36) (by kernel_rfl) (by kernel_rfl) hS1 (fun K17 hK17 => ?_)
  clear hK16 K16
  simp only [Act.put, lA, lZ, lS]
  refine mix_skip hK17 (some 37) (by kernel_rfl) (by kernel_rfl) hS1 (fun K18 hK18 => ?_)
  clear hK17 K17
  simp only [Act.put, lA, lZ, lS]
  refine mix_skip hK18 (some 38) (by kernel_rfl) (by kernel_rfl) hS1 (fun K19 hK19 => ?_)
  clear hK18 K18
  simp only [Act.put, lA, lZ, lS]
  refine mix_skip hK19 (some 39) (by kernel_rfl) (by kernel_rfl) hS1 (fun K20 hK20 => ?_)
  clear hK19 K19
  simp only [Act.put, lA, lZ, lS]
  refine mix_skip hK20 (some 40) (by kernel_rfl) (by kernel_rfl) hS1 (fun K21 hK21 => ?_)
  clear hK20 K20
  simp only [Act.put, lA, lZ, lS]
  refine mix_skip hK21 (some 41) (by kernel_rfl) (by kernel_rfl) hS1 (fun K22 hK22 => ?_)
  clear hK21 K21
  simp only [Act.put, lA, lZ, lS]
  refine mix_skip hK22 (some 42) (by kernel_rfl) (by kernel_rfl) hS1 (fun K23 hK23 => ?_)
  clear hK22 K22
  simp only [Act.put, lA, lZ, lS]
  refine mix_skip hK23 (some 43) (by kernel_rfl) (by kernel_rfl) hS1 (fun K24 hK24 => ?_)
  clear hK23 K23
  simp only [Act.put, lA, lZ, lS]
  refine mix_skip hK24 (some 44) (by kernel_rfl) (by kernel_rfl) hS1 (fun K25 hK25 => ?_)
  clear hK24 K24
  simp only [Act.put, lA, lZ, lS]
  refine mix_skip hK25 (some 45) (by kernel_rfl) (by kernel_rfl) hS1 (fun K26 hK26 => ?_)
  clear hK25 K25
  simp only [Act.put, lA, lZ, lS]
  refine mix_take hK26 (some 46) (.pick (.tmp 34) (.const (Value.bool true)) (.tmp 45)) 4 _ (by kernel_rfl) (by kernel_rfl) (fun w' hS' => by (simp only [opr]; go_simp; try with_reducible rfl)) (fun K27 hK27 => ?_)
  clear hK26 K26
  simp only [Act.put, lA, lZ, lS]
  refine mix_take hK27 (some 19) (.assign (.tmp 46)) 4 _ (by kernel_rfl) (by kernel_rfl) (fun w' hS' => by (simp only [opr]; go_simp; try with_reducible rfl)) (fun K28 hK28 => ?_)
  clear hK27 K27
  simp only [Act.put, lA, lZ, lS]
  refine hK28 _ _ (mix_nil ?_)
  clear hK28 K28
  have HS2 := hide' hS1
  have c5 := keep_cell hS1 c5
  clear hS hS1 HO HFR
  go_wp2
  go_returns
  exact ⟨none, 0, rfl, SV.nil _, HS1.out.trans HS2.out, fun j hj => by cases hj⟩

set_option maxRecDepth 100000 in
set_option maxHeartbeats 1000000 in
theorem may11_B (x t : Int) (wr ts : Bool) (h : TM w q L md f c) (hp : L[i]? = some p) (hx : p.pid = x) (ht : W64 t) (hw : ∀ p ∈ L, W64 p.grp) (hon : onB p t = true) (hsame : (p.grp == f t) = true) : Calls Try.prog 11 #[.pointer (some ⟨q.b, 0, none⟩), .int .i64 x, .int .i64 t, .bool wr, .bool ts] w (GivesNS 0 [] w) := by
  obtain ⟨g, hg⟩ := h.rb
  have HF := hide' (find37_at x h hp hx hg)
  have HT := hide' h
  have HCC := hide' (h.cellsAt hg hp).1
  have HON := hide' hon
  have HWT := hide' ht
  have HWG := hide' (show (∀ p ∈ L, W64 p.grp) ∧ W64 p.grp from ⟨hw, hw p (mem_at hp)⟩)

  clear h hp hx hg hon ht hw
  go_enter Try.func11, Try.ntmps11
  go_wp2_with fail
  refine HF.out.mono ?_
  rintro _ w1 ⟨rfl, hs⟩
  have HC := hide' (HCC.out.keep hs)
  have HO := hide' (fun w' (hs' : Stay (fun _ => False) w1 w') => on38 g (i * 6) p t w' (HC.out.keep hs'))
  rw [HON.out] at HO
  have HT1 := hide' (HT.out.keep hs)
  have HFR := hide' (fun w' (hs' : Stay (fun _ => False) w1 w') => front18 t (HT1.out.keep hs') HWT.out)
  have HS1 := hide' hs
  have c5 := HC.out.c5

  clear hs HF HCC HT
  go_upto_region 4 with fail
  have hS : Stay (fun _ => False) w1 w1.drew := (Stay.refl _ _).drew
  refine wp_region_mix (fun w' => Stay (fun _ => False) w1 w') [(0, true), (1, true), (2, false), (3, true), (4, true), (5, true), (6, true), (7, true), (8, true), (9, true), (10, true), (11, false), (12, true), (13, true), (14, true), (15, true), (16, true), (17, true), (18, true), (19, true), (20, true), (21, true), (22, true), (23, true), (24, true), (25, true), (26, true), (27, true)] (by kernel_rfl) (by kernel_rfl) (fun _ d _ _ _ h => by cases d <;> exact h) hS ?_
  refine mix_begin (fun K0 hK0 => ?_)
  refine mix_take hK0 (some 20) (.move (.tmp 12)) 74 _ (by kernel_rfl) (by kernel_rfl) (fun w' hS' => by (simp only [opr]; go_simp; try with_reducible rfl)) (fun K1 hK1 => ?_)
  clear hK0 K0
  simp only [Act.put, lA, lZ, lS]
  refine mix_take hK1 (some 21) (.move (.tmp 2)) 3 _ (by kernel_rfl) (by kernel_rfl) (fun w' hS' => by (simp only [opr]; go_simp; try with_reducible rfl)) (fun K2 hK2 => ?_)
  clear hK1 K1
  simp only [Act.put, lA, lZ, lS]
  refine mix_call hK2 (some 22) 38 #[.tmp 20, .tmp 21] #[74, 3] 4 _ (by kernel_rfl) (by kernel_rfl) (enters Try.func38 (by kernel_rfl) (by kernel_rfl)) (by go_simp; try with_reducible rfl) (fun K3 hK3 => ?_)
  clear hK2 K2
  refine (HO.out _ hS).mono ?_
  rintro e wm1 ⟨rfl, hs1⟩
  have hS1 : _ := hS.trans hs1
  refine ⟨_, rfl, hS1, ?_⟩
  clear hs1
  simp only [Act.put, lA, lZ, lS]
  refine mix_take hK3 (some 23) (.unOp UnOp.not 4 (.tmp 22)) 4 _ (by kernel_rfl) (by kernel_rfl) (fun w' hS' => by (simp only [opr]; go_simp; try with_reducible rfl)) (fun K4 hK4 => ?_)
  clear hK3 K3
  simp only [Act.put, lA, lZ, lS]
  refine mix_take hK4 (some 24) (.move (.tmp 23)) 4 _ (by kernel_rfl) (by kernel_rfl) (fun w' hS' => by (simp only [opr]; go_simp; try with_reducible rfl)) (fun K5 hK5 => ?_)
  clear hK4 K4
  simp only [Act.put, lA, lZ, lS]
  refine mix_take hK5 (some 25) (.move (.tmp 12)) 74 _ (by kernel_rfl) (by kernel_rfl) (fun w' hS' => by (simp only [opr]; go_simp; try with_reducible rfl)) (fun K6 hK6 => ?_)
  clear hK5 K5
  simp only [Act.put, lA, lZ, lS]
  refine mix_take hK6 (some 26) (.nilCheck (.tmp 25)) 0 _ (by kernel_rfl) (by kernel_rfl) (fun w' hS' => by (simp only [opr]; go_simp; try with_reducible rfl)) (fun K7 hK7 => ?_)
  clear hK6 K6
  simp only [Act.put, lA, lZ, lS]
  refine mix_take hK7 (some 27) (.fieldAddr 40 (.tmp 26) 2) 0 _ (by kernel_rfl) (by kernel_rfl) (fun w' hS' => by (simp only [opr]; go_simp; try with_reducible rfl)) (fun K8 hK8 => ?_)
  clear hK7 K7
  simp only [Act.put, lA, lZ, lS]
  refine mix_take hK8 (some 28) (.load 3 (.tmp 27)) 3 _ (by kernel_rfl) (by kernel_rfl) (fun w' hS' => by (have k2 := keep_cell hS' HC.out.c2; simp only [opr]; go_simp; try with_reducible rfl)) (fun K9 hK9 => ?_)
  clear hK8 K8
  simp only [Act.put, lA, lZ, lS]
  refine mix_take hK9 (some 29) (.move (.tmp 0)) 24 _ (by kernel_rfl) (by kernel_rfl) (fun w' hS' => by (simp only [opr]; go_simp; try with_reducible rfl)) (fun K10 hK10 => ?_)
  clear hK9 K9
  simp only [Act.put, lA, lZ, lS]
  refine mix_take hK10 (some 30) (.move (.tmp 2)) 3 _ (by kernel_rfl) (by kernel_rfl) (fun w' hS' => by (simp only [opr]; go_simp; try with_reducible rfl)) (fun K11 hK11 => ?_)
  clear hK10 K10
  simp only [Act.put, lA, lZ, lS]
  refine mix_call hK11 (some 31) 18 #[.tmp 29, .tmp 30] #[24, 3] 3 _ (by kernel_rfl) (by kernel_rfl) (enters Try.func18 (by kernel_rfl) (by kernel_rfl)) (by go_simp; try with_reducible rfl) (fun K12 hK12 => ?_)
  clear hK11 K11
  refine (HFR.out _ hS1).mono ?_
  rintro e wm2 ⟨rfl, hs2⟩
  have hS2 : _ := hS1.trans hs2
  refine ⟨_, rfl, hS2, ?_⟩
  clear hs2
  simp only [Act.put, lA, lZ, lS]
  refine mix_take hK12 (some 32) (.binOp BinOp.eql 3 (.tmp 28) (.tmp 31) 3) 4 _ (by kernel_rfl) (by kernel_rfl) (fun w' hS' => by (simp only [opr]; go_simp; try with_reducible rfl)) (fun K13 hK13 => ?_)
  clear hK12 K12
  simp only [Act.put, lA, lZ, lS]
  refine mix_take hK13 (some 33) (.pick (.tmp 24) (.const (Value.bool true)) (.tmp 32)) 4 _ (by kernel_rfl) (by kernel_rfl) (fun w' hS' => by (simp only [opr]; go_simp; try with_reducible rfl)) (fun K14 hK14 => ?_)
  clear hK13 K13
  simp only [Act.put, lA, lZ, lS]
  refine mix_take hK14 (some 34) (.move (.tmp 33)) 4 _ (by kernel_rfl) (by kernel_rfl) (fun w' hS' => by (simp only [opr]; go_simp; try with_reducible rfl)) (fun K15 hK15 => ?_)
  clear hK14 K14
  simp only [Act.put, lA, lZ, lS]
  refine mix_skip hK15 (some 35) (by kernel_rfl) (by kernel_rfl) hS2 (fun K16 hK16 => ?_)
  clear hK15 K15
  simp only [Act.put, lA, lZ, lS]
  refine mix_skip hK16 (some 36) (by kernel_rfl) (by kernel_rfl) hS2 (fun K17 hK17 => ?_)
  clear hK16 K16
  simp only [Act.put, lA, lZ, lS]
  refine mix_skip hK17 (some 37) (by kernel_rfl) (by kernel_rfl) hS2 (fun K18 hK18 => ?_)
  clear hK17 K17
  simp only [Act.put, lA, lZ, lS]
  refine mix_skip hK18 (some 38) (by kernel_rfl) (by kernel_rfl) hS2 (fun K19 hK19 => ?_)
  clear hK18 K18
  simp only [Act.put, lA, lZ, lS]
  refine mix_skip hK19 (some 39) (by kernel_rfl) (by kernel_rfl) hS2 (fun K20 hK20 => ?_)
  clear hK19 K19
  simp only [Act.put, lA, lZ, lS]
  refine mix_skip hK20 (some 40) (by kernel_rfl) (by kernel_rfl) hS2 (fun K21 hK21 => ?_)
  clear hK20 K20
  simp only [Act.put, lA, lZ, lS]
  refine mix_skip hK21 (some 41) (by kernel_rfl) (by kernel_rfl) hS2 (fun K22 hK22 => ?_)
  clear hK21 K21
  simp only [Act.put, lA, lZ, lS]
  refine mix_skip hK22 (some 42) (by kernel_rfl) (by kernel_rfl) hS2 (fun K23 hK23 => ?_)
  clear hK22 K22
  simp only [Act.put, lA, lZ, lS]
  refine mix_skip hK23 (some 43) (by kernel_rfl) (by kernel_rfl) hS2 (fun K24 hK24 => ?_)
  clear hK23 K23
  simp only [Act.put, lA, lZ, lS]
  refine mix_skip hK24 (some 44) (by kernel_rfl) (by kernel_rfl) hS2 (fun K25 hK25 => ?_)
  clear hK24 K24
  simp only [Act.put, lA, lZ, lS]
  refine mix_skip hK25 (some 45) (by kernel_rfl) (by kernel_rfl) hS2 (fun K26 hK26 => ?_)
  clear hK25 K25
  simp only [Act.put, lA, lZ, lS]
  refine mix_take hK26 (some 46) (.pick (.tmp 34) (.const (Value.bool true)) (.tmp 45)) 4 _ (by kernel_rfl) (by kernel_rfl) (fun w' hS' => by (simp only [opr]; go_simp; try with_reducible rfl)) (fun K27 hK27 => ?_)
  clear hK26 K26
  simp only [Act.put, lA, lZ, lS]
  refine mix_take hK27 (some 19) (.assign (.tmp 46)) 4 _ (by kernel_rfl) (by kernel_rfl) (fun w' hS' => by (simp only [opr]; go_simp; try with_reducible rfl)) (fun K28 hK28 => ?_)
  clear hK27 K27
  simp only [Act.put, lA, lZ, lS]
  refine hK28 _ _ (mix_nil ?_)
  clear hK28 K28
  have HS2 := hide' hS2
  have c5 := keep_cell hS2 c5
  clear hS hS1 hS2 HO HFR
  go_wp2
  go_returns
  exact ⟨none, 0, rfl, SV.nil _, HS1.out.trans HS2.out, fun j hj => by cases hj⟩

set_option maxRecDepth 100000 in
set_option maxHeartbeats 1000000 in
theorem may11_C (x t : Int) (h : TM w q L md f c) (hp : L[i]? = some p) (hx : p.pid = x) (ht : W64 t) (hw : ∀ p ∈ L, W64 p.grp) (hon : onB p t = true) (hsame : (p.grp == f t) = false) : Calls Try.prog 11 #[.pointer (some ⟨q.b, 0, none⟩), .int .i64 x, .int .i64 t, .bool true, .bool false] w (GivesNS 0 [] w) := by
  obtain ⟨g, hg⟩ := h.rb
  have HF := hide' (find37_at x h hp hx hg)
  have HT := hide' h
  have HCC := hide' (h.cellsAt hg hp).1
  have HON := hide' hon
  have HWT := hide' ht
  have HWG := hide' (show (∀ p ∈ L, W64 p.grp) ∧ W64 p.grp from ⟨hw, hw p (mem_at hp)⟩)

  clear h hp hx hg hon ht hw
  go_enter Try.func11, Try.ntmps11
  go_wp2_with fail
  refine HF.out.mono ?_
  rintro _ w1 ⟨rfl, hs⟩
  have HC := hide' (HCC.out.keep hs)
  have HO := hide' (fun w' (hs' : Stay (fun _ => False) w1 w') => on38 g (i * 6) p t w' (HC.out.keep hs'))
  rw [HON.out] at HO
  have HT1 := hide' (HT.out.keep hs)
  have HFR := hide' (fun w' (hs' : Stay (fun _ => False) w1 w') => front18 t (HT1.out.keep hs') HWT.out)
  have HS1 := hide' hs
  have c5 := HC.out.c5

  clear hs HF HCC HT
  go_upto_region 4 with fail
  have hS : Stay (fun _ => False) w1 w1.drew := (Stay.refl _ _).drew
  refine wp_region_mix (fun w' => Stay (fun _ => False) w1 w') [(0, true), (1, true), (2, false), (3, true), (4, true), (5, true), (6, true), (7, true), (8, true), (9, true), (10, true), (11, false), (12, true), (13, true), (14, true), (15, true), (16, true), (17, true), (18, true), (19, true), (20, true), (21, true), (22, true), (23, true), (24, true), (25, true), (26, true), (27, true)] (by kernel_rfl) (by kernel_rfl) (fun _ d _ _ _ h => by cases d <;> exact h) hS ?_
  refine mix_begin (fun K0 hK0 => ?_)
  refine mix_take hK0 (some 20) (.move (.tmp 12)) 74 _ (by kernel_rfl) (by kernel_rfl) (fun w' hS' => by (simp only [opr]; go_simp; try with_reducible rfl)) (fun K1 hK1 => ?_)
  clear hK0 K0
  simp only [Act.put, lA, lZ, lS]
  refine mix_take hK1 (some 21) (.move (.tmp 2)) 3 _ (by kernel_rfl) (by kernel_rfl) (fun w' hS' => by (simp only [opr]; go_simp; try with_reducible rfl)) (fun K2 hK2 => ?_)
  clear hK1 K1
  simp only [Act.put, lA, lZ, lS]
  refine mix_call hK2 (some 22) 38 #[.tmp 20, .tmp 21] #[74, 3] 4 _ (by kernel_rfl) (by kernel_rfl) (enters Try.func38 (by kernel_rfl) (by kernel_rfl)) (by go_simp; try with_reducible rfl) (fun K3 hK3 => ?_)
  clear hK2 K2
  refine (HO.out _ hS).mono ?_
  rintro e wm1 ⟨rfl, hs1⟩
  have hS1 : _ := hS.trans hs1
  refine ⟨_, rfl, hS1, ?_⟩
  clear hs1
  simp only [Act.put, lA, lZ, lS]
  refine mix_take hK3 (some 23) (.unOp UnOp.not 4 (.tmp 22)) 4 _ (by kernel_rfl) (by kernel_rfl) (fun w' hS' => by (simp only [opr]; go_simp; try with_reducible rfl)) (fun K4 hK4 => ?_)
  clear hK3 K3
  simp only [Act.put, lA, lZ, lS]
  refine mix_take hK4 (some 24) (.move (.tmp 23)) 4 _ (by kernel_rfl) (by kernel_rfl) (fun w' hS' => by (simp only [opr]; go_simp; try with_reducible rfl)) (fun K5 hK5 => ?_)
  clear hK4 K4
  simp only [Act.put, lA, lZ, lS]
  refine mix_take hK5 (some 25) (.move (.tmp 12)) 74 _ (by kernel_rfl) (by kernel_rfl) (fun w' hS' => by (simp only [opr]; go_simp; try with_reducible rfl)) (fun K6 hK6 => ?_)
  clear hK5 K5
  simp only [Act.put, lA, lZ, lS]
  refine mix_take hK6 (some 26) (.nilCheck (.tmp 25)) 0 _ (by kernel_rfl) (by kernel_rfl) (fun w' hS' => by (simp only [opr]; go_simp; try with_reducible rfl)) (fun K7 hK7 => ?_)
  clear hK6 K6
  simp only [Act.put, lA, lZ, lS]
  refine mix_take hK7 (some 27) (.fieldAddr 40 (.tmp 26) 2) 0 _ (by kernel_rfl) (by kernel_rfl) (fun w' hS' => by (simp only [opr]; go_simp; try with_reducible rfl)) (fun K8 hK8 => ?_)
  clear hK7 K7
  simp only [Act.put, lA, lZ, lS]
  refine mix_take hK8 (some 28) (.load 3 (.tmp 27)) 3 _ (by kernel_rfl) (by kernel_rfl) (fun w' hS' => by (have k2 := keep_cell hS' HC.out.c2; simp only [opr]; go_simp; try with_reducible rfl)) (fun K9 hK9 => ?_)
  clear hK8 K8
  simp only [Act.put, lA, lZ, lS]
  refine mix_take hK9 (some 29) (.move (.tmp 0)) 24 _ (by kernel_rfl) (by kernel_rfl) (fun w' hS' => by (simp only [opr]; go_simp; try with_reducible rfl)) (fun K10 hK10 => ?_)
  clear hK9 K9
  simp only [Act.put, lA, lZ, lS]
  refine mix_take hK10 (some 30) (.move (.tmp 2)) 3 _ (by kernel_rfl) (by kernel_rfl) (fun w' hS' => by (simp only [opr]; go_simp; try with_reducible rfl)) (fun K11 hK11 => ?_)
  clear hK10 K10
  simp only [Act.put, lA, lZ, lS]
  refine mix_call hK11 (some 31) 18 #[.tmp 29, .tmp 30] #[24, 3] 3 _ (by kernel_rfl) (by kernel_rfl) (enters Try.func18 (by kernel_rfl) (by kernel_rfl)) (by go_simp; try with_reducible rfl) (fun K12 hK12 => ?_)
  clear hK11 K11
  refine (HFR.out _ hS1).mono ?_
  rintro e wm2 ⟨rfl, hs2⟩
  have hS2 : _ := hS1.trans hs2
  refine ⟨_, rfl, hS2, ?_⟩
  clear hs2
  simp only [Act.put, lA, lZ, lS]
  refine mix_take hK12 (some 32) (.binOp BinOp.eql 3 (.tmp 28) (.tmp 31) 3) 4 _ (by kernel_rfl) (by kernel_rfl) (fun w' hS' => by (simp only [opr]; go_simp; try with_reducible rfl)) (fun K13 hK13 => ?_)
  clear hK12 K12
  simp only [Act.put, lA, lZ, lS]
  refine mix_take hK13 (some 33) (.pick (.tmp 24) (.const (Value.bool true)) (.tmp 32)) 4 _ (by kernel_rfl) (by kernel_rfl) (fun w' hS' => by (simp only [opr]; go_simp; try with_reducible rfl)) (fun K14 hK14 => ?_)
  clear hK13 K13
  simp only [Act.put, lA, lZ, lS]
  refine mix_take hK14 (some 34) (.move (.tmp 33)) 4 _ (by kernel_rfl) (by kernel_rfl) (fun w' hS' => by (simp only [opr]; go_simp; try with_reducible rfl)) (fun K15 hK15 => ?_)
  clear hK14 K14
  simp only [Act.put, lA, lZ, lS]
  refine mix_take hK15 (some 35) (.move (.tmp 3)) 4 _ (by kernel_rfl) (by kernel_rfl) (fun w' hS' => by (simp only [opr]; go_simp; try with_reducible rfl)) (fun K16 hK16 => ?_)
  clear hK15 K15
  simp only [Act.put, lA, lZ, lS]
  refine mix_take hK16 (some 36) (.move (.tmp 35)) 4 _ (by kernel_rfl) (by kernel_rfl) (fun w' hS' => by (simp only [opr]; go_simp; try with_reducible rfl)) (fun K17 hK17 => ?_)
  clear hK16 K16
  simp only [Act.put, lA, lZ, lS]
  refine mix_take hK17 (some 37) (.move (.tmp 4)) 4 _ (by kernel_rfl) (by kernel_rfl) (fun w' hS' => by (simp only [opr]; go_simp; try with_reducible rfl)) (fun K18 hK18 => ?_)
  clear hK17 K17
  simp only [Act.put, lA, lZ, lS]
  refine mix_take hK18 (some 38) (.unOp UnOp.not 4 (.tmp 37)) 4 _ (by kernel_rfl) (by kernel_rfl) (fun w' hS' => by (simp only [opr]; go_simp; try with_reducible rfl)) (fun K19 hK19 => ?_)
  clear hK18 K18
  simp only [Act.put, lA, lZ, lS]
  refine mix_take hK19 (some 39) (.move (.tmp 38)) 4 _ (by kernel_rfl) (by kernel_rfl) (fun w' hS' => by (simp only [opr]; go_simp; try with_reducible rfl)) (fun K20 hK20 => ?_)
  clear hK19 K19
  simp only [Act.put, lA, lZ, lS]
  refine mix_skip hK20 (some 40) (by kernel_rfl) (by kernel_rfl) hS2 (fun K21 hK21 => ?_)
  clear hK20 K20
  simp only [Act.put, lA, lZ, lS]
  refine mix_skip hK21 (some 41) (by kernel_rfl) (by kernel_rfl) hS2 (fun K22 hK22 => ?_)
  clear hK21 K21
  simp only [Act.put, lA, lZ, lS]
  refine mix_skip hK22 (some 42) (by kernel_rfl) (by kernel_rfl) hS2 (fun K23 hK23 => ?_)
  clear hK22 K22
  simp only [Act.put, lA, lZ, lS]
  refine mix_skip hK23 (some 43) (by kernel_rfl) (by kernel_rfl) hS2 (fun K24 hK24 => ?_)
  clear hK23 K23
  simp only [Act.put, lA, lZ, lS]
  refine mix_take hK24 (some 44) (.pick (.tmp 39) (.const (Value.bool true)) (.tmp 43)) 4 _ (by kernel_rfl) (by kernel_rfl) (fun w' hS' => by (simp only [opr]; go_simp; try with_reducible rfl)) (fun K25 hK25 => ?_)
  clear hK24 K24
  simp only [Act.put, lA, lZ, lS]
  refine mix_take hK25 (some 45) (.pick (.tmp 36) (.tmp 44) (.const (Value.bool false))) 4 _ (by kernel_rfl) (by kernel_rfl) (fun w' hS' => by (simp only [opr]; go_simp; try with_reducible rfl)) (fun K26 hK26 => ?_)
  clear hK25 K25
  simp only [Act.put, lA, lZ, lS]
  refine mix_take hK26 (some 46) (.pick (.tmp 34) (.const (Value.bool true)) (.tmp 45)) 4 _ (by kernel_rfl) (by kernel_rfl) (fun w' hS' => by (simp only [opr]; go_simp; try with_reducible rfl)) (fun K27 hK27 => ?_)
  clear hK26 K26
  simp only [Act.put, lA, lZ, lS]
  refine mix_take hK27 (some 19) (.assign (.tmp 46)) 4 _ (by kernel_rfl) (by kernel_rfl) (fun w' hS' => by (simp only [opr]; go_simp; try with_reducible rfl)) (fun K28 hK28 => ?_)
  clear hK27 K27
  simp only [Act.put, lA, lZ, lS]
  refine hK28 _ _ (mix_nil ?_)
  clear hK28 K28
  have HS2 := hide' hS2
  have c5 := keep_cell hS2 c5
  clear hS hS1 hS2 HO HFR
  go_wp2
  go_returns
  exact ⟨none, 0, rfl, SV.nil _, HS1.out.trans HS2.out, fun j hj => by cases hj⟩

set_option maxRecDepth 100000 in
set_option maxHeartbeats 1000000 in
theorem may11_D (x t : Int) (h : TM w q L md f c) (hp : L[i]? = some p) (hx : p.pid = x) (ht : W64 t) (hw : ∀ p ∈ L, W64 p.grp) (hon : onB p t = true) (hsame : (p.grp == f t) = false) (hdf : p.df = true) : Calls Try.prog 11 #[.pointer (some ⟨q.b, 0, none⟩), .int .i64 x, .int .i64 t, .bool true, .bool true] w (GivesNS 0 [] w) := by
  obtain ⟨g, hg⟩ := h.rb
  have HF := hide' (find37_at x h hp hx hg)
  have HT := hide' h
  have HCC := hide' (h.cellsAt hg hp).1
  have HON := hide' hon
  have HWT := hide' ht
  have HWG := hide' (show (∀ p ∈ L, W64 p.grp) ∧ W64 p.grp from ⟨hw, hw p (mem_at hp)⟩)

  clear h hp hx hg hon ht hw
  go_enter Try.func11, Try.ntmps11
  go_wp2_with fail
  refine HF.out.mono ?_
  rintro _ w1 ⟨rfl, hs⟩
  have HC := hide' (HCC.out.keep hs)
  have HO := hide' (fun w' (hs' : Stay (fun _ => False) w1 w') => on38 g (i * 6) p t w' (HC.out.keep hs'))
  rw [HON.out] at HO
  have HT1 := hide' (HT.out.keep hs)
  have HFR := hide' (fun w' (hs' : Stay (fun _ => False) w1 w') => front18 t (HT1.out.keep hs') HWT.out)
  have HS1 := hide' hs
  have c5 := HC.out.c5
  rw [hdf] at c5
  clear hs HF HCC HT
  go_upto_region 4 with fail
  have hS : Stay (fun _ => False) w1 w1.drew := (Stay.refl _ _).drew
  refine wp_region_mix (fun w' => Stay (fun _ => False) w1 w') [(0, true), (1, true), (2, false), (3, true), (4, true), (5, true), (6, true), (7, true), (8, true), (9, true), (10, true), (11, false), (12, true), (13, true), (14, true), (15, true), (16, true), (17, true), (18, true), (19, true), (20, true), (21, true), (22, true), (23, true), (24, true), (25, true), (26, true), (27, true)] (by kernel_rfl) (by kernel_rfl) (fun _ d _ _ _ h => by cases d <;> exact h) hS ?_
  refine mix_begin (fun K0 hK0 => ?_)
  refine mix_take hK0 (some 20) (.move (.tmp 12)) 74 _ (by kernel_rfl) (by kernel_rfl) (fun w' hS' => by (simp only [opr]; go_simp; try with_reducible rfl)) (fun K1 hK1 => ?_)
  clear hK0 K0
  simp only [Act.put, lA, lZ, lS]
  refine mix_take hK1 (some 21) (.move (.tmp 2)) 3 _ (by kernel_rfl) (by kernel_rfl) (fun w' hS' => by (simp only [opr]; go_simp; try with_reducible rfl)) (fun K2 hK2 => ?_)
  clear hK1 K1
  simp only [Act.put, lA, lZ, lS]
  refine mix_call hK2 (some 22) 38 #[.tmp 20, .tmp 21] #[74, 3] 4 _ (by kernel_rfl) (by kernel_rfl) (enters Try.func38 (by kernel_rfl) (by kernel_rfl)) (by go_simp; try with_reducible rfl) (fun K3 hK3 => ?_)
  clear hK2 K2
  refine (HO.out _ hS).mono ?_
  rintro e wm1 ⟨rfl, hs1⟩
  have hS1 : _ := hS.trans hs1
  refine ⟨_, rfl, hS1, ?_⟩
  clear hs1
  simp only [Act.put, lA, lZ, lS]
  refine mix_take hK3 (some 23) (.unOp UnOp.not 4 (.tmp 22)) 4 _ (by kernel_rfl) (by kernel_rfl) (fun w' hS' => by (simp only [opr]; go_simp; try with_reducible rfl)) (fun K4 hK4 => ?_)
  clear hK3 K3
  simp only [Act.put, lA, lZ, lS]
  refine mix_take hK4 (some 24) (.move (.tmp 23)) 4 _ (by kernel_rfl) (by kernel_rfl) (fun w' hS' => by (simp only [opr]; go_simp; try with_reducible rfl)) (fun K5 hK5 => ?_)
  clear hK4 K4
  simp only [Act.put, lA, lZ, lS]
  refine mix_take hK5 (some 25) (.move (.tmp 12)) 74 _ (by kernel_rfl) (by kernel_rfl) (fun w' hS' => by (simp only [opr]; go_simp; try with_reducible rfl)) (fun K6 hK6 => ?_)
  clear hK5 K5
  simp only [Act.put, lA, lZ, lS]
  refine mix_take hK6 (some 26) (.nilCheck (.tmp 25)) 0 _ (by kernel_rfl) (by kernel_rfl) (fun w' hS' => by (simp only [opr]; go_simp; try with_reducible rfl)) (fun K7 hK7 => ?_)
  clear hK6 K6
  simp only [Act.put, lA, lZ, lS]
  refine mix_take hK7 (some 27) (.fieldAddr 40 (.tmp 26) 2) 0 _ (by kernel_rfl) (by kernel_rfl) (fun w' hS' => by (simp only [opr]; go_simp; try with_reducible rfl)) (fun K8 hK8 => ?_)
  clear hK7 K7
  simp only [Act.put, lA, lZ, lS]
  refine mix_take hK8 (some 28) (.load 3 (.tmp 27)) 3 _ (by kernel_rfl) (by kernel_rfl) (fun w' hS' => by (have k2 := keep_cell hS' HC.out.c2; simp only [opr]; go_simp; try with_reducible rfl)) (fun K9 hK9 => ?_)
  clear hK8 K8
  simp only [Act.put, lA, lZ, lS]
  refine mix_take hK9 (some 29) (.move (.tmp 0)) 24 _ (by kernel_rfl) (by kernel_rfl) (fun w' hS' => by (simp only [opr]; go_simp; try with_reducible rfl)) (fun K10 hK10 => ?_)
  clear hK9 K9
  simp only [Act.put, lA, lZ, lS]
  refine mix_take hK10 (some 30) (.move (.tmp 2)) 3 _ (by kernel_rfl) (by kernel_rfl) (fun w' hS' => by (simp only [opr]; go_simp; try with_reducible rfl)) (fun K11 hK11 => ?_)
  clear hK10 K10
  simp only [Act.put, lA, lZ, lS]
  refine mix_call hK11 (some 31) 18 #[.tmp 29, .tmp 30] #[24, 3] 3 _ (by kernel_rfl) (by kernel_rfl) (enters Try.func18 (by kernel_rfl) (by kernel_rfl)) (by go_simp; try with_reducible rfl) (fun K12 hK12 => ?_)
  clear hK11 K11
  refine (HFR.out _ hS1).mono ?_
  rintro e wm2 ⟨rfl, hs2⟩
  have hS2 : _ := hS1.trans hs2
  refine ⟨_, rfl, hS2, ?_⟩
  clear hs2
  simp only [Act.put, lA, lZ, lS]
  refine mix_take hK12 (some 32) (.binOp BinOp.eql 3 (.tmp 28) (.tmp 31) 3) 4 _ (by kernel_rfl) (by kernel_rfl) (fun w' hS' => by (simp only [opr]; go_simp; try with_reducible rfl)) (fun K13 hK13 => ?_)
  clear hK12 K12
  simp only [Act.put, lA, lZ, lS]
  refine mix_take hK13 (some 33) (.pick (.tmp 24) (.const (Value.bool true)) (.tmp 32)) 4 _ (by kernel_rfl) (by kernel_rfl) (fun w' hS' => by (simp only [opr]; go_simp; try with_reducible rfl)) (fun K14 hK14 => ?_)
  clear hK13 K13
  simp only [Act.put, lA, lZ, lS]
  refine mix_take hK14 (some 34) (.move (.tmp 33)) 4 _ (by kernel_rfl) (by kernel_rfl) (fun w' hS' => by (simp only [opr]; go_simp; try with_reducible rfl)) (fun K15 hK15 => ?_)
  clear hK14 K14
  simp only [Act.put, lA, lZ, lS]
  refine mix_take hK15 (some 35) (.move (.tmp 3)) 4 _ (by kernel_rfl) (by kernel_rfl) (fun w' hS' => by (simp only [opr]; go_simp; try with_reducible rfl)) (fun K16 hK16 => ?_)
  clear hK15 K15
  simp only [Act.put, lA, lZ, lS]
  refine mix_take hK16 (some 36) (.move (.tmp 35)) 4 _ (by kernel_rfl) (by kernel_rfl) (fun w' hS' => by (simp only [opr]; go_simp; try with_reducible rfl)) (fun K17 hK17 => ?_)
  clear hK16 K16
  simp only [Act.put, lA, lZ, lS]
  refine mix_take hK17 (some 37) (.move (.tmp 4)) 4 _ (by kernel_rfl) (by kernel_rfl) (fun w' hS' => by (simp only [opr]; go_simp; try with_reducible rfl)) (fun K18 hK18 => ?_)
  clear hK17 K17
  simp only [Act.put, lA, lZ, lS]
  refine mix_take hK18 (some 38) (.unOp UnOp.not 4 (.tmp 37)) 4 _ (by kernel_rfl) (by kernel_rfl) (fun w' hS' => by (simp only [opr]; go_simp; try with_reducible rfl)) (fun K19 hK19 => ?_)
  clear hK18 K18
  simp only [Act.put, lA, lZ, lS]
  refine mix_take hK19 (some 39) (.move (.tmp 38)) 4 _ (by kernel_rfl) (by kernel_rfl) (fun w' hS' => by (simp only [opr]; go_simp; try with_reducible rfl)) (fun K20 hK20 => ?_)
  clear hK19 K19
  simp only [Act.put, lA, lZ, lS]
  refine mix_take hK20 (some 40) (.move (.tmp 12)) 74 _ (by kernel_rfl) (by kernel_rfl) (fun w' hS' => by (simp only [opr]; go_simp; try with_reducible rfl)) (fun K21 hK21 => ?_)
  clear hK20 K20
  simp only [Act.put, lA, lZ, lS]
  refine mix_take hK21 (some 41) (.nilCheck (.tmp 40)) 0 _ (by kernel_rfl) (by kernel_rfl) (fun w' hS' => by (simp only [opr]; go_simp; try with_reducible rfl)) (fun K22 hK22 => ?_)
  clear hK21 K21
  simp only [Act.put, lA, lZ, lS]
  refine mix_take hK22 (some 42) (.fieldAddr 40 (.tmp 41) 5) 0 _ (by kernel_rfl) (by kernel_rfl) (fun w' hS' => by (simp only [opr]; go_simp; try with_reducible rfl)) (fun K23 hK23 => ?_)
  clear hK22 K22
  simp only [Act.put, lA, lZ, lS]
  refine mix_take hK23 (some 43) (.load 4 (.tmp 42)) 4 _ (by kernel_rfl) (by kernel_rfl) (fun w' hS' => by (have k5 := keep_cell hS' c5; simp only [opr]; go_simp; try with_reducible rfl)) (fun K24 hK24 => ?_)
  clear hK23 K23
  simp only [Act.put, lA, lZ, lS]
  refine mix_take hK24 (some 44) (.pick (.tmp 39) (.const (Value.bool true)) (.tmp 43)) 4 _ (by kernel_rfl) (by kernel_rfl) (fun w' hS' => by (simp only [opr]; go_simp; try with_reducible rfl)) (fun K25 hK25 => ?_)
  clear hK24 K24
  simp only [Act.put, lA, lZ, lS]
  refine mix_take hK25 (some 45) (.pick (.tmp 36) (.tmp 44) (.const (Value.bool false))) 4 _ (by kernel_rfl) (by kernel_rfl) (fun w' hS' => by (simp only [opr]; go_simp; try with_reducible rfl)) (fun K26 hK26 => ?_)
  clear hK25 K25
  simp only [Act.put, lA, lZ, lS]
  refine mix_take hK26 (some 46) (.pick (.tmp 34) (.const (Value.bool true)) (.tmp 45)) 4 _ (by kernel_rfl) (by kernel_rfl) (fun w' hS' => by (simp only [opr]; go_simp; try with_reducible rfl)) (fun K27 hK27 => ?_)
  clear hK26 K26
  simp only [Act.put, lA, lZ, lS]
  refine mix_take hK27 (some 19) (.assign (.tmp 46)) 4 _ (by kernel_rfl) (by kernel_rfl) (fun w' hS' => by (simp only [opr]; go_simp; try with_reducible rfl)) (fun K28 hK28 => ?_)
  clear hK27 K27
  simp only [Act.put, lA, lZ, lS]
  refine hK28 _ _ (mix_nil ?_)
  clear hK28 K28
  have HS2 := hide' hS2
  have c5 := keep_cell hS2 c5
  clear hS hS1 hS2 HO HFR
  go_wp2
  go_returns
  exact ⟨none, 0, rfl, SV.nil _, HS1.out.trans HS2.out, fun j hj => by cases hj⟩

set_option maxRecDepth 100000 in
set_option maxHeartbeats 1000000 in
theorem may11_E1 (x t : Int) (ts : Bool) (h : TM w q L md f c) (hp : L[i]? = some p) (hx : p.pid = x) (ht : W64 t) (hw : ∀ p ∈ L, W64 p.grp) (hon : onB p t = true) (hsame : (p.grp == f t) = false) (hdf : p.df = true) : Calls Try.prog 11 #[.pointer (some ⟨q.b, 0, none⟩), .int .i64 x, .int .i64 t, .bool false, .bool ts] w (GivesNS 2 [] w) := by
  obtain ⟨g, hg⟩ := h.rb
  have HF := hide' (find37_at x h hp hx hg)
  have HT := hide' h
  have HCC := hide' (h.cellsAt hg hp).1
  have HON := hide' hon
  have HWT := hide' ht
  have HWG := hide' (show (∀ p ∈ L, W64 p.grp) ∧ W64 p.grp from ⟨hw, hw p (mem_at hp)⟩)

  clear h hp hx hg hon ht hw
  go_enter Try.func11, Try.ntmps11
  go_wp2_with fail
  refine HF.out.mono ?_
  rintro _ w1 ⟨rfl, hs⟩
  have HC := hide' (HCC.out.keep hs)
  have HO := hide' (fun w' (hs' : Stay (fun _ => False) w1 w') => on38 g (i * 6) p t w' (HC.out.keep hs'))
  rw [HON.out] at HO
  have HT1 := hide' (HT.out.keep hs)
  have HFR := hide' (fun w' (hs' : Stay (fun _ => False) w1 w') => front18 t (HT1.out.keep hs') HWT.out)
  have HS1 := hide' hs
  have c5 := HC.out.c5
  rw [hdf] at c5
  clear hs HF HCC HT
  go_upto_region 4 with fail
  have hS : Stay (fun _ => False) w1 w1.drew := (Stay.refl _ _).drew
  refine wp_region_mix (fun w' => Stay (fun _ => False) w1 w') [(0, true), (1, true), (2, false), (3, true), (4, true), (5, true), (6, true), (7, true), (8, true), (9, true), (10, true), (11, false), (12, true), (13, true), (14, true), (15, true), (16, true), (17, true), (18, true), (19, true), (20, true), (21, true), (22, true), (23, true), (24, true), (25, true), (26, true), (27, true)] (by kernel_rfl) (by kernel_rfl) (fun _ d _ _ _ h => by cases d <;> exact h) hS ?_
  refine mix_begin (fun K0 hK0 => ?_)
  refine mix_take hK0 (some 20) (.move (.tmp 12)) 74 _ (by kernel_rfl) (by kernel_rfl) (fun w' hS' => by (simp only [opr]; go_simp; try with_reducible rfl)) (fun K1 hK1 => ?_)
  clear hK0 K0
  simp only [Act.put, lA, lZ, lS]
  refine mix_take hK1 (some 21) (.move (.tmp 2)) 3 _ (by kernel_rfl) (by kernel_rfl) (fun w' hS' => by (simp only [opr]; go_simp; try with_reducible rfl)) (fun K2 hK2 => ?_)
  clear hK1 K1
  simp only [Act.put, lA, lZ, lS]
  refine mix_call hK2 (some 22) 38 #[.tmp 20, .tmp 21] #[74, 3] 4 _ (by kernel_rfl) (by kernel_rfl) (enters Try.func38 (by kernel_rfl) (by kernel_rfl)) (by go_simp; try with_reducible rfl) (fun K3 hK3 => ?_)
  clear hK2 K2
  refine (HO.out _ hS).mono ?_
  rintro e wm1 ⟨rfl, hs1⟩
  have hS1 : _ := hS.trans hs1
  refine ⟨_, rfl, hS1, ?_⟩
  clear hs1
  simp only [Act.put, lA, lZ, lS]
  refine mix_take hK3 (some 23) (.unOp UnOp.not 4 (.tmp 22)) 4 _ (by kernel_rfl) (by kernel_rfl) (fun w' hS' => by (simp only [opr]; go_simp; try with_reducible rfl)) (fun K4 hK4 => ?_)
  clear hK3 K3
  simp only [Act.put, lA, lZ, lS]
  refine mix_take hK4 (some 24) (.move (.tmp 23)) 4 _ (by kernel_rfl) (by kernel_rfl) (fun w' hS' => by (simp only [opr]; go_simp; try with_reducible rfl)) (fun K5 hK5 => ?_)
  clear hK4 K4
  simp only [Act.put, lA, lZ, lS]
  refine mix_take hK5 (some 25) (.move (.tmp 12)) 74 _ (by kernel_rfl) (by kernel_rfl) (fun w' hS' => by (simp only [opr]; go_simp; try with_reducible rfl)) (fun K6 hK6 => ?_)
  clear hK5 K5
  simp only [Act.put, lA, lZ, lS]
  refine mix_take hK6 (some 26) (.nilCheck (.tmp 25)) 0 _ (by kernel_rfl) (by kernel_rfl) (fun w' hS' => by (simp only [opr]; go_simp; try with_reducible rfl)) (fun K7 hK7 => ?_)
  clear hK6 K6
  simp only [Act.put, lA, lZ, lS]
  refine mix_take hK7 (some 27) (.fieldAddr 40 (.tmp 26) 2) 0 _ (by kernel_rfl) (by kernel_rfl) (fun w' hS' => by (simp only [opr]; go_simp; try with_reducible rfl)) (fun K8 hK8 => ?_)
  clear hK7 K7
  simp only [Act.put, lA, lZ, lS]
  refine mix_take hK8 (some 28) (.load 3 (.tmp 27)) 3 _ (by kernel_rfl) (by kernel_rfl) (fun w' hS' => by (have k2 := keep_cell hS' HC.out.c2; simp only [opr]; go_simp; try with_reducible rfl)) (fun K9 hK9 => ?_)
  clear hK8 K8
  simp only [Act.put, lA, lZ, lS]
  refine mix_take hK9 (some 29) (.move (.tmp 0)) 24 _ (by kernel_rfl) (by kernel_rfl) (fun w' hS' => by (simp only [opr]; go_simp; try with_reducible rfl)) (fun K10 hK10 => ?_)
  clear hK9 K9
  simp only [Act.put, lA, lZ, lS]
  refine mix_take hK10 (some 30) (.move (.tmp 2)) 3 _ (by kernel_rfl) (by kernel_rfl) (fun w' hS' => by (simp only [opr]; go_simp; try with_reducible rfl)) (fun K11 hK11 => ?_)
  clear hK10 K10
  simp only [Act.put, lA, lZ, lS]
  refine mix_call hK11 (some 31) 18 #[.tmp 29, .tmp 30] #[24, 3] 3 _ (by kernel_rfl) (by kernel_rfl) (enters Try.func18 (by kernel_rfl) (by kernel_rfl)) (by go_simp; try with_reducible rfl) (fun K12 hK12 => ?_)
  clear hK11 K11
  refine (HFR.out _ hS1).mono ?_
  rintro e wm2 ⟨rfl, hs2⟩
  have hS2 : _ := hS1.trans hs2
  refine ⟨_, rfl, hS2, ?_⟩
  clear hs2
  simp only [Act.put, lA, lZ, lS]
  refine mix_take hK12 (some 32) (.binOp BinOp.eql 3 (.tmp 28) (.tmp 31) 3) 4 _ (by kernel_rfl) (by kernel_rfl) (fun w' hS' => by (simp only [opr]; go_simp; try with_reducible rfl)) (fun K13 hK13 => ?_)
  clear hK12 K12
  simp only [Act.put, lA, lZ, lS]
  refine mix_take hK13 (some 33) (.pick (.tmp 24) (.const (Value.bool true)) (.tmp 32)) 4 _ (by kernel_rfl) (by kernel_rfl) (fun w' hS' => by (simp only [opr]; go_simp; try with_reducible rfl)) (fun K14 hK14 => ?_)
  clear hK13 K13
  simp only [Act.put, lA, lZ, lS]
  refine mix_take hK14 (some 34) (.move (.tmp 33)) 4 _ (by kernel_rfl) (by kernel_rfl) (fun w' hS' => by (simp only [opr]; go_simp; try with_reducible rfl)) (fun K15 hK15 => ?_)
  clear hK14 K14
  simp only [Act.put, lA, lZ, lS]
  refine mix_take hK15 (some 35) (.move (.tmp 3)) 4 _ (by kernel_rfl) (by kernel_rfl) (fun w' hS' => by (simp only [opr]; go_simp; try with_reducible rfl)) (fun K16 hK16 => ?_)
  clear hK15 K15
  simp only [Act.put, lA, lZ, lS]
  refine mix_take hK16 (some 36) (.move (.tmp 35)) 4 _ (by kernel_rfl) (by kernel_rfl) (fun w' hS' => by (simp only [opr]; go_simp; try with_reducible rfl)) (fun K17 hK17 => ?_)
  clear hK16 K16
  simp only [Act.put, lA, lZ, lS]
  refine mix_skip hK17 (some 37) (by kernel_rfl) (by kernel_rfl) hS2 (fun K18 hK18 => ?_)
  clear hK17 K17
  simp only [Act.put, lA, lZ, lS]
  refine mix_skip hK18 (some 38) (by kernel_rfl) (by kernel_rfl) hS2 (fun K19 hK19 => ?_)
  clear hK18 K18
  simp only [Act.put, lA, lZ, lS]
  refine mix_skip hK19 (some 39) (by kernel_rfl) (by kernel_rfl) hS2 (fun K20 hK20 => ?_)
  clear hK19 K19
  simp only [Act.put, lA, lZ, lS]
  refine mix_skip hK20 (some 40) (by kernel_rfl) (by kernel_rfl) hS2 (fun K21 hK21 => ?_)
  clear hK20 K20
  simp only [Act.put, lA, lZ, lS]
  refine mix_skip hK21 (some 41) (by kernel_rfl) (by kernel_rfl) hS2 (fun K22 hK22 => ?_)
  clear hK21 K21
  simp only [Act.put, lA, lZ, lS]
  refine mix_skip hK22 (some 42) (by kernel_rfl) (by kernel_rfl) hS2 (fun K23 hK23 => ?_)
  clear hK22 K22
  simp only [Act.put, lA, lZ, lS]
  refine mix_skip hK23 (some 43) (by kernel_rfl) (by kernel_rfl) hS2 (fun K24 hK24 => ?_)
  clear hK23 K23
  simp only [Act.put, lA, lZ, lS]
  refine mix_skip hK24 (some 44) (by kernel_rfl) (by kernel_rfl) hS2 (fun K25 hK25 => ?_)
  clear hK24 K24
  simp only [Act.put, lA, lZ, lS]
  refine mix_take hK25 (some 45) (.pick (.tmp 36) (.tmp 44) (.const (Value.bool false))) 4 _ (by kernel_rfl) (by kernel_rfl) (fun w' hS' => by (simp only [opr]; go_simp; try with_reducible rfl)) (fun K26 hK26 => ?_)
  clear hK25 K25
  simp only [Act.put, lA, lZ, lS]
  refine mix_take hK26 (some 46) (.pick (.tmp 34) (.const (Value.bool true)) (.tmp 45)) 4 _ (by kernel_rfl) (by kernel_rfl) (fun w' hS' => by (simp only [opr]; go_simp; try with_reducible rfl)) (fun K27 hK27 => ?_)
  clear hK26 K26
  simp only [Act.put, lA, lZ, lS]
  refine mix_take hK27 (some 19) (.assign (.tmp 46)) 4 _ (by kernel_rfl) (by kernel_rfl) (fun w' hS' => by (simp only [opr]; go_simp; try with_reducible rfl)) (fun K28 hK28 => ?_)
  clear hK27 K27
  simp only [Act.put, lA, lZ, lS]
  refine hK28 _ _ (mix_nil ?_)
  clear hK28 K28
  have HS2 := hide' hS2
  have c5 := keep_cell hS2 c5
  clear hS hS1 hS2 HO HFR
  go_wp2
  go_returns
  exact ⟨none, 0, rfl, SV.nil _, HS1.out.trans HS2.out, fun j hj => by cases hj⟩

set_option maxRecDepth 100000 in
set_option maxHeartbeats 1000000 in
theorem may11_E2 (x t : Int) (ts : Bool) (h : TM w q L md f c) (hp : L[i]? = some p) (hx : p.pid = x) (ht : W64 t) (hw : ∀ p ∈ L, W64 p.grp) (hon : onB p t = true) (hsame : (p.grp == f t) = false) (hdf : p.df = false) (hor : orphB L p.grp = true) : Calls Try.prog 11 #[.pointer (some ⟨q.b, 0, none⟩), .int .i64 x, .int .i64 t, .bool false, .bool ts] w (GivesNS 2 [] w) := by
  obtain ⟨g, hg⟩ := h.rb
  have HF := hide' (find37_at x h hp hx hg)
  have HT := hide' h
  have HCC := hide' (h.cellsAt hg hp).1
  have HON := hide' hon
  have HWT := hide' ht
  have HWG := hide' (show (∀ p ∈ L, W64 p.grp) ∧ W64 p.grp from ⟨hw, hw p (mem_at hp)⟩)
  have HOR := hide' hor
  clear h hp hx hg hon ht hw hor
  go_enter Try.func11, Try.ntmps11
  go_wp2_with fail
  refine HF.out.mono ?_
  rintro _ w1 ⟨rfl, hs⟩
  have HC := hide' (HCC.out.keep hs)
  have HO := hide' (fun w' (hs' : Stay (fun _ => False) w1 w') => on38 g (i * 6) p t w' (HC.out.keep hs'))
  rw [HON.out] at HO
  have HT1 := hide' (HT.out.keep hs)
  have HFR := hide' (fun w' (hs' : Stay (fun _ => False) w1 w') => front18 t (HT1.out.keep hs') HWT.out)
  have HS1 := hide' hs
  have c5 := HC.out.c5
  rw [hdf] at c5
  clear hs HF HCC HT
  go_upto_region 4 with fail
  have hS : Stay (fun _ => False) w1 w1.drew := (Stay.refl _ _).drew
  refine wp_region_mix (fun w' => Stay (fun _ => False) w1 w') [(0, true), (1, true), (2, false), (3, true), (4, true), (5, true), (6, true), (7, true), (8, true), (9, true), (10, true), (11, false), (12, true), (13, true), (14, true), (15, true), (16, true), (17, true), (18, true), (19, true), (20, true), (21, true), (22, true), (23, true), (24, true), (25, true), (26, true), (27, true)] (by kernel_rfl) (by kernel_rfl) (fun _ d _ _ _ h => by cases d <;> exact h) hS ?_
  refine mix_begin (fun K0 hK0 => ?_)
  refine mix_take hK0 (some 20) (.move (.tmp 12)) 74 _ (by kernel_rfl) (by kernel_rfl) (fun w' hS' => by (simp only [opr]; go_simp; try with_reducible rfl)) (fun K1 hK1 => ?_)
  clear hK0 K0
  simp only [Act.put, lA, lZ, lS]
  refine mix_take hK1 (some 21) (.move (.tmp 2)) 3 _ (by kernel_rfl) (by kernel_rfl) (fun w' hS' => by (simp only [opr]; go_simp; try with_reducible rfl)) (fun K2 hK2 => ?_)
  clear hK1 K1
  simp only [Act.put, lA, lZ, lS]
  refine mix_call hK2 (some 22) 38 #[.tmp 20, .tmp 21] #[74, 3] 4 _ (by kernel_rfl) (by kernel_rfl) (enters Try.func38 (by kernel_rfl) (by kernel_rfl)) (by go_simp; try with_reducible rfl) (fun K3 hK3 => ?_)
  clear hK2 K2
  refine (HO.out _ hS).mono ?_
  rintro e wm1 ⟨rfl, hs1⟩
  have hS1 : _ := hS.trans hs1
  refine ⟨_, rfl, hS1, ?_⟩
  clear hs1
  simp only [Act.put, lA, lZ, lS]
  refine mix_take hK3 (some 23) (.unOp UnOp.not 4 (.tmp 22)) 4 _ (by kernel_rfl) (by kernel_rfl) (fun w' hS' => by (simp only [opr]; go_simp; try with_reducible rfl)) (fun K4 hK4 => ?_)
  clear hK3 K3
  simp only [Act.put, lA, lZ, lS]
  refine mix_take hK4 (some 24) (.move (.tmp 23)) 4 _ (by kernel_rfl) (by kernel_rfl) (fun w' hS' => by (simp only [opr]; go_simp; try with_reducible rfl)) (fun K5 hK5 => ?_)
  clear hK4 K4
  simp only [Act.put, lA, lZ, lS]
  refine mix_take hK5 (some 25) (.move (.tmp 12)) 74 _ (by kernel_rfl) (by kernel_rfl) (fun w' hS' => by (simp only [opr]; go_simp; try with_reducible rfl)) (fun K6 hK6 => ?_)
  clear hK5 K5
  simp only [Act.put, lA, lZ, lS]
  refine mix_take hK6 (some 26) (.nilCheck (.tmp 25)) 0 _ (by kernel_rfl) (by kernel_rfl) (fun w' hS' => by (simp only [opr]; go_simp; try with_reducible rfl)) (fun K7 hK7 => ?_)
  clear hK6 K6
  simp only [Act.put, lA, lZ, lS]
  refine mix_take hK7 (some 27) (.fieldAddr 40 (.tmp 26) 2) 0 _ (by kernel_rfl) (by kernel_rfl) (fun w' hS' => by (simp only [opr]; go_simp; try with_reducible rfl)) (fun K8 hK8 => ?_)
  clear hK7 K7
  simp only [Act.put, lA, lZ, lS]
  refine mix_take hK8 (some 28) (.load 3 (.tmp 27)) 3 _ (by kernel_rfl) (by kernel_rfl) (fun w' hS' => by (have k2 := keep_cell hS' HC.out.c2; simp only [opr]; go_simp; try with_reducible rfl)) (fun K9 hK9 => ?_)
  clear hK8 K8
  simp only [Act.put, lA, lZ, lS]
  refine mix_take hK9 (some 29) (.move (.tmp 0)) 24 _ (by kernel_rfl) (by kernel_rfl) (fun w' hS' => by (simp only [opr]; go_simp; try with_reducible rfl)) (fun K10 hK10 => ?_)
  clear hK9 K9
  simp only [Act.put, lA, lZ, lS]
  refine mix_take hK10 (some 30) (.move (.tmp 2)) 3 _ (by kernel_rfl) (by kernel_rfl) (fun w' hS' => by (simp only [opr]; go_simp; try with_reducible rfl)) (fun K11 hK11 => ?_)
  clear hK10 K10
  simp only [Act.put, lA, lZ, lS]
  refine mix_call hK11 (some 31) 18 #[.tmp 29, .tmp 30] #[24, 3] 3 _ (by kernel_rfl) (by kernel_rfl) (enters Try.func18 (by kernel_rfl) (by kernel_rfl)) (by go_simp; try with_reducible rfl) (fun K12 hK12 => ?_)
  clear hK11 K11
  refine (HFR.out _ hS1).mono ?_
  rintro e wm2 ⟨rfl, hs2⟩
  have hS2 : _ := hS1.trans hs2
  refine ⟨_, rfl, hS2, ?_⟩
  clear hs2
  simp only [Act.put, lA, lZ, lS]
  refine mix_take hK12 (some 32) (.binOp BinOp.eql 3 (.tmp 28) (.tmp 31) 3) 4 _ (by kernel_rfl) (by kernel_rfl) (fun w' hS' => by (simp only [opr]; go_simp; try with_reducible rfl)) (fun K13 hK13 => ?_)
  clear hK12 K12
  simp only [Act.put, lA, lZ, lS]
  refine mix_take hK13 (some 33) (.pick (.tmp 24) (.const (Value.bool true)) (.tmp 32)) 4 _ (by kernel_rfl) (by kernel_rfl) (fun w' hS' => by (simp only [opr]; go_simp; try with_reducible rfl)) (fun K14 hK14 => ?_)
  clear hK13 K13
  simp only [Act.put, lA, lZ, lS]
  refine mix_take hK14 (some 34) (.move (.tmp 33)) 4 _ (by kernel_rfl) (by kernel_rfl) (fun w' hS' => by (simp only [opr]; go_simp; try with_reducible rfl)) (fun K15 hK15 => ?_)
  clear hK14 K14
  simp only [Act.put, lA, lZ, lS]
  refine mix_take hK15 (some 35) (.move (.tmp 3)) 4 _ (by kernel_rfl) (by kernel_rfl) (fun w' hS' => by (simp only [opr]; go_simp; try with_reducible rfl)) (fun K16 hK16 => ?_)
  clear hK15 K15
  simp only [Act.put, lA, lZ, lS]
  refine mix_take hK16 (some 36) (.move (.tmp 35)) 4 _ (by kernel_rfl) (by kernel_rfl) (fun w' hS' => by (simp only [opr]; go_simp; try with_reducible rfl)) (fun K17 hK17 => ?_)
  clear hK16 K16
  simp only [Act.put, lA, lZ, lS]
  refine mix_skip hK17 (some 37) (by kernel_rfl) (by kernel_rfl) hS2 (fun K18 hK18 => ?_)
  clear hK17 K17
  simp only [Act.put, lA, lZ, lS]
  refine mix_skip hK18 (some 38) (by kernel_rfl) (by kernel_rfl) hS2 (fun K19 hK19 => ?_)
  clear hK18 K18
  simp only [Act.put, lA, lZ, lS]
  refine mix_skip hK19 (some 39) (by kernel_rfl) (by kernel_rfl) hS2 (fun K20 hK20 => ?_)
  clear hK19 K19
  simp only [Act.put, lA, lZ, lS]
  refine mix_skip hK20 (some 40) (by kernel_rfl) (by kernel_rfl) hS2 (fun K21 hK21 => ?_)
  clear hK20 K20
  simp only [Act.put, lA, lZ, lS]
  refine mix_skip hK21 (some 41) (by kernel_rfl) (by kernel_rfl) hS2 (fun K22 hK22 => ?_)
  clear hK21 K21
  simp only [Act.put, lA, lZ, lS]
  refine mix_skip hK22 (some 42) (by kernel_rfl) (by kernel_rfl) hS2 (fun K23 hK23 => ?_)
  clear hK22 K22
  simp only [Act.put, lA, lZ, lS]
  refine mix_skip hK23 (some 43) (by kernel_rfl) (by kernel_rfl) hS2 (fun K24 hK24 => ?_)
  clear hK23 K23
  simp only [Act.put, lA, lZ, lS]
  refine mix_skip hK24 (some 44) (by kernel_rfl) (by kernel_rfl) hS2 (fun K25 hK25 => ?_)
  clear hK24 K24
  simp only [Act.put, lA, lZ, lS]
  refine mix_take hK25 (some 45) (.pick (.tmp 36) (.tmp 44) (.const (Value.bool false))) 4 _ (by kernel_rfl) (by kernel_rfl) (fun w' hS' => by (simp only [opr]; go_simp; try with_reducible rfl)) (fun K26 hK26 => ?_)
  clear hK25 K25
  simp only [Act.put, lA, lZ, lS]
  refine mix_take hK26 (some 46) (.pick (.tmp 34) (.const (Value.bool true)) (.tmp 45)) 4 _ (by kernel_rfl) (by kernel_rfl) (fun w' hS' => by (simp only [opr]; go_simp; try with_reducible rfl)) (fun K27 hK27 => ?_)
  clear hK26 K26
  simp only [Act.put, lA, lZ, lS]
  refine mix_take hK27 (some 19) (.assign (.tmp 46)) 4 _ (by kernel_rfl) (by kernel_rfl) (fun w' hS' => by (simp only [opr]; go_simp; try with_reducible rfl)) (fun K28 hK28 => ?_)
  clear hK27 K27
  simp only [Act.put, lA, lZ, lS]
  refine hK28 _ _ (mix_nil ?_)
  clear hK28 K28
  have HS2 := hide' hS2
  have c5 := keep_cell hS2 c5
  clear hS hS1 hS2 HO HFR
  have k2 := (HC.out.keep HS2.out).c2
  have HR := hide' (orphan16 p.grp (HT1.out.keep HS2.out) HWG.out.1 HWG.out.2)
  rw [HOR.out] at HR
  go_wp2_with fail
  refine HR.out.mono ?_
  rintro _ w4 ⟨rfl, hs⟩
  have HS4 := hide' (HS2.out.trans hs)
  have k2 := keep_cell hs k2
  clear hs HR
  go_wp2
  go_returns
  exact ⟨none, 0, rfl, SV.nil _, HS1.out.trans HS4.out, fun j hj => by cases hj⟩

set_option maxRecDepth 100000 in
set_option maxHeartbeats 1000000 in
theorem may11_E3 (x t : Int) (ts : Bool) (h : TM w q L md f c) (hp : L[i]? = some p) (hx : p.pid = x) (ht : W64 t) (hw : ∀ p ∈ L, W64 p.grp) (hon : onB p t = true) (hsame : (p.grp == f t) = false) (hdf : p.df = false) (hor : orphB L p.grp = false) : Calls Try.prog 11 #[.pointer (some ⟨q.b, 0, none⟩), .int .i64 x, .int .i64 t, .bool false, .bool ts] w (GivesNS 1 (sigsTo L p.grp [6]) w) := by
  obtain ⟨g, hg⟩ := h.rb
  have HF := hide' (find37_at x h hp hx hg)
  have HT := hide' h
  have HCC := hide' (h.cellsAt hg hp).1
  have HON := hide' hon
  have HWT := hide' ht
  have HWG := hide' (show (∀ p ∈ L, W64 p.grp) ∧ W64 p.grp from ⟨hw, hw p (mem_at hp)⟩)
  have HOR := hide' hor
  clear h hp hx hg hon ht hw hor
  go_enter Try.func11, Try.ntmps11
  go_wp2_with fail
  refine HF.out.mono ?_
  rintro _ w1 ⟨rfl, hs⟩
  have HC := hide' (HCC.out.keep hs)
  have HO := hide' (fun w' (hs' : Stay (fun _ => False) w1 w') => on38 g (i * 6) p t w' (HC.out.keep hs'))
  rw [HON.out] at HO
  have HT1 := hide' (HT.out.keep hs)
  have HFR := hide' (fun w' (hs' : Stay (fun _ => False) w1 w') => front18 t (HT1.out.keep hs') HWT.out)
  have HS1 := hide' hs
  have c5 := HC.out.c5
  rw [hdf] at c5
  clear hs HF HCC HT
  go_upto_region 4 with fail
  have hS : Stay (fun _ => False) w1 w1.drew := (Stay.refl _ _).drew
  refine wp_region_mix (fun w' => Stay (fun _ => False) w1 w') [(0, true), (1, true), (2, false), (3, true), (4, true), (5, true), (6, true), (7, true), (8, true), (9, true), (10, true), (11, false), (12, true), (13, true), (14, true), (15, true), (16, true), (17, true), (18, true), (19, true), (20, true), (21, true), (22, true), (23, true), (24, true), (25, true), (26, true), (27, true)] (by kernel_rfl) (by kernel_rfl) (fun _ d _ _ _ h => by cases d <;> exact h) hS ?_
  refine mix_begin (fun K0 hK0 => ?_)
  refine mix_take hK0 (some 20) (.move (.tmp 12)) 74 _ (by kernel_rfl) (by kernel_rfl) (fun w' hS' => by (simp only [opr]; go_simp; try with_reducible rfl)) (fun K1 hK1 => ?_)
  clear hK0 K0
  simp only [Act.put, lA, lZ, lS]
  refine mix_take hK1 (some 21) (.move (.tmp 2)) 3 _ (by kernel_rfl) (by kernel_rfl) (fun w' hS' => by (simp only [opr]; go_simp; try with_reducible rfl)) (fun K2 hK2 => ?_)
  clear hK1 K1
  simp only [Act.put, lA, lZ, lS]
  refine mix_call hK2 (some 22) 38 #[.tmp 20, .tmp 21] #[74, 3] 4 _ (by kernel_rfl) (by kernel_rfl) (enters Try.func38 (by kernel_rfl) (by kernel_rfl)) (by go_simp; try with_reducible rfl) (fun K3 hK3 => ?_)
  clear hK2 K2
  refine (HO.out _ hS).mono ?_
  rintro e wm1 ⟨rfl, hs1⟩
  have hS1 : _ := hS.trans hs1
  refine ⟨_, rfl, hS1, ?_⟩
  clear hs1
  simp only [Act.put, lA, lZ, lS]
  refine mix_take hK3 (some 23) (.unOp UnOp.not 4 (.tmp 22)) 4 _ (by kernel_rfl) (by kernel_rfl) (fun w' hS' => by (simp only [opr]; go_simp; try with_reducible rfl)) (fun K4 hK4 => ?_)
  clear hK3 K3
  simp only [Act.put, lA, lZ, lS]
  refine mix_take hK4 (some 24) (.move (.tmp 23)) 4 _ (by kernel_rfl) (by kernel_rfl) (fun w' hS' => by (simp only [opr]; go_simp; try with_reducible rfl)) (fun K5 hK5 => ?_)
  clear hK4 K4
  simp only [Act.put, lA, lZ, lS]
  refine mix_take hK5 (some 25) (.move (.tmp 12)) 74 _ (by kernel_rfl) (by kernel_rfl) (fun w' hS' => by (simp only [opr]; go_simp; try with_reducible rfl)) (fun K6 hK6 => ?_)
  clear hK5 K5
  simp only [Act.put, lA, lZ, lS]
  refine mix_take hK6 (some 26) (.nilCheck (.tmp 25)) 0 _ (by kernel_rfl) (by kernel_rfl) (fun w' hS' => by (simp only [opr]; go_simp; try with_reducible rfl)) (fun K7 hK7 => ?_)
  clear hK6 K6
  simp only [Act.put, lA, lZ, lS]
  refine mix_take hK7 (some 27) (.fieldAddr 40 (.tmp 26) 2) 0 _ (by kernel_rfl) (by kernel_rfl) (fun w' hS' => by (simp only [opr]; go_simp; try with_reducible rfl)) (fun K8 hK8 => ?_)
  clear hK7 K7
  simp only [Act.put, lA, lZ, lS]
  refine mix_take hK8 (some 28) (.load 3 (.tmp 27)) 3 _ (by kernel_rfl) (by kernel_rfl) (fun w' hS' => by (have k2 := keep_cell hS' HC.out.c2; simp only [opr]; go_simp; try with_reducible rfl)) (fun K9 hK9 => ?_)
  clear hK8 K8
  simp only [Act.put, lA, lZ, lS]
  refine mix_take hK9 (some 29) (.move (.tmp 0)) 24 _ (by kernel_rfl) (by kernel_rfl) (fun w' hS' => by (simp only [opr]; go_simp; try with_reducible rfl)) (fun K10 hK10 => ?_)
  clear hK9 K9
  simp only [Act.put, lA, lZ, lS]
  refine mix_take hK10 (some 30) (.move (.tmp 2)) 3 _ (by kernel_rfl) (by kernel_rfl) (fun w' hS' => by (simp only [opr]; go_simp; try with_reducible rfl)) (fun K11 hK11 => ?_)
  clear hK10 K10
  simp only [Act.put, lA, lZ, lS]
  refine mix_call hK11 (some 31) 18 #[.tmp 29, .tmp 30] #[24, 3] 3 _ (by kernel_rfl) (by kernel_rfl) (enters Try.func18 (by kernel_rfl) (by kernel_rfl)) (by go_simp; try with_reducible rfl) (fun K12 hK12 => ?_)
  clear hK11 K11
  refine (HFR.out _ hS1).mono ?_
  rintro e wm2 ⟨rfl, hs2⟩
  have hS2 : _ := hS1.trans hs2
  refine ⟨_, rfl, hS2, ?_⟩
  clear hs2
  simp only [Act.put, lA, lZ, lS]
  refine mix_take hK12 (some 32) (.binOp BinOp.eql 3 (.tmp 28) (.tmp 31) 3) 4 _ (by kernel_rfl) (by kernel_rfl) (fun w' hS' => by (simp only [opr]; go_simp; try with_reducible rfl)) (fun K13 hK13 => ?_)
  clear hK12 K12
  simp only [Act.put, lA, lZ, lS]
  refine mix_take hK13 (some 33) (.pick (.tmp 24) (.const (Value.bool true)) (.tmp 32)) 4 _ (by kernel_rfl) (by kernel_rfl) (fun w' hS' => by (simp only [opr]; go_simp; try with_reducible rfl)) (fun K14 hK14 => ?_)
  clear hK13 K13
  simp only [Act.put, lA, lZ, lS]
  refine mix_take hK14 (some 34) (.move (.tmp 33)) 4 _ (by kernel_rfl) (by kernel_rfl) (fun w' hS' => by (simp only [opr]; go_simp; try with_reducible rfl)) (fun K15 hK15 => ?_)
  clear hK14 K14
  simp only [Act.put, lA, lZ, lS]
  refine mix_take hK15 (some 35) (.move (.tmp 3)) 4 _ (by kernel_rfl) (by kernel_rfl) (fun w' hS' => by (simp only [opr]; go_simp; try with_reducible rfl)) (fun K16 hK16 => ?_)
  clear hK15 K15
  simp only [Act.put, lA, lZ, lS]
  refine mix_take hK16 (some 36) (.move (.tmp 35)) 4 _ (by kernel_rfl) (by kernel_rfl) (fun w' hS' => by (simp only [opr]; go_simp; try with_reducible rfl)) (fun K17 hK17 => ?_)
  clear hK16 K16
  simp only [Act.put, lA, lZ, lS]
  refine mix_skip hK17 (some 37) (by kernel_rfl) (by kernel_rfl) hS2 (fun K18 hK18 => ?_)
  clear hK17 K17
  simp only [Act.put, lA, lZ, lS]
  refine mix_skip hK18 (some 38) (by kernel_rfl) (by kernel_rfl) hS2 (fun K19 hK19 => ?_)
  clear hK18 K18
  simp only [Act.put, lA, lZ, lS]
  refine mix_skip hK19 (some 39) (by kernel_rfl) (by kernel_rfl) hS2 (fun K20 hK20 => ?_)
  clear hK19 K19
  simp only [Act.put, lA, lZ, lS]
  refine mix_skip hK20 (some 40) (by kernel_rfl) (by kernel_rfl) hS2 (fun K21 hK21 => ?_)
  clear hK20 K20
  simp only [Act.put, lA, lZ, lS]
  refine mix_skip hK21 (some 41) (by kernel_rfl) (by kernel_rfl) hS2 (fun K22 hK22 => ?_)
  clear hK21 K21
  simp only [Act.put, lA, lZ, lS]
  refine mix_skip hK22 (some 42) (by kernel_rfl) (by kernel_rfl) hS2 (fun K23 hK23 => ?_)
  clear hK22 K22
  simp only [Act.put, lA, lZ, lS]
  refine mix_skip hK23 (some 43) (by kernel_rfl) (by kernel_rfl) hS2 (fun K24 hK24 => ?_)
  clear hK23 K23
  simp only [Act.put, lA, lZ, lS]
  refine mix_skip hK24 (some 44) (by kernel_rfl) (by kernel_rfl) hS2 (fun K25 hK25 => ?_)
  clear hK24 K24
  simp only [Act.put, lA, lZ, lS]
  refine mix_take hK25 (some 45) (.pick (.tmp 36) (.tmp 44) (.const (Value.bool false))) 4 _ (by kernel_rfl) (by kernel_rfl) (fun w' hS' => by (simp only [opr]; go_simp; try with_reducible rfl)) (fun K26 hK26 => ?_)
  clear hK25 K25
  simp only [Act.put, lA, lZ, lS]
  refine mix_take hK26 (some 46) (.pick (.tmp 34) (.const (Value.bool true)) (.tmp 45)) 4 _ (by kernel_rfl) (by kernel_rfl) (fun w' hS' => by (simp only [opr]; go_simp; try with_reducible rfl)) (fun K27 hK27 => ?_)
  clear hK26 K26
  simp only [Act.put, lA, lZ, lS]
  refine mix_take hK27 (some 19) (.assign (.tmp 46)) 4 _ (by kernel_rfl) (by kernel_rfl) (fun w' hS' => by (simp only [opr]; go_simp; try with_reducible rfl)) (fun K28 hK28 => ?_)
  clear hK27 K27
  simp only [Act.put, lA, lZ, lS]
  refine hK28 _ _ (mix_nil ?_)
  clear hK28 K28
  have HS2 := hide' hS2
  have c5 := keep_cell hS2 c5
  clear hS hS1 hS2 HO HFR
  have k2 := (HC.out.keep HS2.out).c2
  have HR := hide' (orphan16 p.grp (HT1.out.keep HS2.out) HWG.out.1 HWG.out.2)
  rw [HOR.out] at HR
  go_wp2_with fail
  refine HR.out.mono ?_
  rintro _ w4 ⟨rfl, hs⟩
  have HS4 := hide' (HS2.out.trans hs)
  have k2 := keep_cell hs k2
  clear hs HR
  have HSG := hide' (fun (W : World) (hs : Stay (fun _ => False) w4 W) (B : Nat) (k0 : W.cell? ⟨B, 0, none⟩ = some (.int .i64 6)) => signals p.grp B [6] (HT1.out.keep (HS4.out.trans hs)) (fun j hj => by
    match j, hj with
    | 0, _ => exact k0) (by decide))
  go_wp2_with fail
  refine (HSG.out _ ?_ _ ?_).mono ?_
  · exact (Stay.refl _ _).alloc _
  · simp
  rintro _ w5 ⟨a, cap, rfl, hsv, hs, hb⟩
  have hs' : Stay (fun _ => False) w4 w5 := ((Stay.refl _ _).alloc _).trans hs
  have HE := hide' (show SV w5 a cap (sigsTo L p.grp [6]) ∧ Stay (fun _ => False) w w5 ∧ ∀ j, a.map Addr.block = some j → w.heap.size ≤ j from ⟨hsv, (HS1.out.trans HS4.out).trans hs', fun j hj => by
    have h1 := hb j hj
    have h2 := (HS1.out.trans HS4.out).size
    simp at h1
    omega⟩)
  clear hsv hs hs' hb HSG k2
  go_wp2
  go_returns
  exact ⟨a, cap, rfl, HE.out⟩

set_option maxRecDepth 100000 in
set_option maxHeartbeats 1000000 in
theorem may11_F1 (x t : Int) (h : TM w q L md f c) (hp : L[i]? = some p) (hx : p.pid = x) (ht : W64 t) (hw : ∀ p ∈ L, W64 p.grp) (hon : onB p t = true) (hsame : (p.grp == f t) = false) (hdf : p.df = false) (hor : orphB L p.grp = true) : Calls Try.prog 11 #[.pointer (some ⟨q.b, 0, none⟩), .int .i64 x, .int .i64 t, .bool true, .bool true] w (GivesNS 2 [] w) := by
  obtain ⟨g, hg⟩ := h.rb
  have HF := hide' (find37_at x h hp hx hg)
  have HT := hide' h
  have HCC := hide' (h.cellsAt hg hp).1
  have HON := hide' hon
  have HWT := hide' ht
  have HWG := hide' (show (∀ p ∈ L, W64 p.grp) ∧ W64 p.grp from ⟨hw, hw p (mem_at hp)⟩)
  have HOR := hide' hor
  clear h hp hx hg hon ht hw hor
  go_enter Try.func11, Try.ntmps11
  go_wp2_with fail
  refine HF.out.mono ?_
  rintro _ w1 ⟨rfl, hs⟩
  have HC := hide' (HCC.out.keep hs)
  have HO := hide' (fun w' (hs' : Stay (fun _ => False) w1 w') => on38 g (i * 6) p t w' (HC.out.keep hs'))
  rw [HON.out] at HO
  have HT1 := hide' (HT.out.keep hs)
  have HFR := hide' (fun w' (hs' : Stay (fun _ => False) w1 w') => front18 t (HT1.out.keep hs') HWT.out)
  have HS1 := hide' hs
  have c5 := HC.out.c5
  rw [hdf] at c5
  clear hs HF HCC HT
  go_upto_region 4 with fail
  have hS : Stay (fun _ => False) w1 w1.drew := (Stay.refl _ _).drew
  refine wp_region_mix (fun w' => Stay (fun _ => False) w1 w') [(0, true), (1, true), (2, false), (3, true), (4, true), (5, true), (6, true), (7, true), (8, true), (9, true), (10, true), (11, false), (12, true), (13, true), (14, true), (15, true), (16, true), (17, true), (18, true), (19, true), (20, true), (21, true), (22, true), (23, true), (24, true), (25, true), (26, true), (27, true)] (by kernel_rfl) (by kernel_rfl) (fun _ d _ _ _ h => by cases d <;> exact h) hS ?_
  refine mix_begin (fun K0 hK0 => ?_)
  refine mix_take hK0 (some 20) (.move (.tmp 12)) 74 _ (by kernel_rfl) (by kernel_rfl) (fun w' hS' => by (simp only [opr]; go_simp; try with_reducible rfl)) (fun K1 hK1 => ?_)
  clear hK0 K0
  simp only [Act.put, lA, lZ, lS]
  refine mix_take hK1 (some 21) (.move (.tmp 2)) 3 _ (by kernel_rfl) (by kernel_rfl) (fun w' hS' => by (simp only [opr]; go_simp; try with_reducible rfl)) (fun K2 hK2 => ?_)
  clear hK1 K1
  simp only [Act.put, lA, lZ, lS]
  refine mix_call hK2 (some 22) 38 #[.tmp 20, .tmp 21] #[74, 3] 4 _ (by kernel_rfl) (by kernel_rfl) (enters Try.func38 (by kernel_rfl) (by kernel_rfl)) (by go_simp; try with_reducible rfl) (fun K3 hK3 => ?_)
  clear hK2 K2
  refine (HO.out _ hS).mono ?_
  rintro e wm1 ⟨rfl, hs1⟩
  have hS1 : _ := hS.trans hs1
  refine ⟨_, rfl, hS1, ?_⟩
  clear hs1
  simp only [Act.put, lA, lZ, lS]
  refine mix_take hK3 (some 23) (.unOp UnOp.not 4 (.tmp 22)) 4 _ (by kernel_rfl) (by kernel_rfl) (fun w' hS' => by (simp only [opr]; go_simp; try with_reducible rfl)) (fun K4 hK4 => ?_)
  clear hK3 K3
  simp only [Act.put, lA, lZ, lS]
  refine mix_take hK4 (some 24) (.move (.tmp 23)) 4 _ (by kernel_rfl) (by kernel_rfl) (fun w' hS' => by (simp only [opr]; go_simp; try with_reducible rfl)) (fun K5 hK5 => ?_)
  clear hK4 K4
  simp only [Act.put, lA, lZ, lS]
  refine mix_take hK5 (some 25) (.move (.tmp 12)) 74 _ (by kernel_rfl) (by kernel_rfl) (fun w' hS' => by (simp only [opr]; go_simp; try with_reducible rfl)) (fun K6 hK6 => ?_)
  clear hK5 K5
  simp only [Act.put, lA, lZ, lS]
  refine mix_take hK6 (some 26) (.nilCheck (.tmp 25)) 0 _ (by kernel_rfl) (by kernel_rfl) (fun w' hS' => by (simp only [opr]; go_simp; try with_reducible rfl)) (fun K7 hK7 => ?_)
  clear hK6 K6
  simp only [Act.put, lA, lZ, lS]
  refine mix_take hK7 (some 27) (.fieldAddr 40 (.tmp 26) 2) 0 _ (by kernel_rfl) (by kernel_rfl) (fun w' hS' => by (simp only [opr]; go_simp; try with_reducible rfl)) (fun K8 hK8 => ?_)
  clear hK7 K7
  simp only [Act.put, lA, lZ, lS]
  refine mix_take hK8 (some 28) (.load 3 (.tmp 27)) 3 _ (by kernel_rfl) (by kernel_rfl) (fun w' hS' => by (have k2 := keep_cell hS' HC.out.c2; simp only [opr]; go_simp; try with_reducible rfl)) (fun K9 hK9 => ?_)
  clear hK8 K8
  simp only [Act.put, lA, lZ, lS]
  refine mix_take hK9 (some 29) (.move (.tmp 0)) 24 _ (by kernel_rfl) (by kernel_rfl) (fun w' hS' => by (simp only [opr]; go_simp; try with_reducible rfl)) (fun K10 hK10 => ?_)
  clear hK9 K9
  simp only [Act.put, lA, lZ, lS]
  refine mix_take hK10 (some 30) (.move (.tmp 2)) 3 _ (by kernel_rfl) (by kernel_rfl) (fun w' hS' => by (simp only [opr]; go_simp; try with_reducible rfl)) (fun K11 hK11 => ?_)
  clear hK10 K10
  simp only [Act.put, lA, lZ, lS]
  refine mix_call hK11 (some 31) 18 #[.tmp 29, .tmp 30] #[24, 3] 3 _ (by kernel_rfl) (by kernel_rfl) (enters Try.func18 (by kernel_rfl) (by kernel_rfl)) (by go_simp; try with_reducible rfl) (fun K12 hK12 => ?_)
  clear hK11 K11
  refine (HFR.out _ hS1).mono ?_
  rintro e wm2 ⟨rfl, hs2⟩
  have hS2 : _ := hS1.trans hs2
  refine ⟨_, rfl, hS2, ?_⟩
  clear hs2
  simp only [Act.put, lA, lZ, lS]
  refine mix_take hK12 (some 32) (.binOp BinOp.eql 3 (.tmp 28) (.tmp 31) 3) 4 _ (by kernel_rfl) (by kernel_rfl) (fun w' hS' => by (simp only [opr]; go_simp; try with_reducible rfl)) (fun K13 hK13 => ?_)
  clear hK12 K12
  simp only [Act.put, lA, lZ, lS]
  refine mix_take hK13 (some 33) (.pick (.tmp 24) (.const (Value.bool true)) (.tmp 32)) 4 _ (by kernel_rfl) (by kernel_rfl) (fun w' hS' => by (simp only [opr]; go_simp; try with_reducible rfl)) (fun K14 hK14 => ?_)
  clear hK13 K13
  simp only [Act.put, lA, lZ, lS]
  refine mix_take hK14 (some 34) (.move (.tmp 33)) 4 _ (by kernel_rfl) (by kernel_rfl) (fun w' hS' => by (simp only [opr]; go_simp; try with_reducible rfl)) (fun K15 hK15 => ?_)
  clear hK14 K14
  simp only [Act.put, lA, lZ, lS]
  refine mix_take hK15 (some 35) (.move (.tmp 3)) 4 _ (by kernel_rfl) (by kernel_rfl) (fun w' hS' => by (simp only [opr]; go_simp; try with_reducible rfl)) (fun K16 hK16 => ?_)
  clear hK15 K15
  simp only [Act.put, lA, lZ, lS]
  refine mix_take hK16 (some 36) (.move (.tmp 35)) 4 _ (by kernel_rfl) (by kernel_rfl) (fun w' hS' => by (simp only [opr]; go_simp; try with_reducible rfl)) (fun K17 hK17 => ?_)
  clear hK16 K16
  simp only [Act.put, lA, lZ, lS]
  refine mix_take hK17 (some 37) (.move (.tmp 4)) 4 _ (by kernel_rfl) (by kernel_rfl) (fun w' hS' => by (simp only [opr]; go_simp; try with_reducible rfl)) (fun K18 hK18 => ?_)
  clear hK17 K17
  simp only [Act.put, lA, lZ, lS]
  refine mix_take hK18 (some 38) (.unOp UnOp.not 4 (.tmp 37)) 4 _ (by kernel_rfl) (by kernel_rfl) (fun w' hS' => by (simp only [opr]; go_simp; try with_reducible rfl)) (fun K19 hK19 => ?_)
  clear hK18 K18
  simp only [Act.put, lA, lZ, lS]
  refine mix_take hK19 (some 39) (.move (.tmp 38)) 4 _ (by kernel_rfl) (by kernel_rfl) (fun w' hS' => by (simp only [opr]; go_simp; try with_reducible rfl)) (fun K20 hK20 => ?_)
  clear hK19 K19
  simp only [Act.put, lA, lZ, lS]
  refine mix_take hK20 (some 40) (.move (.tmp 12)) 74 _ (by kernel_rfl) (by kernel_rfl) (fun w' hS' => by (simp only [opr]; go_simp; try with_reducible rfl)) (fun K21 hK21 => ?_)
  clear hK20 K20
  simp only [Act.put, lA, lZ, lS]
  refine mix_take hK21 (some 41) (.nilCheck (.tmp 40)) 0 _ (by kernel_rfl) (by kernel_rfl) (fun w' hS' => by (simp only [opr]; go_simp; try with_reducible rfl)) (fun K22 hK22 => ?_)
  clear hK21 K21
  simp only [Act.put, lA, lZ, lS]
  refine mix_take hK22 (some 42) (.fieldAddr 40 (.tmp 41) 5) 0 _ (by kernel_rfl) (by kernel_rfl) (fun w' hS' => by (simp only [opr]; go_simp; try with_reducible rfl)) (fun K23 hK23 => ?_)
  clear hK22 K22
  simp only [Act.put, lA, lZ, lS]
  refine mix_take hK23 (some 43) (.load 4 (.tmp 42)) 4 _ (by kernel_rfl) (by kernel_rfl) (fun w' hS' => by (have k5 := keep_cell hS' c5; simp only [opr]; go_simp; try with_reducible rfl)) (fun K24 hK24 => ?_)
  clear hK23 K23
  simp only [Act.put, lA, lZ, lS]
  refine mix_take hK24 (some 44) (.pick (.tmp 39) (.const (Value.bool true)) (.tmp 43)) 4 _ (by kernel_rfl) (by kernel_rfl) (fun w' hS' => by (simp only [opr]; go_simp; try with_reducible rfl)) (fun K25 hK25 => ?_)
  clear hK24 K24
  simp only [Act.put, lA, lZ, lS]
  refine mix_take hK25 (some 45) (.pick (.tmp 36) (.tmp 44) (.const (Value.bool false))) 4 _ (by kernel_rfl) (by kernel_rfl) (fun w' hS' => by (simp only [opr]; go_simp; try with_reducible rfl)) (fun K26 hK26 => ?_)
  clear hK25 K25
  simp only [Act.put, lA, lZ, lS]
  refine mix_take hK26 (some 46) (.pick (.tmp 34) (.const (Value.bool true)) (.tmp 45)) 4 _ (by kernel_rfl) (by kernel_rfl) (fun w' hS' => by (simp only [opr]; go_simp; try with_reducible rfl)) (fun K27 hK27 => ?_)
  clear hK26 K26
  simp only [Act.put, lA, lZ, lS]
  refine mix_take hK27 (some 19) (.assign (.tmp 46)) 4 _ (by kernel_rfl) (by kernel_rfl) (fun w' hS' => by (simp only [opr]; go_simp; try with_reducible rfl)) (fun K28 hK28 => ?_)
  clear hK27 K27
  simp only [Act.put, lA, lZ, lS]
  refine hK28 _ _ (mix_nil ?_)
  clear hK28 K28
  have HS2 := hide' hS2
  have c5 := keep_cell hS2 c5
  clear hS hS1 hS2 HO HFR
  have k2 := (HC.out.keep HS2.out).c2
  have HR := hide' (orphan16 p.grp (HT1.out.keep HS2.out) HWG.out.1 HWG.out.2)
  rw [HOR.out] at HR
  go_wp2_with fail
  refine HR.out.mono ?_
  rintro _ w4 ⟨rfl, hs⟩
  have HS4 := hide' (HS2.out.trans hs)
  have k2 := keep_cell hs k2
  clear hs HR
  go_wp2
  go_returns
  exact ⟨none, 0, rfl, SV.nil _, HS1.out.trans HS4.out, fun j hj => by cases hj⟩

set_option maxRecDepth 100000 in
set_option maxHeartbeats 1000000 in
theorem may11_F2 (x t : Int) (h : TM w q L md f c) (hp : L[i]? = some p) (hx : p.pid = x) (ht : W64 t) (hw : ∀ p ∈ L, W64 p.grp) (hon : onB p t = true) (hsame : (p.grp == f t) = false) (hdf : p.df = false) (hor : orphB L p.grp = false) : Calls Try.prog 11 #[.pointer (some ⟨q.b, 0, none⟩), .int .i64 x, .int .i64 t, .bool true, .bool true] w (GivesNS 1 (sigsTo L p.grp [7]) w) := by
  obtain ⟨g, hg⟩ := h.rb
  have HF := hide' (find37_at x h hp hx hg)
  have HT := hide' h
  have HCC := hide' (h.cellsAt hg hp).1
  have HON := hide' hon
  have HWT := hide' ht
  have HWG := hide' (show (∀ p ∈ L, W64 p.grp) ∧ W64 p.grp from ⟨hw, hw p (mem_at hp)⟩)
  have HOR := hide' hor
  clear h hp hx hg hon ht hw hor
  go_enter Try.func11, Try.ntmps11
  go_wp2_with fail
  refine HF.out.mono ?_
  rintro _ w1 ⟨rfl, hs⟩
  have HC := hide' (HCC.out.keep hs)
  have HO := hide' (fun w' (hs' : Stay (fun _ => False) w1 w') => on38 g (i * 6) p t w' (HC.out.keep hs'))
  rw [HON.out] at HO
  have HT1 := hide' (HT.out.keep hs)
  have HFR := hide' (fun w' (hs' : Stay (fun _ => False) w1 w') => front18 t (HT1.out.keep hs') HWT.out)
  have HS1 := hide' hs
  have c5 := HC.out.c5
  rw [hdf] at c5
  clear hs HF HCC HT
  go_upto_region 4 with fail
  have hS : Stay (fun _ => False) w1 w1.drew := (Stay.refl _ _).drew
  refine wp_region_mix (fun w' => Stay (fun _ => False) w1 w') [(0, true), (1, true), (2, false), (3, true), (4, true), (5, true), (6, true), (7, true), (8, true), (9, true), (10, true), (11, false), (12, true), (13, true), (14, true), (15, true), (16, true), (17, true), (18, true), (19, true), (20, true), (21, true), (22, true), (23, true), (24, true), (25, true), (26, true), (27, true)] (by kernel_rfl) (by kernel_rfl) (fun _ d _ _ _ h => by cases d <;> exact h) hS ?_
  refine mix_begin (fun K0 hK0 => ?_)
  refine mix_take hK0 (some 20) (.move (.tmp 12)) 74 _ (by kernel_rfl) (by kernel_rfl) (fun w' hS' => by (simp only [opr]; go_simp; try with_reducible rfl)) (fun K1 hK1 => ?_)
  clear hK0 K0
  simp only [Act.put, lA, lZ, lS]
  refine mix_take hK1 (some 21) (.move (.tmp 2)) 3 _ (by kernel_rfl) (by kernel_rfl) (fun w' hS' => by (simp only [opr]; go_simp; try with_reducible rfl)) (fun K2 hK2 => ?_)
  clear hK1 K1
  simp only [Act.put, lA, lZ, lS]
  refine mix_call hK2 (some 22) 38 #[.tmp 20, .tmp 21] #[74, 3] 4 _ (by kernel_rfl) (by kernel_rfl) (enters Try.func38 (by kernel_rfl) (by kernel_rfl)) (by go_simp; try with_reducible rfl) (fun K3 hK3 => ?_)
  clear hK2 K2
  refine (HO.out _ hS).mono ?_
  rintro e wm1 ⟨rfl, hs1⟩
  have hS1 : _ := hS.trans hs1
  refine ⟨_, rfl, hS1, ?_⟩
  clear hs1
  simp only [Act.put, lA, lZ, lS]
  refine mix_take hK3 (some 23) (.unOp UnOp.not 4 (.tmp 22)) 4 _ (by kernel_rfl) (by kernel_rfl) (fun w' hS' => by (simp only [opr]; go_simp; try with_reducible rfl)) (fun K4 hK4 => ?_)
  clear hK3 K3
  simp only [Act.put, lA, lZ, lS]
  refine mix_take hK4 (some 24) (.move (.tmp 23)) 4 _ (by kernel_rfl) (by kernel_rfl) (fun w' hS' => by (simp only [opr]; go_simp; try with_reducible rfl)) (fun K5 hK5 => ?_)
  clear hK4 K4
  simp only [Act.put, lA, lZ, lS]
  refine mix_take hK5 (some 25) (.move (.tmp 12)) 74 _ (by kernel_rfl) (by kernel_rfl) (fun w' hS' => by (simp only [opr]; go_simp; try with_reducible rfl)) (fun K6 hK6 => ?_)
  clear hK5 K5
  simp only [Act.put, lA, lZ, lS]
  refine mix_take hK6 (some 26) (.nilCheck (.tmp 25)) 0 _ (by kernel_rfl) (by kernel_rfl) (fun w' hS' => by (simp only [opr]; go_simp; try with_reducible rfl)) (fun K7 hK7 => ?_)
  clear hK6 K6
  simp only [Act.put, lA, lZ, lS]
  refine mix_take hK7 (some 27) (.fieldAddr 40 (.tmp 26) 2) 0 _ (by kernel_rfl) (by kernel_rfl) (fun w' hS' => by (simp only [opr]; go_simp; try with_reducible rfl)) (fun K8 hK8 => ?_)
  clear hK7 K7
  simp only [Act.put, lA, lZ, lS]
  refine mix_take hK8 (some 28) (.load 3 (.tmp 27)) 3 _ (by kernel_rfl) (by kernel_rfl) (fun w' hS' => by (have k2 := keep_cell hS' HC.out.c2; simp only [opr]; go_simp; try with_reducible rfl)) (fun K9 hK9 => ?_)
  clear hK8 K8
  simp only [Act.put, lA, lZ, lS]
  refine mix_take hK9 (some 29) (.move (.tmp 0)) 24 _ (by kernel_rfl) (by kernel_rfl) (fun w' hS' => by (simp only [opr]; go_simp; try with_reducible rfl)) (fun K10 hK10 => ?_)
  clear hK9 K9
  simp only [Act.put, lA, lZ, lS]
  refine mix_take hK10 (some 30) (.move (.tmp 2)) 3 _ (by kernel_rfl) (by kernel_rfl) (fun w' hS' => by (simp only [opr]; go_simp; try with_reducible rfl)) (fun K11 hK11 => ?_)
  clear hK10 K10
  simp only [Act.put, lA, lZ, lS]
  refine mix_call hK11 (some 31) 18 #[.tmp 29, .tmp 30] #[24, 3] 3 _ (by kernel_rfl) (by kernel_rfl) (enters Try.func18 (by kernel_rfl) (by kernel_rfl)) (by go_simp; try with_reducible rfl) (fun K12 hK12 => ?_)
  clear hK11 K11
  refine (HFR.out _ hS1).mono ?_
  rintro e wm2 ⟨rfl, hs2⟩
  have hS2 : _ := hS1.trans hs2
  refine ⟨_, rfl, hS2, ?_⟩
  clear hs2
  simp only [Act.put, lA, lZ, lS]
  refine mix_take hK12 (some 32) (.binOp BinOp.eql 3 (.tmp 28) (.tmp 31) 3) 4 _ (by kernel_rfl) (by kernel_rfl) (fun w' hS' => by (simp only [opr]; go_simp; try with_reducible rfl)) (fun K13 hK13 => ?_)
  clear hK12 K12
  simp only [Act.put, lA, lZ, lS]
  refine mix_take hK13 (some 33) (.pick (.tmp 24) (.const (Value.bool true)) (.tmp 32)) 4 _ (by kernel_rfl) (by kernel_rfl) (fun w' hS' => by (simp only [opr]; go_simp; try with_reducible rfl)) (fun K14 hK14 => ?_)
  clear hK13 K13
  simp only [Act.put, lA, lZ, lS]
  refine mix_take hK14 (some 34) (.move (.tmp 33)) 4 _ (by kernel_rfl) (by kernel_rfl) (fun w' hS' => by (simp only [opr]; go_simp; try with_reducible rfl)) (fun K15 hK15 => ?_)
  clear hK14 K14
  simp only [Act.put, lA, lZ, lS]
  refine mix_take hK15 (some 35) (.move (.tmp 3)) 4 _ (by kernel_rfl) (by kernel_rfl) (fun w' hS' => by (simp only [opr]; go_simp; try with_reducible rfl)) (fun K16 hK16 => ?_)
  clear hK15 K15
  simp only [Act.put, lA, lZ, lS]
  refine mix_take hK16 (some 36) (.move (.tmp 35)) 4 _ (by kernel_rfl) (by kernel_rfl) (fun w' hS' => by (simp only [opr]; go_simp; try with_reducible rfl)) (fun K17 hK17 => ?_)
  clear hK16 K16
  simp only [Act.put, lA, lZ, lS]
  refine mix_take hK17 (some 37) (.move (.tmp 4)) 4 _ (by kernel_rfl) (by kernel_rfl) (fun w' hS' => by (simp only [opr]; go_simp; try with_reducible rfl)) (fun K18 hK18 => ?_)
  clear hK17 K17
  simp only [Act.put, lA, lZ, lS]
  refine mix_take hK18 (some 38) (.unOp UnOp.not 4 (.tmp 37)) 4 _ (by kernel_rfl) (by kernel_rfl) (fun w' hS' => by (simp only [opr]; go_simp; try with_reducible rfl)) (fun K19 hK19 => ?_)
  clear hK18 K18
  simp only [Act.put, lA, lZ, lS]
  refine mix_take hK19 (some 39) (.move (.tmp 38)) 4 _ (by kernel_rfl) (by kernel_rfl) (fun w' hS' => by (simp only [opr]; go_simp; try with_reducible rfl)) (fun K20 hK20 => ?_)
  clear hK19 K19
  simp only [Act.put, lA, lZ, lS]
  refine mix_take hK20 (some 40) (.move (.tmp 12)) 74 _ (by kernel_rfl) (by kernel_rfl) (fun w' hS' => by (simp only [opr]; go_simp; try with_reducible rfl)) (fun K21 hK21 => ?_)
  clear hK20 K20
  simp only [Act.put, lA, lZ, lS]
  refine mix_take hK21 (some 41) (.nilCheck (.tmp 40)) 0 _ (by kernel_rfl) (by kernel_rfl) (fun w' hS' => by (simp only [opr]; go_simp; try with_reducible rfl)) (fun K22 hK22 => ?_)
  clear hK21 K21
  simp only [Act.put, lA, lZ, lS]
  refine mix_take hK22 (some 42) (.fieldAddr 40 (.tmp 41) 5) 0 _ (by kernel_rfl) (by kernel_rfl) (fun w' hS' => by (simp only [opr]; go_simp; try with_reducible rfl)) (fun K23 hK23 => ?_)
  clear hK22 K22
  simp only [Act.put, lA, lZ, lS]
  refine mix_take hK23 (some 43) (.load 4 (.tmp 42)) 4 _ (by kernel_rfl) (by kernel_rfl) (fun w' hS' => by (have k5 := keep_cell hS' c5; simp only [opr]; go_simp; try with_reducible rfl)) (fun K24 hK24 => ?_)
  clear hK23 K23
  simp only [Act.put, lA, lZ, lS]
  refine mix_take hK24 (some 44) (.pick (.tmp 39) (.const (Value.bool true)) (.tmp 43)) 4 _ (by kernel_rfl) (by kernel_rfl) (fun w' hS' => by (simp only [opr]; go_simp; try with_reducible rfl)) (fun K25 hK25 => ?_)
  clear hK24 K24
  simp only [Act.put, lA, lZ, lS]
  refine mix_take hK25 (some 45) (.pick (.tmp 36) (.tmp 44) (.const (Value.bool false))) 4 _ (by kernel_rfl) (by kernel_rfl) (fun w' hS' => by (simp only [opr]; go_simp; try with_reducible rfl)) (fun K26 hK26 => ?_)
  clear hK25 K25
  simp only [Act.put, lA, lZ, lS]
  refine mix_take hK26 (some 46) (.pick (.tmp 34) (.const (Value.bool true)) (.tmp 45)) 4 _ (by kernel_rfl) (by kernel_rfl) (fun w' hS' => by (simp only [opr]; go_simp; try with_reducible rfl)) (fun K27 hK27 => ?_)
  clear hK26 K26
  simp only [Act.put, lA, lZ, lS]
  refine mix_take hK27 (some 19) (.assign (.tmp 46)) 4 _ (by kernel_rfl) (by kernel_rfl) (fun w' hS' => by (simp only [opr]; go_simp; try with_reducible rfl)) (fun K28 hK28 => ?_)
  clear hK27 K27
  simp only [Act.put, lA, lZ, lS]
  refine hK28 _ _ (mix_nil ?_)
  clear hK28 K28
  have HS2 := hide' hS2
  have c5 := keep_cell hS2 c5
  clear hS hS1 hS2 HO HFR
  have k2 := (HC.out.keep HS2.out).c2
  have HR := hide' (orphan16 p.grp (HT1.out.keep HS2.out) HWG.out.1 HWG.out.2)
  rw [HOR.out] at HR
  go_wp2_with fail
  refine HR.out.mono ?_
  rintro _ w4 ⟨rfl, hs⟩
  have HS4 := hide' (HS2.out.trans hs)
  have k2 := keep_cell hs k2
  clear hs HR
  have HSG := hide' (fun (W : World) (hs : Stay (fun _ => False) w4 W) (B : Nat) (k0 : W.cell? ⟨B, 0, none⟩ = some (.int .i64 7)) => signals p.grp B [7] (HT1.out.keep (HS4.out.trans hs)) (fun j hj => by
    match j, hj with
    | 0, _ => exact k0) (by decide))
  go_wp2_with fail
  refine (HSG.out _ ?_ _ ?_).mono ?_
  · exact (Stay.refl _ _).alloc _
  · simp
  rintro _ w5 ⟨a, cap, rfl, hsv, hs, hb⟩
  have hs' : Stay (fun _ => False) w4 w5 := ((Stay.refl _ _).alloc _).trans hs
  have HE := hide' (show SV w5 a cap (sigsTo L p.grp [7]) ∧ Stay (fun _ => False) w w5 ∧ ∀ j, a.map Addr.block = some j → w.heap.size ≤ j from ⟨hsv, (HS1.out.trans HS4.out).trans hs', fun j hj => by
    have h1 := hb j hj
    have h2 := (HS1.out.trans HS4.out).size
    simp at h1
    omega⟩)
  clear hsv hs hs' hb HSG k2
  go_wp2
  go_returns
  exact ⟨a, cap, rfl, HE.out⟩

end Go.Proofs.Ytefpifnfinkbaaa
