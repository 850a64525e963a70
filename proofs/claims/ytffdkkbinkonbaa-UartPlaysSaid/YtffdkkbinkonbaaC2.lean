/-
  Items, and bytes, are brought into their rows: walked. No conditions.
-/
import Derived.Test.YtffdkkbinkonbaaB2
namespace Go.Proofs.Ytffdkkbinkonbaa
open Go.RowKit

/-- Rows with things more. -/
def Ln.with (q : Ln) (v u : Value) : Ln := ⟨q.b, q.r, v, u, q.o⟩

/-- What a line is behind a row that was written anew. -/
def Wrote (q : Ln) (k : Nat) (L : List (Int × Int)) (M : List Int) (w : World) (e : Ending) (w' : World) : Prop := ∃ v u, e = .returned (.int .i64 (k : Nat)) ∧ LAt w' (q.with v u) L M ∧ Stay q.own w w' ∧ ∀ j, (q.with v u).own j → q.own j ∨ w.heap.size ≤ j

set_option maxRecDepth 100000 in
theorem put15 (q : Ln) (L : List (Int × Int)) (M : List Int) (sa : Option Addr) (m cap k : Nat) (K : List (Int × Int)) (w : World) (hq : LAt w q L M) (hs : Src w sa m (its K)) (hm : K.length = m) (hmc : m ≤ cap) (_hm1 : m ≤ 200000) (hk : k = min m (q.r - L.length)) : Calls Try.prog 15 #[.pointer (some ⟨q.b, 0, none⟩), .slice sa m cap] w (Wrote q k (L ++ K.take k) M w) := by
  have h1 := hq.r2
  have h2 := hq.l1
  have h3 := hq.m1
  obtain ⟨ra, rc, hv, hrc, _⟩ := hq.inn.shape
  have HV := hide' hv
  have e1 : IntKind.i64.wrap ((q.r : Int) - (L.length : Nat)) = ((q.r - L.length : Nat) : Int) := by rw [IntKind.wrap_i64]; omega
  obtain ⟨d, hd⟩ : ∃ d, d = q.r - L.length := ⟨_, rfl⟩
  rw [← hd] at e1 hk
  have e2 : min ((m : Nat) : Int) (d : Nat) = (k : Nat) := by omega
  obtain ⟨ln, hln⟩ : ∃ n, n = L.length := ⟨_, rfl⟩
  rw [← hln] at e1
  have HLN := hide' hln
  rw [← hln] at hv hrc
  have HKC : Hid (k ≤ cap) := by show k ≤ cap; omega
  have HKM : Hid (k ≤ m) := by show k ≤ m; omega
  have HKR : Hid (k ≤ q.r - L.length) := by show k ≤ q.r - L.length; omega
  have HQ := hide' hq
  have HSRC := hide' hs
  have HNL : Hid ((its (K.take k)).length = k * 2) := by rw [its_len, List.length_take, hm]; show min k m * 2 = k * 2; rw [Nat.min_eq_left (by omega)]
  have HNM : Hid (L.length + k ≤ 1000000) := by show L.length + k ≤ 1000000; omega
  have HML := hide' hm
  have HBO : Hid (¬ q.v.ownBlock = some q.b) := fun e => hq.vb q.b e rfl
  have hS : (fun w' => Stay (fun _ => False) w w' ∧ LBox w' q.b q.bx) w.drew := ⟨(Stay.refl _ _).drew, hq.box.keep (Stay.refl _ _).drew⟩
  have HV2 : Hid (q.v = .slice ra ln rc) := by rw [hv]; exact rfl
  clear HV
  have HV := HV2
  clear hv hq hs hm hk hd hln h1 h2 h3 hmc _hm1 hrc HV2
  go_enter Try.func15, Try.ntmps15
  go_upto_region 1 with fail
  refine wp_region_mix (fun w' => Stay (fun _ => False) w w' ∧ LBox w' q.b q.bx) [(0, true), (1, true), (2, true), (3, true), (4, true), (5, true), (6, true), (7, true), (8, true), (9, true), (10, true), (11, true), (12, true), (13, true)] (by kernel_rfl) (by kernel_rfl) (fun _ d _ _ _ h => by cases d <;> exact h) hS ?_
  refine mix_begin (fun K0 hK0 => ?_)
  refine mix_take hK0 (some 6) (.move (.tmp 1)) 26 _ (by kernel_rfl) (by kernel_rfl) (fun w' hS' => by (obtain ⟨_, sb⟩ := hS'; obtain ⟨b0, b1, b2, b3, b4, f0, f1, f2, f3, f4⟩ := sb; simp only [Ln.bx] at b0 b1 b2 b3 b4; rw [HV.out] at b1; simp only [opr]; go_simp; try with_reducible rfl)) (fun K1 hK1 => ?_)
  clear hK0 K0
  simp only [Act.put, List.setIfInBounds_toArray, List.set_cons_zero, List.set_cons_succ]
  refine mix_take hK1 (some 7) (.call { callee := Callee.builtin Builtin.len, args := #[.tmp 6], argTypes := #[26] }) 3 _ (by kernel_rfl) (by kernel_rfl) (fun w' hS' => by (obtain ⟨_, sb⟩ := hS'; obtain ⟨b0, b1, b2, b3, b4, f0, f1, f2, f3, f4⟩ := sb; simp only [Ln.bx] at b0 b1 b2 b3 b4; rw [HV.out] at b1; simp only [opr]; go_simp; try with_reducible rfl)) (fun K2 hK2 => ?_)
  clear hK1 K1
  simp only [Act.put, List.setIfInBounds_toArray, List.set_cons_zero, List.set_cons_succ]
  refine mix_take hK2 (some 8) (.move (.tmp 0)) 61 _ (by kernel_rfl) (by kernel_rfl) (fun w' hS' => by (obtain ⟨_, sb⟩ := hS'; obtain ⟨b0, b1, b2, b3, b4, f0, f1, f2, f3, f4⟩ := sb; simp only [Ln.bx] at b0 b1 b2 b3 b4; rw [HV.out] at b1; simp only [opr]; go_simp; try with_reducible rfl)) (fun K3 hK3 => ?_)
  clear hK2 K2
  simp only [Act.put, List.setIfInBounds_toArray, List.set_cons_zero, List.set_cons_succ]
  refine mix_take hK3 (some 9) (.nilCheck (.tmp 8)) 0 _ (by kernel_rfl) (by kernel_rfl) (fun w' hS' => by (obtain ⟨_, sb⟩ := hS'; obtain ⟨b0, b1, b2, b3, b4, f0, f1, f2, f3, f4⟩ := sb; simp only [Ln.bx] at b0 b1 b2 b3 b4; rw [HV.out] at b1; simp only [opr]; go_simp; try with_reducible rfl)) (fun K4 hK4 => ?_)
  clear hK3 K3
  simp only [Act.put, List.setIfInBounds_toArray, List.set_cons_zero, List.set_cons_succ]
  refine mix_take hK4 (some 10) (.fieldAddr 49 (.tmp 9) 0) 0 _ (by kernel_rfl) (by kernel_rfl) (fun w' hS' => by (obtain ⟨_, sb⟩ := hS'; obtain ⟨b0, b1, b2, b3, b4, f0, f1, f2, f3, f4⟩ := sb; simp only [Ln.bx] at b0 b1 b2 b3 b4; rw [HV.out] at b1; simp only [opr]; go_simp; try with_reducible rfl)) (fun K5 hK5 => ?_)
  clear hK4 K4
  simp only [Act.put, List.setIfInBounds_toArray, List.set_cons_zero, List.set_cons_succ]
  refine mix_take hK5 (some 11) (.load 3 (.tmp 10)) 3 _ (by kernel_rfl) (by kernel_rfl) (fun w' hS' => by (obtain ⟨_, sb⟩ := hS'; obtain ⟨b0, b1, b2, b3, b4, f0, f1, f2, f3, f4⟩ := sb; simp only [Ln.bx] at b0 b1 b2 b3 b4; rw [HV.out] at b1; simp only [opr]; go_simp; try with_reducible rfl)) (fun K6 hK6 => ?_)
  clear hK5 K5
  simp only [Act.put, List.setIfInBounds_toArray, List.set_cons_zero, List.set_cons_succ]
  refine mix_take hK6 (some 12) (.move (.tmp 0)) 61 _ (by kernel_rfl) (by kernel_rfl) (fun w' hS' => by (obtain ⟨_, sb⟩ := hS'; obtain ⟨b0, b1, b2, b3, b4, f0, f1, f2, f3, f4⟩ := sb; simp only [Ln.bx] at b0 b1 b2 b3 b4; rw [HV.out] at b1; simp only [opr]; go_simp; try with_reducible rfl)) (fun K7 hK7 => ?_)
  clear hK6 K6
  simp only [Act.put, List.setIfInBounds_toArray, List.set_cons_zero, List.set_cons_succ]
  refine mix_take hK7 (some 13) (.nilCheck (.tmp 12)) 0 _ (by kernel_rfl) (by kernel_rfl) (fun w' hS' => by (obtain ⟨_, sb⟩ := hS'; obtain ⟨b0, b1, b2, b3, b4, f0, f1, f2, f3, f4⟩ := sb; simp only [Ln.bx] at b0 b1 b2 b3 b4; rw [HV.out] at b1; simp only [opr]; go_simp; try with_reducible rfl)) (fun K8 hK8 => ?_)
  clear hK7 K7
  simp only [Act.put, List.setIfInBounds_toArray, List.set_cons_zero, List.set_cons_succ]
  refine mix_take hK8 (some 14) (.fieldAddr 49 (.tmp 13) 1) 0 _ (by kernel_rfl) (by kernel_rfl) (fun w' hS' => by (obtain ⟨_, sb⟩ := hS'; obtain ⟨b0, b1, b2, b3, b4, f0, f1, f2, f3, f4⟩ := sb; simp only [Ln.bx] at b0 b1 b2 b3 b4; rw [HV.out] at b1; simp only [opr]; go_simp; try with_reducible rfl)) (fun K9 hK9 => ?_)
  clear hK8 K8
  simp only [Act.put, List.setIfInBounds_toArray, List.set_cons_zero, List.set_cons_succ]
  refine mix_take hK9 (some 15) (.load 26 (.tmp 14)) 26 _ (by kernel_rfl) (by kernel_rfl) (fun w' hS' => by (obtain ⟨_, sb⟩ := hS'; obtain ⟨b0, b1, b2, b3, b4, f0, f1, f2, f3, f4⟩ := sb; simp only [Ln.bx] at b0 b1 b2 b3 b4; rw [HV.out] at b1; simp only [opr]; go_simp; try with_reducible rfl)) (fun K10 hK10 => ?_)
  clear hK9 K9
  simp only [Act.put, List.setIfInBounds_toArray, List.set_cons_zero, List.set_cons_succ]
  refine mix_take hK10 (some 16) (.call { callee := Callee.builtin Builtin.len, args := #[.tmp 15], argTypes := #[26] }) 3 _ (by kernel_rfl) (by kernel_rfl) (fun w' hS' => by (obtain ⟨_, sb⟩ := hS'; obtain ⟨b0, b1, b2, b3, b4, f0, f1, f2, f3, f4⟩ := sb; simp only [Ln.bx] at b0 b1 b2 b3 b4; rw [HV.out] at b1; simp only [opr]; go_simp; try with_reducible rfl)) (fun K11 hK11 => ?_)
  clear hK10 K10
  simp only [Act.put, List.setIfInBounds_toArray, List.set_cons_zero, List.set_cons_succ]
  refine mix_take hK11 (some 17) (.binOp BinOp.sub 3 (.tmp 11) (.tmp 16) 3) 3 _ (by kernel_rfl) (by kernel_rfl) (fun w' hS' => by (obtain ⟨_, sb⟩ := hS'; obtain ⟨b0, b1, b2, b3, b4, f0, f1, f2, f3, f4⟩ := sb; simp only [Ln.bx] at b0 b1 b2 b3 b4; rw [HV.out] at b1; simp only [opr]; go_simp; try with_reducible rfl)) (fun K12 hK12 => ?_)
  clear hK11 K11
  simp only [Act.put, List.setIfInBounds_toArray, List.set_cons_zero, List.set_cons_succ]
  refine mix_take hK12 (some 18) (.call { callee := Callee.builtin Builtin.min, args := #[.tmp 7, .tmp 17], argTypes := #[3, 3] }) 3 _ (by kernel_rfl) (by kernel_rfl) (fun w' hS' => by (obtain ⟨_, sb⟩ := hS'; obtain ⟨b0, b1, b2, b3, b4, f0, f1, f2, f3, f4⟩ := sb; simp only [Ln.bx] at b0 b1 b2 b3 b4; rw [HV.out] at b1; simp only [opr]; go_simp; try with_reducible rfl)) (fun K13 hK13 => ?_)
  clear hK12 K12
  simp only [Act.put, List.setIfInBounds_toArray, List.set_cons_zero, List.set_cons_succ]
  refine mix_take hK13 (some 5) (.assign (.tmp 18)) 3 _ (by kernel_rfl) (by kernel_rfl) (fun w' hS' => by (obtain ⟨_, sb⟩ := hS'; obtain ⟨b0, b1, b2, b3, b4, f0, f1, f2, f3, f4⟩ := sb; simp only [Ln.bx] at b0 b1 b2 b3 b4; rw [HV.out] at b1; simp only [opr]; go_simp; try with_reducible rfl)) (fun K14 hK14 => ?_)
  clear hK13 K13
  simp only [Act.put, List.setIfInBounds_toArray, List.set_cons_zero, List.set_cons_succ]
  refine hK14 _ _ (mix_nil ?_)
  clear hK14 K14
  go_upto_region 2 with fail
  obtain ⟨w1, hw1⟩ : ∃ x, x = w.drew := ⟨_, rfl⟩
  have HS0 : Hid (Stay (fun _ => False) w w1) := by rw [hw1]; exact (Stay.refl _ _).drew
  rw [← hw1]
  clear hw1 hS
  have HB2 : Hid (LBox w1.drew q.b q.bx) := (HQ.out.box.keep HS0.out).keep (Stay.refl _ _).drew
  have HS2 : Hid ((fun w' => Stay (fun j => j = q.b ∨ q.v.ownBlock = some j) w w') w1.drew) := (HS0.out.drew).mono (fun _ _ h => h.elim)
  have hS2 := HS2.out
  have HW2 : Hid (Win w1.drew 2 q.v L.length (its L)) := HQ.out.inn.stay HS0.out.drew (fun _ _ h => h)
  have HSRC2 : Hid (Src w1.drew sa k (its (K.take k))) := by
    have := (HSRC.out.keep HS0.out.drew).front k (k * 2) HKM.out
    rwa [its_take] at this
  refine wp_region_mix (fun w' => Stay (fun j => j = q.b ∨ q.v.ownBlock = some j) w w') [(0, true), (1, true), (2, true), (3, true), (5, true), (6, true), (7, true), (4, false), (8, false), (9, true), (10, true), (11, false)] (by kernel_rfl) (by kernel_rfl) (fun _ d _ _ _ h => by cases d <;> exact h) hS2 ?_
  refine mix_begin (fun K0 hK0 => ?_)
  refine mix_take hK0 (some 19) (.move (.tmp 0)) 61 _ (by kernel_rfl) (by kernel_rfl) (fun w' hS' => by (simp only [opr]; go_simp; try with_reducible rfl)) (fun K1 hK1 => ?_)
  clear hK0 K0
  simp only [Act.put, List.setIfInBounds_toArray, List.set_cons_zero, List.set_cons_succ]
  refine mix_take hK1 (some 20) (.move (.tmp 0)) 61 _ (by kernel_rfl) (by kernel_rfl) (fun w' hS' => by (simp only [opr]; go_simp; try with_reducible rfl)) (fun K2 hK2 => ?_)
  clear hK1 K1
  simp only [Act.put, List.setIfInBounds_toArray, List.set_cons_zero, List.set_cons_succ]
  refine mix_take hK2 (some 21) (.nilCheck (.tmp 20)) 0 _ (by kernel_rfl) (by kernel_rfl) (fun w' hS' => by (simp only [opr]; go_simp; try with_reducible rfl)) (fun K3 hK3 => ?_)
  clear hK2 K2
  simp only [Act.put, List.setIfInBounds_toArray, List.set_cons_zero, List.set_cons_succ]
  refine mix_take hK3 (some 22) (.fieldAddr 49 (.tmp 21) 1) 0 _ (by kernel_rfl) (by kernel_rfl) (fun w' hS' => by (simp only [opr]; go_simp; try with_reducible rfl)) (fun K4 hK4 => ?_)
  clear hK3 K3
  simp only [Act.put, List.setIfInBounds_toArray, List.set_cons_zero, List.set_cons_succ]
  refine mix_take hK4 (some 24) (.move (.tmp 1)) 26 _ (by kernel_rfl) (by kernel_rfl) (fun w' hS' => by (simp only [opr]; go_simp; try with_reducible rfl)) (fun K5 hK5 => ?_)
  clear hK4 K4
  simp only [Act.put, List.setIfInBounds_toArray, List.set_cons_zero, List.set_cons_succ]
  refine mix_take hK5 (some 25) (.move (.tmp 5)) 3 _ (by kernel_rfl) (by kernel_rfl) (fun w' hS' => by (simp only [opr]; go_simp; try with_reducible rfl)) (fun K6 hK6 => ?_)
  clear hK5 K5
  simp only [Act.put, List.setIfInBounds_toArray, List.set_cons_zero, List.set_cons_succ]
  refine mix_take hK6 (some 26) (.slice 26 (.tmp 24) none (some (.tmp 25)) none) 26 _ (by kernel_rfl) (by kernel_rfl) (fun w' hS' => by exact exec_slice_h elem26 size26 rfl rfl HKC.out w' _ _) (fun K7 hK7 => ?_)
  clear hK6 K6
  simp only [Act.put, List.setIfInBounds_toArray, List.set_cons_zero, List.set_cons_succ]
  refine mix_chain hK7 (fun K7c hK7c => ?_)
  clear hK7 K7
  refine op_plain (some 23) (.load 26 (.tmp 22)) 26 (by kernel_rfl) (by kernel_rfl) ?_
  have hb := HB2.out
  obtain ⟨b0, b1, b2, b3, b4, f0, f1, f2, f3, f4⟩ := hb
  simp only [Ln.bx] at b0 b1 b2 b3 b4
  go_wp2
  have hSl : (fun w' => Stay (fun j => j = q.b ∨ q.v.ownBlock = some j) w w') _ := HS2.out
  refine hK7c _ _ hSl (mix_begin fun K8 hK8 => ?_)
  clear hK7c K7c
  try simp only [Act.put, List.setIfInBounds_toArray, List.set_cons_zero, List.set_cons_succ]
  refine mix_chain hK8 (fun K8c hK8c => ?_)
  clear hK8 K8
  refine op_plain (some 27) (.call { callee := Callee.builtin Builtin.append, args := #[.tmp 23, .tmp 26], argTypes := #[26, 26] }) 26 (by kernel_rfl) (by kernel_rfl) ?_
  refine wpList_append_win rfl _ _ 26 rfl Try.underlying26 info36 rfl (by decide) (by decide) HW2.out rfl HNL.out HSRC2.out.1 HSRC2.out.2 (its_one _) HNM.out rfl ?_
  intro vn wa hwa hsa hba
  obtain ⟨na, nc, hvn, _, _⟩ := hwa.shape
  subst hvn
  have HWA := hide' hwa
  have HSA := hide' hsa
  have HBA := hide' hba
  clear hwa hsa hba
  refine wpList_nil ?_
  have HB3 : Hid (LBox wa q.b q.bx) := HB2.out.stay HSA.out HBO.out
  have hSa : (fun w' => Stay (fun j => j = q.b ∨ q.v.ownBlock = some j) w w') wa := HS2.out.trans (HSA.out.mono (fun _ _ h => .inr h))
  refine hK8c _ _ hSa (mix_begin fun K9 hK9 => ?_)
  clear hK8c K8c
  try simp only [Act.put, List.setIfInBounds_toArray, List.set_cons_zero, List.set_cons_succ]
  refine mix_take hK9 (some 28) (.nilCheck (.tmp 19)) 0 _ (by kernel_rfl) (by kernel_rfl) (fun w' hS' => by (simp only [opr]; go_simp; try with_reducible rfl)) (fun K10 hK10 => ?_)
  clear hK9 K9
  simp only [Act.put, List.setIfInBounds_toArray, List.set_cons_zero, List.set_cons_succ]
  refine mix_take hK10 (some 29) (.fieldAddr 49 (.tmp 28) 1) 0 _ (by kernel_rfl) (by kernel_rfl) (fun w' hS' => by (simp only [opr]; go_simp; try with_reducible rfl)) (fun K11 hK11 => ?_)
  clear hK10 K10
  simp only [Act.put, List.setIfInBounds_toArray, List.set_cons_zero, List.set_cons_succ]
  refine mix_chain hK11 (fun K11c hK11c => ?_)
  clear hK11 K11
  refine op_plain none (.store 26 (.tmp 29) (.tmp 27)) 0 (by kernel_rfl) (by kernel_rfl) ?_
  have hb := HB3.out
  obtain ⟨b0, b1, b2, b3, b4, f0, f1, f2, f3, f4⟩ := hb
  simp only [Ln.bx] at b0 b1 b2 b3 b4
  go_wp2
  have hSs : (fun w' => Stay (fun j => j = q.b ∨ q.v.ownBlock = some j) w w') (wa.setCell ⟨q.b, 1, none⟩ (Value.slice na (L.length + k) nc)) := hSa.setCell (p := ⟨q.b, 1, none⟩) (.inl rfl) _
  refine hK11c _ _ hSs (mix_begin fun K12 hK12 => ?_)
  clear hK11c K11c
  try simp only [Act.put, List.setIfInBounds_toArray, List.set_cons_zero, List.set_cons_succ]
  refine hK12 _ _ (mix_nil ?_)
  clear hK12 K12
  go_wp2
  go_returns
  have hst : Stay q.own w (wa.setCell ⟨q.b, 1, none⟩ (Value.slice na (L.length + k) nc)) := hSs.mono (fun j _ h => h.elim .inl (fun h => .inr (.inl h)))
  have hbx := HB3.out.put1 (x := (Value.slice na (L.length + k) nc)) (q := Ln.bx (q.with (Value.slice na (L.length + k) nc) q.u)) rfl
  have hst3 : Stay (fun j => j = q.b) wa (wa.setCell ⟨q.b, 1, none⟩ (Value.slice na (L.length + k) nc)) := (Stay.refl (fun j => j = q.b) wa).setCell (p := ⟨q.b, 1, none⟩) rfl _
  have hq := HQ.out
  have hsz := HS0.out.size
  have hsz2 := HSA.out.size
  have hlt := hq.lt
  have hbn : ∀ j, (Value.slice na (L.length + k) nc).ownBlock = some j → q.v.ownBlock = some j ∨ w1.heap.size = j := fun j hj => by
    rcases HBA.out with h | h
    · exact .inl (by rw [← h]; exact hj)
    · rw [hj] at h
      cases h
      exact .inr rfl
  have hvb : ∀ j, (Value.slice na (L.length + k) nc).ownBlock = some j → ¬ j = q.b := fun j hj e => by
    rcases hbn j hj with h | h
    · exact hq.vb j h e
    · have := hlt q.b (.inl rfl); omega
  have hnm := HKR.out
  have hlen : (K.take k).length = k := by rw [List.length_take, HML.out]; exact Nat.min_eq_left HKM.out
  have hwin : Win (wa.setCell ⟨q.b, 1, none⟩ (Value.slice na (L.length + k) nc)) 2 (Value.slice na (L.length + k) nc) (L ++ K.take k).length (its (L ++ K.take k)) := by
    rw [its_append, List.length_append, hlen]
    exact HWA.out.stay hst3 hvb
  have hoth : Win (wa.setCell ⟨q.b, 1, none⟩ (Value.slice na (L.length + k) nc)) 1 q.u M.length (bys M) :=
    (hq.snt.stay ((HS0.out.drew.mono (T := fun j => q.v.ownBlock = some j) (fun _ _ h => h.elim)).trans HSA.out) (fun j hj h => hq.vu j h hj)).stay hst3 (fun j hj => hq.ub j hj)
  refine ⟨(Value.slice na (L.length + k) nc), q.u, rfl, ⟨hbx, hwin, hoth, hvb, hq.ub, fun j h1 h2 => ?_, hq.r1, hq.r2, ?_, hq.m1⟩, hst, fun j hj => ?_⟩
  · rcases hbn j h1 with h | h
    · exact hq.vu j h h2
    · have := hlt j (.inr (.inr h2)); omega
  · rw [List.length_append, hlen]
    have := hq.l1
    show L.length + k ≤ q.r
    omega
  · rcases hj with hj | hj | hj
    · exact .inl (.inl hj)
    · rcases hbn j hj with h | h
      · exact .inl (.inr (.inl h))
      · exact .inr (by omega)
    · exact .inl (.inr (.inr hj))

set_option maxRecDepth 100000 in
theorem put17 (q : Ln) (L : List (Int × Int)) (M : List Int) (sa : Option Addr) (m cap k : Nat) (K : List Int) (w : World) (hq : LAt w q L M) (hs : Src w sa m (bys K)) (hm : K.length = m) (hmc : m ≤ cap) (_hm1 : m ≤ 200000) (hk : k = min m (q.r - M.length)) : Calls Try.prog 17 #[.pointer (some ⟨q.b, 2, none⟩), .slice sa m cap] w (Wrote q k L (M ++ K.take k) w) := by
  have h1 := hq.r2
  have h2 := hq.l1
  have h3 := hq.m1
  obtain ⟨ra, rc, hv, hrc, _⟩ := hq.snt.shape
  have HV := hide' hv
  have e1 : IntKind.i64.wrap ((q.r : Int) - (M.length : Nat)) = ((q.r - M.length : Nat) : Int) := by rw [IntKind.wrap_i64]; omega
  obtain ⟨d, hd⟩ : ∃ d, d = q.r - M.length := ⟨_, rfl⟩
  rw [← hd] at e1 hk
  have e2 : min ((m : Nat) : Int) (d : Nat) = (k : Nat) := by omega
  obtain ⟨ln, hln⟩ : ∃ n, n = M.length := ⟨_, rfl⟩
  rw [← hln] at e1
  have HLN := hide' hln
  rw [← hln] at hv hrc
  have HKC : Hid (k ≤ cap) := by show k ≤ cap; omega
  have HKM : Hid (k ≤ m) := by show k ≤ m; omega
  have HKR : Hid (k ≤ q.r - M.length) := by show k ≤ q.r - M.length; omega
  have HQ := hide' hq
  have HSRC := hide' hs
  have HNL : Hid ((bys (K.take k)).length = k * 1) := by rw [bys_len, List.length_take, hm]; show min k m * 1 = k * 1; rw [Nat.min_eq_left (by omega)]
  have HNM : Hid (M.length + k ≤ 1000000) := by show M.length + k ≤ 1000000; omega
  have HML := hide' hm
  have HBO : Hid (¬ q.u.ownBlock = some q.b) := fun e => hq.ub q.b e rfl
  have hS : (fun w' => Stay (fun _ => False) w w' ∧ LBox w' q.b q.bx) w.drew := ⟨(Stay.refl _ _).drew, hq.box.keep (Stay.refl _ _).drew⟩
  have HV2 : Hid (q.u = .slice ra ln rc) := by rw [hv]; exact rfl
  clear HV
  have HV := HV2
  clear hv hq hs hm hk hd hln h1 h2 h3 hmc _hm1 hrc HV2
  go_enter Try.func17, Try.ntmps17
  go_upto_region 1 with fail
  refine wp_region_mix (fun w' => Stay (fun _ => False) w w' ∧ LBox w' q.b q.bx) [(0, true), (1, true), (2, true), (3, true), (4, true), (5, true), (6, true), (7, true), (8, true), (9, true), (10, true), (11, true), (12, true), (13, true)] (by kernel_rfl) (by kernel_rfl) (fun _ d _ _ _ h => by cases d <;> exact h) hS ?_
  refine mix_begin (fun K0 hK0 => ?_)
  refine mix_take hK0 (some 6) (.move (.tmp 1)) 27 _ (by kernel_rfl) (by kernel_rfl) (fun w' hS' => by (obtain ⟨_, sb⟩ := hS'; obtain ⟨b0, b1, b2, b3, b4, f0, f1, f2, f3, f4⟩ := sb; simp only [Ln.bx] at b0 b1 b2 b3 b4; rw [HV.out] at b3; simp only [opr]; go_simp; try with_reducible rfl)) (fun K1 hK1 => ?_)
  clear hK0 K0
  simp only [Act.put, List.setIfInBounds_toArray, List.set_cons_zero, List.set_cons_succ]
  refine mix_take hK1 (some 7) (.call { callee := Callee.builtin Builtin.len, args := #[.tmp 6], argTypes := #[27] }) 3 _ (by kernel_rfl) (by kernel_rfl) (fun w' hS' => by (obtain ⟨_, sb⟩ := hS'; obtain ⟨b0, b1, b2, b3, b4, f0, f1, f2, f3, f4⟩ := sb; simp only [Ln.bx] at b0 b1 b2 b3 b4; rw [HV.out] at b3; simp only [opr]; go_simp; try with_reducible rfl)) (fun K2 hK2 => ?_)
  clear hK1 K1
  simp only [Act.put, List.setIfInBounds_toArray, List.set_cons_zero, List.set_cons_succ]
  refine mix_take hK2 (some 8) (.move (.tmp 0)) 62 _ (by kernel_rfl) (by kernel_rfl) (fun w' hS' => by (obtain ⟨_, sb⟩ := hS'; obtain ⟨b0, b1, b2, b3, b4, f0, f1, f2, f3, f4⟩ := sb; simp only [Ln.bx] at b0 b1 b2 b3 b4; rw [HV.out] at b3; simp only [opr]; go_simp; try with_reducible rfl)) (fun K3 hK3 => ?_)
  clear hK2 K2
  simp only [Act.put, List.setIfInBounds_toArray, List.set_cons_zero, List.set_cons_succ]
  refine mix_take hK3 (some 9) (.nilCheck (.tmp 8)) 0 _ (by kernel_rfl) (by kernel_rfl) (fun w' hS' => by (obtain ⟨_, sb⟩ := hS'; obtain ⟨b0, b1, b2, b3, b4, f0, f1, f2, f3, f4⟩ := sb; simp only [Ln.bx] at b0 b1 b2 b3 b4; rw [HV.out] at b3; simp only [opr]; go_simp; try with_reducible rfl)) (fun K4 hK4 => ?_)
  clear hK3 K3
  simp only [Act.put, List.setIfInBounds_toArray, List.set_cons_zero, List.set_cons_succ]
  refine mix_take hK4 (some 10) (.fieldAddr 53 (.tmp 9) 0) 0 _ (by kernel_rfl) (by kernel_rfl) (fun w' hS' => by (obtain ⟨_, sb⟩ := hS'; obtain ⟨b0, b1, b2, b3, b4, f0, f1, f2, f3, f4⟩ := sb; simp only [Ln.bx] at b0 b1 b2 b3 b4; rw [HV.out] at b3; simp only [opr]; go_simp; try with_reducible rfl)) (fun K5 hK5 => ?_)
  clear hK4 K4
  simp only [Act.put, List.setIfInBounds_toArray, List.set_cons_zero, List.set_cons_succ]
  refine mix_take hK5 (some 11) (.load 3 (.tmp 10)) 3 _ (by kernel_rfl) (by kernel_rfl) (fun w' hS' => by (obtain ⟨_, sb⟩ := hS'; obtain ⟨b0, b1, b2, b3, b4, f0, f1, f2, f3, f4⟩ := sb; simp only [Ln.bx] at b0 b1 b2 b3 b4; rw [HV.out] at b3; simp only [opr]; go_simp; try with_reducible rfl)) (fun K6 hK6 => ?_)
  clear hK5 K5
  simp only [Act.put, List.setIfInBounds_toArray, List.set_cons_zero, List.set_cons_succ]
  refine mix_take hK6 (some 12) (.move (.tmp 0)) 62 _ (by kernel_rfl) (by kernel_rfl) (fun w' hS' => by (obtain ⟨_, sb⟩ := hS'; obtain ⟨b0, b1, b2, b3, b4, f0, f1, f2, f3, f4⟩ := sb; simp only [Ln.bx] at b0 b1 b2 b3 b4; rw [HV.out] at b3; simp only [opr]; go_simp; try with_reducible rfl)) (fun K7 hK7 => ?_)
  clear hK6 K6
  simp only [Act.put, List.setIfInBounds_toArray, List.set_cons_zero, List.set_cons_succ]
  refine mix_take hK7 (some 13) (.nilCheck (.tmp 12)) 0 _ (by kernel_rfl) (by kernel_rfl) (fun w' hS' => by (obtain ⟨_, sb⟩ := hS'; obtain ⟨b0, b1, b2, b3, b4, f0, f1, f2, f3, f4⟩ := sb; simp only [Ln.bx] at b0 b1 b2 b3 b4; rw [HV.out] at b3; simp only [opr]; go_simp; try with_reducible rfl)) (fun K8 hK8 => ?_)
  clear hK7 K7
  simp only [Act.put, List.setIfInBounds_toArray, List.set_cons_zero, List.set_cons_succ]
  refine mix_take hK8 (some 14) (.fieldAddr 53 (.tmp 13) 1) 0 _ (by kernel_rfl) (by kernel_rfl) (fun w' hS' => by (obtain ⟨_, sb⟩ := hS'; obtain ⟨b0, b1, b2, b3, b4, f0, f1, f2, f3, f4⟩ := sb; simp only [Ln.bx] at b0 b1 b2 b3 b4; rw [HV.out] at b3; simp only [opr]; go_simp; try with_reducible rfl)) (fun K9 hK9 => ?_)
  clear hK8 K8
  simp only [Act.put, List.setIfInBounds_toArray, List.set_cons_zero, List.set_cons_succ]
  refine mix_take hK9 (some 15) (.load 27 (.tmp 14)) 27 _ (by kernel_rfl) (by kernel_rfl) (fun w' hS' => by (obtain ⟨_, sb⟩ := hS'; obtain ⟨b0, b1, b2, b3, b4, f0, f1, f2, f3, f4⟩ := sb; simp only [Ln.bx] at b0 b1 b2 b3 b4; rw [HV.out] at b3; simp only [opr]; go_simp; try with_reducible rfl)) (fun K10 hK10 => ?_)
  clear hK9 K9
  simp only [Act.put, List.setIfInBounds_toArray, List.set_cons_zero, List.set_cons_succ]
  refine mix_take hK10 (some 16) (.call { callee := Callee.builtin Builtin.len, args := #[.tmp 15], argTypes := #[27] }) 3 _ (by kernel_rfl) (by kernel_rfl) (fun w' hS' => by (obtain ⟨_, sb⟩ := hS'; obtain ⟨b0, b1, b2, b3, b4, f0, f1, f2, f3, f4⟩ := sb; simp only [Ln.bx] at b0 b1 b2 b3 b4; rw [HV.out] at b3; simp only [opr]; go_simp; try with_reducible rfl)) (fun K11 hK11 => ?_)
  clear hK10 K10
  simp only [Act.put, List.setIfInBounds_toArray, List.set_cons_zero, List.set_cons_succ]
  refine mix_take hK11 (some 17) (.binOp BinOp.sub 3 (.tmp 11) (.tmp 16) 3) 3 _ (by kernel_rfl) (by kernel_rfl) (fun w' hS' => by (obtain ⟨_, sb⟩ := hS'; obtain ⟨b0, b1, b2, b3, b4, f0, f1, f2, f3, f4⟩ := sb; simp only [Ln.bx] at b0 b1 b2 b3 b4; rw [HV.out] at b3; simp only [opr]; go_simp; try with_reducible rfl)) (fun K12 hK12 => ?_)
  clear hK11 K11
  simp only [Act.put, List.setIfInBounds_toArray, List.set_cons_zero, List.set_cons_succ]
  refine mix_take hK12 (some 18) (.call { callee := Callee.builtin Builtin.min, args := #[.tmp 7, .tmp 17], argTypes := #[3, 3] }) 3 _ (by kernel_rfl) (by kernel_rfl) (fun w' hS' => by (obtain ⟨_, sb⟩ := hS'; obtain ⟨b0, b1, b2, b3, b4, f0, f1, f2, f3, f4⟩ := sb; simp only [Ln.bx] at b0 b1 b2 b3 b4; rw [HV.out] at b3; simp only [opr]; go_simp; try with_reducible rfl)) (fun K13 hK13 => ?_)
  clear hK12 K12
  simp only [Act.put, List.setIfInBounds_toArray, List.set_cons_zero, List.set_cons_succ]
  refine mix_take hK13 (some 5) (.assign (.tmp 18)) 3 _ (by kernel_rfl) (by kernel_rfl) (fun w' hS' => by (obtain ⟨_, sb⟩ := hS'; obtain ⟨b0, b1, b2, b3, b4, f0, f1, f2, f3, f4⟩ := sb; simp only [Ln.bx] at b0 b1 b2 b3 b4; rw [HV.out] at b3; simp only [opr]; go_simp; try with_reducible rfl)) (fun K14 hK14 => ?_)
  clear hK13 K13
  simp only [Act.put, List.setIfInBounds_toArray, List.set_cons_zero, List.set_cons_succ]
  refine hK14 _ _ (mix_nil ?_)
  clear hK14 K14
  go_upto_region 2 with fail
  obtain ⟨w1, hw1⟩ : ∃ x, x = w.drew := ⟨_, rfl⟩
  have HS0 : Hid (Stay (fun _ => False) w w1) := by rw [hw1]; exact (Stay.refl _ _).drew
  rw [← hw1]
  clear hw1 hS
  have HB2 : Hid (LBox w1.drew q.b q.bx) := (HQ.out.box.keep HS0.out).keep (Stay.refl _ _).drew
  have HS2 : Hid ((fun w' => Stay (fun j => j = q.b ∨ q.u.ownBlock = some j) w w') w1.drew) := (HS0.out.drew).mono (fun _ _ h => h.elim)
  have hS2 := HS2.out
  have HW2 : Hid (Win w1.drew 1 q.u M.length (bys M)) := HQ.out.snt.stay HS0.out.drew (fun _ _ h => h)
  have HSRC2 : Hid (Src w1.drew sa k (bys (K.take k))) := by
    have := (HSRC.out.keep HS0.out.drew).front k (k * 1) HKM.out
    rwa [bys_take] at this
  refine wp_region_mix (fun w' => Stay (fun j => j = q.b ∨ q.u.ownBlock = some j) w w') [(0, true), (1, true), (2, true), (3, true), (5, true), (6, true), (7, true), (4, false), (8, false), (9, true), (10, true), (11, false)] (by kernel_rfl) (by kernel_rfl) (fun _ d _ _ _ h => by cases d <;> exact h) hS2 ?_
  refine mix_begin (fun K0 hK0 => ?_)
  refine mix_take hK0 (some 19) (.move (.tmp 0)) 62 _ (by kernel_rfl) (by kernel_rfl) (fun w' hS' => by (simp only [opr]; go_simp; try with_reducible rfl)) (fun K1 hK1 => ?_)
  clear hK0 K0
  simp only [Act.put, List.setIfInBounds_toArray, List.set_cons_zero, List.set_cons_succ]
  refine mix_take hK1 (some 20) (.move (.tmp 0)) 62 _ (by kernel_rfl) (by kernel_rfl) (fun w' hS' => by (simp only [opr]; go_simp; try with_reducible rfl)) (fun K2 hK2 => ?_)
  clear hK1 K1
  simp only [Act.put, List.setIfInBounds_toArray, List.set_cons_zero, List.set_cons_succ]
  refine mix_take hK2 (some 21) (.nilCheck (.tmp 20)) 0 _ (by kernel_rfl) (by kernel_rfl) (fun w' hS' => by (simp only [opr]; go_simp; try with_reducible rfl)) (fun K3 hK3 => ?_)
  clear hK2 K2
  simp only [Act.put, List.setIfInBounds_toArray, List.set_cons_zero, List.set_cons_succ]
  refine mix_take hK3 (some 22) (.fieldAddr 53 (.tmp 21) 1) 0 _ (by kernel_rfl) (by kernel_rfl) (fun w' hS' => by (simp only [opr]; go_simp; try with_reducible rfl)) (fun K4 hK4 => ?_)
  clear hK3 K3
  simp only [Act.put, List.setIfInBounds_toArray, List.set_cons_zero, List.set_cons_succ]
  refine mix_take hK4 (some 24) (.move (.tmp 1)) 27 _ (by kernel_rfl) (by kernel_rfl) (fun w' hS' => by (simp only [opr]; go_simp; try with_reducible rfl)) (fun K5 hK5 => ?_)
  clear hK4 K4
  simp only [Act.put, List.setIfInBounds_toArray, List.set_cons_zero, List.set_cons_succ]
  refine mix_take hK5 (some 25) (.move (.tmp 5)) 3 _ (by kernel_rfl) (by kernel_rfl) (fun w' hS' => by (simp only [opr]; go_simp; try with_reducible rfl)) (fun K6 hK6 => ?_)
  clear hK5 K5
  simp only [Act.put, List.setIfInBounds_toArray, List.set_cons_zero, List.set_cons_succ]
  refine mix_take hK6 (some 26) (.slice 27 (.tmp 24) none (some (.tmp 25)) none) 27 _ (by kernel_rfl) (by kernel_rfl) (fun w' hS' => by exact exec_slice_h elem27 size27 rfl rfl HKC.out w' _ _) (fun K7 hK7 => ?_)
  clear hK6 K6
  simp only [Act.put, List.setIfInBounds_toArray, List.set_cons_zero, List.set_cons_succ]
  refine mix_chain hK7 (fun K7c hK7c => ?_)
  clear hK7 K7
  refine op_plain (some 23) (.load 27 (.tmp 22)) 27 (by kernel_rfl) (by kernel_rfl) ?_
  have hb := HB2.out
  obtain ⟨b0, b1, b2, b3, b4, f0, f1, f2, f3, f4⟩ := hb
  simp only [Ln.bx] at b0 b1 b2 b3 b4
  go_wp2
  have hSl : (fun w' => Stay (fun j => j = q.b ∨ q.u.ownBlock = some j) w w') _ := HS2.out
  refine hK7c _ _ hSl (mix_begin fun K8 hK8 => ?_)
  clear hK7c K7c
  try simp only [Act.put, List.setIfInBounds_toArray, List.set_cons_zero, List.set_cons_succ]
  refine mix_chain hK8 (fun K8c hK8c => ?_)
  clear hK8 K8
  refine op_plain (some 27) (.call { callee := Callee.builtin Builtin.append, args := #[.tmp 23, .tmp 26], argTypes := #[27, 27] }) 27 (by kernel_rfl) (by kernel_rfl) ?_
  refine wpList_append_win rfl _ _ 27 rfl Try.underlying27 info5 rfl (by decide) (by decide) HW2.out rfl HNL.out HSRC2.out.1 HSRC2.out.2 (bys_one _) HNM.out rfl ?_
  intro vn wa hwa hsa hba
  obtain ⟨na, nc, hvn, _, _⟩ := hwa.shape
  subst hvn
  have HWA := hide' hwa
  have HSA := hide' hsa
  have HBA := hide' hba
  clear hwa hsa hba
  refine wpList_nil ?_
  have HB3 : Hid (LBox wa q.b q.bx) := HB2.out.stay HSA.out HBO.out
  have hSa : (fun w' => Stay (fun j => j = q.b ∨ q.u.ownBlock = some j) w w') wa := HS2.out.trans (HSA.out.mono (fun _ _ h => .inr h))
  refine hK8c _ _ hSa (mix_begin fun K9 hK9 => ?_)
  clear hK8c K8c
  try simp only [Act.put, List.setIfInBounds_toArray, List.set_cons_zero, List.set_cons_succ]
  refine mix_take hK9 (some 28) (.nilCheck (.tmp 19)) 0 _ (by kernel_rfl) (by kernel_rfl) (fun w' hS' => by (simp only [opr]; go_simp; try with_reducible rfl)) (fun K10 hK10 => ?_)
  clear hK9 K9
  simp only [Act.put, List.setIfInBounds_toArray, List.set_cons_zero, List.set_cons_succ]
  refine mix_take hK10 (some 29) (.fieldAddr 53 (.tmp 28) 1) 0 _ (by kernel_rfl) (by kernel_rfl) (fun w' hS' => by (simp only [opr]; go_simp; try with_reducible rfl)) (fun K11 hK11 => ?_)
  clear hK10 K10
  simp only [Act.put, List.setIfInBounds_toArray, List.set_cons_zero, List.set_cons_succ]
  refine mix_chain hK11 (fun K11c hK11c => ?_)
  clear hK11 K11
  refine op_plain none (.store 27 (.tmp 29) (.tmp 27)) 0 (by kernel_rfl) (by kernel_rfl) ?_
  have hb := HB3.out
  obtain ⟨b0, b1, b2, b3, b4, f0, f1, f2, f3, f4⟩ := hb
  simp only [Ln.bx] at b0 b1 b2 b3 b4
  go_wp2
  have hSs : (fun w' => Stay (fun j => j = q.b ∨ q.u.ownBlock = some j) w w') (wa.setCell ⟨q.b, 3, none⟩ (Value.slice na (M.length + k) nc)) := hSa.setCell (p := ⟨q.b, 3, none⟩) (.inl rfl) _
  refine hK11c _ _ hSs (mix_begin fun K12 hK12 => ?_)
  clear hK11c K11c
  try simp only [Act.put, List.setIfInBounds_toArray, List.set_cons_zero, List.set_cons_succ]
  refine hK12 _ _ (mix_nil ?_)
  clear hK12 K12
  go_wp2
  go_returns
  have hst : Stay q.own w (wa.setCell ⟨q.b, 3, none⟩ (Value.slice na (M.length + k) nc)) := hSs.mono (fun j _ h => h.elim .inl (fun h => .inr (.inr h)))
  have hbx := HB3.out.put3 (x := (Value.slice na (M.length + k) nc)) (q := Ln.bx (q.with q.v (Value.slice na (M.length + k) nc))) rfl
  have hst3 : Stay (fun j => j = q.b) wa (wa.setCell ⟨q.b, 3, none⟩ (Value.slice na (M.length + k) nc)) := (Stay.refl (fun j => j = q.b) wa).setCell (p := ⟨q.b, 3, none⟩) rfl _
  have hq := HQ.out
  have hsz := HS0.out.size
  have hsz2 := HSA.out.size
  have hlt := hq.lt
  have hbn : ∀ j, (Value.slice na (M.length + k) nc).ownBlock = some j → q.u.ownBlock = some j ∨ w1.heap.size = j := fun j hj => by
    rcases HBA.out with h | h
    · exact .inl (by rw [← h]; exact hj)
    · rw [hj] at h
      cases h
      exact .inr rfl
  have hvb : ∀ j, (Value.slice na (M.length + k) nc).ownBlock = some j → ¬ j = q.b := fun j hj e => by
    rcases hbn j hj with h | h
    · exact hq.ub j h e
    · have := hlt q.b (.inl rfl); omega
  have hnm := HKR.out
  have hlen : (K.take k).length = k := by rw [List.length_take, HML.out]; exact Nat.min_eq_left HKM.out
  have hwin : Win (wa.setCell ⟨q.b, 3, none⟩ (Value.slice na (M.length + k) nc)) 1 (Value.slice na (M.length + k) nc) (M ++ K.take k).length (bys (M ++ K.take k)) := by
    rw [bys_append, List.length_append, hlen]
    exact HWA.out.stay hst3 hvb
  have hoth : Win (wa.setCell ⟨q.b, 3, none⟩ (Value.slice na (M.length + k) nc)) 2 q.v L.length (its L) :=
    (hq.inn.stay ((HS0.out.drew.mono (T := fun j => q.u.ownBlock = some j) (fun _ _ h => h.elim)).trans HSA.out) (fun j hj h => hq.vu j hj h)).stay hst3 (fun j hj => hq.vb j hj)
  refine ⟨q.v, (Value.slice na (M.length + k) nc), rfl, ⟨hbx, hoth, hwin, hq.vb, hvb, fun j h1 h2 => ?_, hq.r1, hq.r2, hq.l1, ?_⟩, hst, fun j hj => ?_⟩
  · rcases hbn j h2 with h | h
    · exact hq.vu j h1 h
    · have := hlt j (.inr (.inl h1)); omega
  · rw [List.length_append, hlen]
    have := hq.m1
    show M.length + k ≤ q.r
    omega
  · rcases hj with hj | hj | hj
    · exact .inl (.inl hj)
    · exact .inl (.inr (.inl hj))
    · rcases hbn j hj with h | h
      · exact .inl (.inr (.inr h))
      · exact .inr (by omega)

end Go.Proofs.Ytffdkkbinkonbaa
