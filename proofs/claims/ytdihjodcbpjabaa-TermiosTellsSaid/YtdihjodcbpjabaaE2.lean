/-
  TermiosRaw walked: true of any setting and any byte. No conditions.
-/
import Derived.Test.YtdihjodcbpjabaaE0
namespace Go.Proofs.Ytdihjodcbpjabaa
open Go.RowKit

theorem and_256 (n : Int) : bits .and .i64 n 256 = 0 ∨ bits .and .i64 n 256 = 256 := by
  have h : BitVec.ofInt 64 256 = BitVec.twoPow 64 8 := by decide
  show IntKind.i64.wrap ((BitVec.ofInt 64 n &&& BitVec.ofInt 64 256).toNat : Nat) = 0 ∨ IntKind.i64.wrap ((BitVec.ofInt 64 n &&& BitVec.ofInt 64 256).toNat : Nat) = 256
  rw [h, BitVec.and_twoPow]
  split
  · right; decide
  · left; decide

theorem raw_raw (r : Tm) : raw (raw r) = raw r := by
  have e : bits .and .i64 (bits .and .i64 r.fl 256) 256 = bits .and .i64 r.fl 256 := by
    rcases and_256 r.fl with h | h <;> rw [h] <;> decide
  exact congrArg (fun x => (⟨0, 0, x, r.k0, r.k1, r.k2, r.k3, r.k4, r.k5, r.k6, r.k7, r.k8, r.k9, r.k10, r.k11, 1, 0⟩ : Tm)) e

theorem ccB_raw (r : Tm) : ∀ n, ccB (raw r) n = ccB r n
  | 0 => rfl
  | n + 1 => by
    show (ccB (raw r) n && upB 255 ((raw r).cc n)) = (ccB r n && upB 255 (r.cc n))
    rw [ccB_raw r n]
    rfl

theorem right_raw (r : Tm) (h : rightB r = true) : rightB (raw r) = true := by
  unfold rightB at h ⊢
  rw [ccB_raw]
  rw [Bool.and_eq_true] at h
  rw [h.1]
  have e : upB 1023 (raw r).fl = true := by
    show upB 1023 (bits .and .i64 r.fl 256) = true
    rcases and_256 r.fl with h | h <;> rw [h] <;> decide
  rw [e]
  rfl

theorem map_raw (r : Tm) (c : Int) (h0 : 0 ≤ c) : gB (raw r).fi c = c ∧ gI (raw r).fi c = true := by
  have hh : ∀ f, hasB (raw r).fi f = false := fun f => by
    show (!(bits .and .i64 0 f == 0)) = false
    have : bits .and .i64 0 f = 0 := by
      show IntKind.i64.wrap ((BitVec.ofInt 64 0 &&& BitVec.ofInt 64 f).toNat : Nat) = 0
      rw [show BitVec.ofInt 64 0 = 0#64 by decide]
      simp
      decide
    rw [this]; rfl
  have hl : low (raw r).fi c = c := by unfold low; rw [hh]; simp
  have hm : mapI (raw r).fi c = c := by unfold mapI; rw [hl, hh, hh, hh]; simp
  unfold gB gI
  rw [hm]
  have : ¬ c = -1 := by omega
  exact ⟨if_neg this, by simp [this]⟩

theorem eql_A {a : Act} {x y : Operand} {w : World} {d : Option Tmp} {ty : TypeId} {A : Array Value} (h : ∃ p : Tm, A = #[.int .i64 p.fi, .int .i64 p.fo, .int .i64 p.fl, .int .i64 p.k0, .int .i64 p.k1, .int .i64 p.k2, .int .i64 p.k3, .int .i64 p.k4, .int .i64 p.k5, .int .i64 p.k6, .int .i64 p.k7, .int .i64 p.k8, .int .i64 p.k9, .int .i64 p.k10, .int .i64 p.k11, .int .i64 p.mn, .int .i64 p.ti]) (hx : a.eval x = .agg A) (hy : a.eval y = .agg A) :
    (execOp a.eval (opr d (.binOp .eql 24 x y 24) ty)).run Try.prog w = .ok (.value (.bool true)) w := by
  obtain ⟨p, rfl⟩ := h
  exact eql_same p hx hy

/-- The law's three settings. -/
def Three (w : World) (b b5 b6 : Nat) (A B : Array Value) (w' : World) : Prop := Stay (fun _ => False) w w' ∧ ABox w' b A ∧ ABox w' b5 B ∧ ABox w' b6 B

theorem ABox.keep {w w1 : World} {b : Nat} {A : Array Value} (h : ABox w b A) (hs : Stay (fun _ => False) w w1) : ABox w1 b A := by
  obtain ⟨r, e, h⟩ := h
  exact ⟨r, e, h.keep hs⟩

theorem Three.keep {w W w1 : World} {b b5 b6 : Nat} {A B : Array Value} (h : Three w b b5 b6 A B W) (hs : Stay (fun _ => False) W w1) : Three w b b5 b6 A B w1 :=
  ⟨h.1.trans hs, h.2.1.keep hs, h.2.2.1.keep hs, h.2.2.2.keep hs⟩

set_option maxRecDepth 100000 in
set_option maxHeartbeats 2000000 in
theorem raw_any (r : Tm) (c : Int) (w : World) (h0 : 0 ≤ c) (h1 : c < 256) : Calls Try.prog 4 #[.agg #[.int .i64 r.fi, .int .i64 r.fo, .int .i64 r.fl, .int .i64 r.k0, .int .i64 r.k1, .int .i64 r.k2, .int .i64 r.k3, .int .i64 r.k4, .int .i64 r.k5, .int .i64 r.k6, .int .i64 r.k7, .int .i64 r.k8, .int .i64 r.k9, .int .i64 r.k10, .int .i64 r.k11, .int .i64 r.mn, .int .i64 r.ti], .int .u8 c] w (LawTrue w) := by
  have H6 := hide' (fun w => map6 (raw r) c w h0 h1)
  rw [(map_raw r c h0).1, (map_raw r c h0).2] at H6
  have H8 := hide' (right8 (raw r))
  have H9 := hide' (right9 r)
  have H13 := hide' (raw13 r)
  have HRR := hide' (raw13 (raw r))
  rw [raw_raw] at HRR
  have HR := hide' (right_raw r)
  have HX := hide' (TBox.new (w := w) r rfl)
  have HS := hide' ((Stay.refl (fun _ => False) w).alloc (.cells #[.int .i64 r.fi, .int .i64 r.fo, .int .i64 r.fl, .int .i64 r.k0, .int .i64 r.k1, .int .i64 r.k2, .int .i64 r.k3, .int .i64 r.k4, .int .i64 r.k5, .int .i64 r.k6, .int .i64 r.k7, .int .i64 r.k8, .int .i64 r.k9, .int .i64 r.k10, .int .i64 r.k11, .int .i64 r.mn, .int .i64 r.ti] 24))
  have HE : Hid (∃ p : Tm, (#[.int .i64 (raw r).fi, .int .i64 (raw r).fo, .int .i64 (raw r).fl, .int .i64 (raw r).k0, .int .i64 (raw r).k1, .int .i64 (raw r).k2, .int .i64 (raw r).k3, .int .i64 (raw r).k4, .int .i64 (raw r).k5, .int .i64 (raw r).k6, .int .i64 (raw r).k7, .int .i64 (raw r).k8, .int .i64 (raw r).k9, .int .i64 (raw r).k10, .int .i64 (raw r).k11, .int .i64 (raw r).mn, .int .i64 (raw r).ti] : Array Value) = #[.int .i64 p.fi, .int .i64 p.fo, .int .i64 p.fl, .int .i64 p.k0, .int .i64 p.k1, .int .i64 p.k2, .int .i64 p.k3, .int .i64 p.k4, .int .i64 p.k5, .int .i64 p.k6, .int .i64 p.k7, .int .i64 p.k8, .int .i64 p.k9, .int .i64 p.k10, .int .i64 p.k11, .int .i64 p.mn, .int .i64 p.ti]) := ⟨_, rfl⟩
  have HN := hide' (fun (w : World) => TBox.new (w := w) (raw r) rfl)
  obtain ⟨q, hq⟩ : ∃ q, q = rightB r := ⟨_, rfl⟩
  rw [← hq] at H9 HR
  clear hq h0 h1
  go_enter Try.func4, Try.ntmps4
  go_upto_region 1 with fail
  obtain ⟨W, hW⟩ : ∃ W, W = w.alloc (.cells #[.int .i64 r.fi, .int .i64 r.fo, .int .i64 r.fl, .int .i64 r.k0, .int .i64 r.k1, .int .i64 r.k2, .int .i64 r.k3, .int .i64 r.k4, .int .i64 r.k5, .int .i64 r.k6, .int .i64 r.k7, .int .i64 r.k8, .int .i64 r.k9, .int .i64 r.k10, .int .i64 r.k11, .int .i64 r.mn, .int .i64 r.ti] 24) := ⟨_, rfl⟩
  obtain ⟨b, hb⟩ : ∃ b, b = w.heap.size := ⟨_, rfl⟩
  rw [← hW] at HX HS ⊢
  rw [← hb] at HX ⊢
  clear hW hb
  go_wp2_with (refine wpList_exec rfl (run_load_TBox rfl rfl HX.out) ?_)
  refine (H13.out _).mono ?_
  rintro e w1 ⟨rfl, hs⟩
  have HS1 := hide' (HS.out.trans hs)
  have HX1 := hide' (HX.out.keep hs)
  clear hs HS HX
  go_upto_region 2 with fail
  obtain ⟨B, hB⟩ : ∃ B : Array Value, B = #[.int .i64 (raw r).fi, .int .i64 (raw r).fo, .int .i64 (raw r).fl, .int .i64 (raw r).k0, .int .i64 (raw r).k1, .int .i64 (raw r).k2, .int .i64 (raw r).k3, .int .i64 (raw r).k4, .int .i64 (raw r).k5, .int .i64 (raw r).k6, .int .i64 (raw r).k7, .int .i64 (raw r).k8, .int .i64 (raw r).k9, .int .i64 (raw r).k10, .int .i64 (raw r).k11, .int .i64 (raw r).mn, .int .i64 (raw r).ti] := ⟨_, rfl⟩
  have HB : Hid ((#[.int .i64 0, .int .i64 0, .int .i64 (bits .and .i64 r.fl 256), .int .i64 r.k0, .int .i64 r.k1, .int .i64 r.k2, .int .i64 r.k3, .int .i64 r.k4, .int .i64 r.k5, .int .i64 r.k6, .int .i64 r.k7, .int .i64 r.k8, .int .i64 r.k9, .int .i64 r.k10, .int .i64 r.k11, .int .i64 1, .int .i64 0] : Array Value) = B) := hB.symm
  have HN1 := hide' (HN.out w1)
  rw [← hB] at H6 H8 HRR HE HN HN1 ⊢
  have HA1 : Hid (ABox (w1.alloc (.cells B 24)) w1.heap.size B) := ⟨raw r, hB, HN1.out⟩
  have HS2 := hide' (HS1.out.alloc (.cells B 24))
  have HX2 := hide' (HX1.out.alloc (.cells B 24))
  obtain ⟨b5, hb5⟩ : ∃ b, b = w1.heap.size := ⟨_, rfl⟩
  obtain ⟨W2, hW2⟩ : ∃ W2, W2 = w1.alloc (.cells B 24) := ⟨_, rfl⟩
  rw [← hW2] at HA1 HS2 HX2 ⊢
  rw [← hb5] at HA1 ⊢
  clear hb5 hW2 HN1 HS1 HX1
  obtain ⟨c0, c1, c2, c3, c4, c5, c6, c7, c8, c9, c10, c11, c12, c13, c14, c15, c16, _⟩ := HX2.out
  go_upto_region 3 with fail
  rw [HB.out]
  clear c0 c1 c2 c3 c4 c5 c6 c7 c8 c9 c10 c11 c12 c13 c14 c15 c16
  have HN2 := hide' (HN.out W2)
  have HA2 : Hid (ABox (W2.alloc (.cells B 24)) W2.heap.size B) := ⟨raw r, hB, HN2.out⟩
  have HT : Hid (Three w b b5 W2.heap.size #[.int .i64 r.fi, .int .i64 r.fo, .int .i64 r.fl, .int .i64 r.k0, .int .i64 r.k1, .int .i64 r.k2, .int .i64 r.k3, .int .i64 r.k4, .int .i64 r.k5, .int .i64 r.k6, .int .i64 r.k7, .int .i64 r.k8, .int .i64 r.k9, .int .i64 r.k10, .int .i64 r.k11, .int .i64 r.mn, .int .i64 r.ti] B (W2.alloc (.cells B 24))) := ⟨HS2.out.alloc _, ⟨r, rfl, HX2.out.alloc _⟩, HA1.out.keep ((Stay.refl _ _).alloc _), HA2.out⟩
  obtain ⟨b6, hb6⟩ : ∃ b, b = W2.heap.size := ⟨_, rfl⟩
  obtain ⟨W3, hW3⟩ : ∃ W3, W3 = W2.alloc (.cells B 24) := ⟨_, rfl⟩
  obtain ⟨A, hA⟩ : ∃ A : Array Value, A = #[.int .i64 r.fi, .int .i64 r.fo, .int .i64 r.fl, .int .i64 r.k0, .int .i64 r.k1, .int .i64 r.k2, .int .i64 r.k3, .int .i64 r.k4, .int .i64 r.k5, .int .i64 r.k6, .int .i64 r.k7, .int .i64 r.k8, .int .i64 r.k9, .int .i64 r.k10, .int .i64 r.k11, .int .i64 r.mn, .int .i64 r.ti] := ⟨_, rfl⟩
  rw [← hW3] at HT ⊢
  rw [← hb6] at HT ⊢
  rw [← hA] at HT H9 ⊢
  clear hb6 hW3 hA hB HB HN HN2 HA1 HA2 HS2 HX2
  go_wp2_with (refine wpList_exec rfl (run_load_ABox rfl rfl HT.out.2.2.1) ?_)
  refine (H6.out _).mono ?_
  rintro e w4 ⟨rfl, hs⟩
  have HT4 := hide' (HT.out.keep hs)
  clear hs HT
  go_wp2_with fail
  have hS : Three w b b5 b6 A B w4.drew := HT4.out.keep ((Stay.refl _ _).drew)
  cases q
  · refine wp_region_mix (Three w b b5 b6 A B) [(0, true), (1, true), (2, true), (3, true), (4, true), (5, false), (6, true), (7, true), (8, true), (9, false), (10, true), (11, true), (12, true), (13, true), (15, true), (14, false), (16, true), (17, true), (18, true), (19, true), (20, true), (21, true), (22, true), (23, true), (24, true), (25, true), (26, true), (27, false), (28, true), (29, true)] (by kernel_rfl) (by kernel_rfl) (fun _ d _ _ _ h => by cases d <;> exact h) hS ?_
    refine mix_begin (fun K0 hK0 => ?_)
    refine mix_take hK0 (some 23) (.load 24 (.tmp 5)) 24 _ (by kernel_rfl) (by kernel_rfl) (fun w' hS' => by first | exact run_load_ABox rfl rfl hS'.2.1 | exact run_load_ABox rfl rfl hS'.2.2.1 | exact run_load_ABox rfl rfl hS'.2.2.2) (fun K1 hK1 => ?_)
    clear hK0 K0
    simp only [Act.put, List.setIfInBounds_toArray, List.set_cons_zero, List.set_cons_succ]
    refine mix_take hK1 (some 24) (.load 24 (.tmp 6)) 24 _ (by kernel_rfl) (by kernel_rfl) (fun w' hS' => by first | exact run_load_ABox rfl rfl hS'.2.1 | exact run_load_ABox rfl rfl hS'.2.2.1 | exact run_load_ABox rfl rfl hS'.2.2.2) (fun K2 hK2 => ?_)
    clear hK1 K1
    simp only [Act.put, List.setIfInBounds_toArray, List.set_cons_zero, List.set_cons_succ]
    refine mix_take hK2 (some 25) (.binOp BinOp.eql 24 (.tmp 23) (.tmp 24) 24) 4 _ (by kernel_rfl) (by kernel_rfl) (fun w' hS' => by exact eql_A HE.out rfl rfl) (fun K3 hK3 => ?_)
    clear hK2 K2
    simp only [Act.put, List.setIfInBounds_toArray, List.set_cons_zero, List.set_cons_succ]
    refine mix_take hK3 (some 26) (.move (.tmp 25)) 4 _ (by kernel_rfl) (by kernel_rfl) (fun w' hS' => by simp only [opr]; go_simp; try with_reducible rfl) (fun K4 hK4 => ?_)
    clear hK3 K3
    simp only [Act.put, List.setIfInBounds_toArray, List.set_cons_zero, List.set_cons_succ]
    refine mix_take hK4 (some 27) (.load 24 (.tmp 2)) 24 _ (by kernel_rfl) (by kernel_rfl) (fun w' hS' => by first | exact run_load_ABox rfl rfl hS'.2.1 | exact run_load_ABox rfl rfl hS'.2.2.1 | exact run_load_ABox rfl rfl hS'.2.2.2) (fun K5 hK5 => ?_)
    clear hK4 K4
    simp only [Act.put, List.setIfInBounds_toArray, List.set_cons_zero, List.set_cons_succ]
    refine mix_call hK5 (some 28) 9 #[.tmp 27] #[24] 4 _ (by kernel_rfl) (by kernel_rfl) (enters Try.func9 (by kernel_rfl) (by kernel_rfl)) (by go_simp; try with_reducible rfl) (fun K6 hK6 => ?_)
    clear hK5 K5
    refine (H9.out _).mono ?_
    rintro e wm1 ⟨rfl, hs1⟩
    have hS1 : _ := hS.keep hs1
    refine ⟨_, rfl, hS1, ?_⟩
    clear hs1
    simp only [Act.put, List.setIfInBounds_toArray, List.set_cons_zero, List.set_cons_succ]
    refine mix_take hK6 (some 29) (.unOp UnOp.not 4 (.tmp 28)) 4 _ (by kernel_rfl) (by kernel_rfl) (fun w' hS' => by simp only [opr]; go_simp; try with_reducible rfl) (fun K7 hK7 => ?_)
    clear hK6 K6
    simp only [Act.put, List.setIfInBounds_toArray, List.set_cons_zero, List.set_cons_succ]
    refine mix_take hK7 (some 30) (.move (.tmp 29)) 4 _ (by kernel_rfl) (by kernel_rfl) (fun w' hS' => by simp only [opr]; go_simp; try with_reducible rfl) (fun K8 hK8 => ?_)
    clear hK7 K7
    simp only [Act.put, List.setIfInBounds_toArray, List.set_cons_zero, List.set_cons_succ]
    refine mix_skip hK8 (some 31) (by kernel_rfl) (by kernel_rfl) hS1 (fun K9 hK9 => ?_)
    clear hK8 K8
    simp only [Act.put, List.setIfInBounds_toArray, List.set_cons_zero, List.set_cons_succ]
    refine mix_skip hK9 (some 32) (by kernel_rfl) (by kernel_rfl) hS1 (fun K10 hK10 => ?_)
    clear hK9 K9
    simp only [Act.put, List.setIfInBounds_toArray, List.set_cons_zero, List.set_cons_succ]
    refine mix_take hK10 (some 33) (.pick (.tmp 30) (.const (Value.bool true)) (.tmp 32)) 4 _ (by kernel_rfl) (by kernel_rfl) (fun w' hS' => by simp only [opr]; go_simp; try with_reducible rfl) (fun K11 hK11 => ?_)
    clear hK10 K10
    simp only [Act.put, List.setIfInBounds_toArray, List.set_cons_zero, List.set_cons_succ]
    refine mix_take hK11 (some 34) (.pick (.tmp 26) (.tmp 33) (.const (Value.bool false))) 4 _ (by kernel_rfl) (by kernel_rfl) (fun w' hS' => by simp only [opr]; go_simp; try with_reducible rfl) (fun K12 hK12 => ?_)
    clear hK11 K11
    simp only [Act.put, List.setIfInBounds_toArray, List.set_cons_zero, List.set_cons_succ]
    refine mix_take hK12 (some 35) (.move (.tmp 34)) 4 _ (by kernel_rfl) (by kernel_rfl) (fun w' hS' => by simp only [opr]; go_simp; try with_reducible rfl) (fun K13 hK13 => ?_)
    clear hK12 K12
    simp only [Act.put, List.setIfInBounds_toArray, List.set_cons_zero, List.set_cons_succ]
    refine mix_take hK13 (some 36) (.load 24 (.tmp 5)) 24 _ (by kernel_rfl) (by kernel_rfl) (fun w' hS' => by first | exact run_load_ABox rfl rfl hS'.2.1 | exact run_load_ABox rfl rfl hS'.2.2.1 | exact run_load_ABox rfl rfl hS'.2.2.2) (fun K14 hK14 => ?_)
    clear hK13 K13
    simp only [Act.put, List.setIfInBounds_toArray, List.set_cons_zero, List.set_cons_succ]
    refine mix_take hK14 (some 38) (.load 24 (.tmp 5)) 24 _ (by kernel_rfl) (by kernel_rfl) (fun w' hS' => by first | exact run_load_ABox rfl rfl hS'.2.1 | exact run_load_ABox rfl rfl hS'.2.2.1 | exact run_load_ABox rfl rfl hS'.2.2.2) (fun K15 hK15 => ?_)
    clear hK14 K14
    simp only [Act.put, List.setIfInBounds_toArray, List.set_cons_zero, List.set_cons_succ]
    refine mix_call hK15 (some 37) 13 #[.tmp 36] #[24] 24 _ (by kernel_rfl) (by kernel_rfl) (enters Try.func13 (by kernel_rfl) (by kernel_rfl)) (by go_simp; try with_reducible rfl) (fun K16 hK16 => ?_)
    clear hK15 K15
    refine (HRR.out _).mono ?_
    rintro e wm2 ⟨rfl, hs2⟩
    have hS2 : _ := hS1.keep hs2
    refine ⟨_, rfl, hS2, ?_⟩
    clear hs2
    simp only [Act.put, List.setIfInBounds_toArray, List.set_cons_zero, List.set_cons_succ]
    refine mix_take hK16 (some 39) (.binOp BinOp.eql 24 (.tmp 37) (.tmp 38) 24) 4 _ (by kernel_rfl) (by kernel_rfl) (fun w' hS' => by exact eql_A HE.out rfl rfl) (fun K17 hK17 => ?_)
    clear hK16 K16
    simp only [Act.put, List.setIfInBounds_toArray, List.set_cons_zero, List.set_cons_succ]
    refine mix_take hK17 (some 40) (.pick (.tmp 35) (.tmp 39) (.const (Value.bool false))) 4 _ (by kernel_rfl) (by kernel_rfl) (fun w' hS' => by simp only [opr]; go_simp; try with_reducible rfl) (fun K18 hK18 => ?_)
    clear hK17 K17
    simp only [Act.put, List.setIfInBounds_toArray, List.set_cons_zero, List.set_cons_succ]
    refine mix_take hK18 (some 41) (.move (.tmp 40)) 4 _ (by kernel_rfl) (by kernel_rfl) (fun w' hS' => by simp only [opr]; go_simp; try with_reducible rfl) (fun K19 hK19 => ?_)
    clear hK18 K18
    simp only [Act.put, List.setIfInBounds_toArray, List.set_cons_zero, List.set_cons_succ]
    refine mix_take hK19 (some 42) (.move (.tmp 7)) 5 _ (by kernel_rfl) (by kernel_rfl) (fun w' hS' => by simp only [opr]; go_simp; try with_reducible rfl) (fun K20 hK20 => ?_)
    clear hK19 K19
    simp only [Act.put, List.setIfInBounds_toArray, List.set_cons_zero, List.set_cons_succ]
    refine mix_take hK20 (some 43) (.move (.tmp 1)) 5 _ (by kernel_rfl) (by kernel_rfl) (fun w' hS' => by simp only [opr]; go_simp; try with_reducible rfl) (fun K21 hK21 => ?_)
    clear hK20 K20
    simp only [Act.put, List.setIfInBounds_toArray, List.set_cons_zero, List.set_cons_succ]
    refine mix_take hK21 (some 44) (.binOp BinOp.eql 5 (.tmp 42) (.tmp 43) 5) 4 _ (by kernel_rfl) (by kernel_rfl) (fun w' hS' => by simp only [opr]; go_simp; try with_reducible rfl) (fun K22 hK22 => ?_)
    clear hK21 K21
    simp only [Act.put, List.setIfInBounds_toArray, List.set_cons_zero, List.set_cons_succ]
    refine mix_take hK22 (some 45) (.pick (.tmp 41) (.tmp 44) (.const (Value.bool false))) 4 _ (by kernel_rfl) (by kernel_rfl) (fun w' hS' => by simp only [opr]; go_simp; try with_reducible rfl) (fun K23 hK23 => ?_)
    clear hK22 K22
    simp only [Act.put, List.setIfInBounds_toArray, List.set_cons_zero, List.set_cons_succ]
    refine mix_take hK23 (some 46) (.move (.tmp 45)) 4 _ (by kernel_rfl) (by kernel_rfl) (fun w' hS' => by simp only [opr]; go_simp; try with_reducible rfl) (fun K24 hK24 => ?_)
    clear hK23 K23
    simp only [Act.put, List.setIfInBounds_toArray, List.set_cons_zero, List.set_cons_succ]
    refine mix_take hK24 (some 47) (.move (.tmp 8)) 4 _ (by kernel_rfl) (by kernel_rfl) (fun w' hS' => by simp only [opr]; go_simp; try with_reducible rfl) (fun K25 hK25 => ?_)
    clear hK24 K24
    simp only [Act.put, List.setIfInBounds_toArray, List.set_cons_zero, List.set_cons_succ]
    refine mix_take hK25 (some 48) (.pick (.tmp 46) (.tmp 47) (.const (Value.bool false))) 4 _ (by kernel_rfl) (by kernel_rfl) (fun w' hS' => by simp only [opr]; go_simp; try with_reducible rfl) (fun K26 hK26 => ?_)
    clear hK25 K25
    simp only [Act.put, List.setIfInBounds_toArray, List.set_cons_zero, List.set_cons_succ]
    refine mix_take hK26 (some 49) (.move (.tmp 48)) 4 _ (by kernel_rfl) (by kernel_rfl) (fun w' hS' => by simp only [opr]; go_simp; try with_reducible rfl) (fun K27 hK27 => ?_)
    clear hK26 K26
    simp only [Act.put, List.setIfInBounds_toArray, List.set_cons_zero, List.set_cons_succ]
    refine mix_call hK27 (some 50) 12 #[] #[] 4 _ (by kernel_rfl) (by kernel_rfl) (enters Try.func12 (by kernel_rfl) (by kernel_rfl)) (by go_simp; try with_reducible rfl) (fun K28 hK28 => ?_)
    clear hK27 K27
    refine (awake12 _).mono ?_
    rintro e wm3 ⟨rfl, hs3⟩
    have hS3 : _ := hS2.keep hs3
    refine ⟨_, rfl, hS3, ?_⟩
    clear hs3
    simp only [Act.put, List.setIfInBounds_toArray, List.set_cons_zero, List.set_cons_succ]
    refine mix_take hK28 (some 51) (.pick (.tmp 49) (.tmp 50) (.const (Value.bool false))) 4 _ (by kernel_rfl) (by kernel_rfl) (fun w' hS' => by simp only [opr]; go_simp; try with_reducible rfl) (fun K29 hK29 => ?_)
    clear hK28 K28
    simp only [Act.put, List.setIfInBounds_toArray, List.set_cons_zero, List.set_cons_succ]
    refine mix_take hK29 (some 4) (.assign (.tmp 51)) 4 _ (by kernel_rfl) (by kernel_rfl) (fun w' hS' => by simp only [opr]; go_simp; try with_reducible rfl) (fun K30 hK30 => ?_)
    clear hK29 K29
    simp only [Act.put, List.setIfInBounds_toArray, List.set_cons_zero, List.set_cons_succ]
    refine hK30 _ _ (mix_nil ?_)
    clear hK30 K30
    go_wp2
    go_ret
    exact ⟨by simp, hS3.1⟩
  · rw [HR.out (by first | rfl | trivial)] at H8
    refine wp_region_mix (Three w b b5 b6 A B) [(0, true), (1, true), (2, true), (3, true), (4, true), (5, false), (6, true), (7, true), (8, true), (9, false), (10, true), (11, true), (12, true), (13, true), (15, true), (14, false), (16, true), (17, true), (18, true), (19, true), (20, true), (21, true), (22, true), (23, true), (24, true), (25, true), (26, true), (27, false), (28, true), (29, true)] (by kernel_rfl) (by kernel_rfl) (fun _ d _ _ _ h => by cases d <;> exact h) hS ?_
    refine mix_begin (fun K0 hK0 => ?_)
    refine mix_take hK0 (some 23) (.load 24 (.tmp 5)) 24 _ (by kernel_rfl) (by kernel_rfl) (fun w' hS' => by first | exact run_load_ABox rfl rfl hS'.2.1 | exact run_load_ABox rfl rfl hS'.2.2.1 | exact run_load_ABox rfl rfl hS'.2.2.2) (fun K1 hK1 => ?_)
    clear hK0 K0
    simp only [Act.put, List.setIfInBounds_toArray, List.set_cons_zero, List.set_cons_succ]
    refine mix_take hK1 (some 24) (.load 24 (.tmp 6)) 24 _ (by kernel_rfl) (by kernel_rfl) (fun w' hS' => by first | exact run_load_ABox rfl rfl hS'.2.1 | exact run_load_ABox rfl rfl hS'.2.2.1 | exact run_load_ABox rfl rfl hS'.2.2.2) (fun K2 hK2 => ?_)
    clear hK1 K1
    simp only [Act.put, List.setIfInBounds_toArray, List.set_cons_zero, List.set_cons_succ]
    refine mix_take hK2 (some 25) (.binOp BinOp.eql 24 (.tmp 23) (.tmp 24) 24) 4 _ (by kernel_rfl) (by kernel_rfl) (fun w' hS' => by exact eql_A HE.out rfl rfl) (fun K3 hK3 => ?_)
    clear hK2 K2
    simp only [Act.put, List.setIfInBounds_toArray, List.set_cons_zero, List.set_cons_succ]
    refine mix_take hK3 (some 26) (.move (.tmp 25)) 4 _ (by kernel_rfl) (by kernel_rfl) (fun w' hS' => by simp only [opr]; go_simp; try with_reducible rfl) (fun K4 hK4 => ?_)
    clear hK3 K3
    simp only [Act.put, List.setIfInBounds_toArray, List.set_cons_zero, List.set_cons_succ]
    refine mix_take hK4 (some 27) (.load 24 (.tmp 2)) 24 _ (by kernel_rfl) (by kernel_rfl) (fun w' hS' => by first | exact run_load_ABox rfl rfl hS'.2.1 | exact run_load_ABox rfl rfl hS'.2.2.1 | exact run_load_ABox rfl rfl hS'.2.2.2) (fun K5 hK5 => ?_)
    clear hK4 K4
    simp only [Act.put, List.setIfInBounds_toArray, List.set_cons_zero, List.set_cons_succ]
    refine mix_call hK5 (some 28) 9 #[.tmp 27] #[24] 4 _ (by kernel_rfl) (by kernel_rfl) (enters Try.func9 (by kernel_rfl) (by kernel_rfl)) (by go_simp; try with_reducible rfl) (fun K6 hK6 => ?_)
    clear hK5 K5
    refine (H9.out _).mono ?_
    rintro e wm1 ⟨rfl, hs1⟩
    have hS1 : _ := hS.keep hs1
    refine ⟨_, rfl, hS1, ?_⟩
    clear hs1
    simp only [Act.put, List.setIfInBounds_toArray, List.set_cons_zero, List.set_cons_succ]
    refine mix_take hK6 (some 29) (.unOp UnOp.not 4 (.tmp 28)) 4 _ (by kernel_rfl) (by kernel_rfl) (fun w' hS' => by simp only [opr]; go_simp; try with_reducible rfl) (fun K7 hK7 => ?_)
    clear hK6 K6
    simp only [Act.put, List.setIfInBounds_toArray, List.set_cons_zero, List.set_cons_succ]
    refine mix_take hK7 (some 30) (.move (.tmp 29)) 4 _ (by kernel_rfl) (by kernel_rfl) (fun w' hS' => by simp only [opr]; go_simp; try with_reducible rfl) (fun K8 hK8 => ?_)
    clear hK7 K7
    simp only [Act.put, List.setIfInBounds_toArray, List.set_cons_zero, List.set_cons_succ]
    refine mix_take hK8 (some 31) (.load 24 (.tmp 5)) 24 _ (by kernel_rfl) (by kernel_rfl) (fun w' hS' => by first | exact run_load_ABox rfl rfl hS'.2.1 | exact run_load_ABox rfl rfl hS'.2.2.1 | exact run_load_ABox rfl rfl hS'.2.2.2) (fun K9 hK9 => ?_)
    clear hK8 K8
    simp only [Act.put, List.setIfInBounds_toArray, List.set_cons_zero, List.set_cons_succ]
    refine mix_call hK9 (some 32) 8 #[.tmp 31] #[24] 4 _ (by kernel_rfl) (by kernel_rfl) (enters Try.func8 (by kernel_rfl) (by kernel_rfl)) (by go_simp; try with_reducible rfl) (fun K10 hK10 => ?_)
    clear hK9 K9
    refine (H8.out _).mono ?_
    rintro e wm2 ⟨rfl, hs2⟩
    have hS2 : _ := hS1.keep hs2
    refine ⟨_, rfl, hS2, ?_⟩
    clear hs2
    simp only [Act.put, List.setIfInBounds_toArray, List.set_cons_zero, List.set_cons_succ]
    refine mix_take hK10 (some 33) (.pick (.tmp 30) (.const (Value.bool true)) (.tmp 32)) 4 _ (by kernel_rfl) (by kernel_rfl) (fun w' hS' => by simp only [opr]; go_simp; try with_reducible rfl) (fun K11 hK11 => ?_)
    clear hK10 K10
    simp only [Act.put, List.setIfInBounds_toArray, List.set_cons_zero, List.set_cons_succ]
    refine mix_take hK11 (some 34) (.pick (.tmp 26) (.tmp 33) (.const (Value.bool false))) 4 _ (by kernel_rfl) (by kernel_rfl) (fun w' hS' => by simp only [opr]; go_simp; try with_reducible rfl) (fun K12 hK12 => ?_)
    clear hK11 K11
    simp only [Act.put, List.setIfInBounds_toArray, List.set_cons_zero, List.set_cons_succ]
    refine mix_take hK12 (some 35) (.move (.tmp 34)) 4 _ (by kernel_rfl) (by kernel_rfl) (fun w' hS' => by simp only [opr]; go_simp; try with_reducible rfl) (fun K13 hK13 => ?_)
    clear hK12 K12
    simp only [Act.put, List.setIfInBounds_toArray, List.set_cons_zero, List.set_cons_succ]
    refine mix_take hK13 (some 36) (.load 24 (.tmp 5)) 24 _ (by kernel_rfl) (by kernel_rfl) (fun w' hS' => by first | exact run_load_ABox rfl rfl hS'.2.1 | exact run_load_ABox rfl rfl hS'.2.2.1 | exact run_load_ABox rfl rfl hS'.2.2.2) (fun K14 hK14 => ?_)
    clear hK13 K13
    simp only [Act.put, List.setIfInBounds_toArray, List.set_cons_zero, List.set_cons_succ]
    refine mix_take hK14 (some 38) (.load 24 (.tmp 5)) 24 _ (by kernel_rfl) (by kernel_rfl) (fun w' hS' => by first | exact run_load_ABox rfl rfl hS'.2.1 | exact run_load_ABox rfl rfl hS'.2.2.1 | exact run_load_ABox rfl rfl hS'.2.2.2) (fun K15 hK15 => ?_)
    clear hK14 K14
    simp only [Act.put, List.setIfInBounds_toArray, List.set_cons_zero, List.set_cons_succ]
    refine mix_call hK15 (some 37) 13 #[.tmp 36] #[24] 24 _ (by kernel_rfl) (by kernel_rfl) (enters Try.func13 (by kernel_rfl) (by kernel_rfl)) (by go_simp; try with_reducible rfl) (fun K16 hK16 => ?_)
    clear hK15 K15
    refine (HRR.out _).mono ?_
    rintro e wm3 ⟨rfl, hs3⟩
    have hS3 : _ := hS2.keep hs3
    refine ⟨_, rfl, hS3, ?_⟩
    clear hs3
    simp only [Act.put, List.setIfInBounds_toArray, List.set_cons_zero, List.set_cons_succ]
    refine mix_take hK16 (some 39) (.binOp BinOp.eql 24 (.tmp 37) (.tmp 38) 24) 4 _ (by kernel_rfl) (by kernel_rfl) (fun w' hS' => by exact eql_A HE.out rfl rfl) (fun K17 hK17 => ?_)
    clear hK16 K16
    simp only [Act.put, List.setIfInBounds_toArray, List.set_cons_zero, List.set_cons_succ]
    refine mix_take hK17 (some 40) (.pick (.tmp 35) (.tmp 39) (.const (Value.bool false))) 4 _ (by kernel_rfl) (by kernel_rfl) (fun w' hS' => by simp only [opr]; go_simp; try with_reducible rfl) (fun K18 hK18 => ?_)
    clear hK17 K17
    simp only [Act.put, List.setIfInBounds_toArray, List.set_cons_zero, List.set_cons_succ]
    refine mix_take hK18 (some 41) (.move (.tmp 40)) 4 _ (by kernel_rfl) (by kernel_rfl) (fun w' hS' => by simp only [opr]; go_simp; try with_reducible rfl) (fun K19 hK19 => ?_)
    clear hK18 K18
    simp only [Act.put, List.setIfInBounds_toArray, List.set_cons_zero, List.set_cons_succ]
    refine mix_take hK19 (some 42) (.move (.tmp 7)) 5 _ (by kernel_rfl) (by kernel_rfl) (fun w' hS' => by simp only [opr]; go_simp; try with_reducible rfl) (fun K20 hK20 => ?_)
    clear hK19 K19
    simp only [Act.put, List.setIfInBounds_toArray, List.set_cons_zero, List.set_cons_succ]
    refine mix_take hK20 (some 43) (.move (.tmp 1)) 5 _ (by kernel_rfl) (by kernel_rfl) (fun w' hS' => by simp only [opr]; go_simp; try with_reducible rfl) (fun K21 hK21 => ?_)
    clear hK20 K20
    simp only [Act.put, List.setIfInBounds_toArray, List.set_cons_zero, List.set_cons_succ]
    refine mix_take hK21 (some 44) (.binOp BinOp.eql 5 (.tmp 42) (.tmp 43) 5) 4 _ (by kernel_rfl) (by kernel_rfl) (fun w' hS' => by simp only [opr]; go_simp; try with_reducible rfl) (fun K22 hK22 => ?_)
    clear hK21 K21
    simp only [Act.put, List.setIfInBounds_toArray, List.set_cons_zero, List.set_cons_succ]
    refine mix_take hK22 (some 45) (.pick (.tmp 41) (.tmp 44) (.const (Value.bool false))) 4 _ (by kernel_rfl) (by kernel_rfl) (fun w' hS' => by simp only [opr]; go_simp; try with_reducible rfl) (fun K23 hK23 => ?_)
    clear hK22 K22
    simp only [Act.put, List.setIfInBounds_toArray, List.set_cons_zero, List.set_cons_succ]
    refine mix_take hK23 (some 46) (.move (.tmp 45)) 4 _ (by kernel_rfl) (by kernel_rfl) (fun w' hS' => by simp only [opr]; go_simp; try with_reducible rfl) (fun K24 hK24 => ?_)
    clear hK23 K23
    simp only [Act.put, List.setIfInBounds_toArray, List.set_cons_zero, List.set_cons_succ]
    refine mix_take hK24 (some 47) (.move (.tmp 8)) 4 _ (by kernel_rfl) (by kernel_rfl) (fun w' hS' => by simp only [opr]; go_simp; try with_reducible rfl) (fun K25 hK25 => ?_)
    clear hK24 K24
    simp only [Act.put, List.setIfInBounds_toArray, List.set_cons_zero, List.set_cons_succ]
    refine mix_take hK25 (some 48) (.pick (.tmp 46) (.tmp 47) (.const (Value.bool false))) 4 _ (by kernel_rfl) (by kernel_rfl) (fun w' hS' => by simp only [opr]; go_simp; try with_reducible rfl) (fun K26 hK26 => ?_)
    clear hK25 K25
    simp only [Act.put, List.setIfInBounds_toArray, List.set_cons_zero, List.set_cons_succ]
    refine mix_take hK26 (some 49) (.move (.tmp 48)) 4 _ (by kernel_rfl) (by kernel_rfl) (fun w' hS' => by simp only [opr]; go_simp; try with_reducible rfl) (fun K27 hK27 => ?_)
    clear hK26 K26
    simp only [Act.put, List.setIfInBounds_toArray, List.set_cons_zero, List.set_cons_succ]
    refine mix_call hK27 (some 50) 12 #[] #[] 4 _ (by kernel_rfl) (by kernel_rfl) (enters Try.func12 (by kernel_rfl) (by kernel_rfl)) (by go_simp; try with_reducible rfl) (fun K28 hK28 => ?_)
    clear hK27 K27
    refine (awake12 _).mono ?_
    rintro e wm4 ⟨rfl, hs4⟩
    have hS4 : _ := hS3.keep hs4
    refine ⟨_, rfl, hS4, ?_⟩
    clear hs4
    simp only [Act.put, List.setIfInBounds_toArray, List.set_cons_zero, List.set_cons_succ]
    refine mix_take hK28 (some 51) (.pick (.tmp 49) (.tmp 50) (.const (Value.bool false))) 4 _ (by kernel_rfl) (by kernel_rfl) (fun w' hS' => by simp only [opr]; go_simp; try with_reducible rfl) (fun K29 hK29 => ?_)
    clear hK28 K28
    simp only [Act.put, List.setIfInBounds_toArray, List.set_cons_zero, List.set_cons_succ]
    refine mix_take hK29 (some 4) (.assign (.tmp 51)) 4 _ (by kernel_rfl) (by kernel_rfl) (fun w' hS' => by simp only [opr]; go_simp; try with_reducible rfl) (fun K30 hK30 => ?_)
    clear hK29 K29
    simp only [Act.put, List.setIfInBounds_toArray, List.set_cons_zero, List.set_cons_succ]
    refine hK30 _ _ (mix_nil ?_)
    clear hK30 K30
    go_wp2
    go_ret
    exact ⟨by simp, hS4.1⟩

end Go.Proofs.Ytdihjodcbpjabaa
