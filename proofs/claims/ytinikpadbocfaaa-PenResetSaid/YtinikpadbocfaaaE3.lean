/-
  PenStays walked: true of any pen and any parameters. No conditions.
-/
import Derived.Test.YtinikpadbocfaaaE0
namespace Go.Proofs.Ytinikpadbocfaaa
open Go.RowKit

theorem TwoB.grow {w W w1 : World} {b c B : Nat} {p q : Pn} (h : TwoB w b p c q W) (hs : Stay (fun k => B ≤ k) W w1) (hb : b + 1 ≤ B) (hc : c < B) (hw : w.heap.size ≤ B) : TwoB w b p c q w1 :=
  ⟨⟨hs.os.trans h.1.os, hs.tape.trans h.1.tape, hs.output.trans h.1.output, Nat.le_trans h.1.size hs.size, fun i hi _ => (hs.block i (Nat.lt_of_lt_of_le hi h.1.size) (by omega)).trans (h.1.block i hi (fun h => h))⟩, h.2.1.stay hs (by omega), h.2.2.stay hs (by omega)⟩

theorem plainB_of {l : List Int} (h : ∀ j, j < l.length → l.getD j 0 ≠ 38 ∧ l.getD j 0 ≠ 48) : plainB l = true := by
  unfold plainB
  rw [List.all_eq_true]
  intro x hx
  obtain ⟨j, hj, rfl⟩ := List.getElem_of_mem hx
  have := h j hj
  rw [List.getD_eq_getElem?_getD, List.getElem?_eq_getElem hj] at this
  simpa using this

set_option maxRecDepth 100000 in
theorem stays_long1 (p : Pn) (a1 a2 : Option Addr) (n1 k1 n2 k2 : Nat) (w : World) (_b1 : (n1 : Int) ≤ 9223372036854775807) (_b2 : (n2 : Int) ≤ 9223372036854775807) (h : (30 : Int) < n1) : Calls Try.prog 5 #[.agg #[.int .i64 p.fg, .int .i64 p.bg, .int .i64 p.fl], .slice a1 n1 k1, .slice a2 n2 k2] w (LawTrue w) := by
  have HST : Hid (OneB w w.heap.size p (w.alloc (.cells #[.int .i64 p.fg, .int .i64 p.bg, .int .i64 p.fl] 23))) := ⟨(Stay.refl _ _).alloc _, Box.new p rfl⟩
  go_enter Try.func5, Try.ntmps5
  go_upto_region 1 with fail
  obtain ⟨W, hW⟩ : ∃ W, W = (w.alloc (.cells #[.int .i64 p.fg, .int .i64 p.bg, .int .i64 p.fl] 23)) := ⟨_, rfl⟩
  rw [← hW] at HST
  rw [← hW]
  clear hW
  obtain ⟨c0, c1, c2, f0, f1, f2⟩ := HST.out.2
  go_wp2_with fail
  refine (awake7 _).mono ?_
  rintro e w9 ⟨rfl, hs⟩
  have HS9 := hide' (HST.out.keep hs)
  clear hs
  go_wp2
  go_ret
  exact ⟨by simp, HS9.out.1⟩

set_option maxRecDepth 100000 in
theorem stays_long2 (p : Pn) (a1 a2 : Option Addr) (n1 k1 n2 k2 : Nat) (w : World) (_b1 : (n1 : Int) ≤ 9223372036854775807) (_b2 : (n2 : Int) ≤ 9223372036854775807) (h0 : (n1 : Int) ≤ 30) (h : (30 : Int) < n2) : Calls Try.prog 5 #[.agg #[.int .i64 p.fg, .int .i64 p.bg, .int .i64 p.fl], .slice a1 n1 k1, .slice a2 n2 k2] w (LawTrue w) := by
  have HST : Hid (OneB w w.heap.size p (w.alloc (.cells #[.int .i64 p.fg, .int .i64 p.bg, .int .i64 p.fl] 23))) := ⟨(Stay.refl _ _).alloc _, Box.new p rfl⟩
  go_enter Try.func5, Try.ntmps5
  go_upto_region 1 with fail
  obtain ⟨W, hW⟩ : ∃ W, W = (w.alloc (.cells #[.int .i64 p.fg, .int .i64 p.bg, .int .i64 p.fl] 23)) := ⟨_, rfl⟩
  rw [← hW] at HST
  rw [← hW]
  clear hW
  obtain ⟨c0, c1, c2, f0, f1, f2⟩ := HST.out.2
  go_wp2_with fail
  refine (awake7 _).mono ?_
  rintro e w9 ⟨rfl, hs⟩
  have HS9 := hide' (HST.out.keep hs)
  clear hs
  go_wp2
  go_ret
  exact ⟨by simp, HS9.out.1⟩

set_option maxRecDepth 100000 in
theorem stays_none1 (p : Pn) (a1 a2 : Option Addr) (n1 k1 n2 k2 : Nat) (w : World) (_b1 : (n1 : Int) ≤ 9223372036854775807) (_b2 : (n2 : Int) ≤ 9223372036854775807) (h0 : ((n1 : Int) == 0) = true) (h1 : (n1 : Int) ≤ 30) (h : (n2 : Int) ≤ 30) : Calls Try.prog 5 #[.agg #[.int .i64 p.fg, .int .i64 p.bg, .int .i64 p.fl], .slice a1 n1 k1, .slice a2 n2 k2] w (LawTrue w) := by
  have HST : Hid (OneB w w.heap.size p (w.alloc (.cells #[.int .i64 p.fg, .int .i64 p.bg, .int .i64 p.fl] 23))) := ⟨(Stay.refl _ _).alloc _, Box.new p rfl⟩
  go_enter Try.func5, Try.ntmps5
  go_upto_region 1 with fail
  obtain ⟨W, hW⟩ : ∃ W, W = (w.alloc (.cells #[.int .i64 p.fg, .int .i64 p.bg, .int .i64 p.fl] 23)) := ⟨_, rfl⟩
  rw [← hW] at HST
  rw [← hW]
  clear hW
  obtain ⟨c0, c1, c2, f0, f1, f2⟩ := HST.out.2
  go_wp2_with fail
  refine (awake7 _).mono ?_
  rintro e w9 ⟨rfl, hs⟩
  have HS9 := hide' (HST.out.keep hs)
  clear hs
  go_wp2
  go_ret
  exact ⟨by simp, HS9.out.1⟩

set_option maxRecDepth 100000 in
theorem stays_none2 (p : Pn) (a1 a2 : Option Addr) (n1 k1 n2 k2 : Nat) (w : World) (_b1 : (n1 : Int) ≤ 9223372036854775807) (_b2 : (n2 : Int) ≤ 9223372036854775807) (h00 : ((n1 : Int) == 0) = false) (h0 : ((n2 : Int) == 0) = true) (h1 : (n1 : Int) ≤ 30) (h : (n2 : Int) ≤ 30) : Calls Try.prog 5 #[.agg #[.int .i64 p.fg, .int .i64 p.bg, .int .i64 p.fl], .slice a1 n1 k1, .slice a2 n2 k2] w (LawTrue w) := by
  have HST : Hid (OneB w w.heap.size p (w.alloc (.cells #[.int .i64 p.fg, .int .i64 p.bg, .int .i64 p.fl] 23))) := ⟨(Stay.refl _ _).alloc _, Box.new p rfl⟩
  go_enter Try.func5, Try.ntmps5
  go_upto_region 1 with fail
  obtain ⟨W, hW⟩ : ∃ W, W = (w.alloc (.cells #[.int .i64 p.fg, .int .i64 p.bg, .int .i64 p.fl] 23)) := ⟨_, rfl⟩
  rw [← hW] at HST
  rw [← hW]
  clear hW
  obtain ⟨c0, c1, c2, f0, f1, f2⟩ := HST.out.2
  go_wp2_with fail
  refine (awake7 _).mono ?_
  rintro e w9 ⟨rfl, hs⟩
  have HS9 := hide' (HST.out.keep hs)
  clear hs
  go_wp2
  go_ret
  exact ⟨by simp, HS9.out.1⟩

set_option maxRecDepth 100000 in
theorem stays_wrong (p : Pn) (a1 a2 : Option Addr) (n1 k1 n2 k2 : Nat) (w : World) (_b1 : (n1 : Int) ≤ 9223372036854775807) (_b2 : (n2 : Int) ≤ 9223372036854775807) (h00 : ((n1 : Int) == 0) = false) (h0 : ((n2 : Int) == 0) = false) (h1 : (n1 : Int) ≤ 30) (h : (n2 : Int) ≤ 30) (hr : rightB p = false) : Calls Try.prog 5 #[.agg #[.int .i64 p.fg, .int .i64 p.bg, .int .i64 p.fl], .slice a1 n1 k1, .slice a2 n2 k2] w (LawTrue w) := by
  have HST : Hid (OneB w w.heap.size p (w.alloc (.cells #[.int .i64 p.fg, .int .i64 p.bg, .int .i64 p.fl] 23))) := ⟨(Stay.refl _ _).alloc _, Box.new p rfl⟩
  have HR := hide' (right9 p)
  rw [hr] at HR
  clear hr
  go_enter Try.func5, Try.ntmps5
  go_upto_region 1 with fail
  obtain ⟨W, hW⟩ : ∃ W, W = (w.alloc (.cells #[.int .i64 p.fg, .int .i64 p.bg, .int .i64 p.fl] 23)) := ⟨_, rfl⟩
  rw [← hW] at HST
  rw [← hW]
  clear hW
  obtain ⟨c0, c1, c2, f0, f1, f2⟩ := HST.out.2
  go_wp2_with fail
  refine (HR.out _).mono ?_
  rintro e w8 ⟨rfl, hs⟩
  have HST2 := hide' (HST.out.keep hs)
  clear hs HST
  have HST := HST2
  go_wp2_with fail
  refine (awake7 _).mono ?_
  rintro e w9 ⟨rfl, hs⟩
  have HS9 := hide' (HST.out.keep hs)
  clear hs
  go_wp2
  go_ret
  exact ⟨by simp, HS9.out.1⟩

theorem row_joined {W : World} {base n : Nat} {t : Value} {xs : List Value} {l : List Int} (h : W.ownsRow base 3 1 t n xs) (hx : xs = l.map (.int .i64 ·)) (hw : ∀ x ∈ l, (Lit.int .i64 x).wf = true) : Row W t l := by
  have hn : n = l.length := by have := h.1; rw [hx] at this; simpa using this.symm
  subst hn hx
  obtain ⟨a, cap, h, _⟩ := owned_arg h hw
  exact ⟨a, cap, h⟩

set_option maxRecDepth 100000 in
set_option maxHeartbeats 4000000 in
theorem stays_go (p : Pn) (v1 v2 : Value) (a b : List Int) (ad1 ad2 : Option Addr) (k1 k2 : Nat) (w : World) (hA : IArg .i64 w v1 a ad1 k1) (hB : IArg .i64 w v2 b ad2 k2) (h1 : a ≠ []) (h2 : b ≠ []) (h3 : a.length ≤ 30) (h4 : b.length ≤ 30) (hr : rightB p = true) :
    Calls Try.prog 5 #[.agg #[.int .i64 p.fg, .int .i64 p.bg, .int .i64 p.fl], v1, v2] w (LawTrue w) := by
  have HA := hide' hA
  have HB := hide' hB
  have HN1 := hide' h3
  have HN2 := hide' h4
  have HST : Hid (OneB w w.heap.size p (w.alloc (.cells #[.int .i64 p.fg, .int .i64 p.bg, .int .i64 p.fl] 23))) := ⟨(Stay.refl _ _).alloc _, Box.new p rfl⟩
  have HR := hide' (right9 p)
  rw [hr] at HR
  obtain ⟨x, hx⟩ : ∃ x, x = runL p a := ⟨_, rfl⟩
  have HX : Hid (applyL p a = x) := show _ = _ from by unfold applyL; rw [if_neg h1, hx]
  have HRX := hide' (right9 x)
  rw [show rightB x = true by rw [hx]; exact runL_right p a hr] at HRX
  have HEQ : Hid (plainB a = true → applyL p (a ++ b) = applyL x b) := fun h => by
    unfold applyL
    rw [if_neg (by simp [h1]), if_neg h2, runL_append a b p h, hx]
  have HAA := hide' (fun W (hs : Stay (fun _ => False) w W) => apply11 p v1 a ad1 k1 W (hA.stay0 hs) (by omega))
  have HWF : Hid (∀ x ∈ a ++ b, (Lit.int .i64 x).wf = true) := fun x hx => by
    rcases List.mem_append.1 hx with hx | hx
    · exact hA.wf x hx
    · exact hB.wf x hx
  obtain ⟨b1, o1, had1, hb1, hI⟩ := hA.cells h1
  have HI := hide' hI
  have HIB := hide' hb1
  obtain ⟨n1, hn1⟩ : ∃ n, n = a.length := ⟨_, rfl⟩
  obtain ⟨n2, hn2⟩ : ∃ n, n = b.length := ⟨_, rfl⟩
  have hv1 : v1 = .slice ad1 n1 k1 := by rw [hn1]; exact hA.shape
  have hv2 : v2 = .slice ad2 n2 k2 := by rw [hn2]; exact hB.shape
  have z1 : (n1 : Int) ≤ 30 := by omega
  have z2 : (n2 : Int) ≤ 30 := by omega
  have p1 : 0 < n1 := by rw [hn1]; exact List.length_pos_iff.2 h1
  have p2 : 0 < n2 := by rw [hn2]; exact List.length_pos_iff.2 h2
  have y1 : ((n1 : Int) == 0) = false := by simp; omega
  have y2 : ((n2 : Int) == 0) = false := by simp; omega
  have HLN := hide' hn1
  subst hv1 hv2 had1
  clear hA hB h1 h2 h3 h4 hr hx hI hb1 hn1 hn2 p2
  go_enter Try.func5, Try.ntmps5
  go_upto_region 1 with fail
  obtain ⟨W, hW⟩ : ∃ W, W = (w.alloc (.cells #[.int .i64 p.fg, .int .i64 p.bg, .int .i64 p.fl] 23)) := ⟨_, rfl⟩
  rw [← hW] at HST
  rw [← hW]
  clear hW
  obtain ⟨c0, c1, c2, f0, f1, f2⟩ := HST.out.2
  go_wp2_with fail
  refine (HR.out _).mono ?_
  rintro e w1 ⟨rfl, hs⟩
  have HST2 := hide' (HST.out.keep hs)
  clear HST hs c0 c1 c2 f0 f1 f2
  obtain ⟨c0, c1, c2, f0, f1, f2⟩ := HST2.out.2
  go_wp2_with fail
  refine (HAA.out _ HST2.out.1).mono ?_
  rintro e w2 ⟨rfl, hs⟩
  rw [HX.out]
  have HS3 : Hid (TwoB w w.heap.size p w2.heap.size x (w2.alloc (.cells #[.int .i64 x.fg, .int .i64 x.bg, .int .i64 x.fl] 23))) := ⟨(HST2.out.1.trans hs).alloc _, (HST2.out.2.keep hs).alloc _, Box.new x rfl⟩
  have HX1 : Hid (w.heap.size < w2.heap.size) := show _ < _ from (HST2.out.2.keep hs).lt
  clear HST2 hs c0 c1 c2 f0 f1 f2
  go_upto_region 4 with fail
  obtain ⟨W3, hW3⟩ : ∃ W, W = (w2.alloc (.cells #[.int .i64 x.fg, .int .i64 x.bg, .int .i64 x.fl] 23)) := ⟨_, rfl⟩
  rw [← hW3] at HS3
  rw [← hW3]
  obtain ⟨X, hX⟩ : ∃ X, X = w2.heap.size := ⟨_, rfl⟩
  rw [← hX] at HS3 HX1
  rw [← hX]
  clear hW3 hX
  obtain ⟨_, ⟨c0, c1, c2, f0, f1, f2⟩, e0, e1, e2, g0, g1, g2⟩ := HS3.out
  go_wp2_with fail
  refine (HRX.out _).mono ?_
  rintro e w4 ⟨rfl, hs⟩
  have HS4 := hide' (HS3.out.keep hs)
  clear HS3 hs c0 c1 c2 f0 f1 f2 e0 e1 e2 g0 g1 g2
  go_wp2_with fail
  go_loopg [8] n1 (fun g i wr => ∃ j : Nat, j ≤ n1 ∧ g = n1 - j ∧ i = .int .i64 (j : Int) ∧ wr = w4 ∧ Hid (∀ i, i < j → a.getD i 0 ≠ 38 ∧ a.getD i 0 ≠ 48))
  case atStart => exact ⟨0, Nat.zero_le _, rfl, rfl, rfl, fun i hi => absurd hi (by omega)⟩
  case round =>
    obtain ⟨j, hj, rfl, rfl, rfl, HJ⟩ := hrel
    by_cases hlt : j < n1
    · have cx : wr.cell? ⟨b1, o1 + j, none⟩ = some (.int .i64 (a.getD j 0)) := (HI.out.keep HIB.out HS4.out.1) j (by have := HLN.out; omega)
      obtain ⟨y, hy⟩ : ∃ y, y = a.getD j 0 := ⟨_, rfl⟩
      rw [← hy] at cx
      have HY := hide' hy
      clear hy
      have jz : (j : Int) < n1 := by omega
      have j0 : (0 : Int) ≤ j := by omega
      by_cases hy : y = 38 ∨ y = 48
      · rcases hy with rfl | rfl
        all_goals
          go_wp2_with fail
          refine (awake7 _).mono ?_
          rintro e w9 ⟨rfl, hs⟩
          have HS9 := hide' (HS4.out.keep hs)
          clear hs
          go_wp2
          go_ret
          exact ⟨by simp, HS9.out.1⟩
      · have d1 : (y == 38) = false := by simp; omega
        have d2 : (y == 48) = false := by simp; omega
        have HNY : Hid (y ≠ 38 ∧ y ≠ 48) := ⟨fun h => hy (.inl h), fun h => hy (.inr h)⟩
        clear hy
        go_wp2
        go_roundg (n1 - (j + 1))
        case measure => omega
        case rel =>
          refine ⟨j + 1, by omega, rfl, by go_num, rfl, fun i hi => ?_⟩
          by_cases hij : i = j
          · rw [hij, ← HY.out]; exact HNY.out
          · exact HJ.out i (by omega)
    · have hjn : j = n1 := by omega
      have HPL : Hid (plainB a = true) := plainB_of (fun i hi => HJ.out i (by have := HLN.out; omega))
      have HQ := hide' (HEQ.out HPL.out)
      obtain ⟨Q, hQ⟩ : ∃ Q, Q = applyL x b := ⟨_, rfl⟩
      rw [← hQ] at HQ
      have HQ2 := hide' hQ
      clear hQ HPL HJ
      subst hjn
      have H6 : Hid (∀ W t, Row W t (a ++ b) → Calls Try.prog 11 #[.agg #[.int .i64 p.fg, .int .i64 p.bg, .int .i64 p.fl], t] W (Gives (.agg #[.int .i64 Q.fg, .int .i64 Q.bg, .int .i64 Q.fl]) W)) := fun W t ht => by
        obtain ⟨ad, cap, h⟩ := ht
        have := apply11 p t _ ad cap W h (by have := HN1.out; have := HN2.out; simp; omega)
        rwa [HQ.out] at this
      have H9 : Hid (∀ W, Stay (fun _ => False) w W → Calls Try.prog 11 #[.agg #[.int .i64 x.fg, .int .i64 x.bg, .int .i64 x.fl], .slice ad2 n2 k2] W (Gives (.agg #[.int .i64 Q.fg, .int .i64 Q.bg, .int .i64 Q.fl]) W)) := fun W hs => by
        have := apply11 x _ b ad2 k2 W (HB.out.stay0 hs) (by have := HN2.out; omega)
        rwa [← HQ2.out] at this
      go_wp2_with fail
      have hS : TwoB w w.heap.size p X x wr.drew := HS4.out.keep (Stay.refl _ _).drew
      refine wp_region_mix (TwoB w w.heap.size p X x) [(0, true), (2, true), (4, true), (7, true), (8, true), (1, false), (3, false), (5, false), (6, false), (9, false), (10, true), (11, true), (12, false), (13, true), (14, true)] (by kernel_rfl) (by kernel_rfl) (fun _ d _ _ _ h => by cases d <;> exact h) hS ?_
      obtain ⟨W7, hW7⟩ : ∃ W7, W7 = wr.drew := ⟨_, rfl⟩
      rw [← hW7] at hS
      rw [← hW7]
      clear hW7
      refine mix_begin (fun K0 hK0 => ?_)
      refine mix_take hK0 (some 58) (.load 23 (.tmp 3)) 23 _ (by kernel_rfl) (by kernel_rfl) (fun w' hS' => by first | exact run_load_box rfl rfl hS'.2.1 | exact run_load_box rfl rfl hS'.2.2) (fun K1 hK1 => ?_)
      clear hK0 K0
      simp only [Act.put, List.setIfInBounds_toArray, List.set_cons_zero, List.set_cons_succ]
      refine mix_take hK1 (some 60) (.move (.tmp 1)) 24 _ (by kernel_rfl) (by kernel_rfl) (fun w' hS' => by simp only [opr]; go_simp; try with_reducible rfl) (fun K2 hK2 => ?_)
      clear hK1 K1
      simp only [Act.put, List.setIfInBounds_toArray, List.set_cons_zero, List.set_cons_succ]
      refine mix_take hK2 (some 62) (.move (.tmp 2)) 24 _ (by kernel_rfl) (by kernel_rfl) (fun w' hS' => by simp only [opr]; go_simp; try with_reducible rfl) (fun K3 hK3 => ?_)
      clear hK2 K2
      simp only [Act.put, List.setIfInBounds_toArray, List.set_cons_zero, List.set_cons_succ]
      refine mix_take hK3 (some 65) (.load 23 (.tmp 7)) 23 _ (by kernel_rfl) (by kernel_rfl) (fun w' hS' => by first | exact run_load_box rfl rfl hS'.2.1 | exact run_load_box rfl rfl hS'.2.2) (fun K4 hK4 => ?_)
      clear hK3 K3
      simp only [Act.put, List.setIfInBounds_toArray, List.set_cons_zero, List.set_cons_succ]
      refine mix_take hK4 (some 66) (.move (.tmp 2)) 24 _ (by kernel_rfl) (by kernel_rfl) (fun w' hS' => by simp only [opr]; go_simp; try with_reducible rfl) (fun K5 hK5 => ?_)
      clear hK4 K4
      simp only [Act.put, List.setIfInBounds_toArray, List.set_cons_zero, List.set_cons_succ]
      refine mix_chain hK5 (fun K5c hK5c => ?_)
      clear hK5 K5
      refine op_plain (some 59) (.buildSlice 24 0 #[]) 24 (by kernel_rfl) (by kernel_rfl) ?_
      go_wp2
      have hSb : _ := hS.keep ((Stay.refl _ _).alloc (.cells #[] 3))
      have HO := hide' (owns_new W7 #[] 3 (by decide))
      obtain ⟨B, hB⟩ : ∃ B, B = W7.heap.size := ⟨_, rfl⟩
      have HBW : Hid (B ≤ (W7.alloc (.cells #[] 3)).heap.size) := show _ ≤ _ from by rw [hB]; simp
      have HBX : Hid (w.heap.size + 1 ≤ B ∧ X < B) := ⟨by rw [hB]; exact hS.2.1.lt, by rw [hB]; exact hS.2.2.lt⟩
      rw [← hB] at HO
      rw [← hB]
      obtain ⟨W8, hW8⟩ : ∃ W8, W8 = (W7.alloc (.cells #[] 3)) := ⟨_, rfl⟩
      rw [← hW8] at hSb HO HBW
      rw [← hW8]
      clear hW8 hB
      refine hK5c _ _ hSb (mix_begin fun K6 hK6 => ?_)
      clear hK5c K5c
      try simp only [Act.put, List.setIfInBounds_toArray, List.set_cons_zero, List.set_cons_succ]
      refine mix_chain hK6 (fun K6c hK6c => ?_)
      clear hK6 K6
      refine op_plain (some 61) (.call { callee := Callee.builtin Builtin.append, args := #[.tmp 59, .tmp 60], argTypes := #[24, 24] }) 24 (by kernel_rfl) (by kernel_rfl) ?_
      have HSRC := hide' ((HA.out).stay0 (hSb.1)).row
      have HOB := hide' (own_base HO.out)
      go_wp2_with (at_builtin; refine appL (fun j => B ≤ j) rfl _ _ 24 rfl Try.underlying24 Try.info3 rfl (by decide) HO.out rfl HSRC.out rfl (one_ints _ _) (by have := HN1.out; simp at this ⊢; omega) HBW.out HOB.out ?_; intro ta1 Wa1 ho hst; have HO1 := hide' ho; have HTS := hide' hst; clear ho hst)
      have hSa1 : _ := TwoB.grow hSb HTS.out HBX.out.1 HBX.out.2 (Nat.le_trans (Nat.le_succ _) HBX.out.1)
      have HBW' := hide' (Nat.le_trans HBW.out HTS.out.size)
      clear HBW HSRC HOB HTS HO
      have HBW := HBW'
      clear HBW'
      refine hK6c _ _ hSa1 (mix_begin fun K7 hK7 => ?_)
      clear hK6c K6c
      try simp only [Act.put, List.setIfInBounds_toArray, List.set_cons_zero, List.set_cons_succ]
      refine mix_chain hK7 (fun K7c hK7c => ?_)
      clear hK7 K7
      refine op_plain (some 63) (.call { callee := Callee.builtin Builtin.append, args := #[.tmp 61, .tmp 62], argTypes := #[24, 24] }) 24 (by kernel_rfl) (by kernel_rfl) ?_
      have HSRC := hide' ((HB.out).stay0 (hSa1.1)).row
      have HOB := hide' (own_base HO1.out)
      go_wp2_with (at_builtin; refine appL (fun j => B ≤ j) rfl _ _ 24 rfl Try.underlying24 Try.info3 rfl (by decide) HO1.out rfl HSRC.out rfl (one_ints _ _) (by have := HN1.out; have := HN2.out; simp at *; omega) HBW.out HOB.out ?_; intro ta2 Wa2 ho hst; have HO2 := hide' ho; have HTS := hide' hst; clear ho hst)
      have hSa2 : _ := TwoB.grow hSa1 HTS.out HBX.out.1 HBX.out.2 (Nat.le_trans (Nat.le_succ _) HBX.out.1)
      have HBW' := hide' (Nat.le_trans HBW.out HTS.out.size)
      clear HBW HSRC HOB HTS HO1
      have HBW := HBW'
      clear HBW'
      refine hK7c _ _ hSa2 (mix_begin fun K8 hK8 => ?_)
      clear hK7c K7c
      try simp only [Act.put, List.setIfInBounds_toArray, List.set_cons_zero, List.set_cons_succ]
      refine mix_call hK8 (some 64) 11 #[.tmp 58, .tmp 63] #[23, 24] 23 _ (by kernel_rfl) (by kernel_rfl) (enters Try.func11 (by kernel_rfl) (by kernel_rfl)) (by go_simp; try with_reducible rfl) (fun K9 hK9 => ?_)
      clear hK8 K8
      refine (H6.out _ _ (row_joined HO2.out (by simp) HWF.out)).mono ?_
      rintro e wm1 ⟨rfl, hs1⟩
      have hS1 : _ := hSa2.keep hs1
      refine ⟨_, rfl, hS1, ?_⟩
      clear hs1
      simp only [Act.put, List.setIfInBounds_toArray, List.set_cons_zero, List.set_cons_succ]
      refine mix_call hK9 (some 67) 11 #[.tmp 65, .tmp 66] #[23, 24] 23 _ (by kernel_rfl) (by kernel_rfl) (enters Try.func11 (by kernel_rfl) (by kernel_rfl)) (by go_simp; try with_reducible rfl) (fun K10 hK10 => ?_)
      clear hK9 K9
      refine (H9.out _ hS1.1).mono ?_
      rintro e wm2 ⟨rfl, hs2⟩
      have hS2 : _ := hS1.keep hs2
      refine ⟨_, rfl, hS2, ?_⟩
      clear hs2
      simp only [Act.put, List.setIfInBounds_toArray, List.set_cons_zero, List.set_cons_succ]
      refine mix_take hK10 (some 68) (.binOp BinOp.eql 23 (.tmp 64) (.tmp 67) 23) 4 _ (by kernel_rfl) (by kernel_rfl) (fun w' hS' => by exact eql_same _ rfl rfl) (fun K11 hK11 => ?_)
      clear hK10 K10
      simp only [Act.put, List.setIfInBounds_toArray, List.set_cons_zero, List.set_cons_succ]
      refine mix_take hK11 (some 69) (.move (.tmp 68)) 4 _ (by kernel_rfl) (by kernel_rfl) (fun w' hS' => by simp only [opr]; go_simp; try with_reducible rfl) (fun K12 hK12 => ?_)
      clear hK11 K11
      simp only [Act.put, List.setIfInBounds_toArray, List.set_cons_zero, List.set_cons_succ]
      refine mix_call hK12 (some 70) 7 #[] #[] 4 _ (by kernel_rfl) (by kernel_rfl) (enters Try.func7 (by kernel_rfl) (by kernel_rfl)) (by go_simp; try with_reducible rfl) (fun K13 hK13 => ?_)
      clear hK12 K12
      refine (awake7 _).mono ?_
      rintro e wm3 ⟨rfl, hs3⟩
      have hS3 : _ := hS2.keep hs3
      refine ⟨_, rfl, hS3, ?_⟩
      clear hs3
      simp only [Act.put, List.setIfInBounds_toArray, List.set_cons_zero, List.set_cons_succ]
      refine mix_take hK13 (some 71) (.pick (.tmp 69) (.tmp 70) (.const (Value.bool false))) 4 _ (by kernel_rfl) (by kernel_rfl) (fun w' hS' => by simp only [opr]; go_simp; try with_reducible rfl) (fun K14 hK14 => ?_)
      clear hK13 K13
      simp only [Act.put, List.setIfInBounds_toArray, List.set_cons_zero, List.set_cons_succ]
      refine mix_take hK14 (some 6) (.assign (.tmp 71)) 4 _ (by kernel_rfl) (by kernel_rfl) (fun w' hS' => by simp only [opr]; go_simp; try with_reducible rfl) (fun K15 hK15 => ?_)
      clear hK14 K14
      simp only [Act.put, List.setIfInBounds_toArray, List.set_cons_zero, List.set_cons_succ]
      refine hK15 _ _ (mix_nil ?_)
      clear hK15 K15
      go_wp2
      go_ret
      exact ⟨by simp, hS3.1⟩

end Go.Proofs.Ytinikpadbocfaaa
