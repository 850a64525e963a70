/-
  In a window that nobody covers: walked. No conditions.
-/
import Derived.Test.YticccknocjnkpaaZ7
namespace Go.Proofs.Yticccknocjnkpaa
open Go.RowKit

/-- The one window. -/
def fullW (r : R) : Wn := ⟨1, 0, r.x, r.y, r.w, r.h, false⟩

theorem full_add {r : R} (h : fitB 10 10 r = true) : addR 10 10 0 [] 0 r = (1, [fullW r], 1, 0) := by
  unfold addR
  rw [if_neg (by decide), if_neg (by rw [h]; decide), if_neg (by decide)]
  rfl

theorem full_drawn (r : R) (g : Wn → List Wr) : drawn [fullW r] 1 g = g (fullW r) := rfl

theorem full_err (r : R) : errW [fullW r] 1 = 0 := rfl

theorem full_ok {r : R} (h : fitB 10 10 r = true) : OkW 10 10 (fullW r) := by
  have := fit_bd h
  unfold OkW fullW
  simp only
  omega

theorem full_own (r : R) (u v : Int) : ownB [fullW r] (fullW r) u v = (decide (0 ≤ u) && decide (u < r.w) && decide (0 ≤ v) && decide (v < r.h)) := by
  have key : ownerL [fullW r] (r.x + u) (r.y + v) = if inB ⟨r.x, r.y, r.w, r.h⟩ (r.x + u) (r.y + v) = true then 1 else 0 := rfl
  show (decide (0 ≤ u) && decide (u < r.w) && decide (0 ≤ v) && decide (v < r.h) && (ownerL [fullW r] (r.x + u) (r.y + v) == 1)) = _
  cases hb : (decide (0 ≤ u) && decide (u < r.w) && decide (0 ≤ v) && decide (v < r.h))
  · rfl
  · rw [Bool.true_and, key, if_pos]
    · rfl
    · simp only [Bool.and_eq_true, decide_eq_true_eq] at hb
      unfold inB
      simp only [Bool.and_eq_true, decide_eq_true_eq]
      omega

theorem full_own_t {r : R} {u v : Int} (h : 0 ≤ u ∧ u < r.w ∧ 0 ≤ v ∧ v < r.h) : ownB [fullW r] (fullW r) u v = true := by
  rw [full_own]
  simp only [Bool.and_eq_true, decide_eq_true_eq]
  omega

theorem full_own_f {r : R} {u v : Int} (h : r.w ≤ u) : ownB [fullW r] (fullW r) u v = false := by
  rw [full_own, show decide (u < r.w) = false from decide_eq_false (by omega)]
  cases decide (0 ≤ u) <;> rfl

theorem full_len {r : R} {x y : Int} (l : Nat → Cl) (hx : 0 ≤ x) (hy : 0 ≤ y ∧ y < r.h) : ∀ k, (cellsN [fullW r] (fullW r) x y l k).length = min k (r.w - x).toNat
  | 0 => (Nat.zero_min _).symm
  | k + 1 => by
    have := full_len l hx hy k
    show (_ ++ _ : List Wr).length = _
    rw [List.length_append, this]
    by_cases h : x + (k : Int) < r.w
    · rw [if_pos (full_own_t ⟨by omega, h, hy.1, hy.2⟩)]
      show _ + 1 = _
      omega
    · rw [full_own_f (by omega), if_neg (by decide)]
      show _ + 0 = _
      omega

theorem ins10 {x y : Int} (h : 0 ≤ x ∧ x < 10 ∧ 0 ≤ y ∧ y < 10) : insB 10 10 x y = true := by
  obtain ⟨X, rfl⟩ : ∃ X : Nat, x = X := ⟨x.toNat, by omega⟩
  obtain ⟨Y, rfl⟩ : ∃ Y : Nat, y = Y := ⟨y.toNat, by omega⟩
  exact ins_nat (by omega) (by omega)

theorem atF_set {f : Nat → Cl} {x y x' : Int} {c : Cl} (h : 0 ≤ x ∧ x < 10 ∧ 0 ≤ y ∧ y < 10) (h' : 0 ≤ x' ∧ x' < 10) : atF 10 10 (setF 10 10 f x y c) x' y = if x' = x then c else atF 10 10 f x' y := by
  unfold atF
  rw [if_pos (ins10 ⟨h'.1, h'.2, h.2.2.1, h.2.2.2⟩)]
  unfold setF
  by_cases e : x' = x
  · subst e
    rw [if_pos ⟨ins10 h, rfl⟩, if_pos rfl]
  · rw [if_neg (fun k => by have := k.2; omega), if_neg e, if_pos (ins10 ⟨h'.1, h'.2, h.2.2.1, h.2.2.2⟩)]

theorem full_at {r : R} {x y : Int} (l : Nat → Cl) (f : Nat → Cl) (hr : fitB 10 10 r = true) (hx : 0 ≤ x) (hy : 0 ≤ y ∧ y < r.h) (j : Nat) (hj : x + (j : Int) < r.w) : ∀ k, j < k → atF 10 10 (applyW 10 10 f (cellsN [fullW r] (fullW r) x y l k)) (r.x + x + j) (r.y + y) = l j
  | 0, h => by omega
  | k + 1, h => by
    have hb := fit_bd hr
    show atF 10 10 (applyW 10 10 f (_ ++ _)) _ _ = _
    by_cases hk : x + (k : Int) < r.w
    · rw [if_pos (full_own_t ⟨by omega, hk, hy.1, hy.2⟩), applyW_snoc]
      show atF 10 10 (setF 10 10 _ (r.x + x + k) (r.y + y) _) _ _ = _
      rw [atF_set (by omega) (by omega)]
      by_cases e : j = k
      · subst e
        rw [if_pos rfl]
      · rw [if_neg (by omega)]
        exact full_at l f hr hx hy j hj k (by omega)
    · rw [full_own_f (by omega), if_neg (by decide), List.append_nil]
      exact full_at l f hr hx hy j hj k (by omega)

theorem cellsA_len (L : List Wn) (p : Wn) (x y : Int) (l : Nat → Cl) (k : Nat) : (cellsA L p x y l k).length ≤ k := by
  unfold cellsA
  split
  · exact Nat.zero_le _
  · exact cellsN_len L p x y l k

theorem full_near {r : R} {x y : Int} (l : Nat → Cl) (n : Nat) (hr : fitB 10 10 r = true) (x0 : 0 ≤ x ∧ x ≤ 9) (y0 : 0 ≤ y ∧ y < r.h) : cellsA [fullW r] (fullW r) x y l n = cellsN [fullW r] (fullW r) x y l n := by
  have hb := fit_bd hr
  unfold cellsA
  rw [if_neg]
  unfold farB
  simp only [Bool.or_eq_true, decide_eq_true_eq]
  omega

set_option maxRecDepth 100000 in
set_option maxHeartbeats 2000000 in
theorem drawFull5 (D : DrawC) (r : R) (x y : Int) (la : Option Addr) (n lc : Nat) (l : Nat → Cl) (w : World) (hl : CRd w la n l) (hlt : 0 < n → ∀ k, la.map Addr.block = some k → k < w.heap.size) (hn : n ≤ 9223372036854775807) (hcap : n ≤ lc) (hx : I64 x) (hy : I64 y) (_hr : I64R r) :
    Calls Try.prog 5 #[.agg #[.int .i64 r.x, .int .i64 r.y, .int .i64 r.w, .int .i64 r.h], .int .i64 x, .int .i64 y, .slice la n lc] w (LawTrue w) := by
  obtain ⟨W0, hW0⟩ : ∃ W, W = w.alloc (.cells #[.int .i64 r.x, .int .i64 r.y, .int .i64 r.w, .int .i64 r.h] 41) := ⟨_, rfl⟩
  obtain ⟨bs, hbs⟩ : ∃ b, b = w.heap.size := ⟨_, rfl⟩
  have hst : Stay (fun _ => False) w W0 := by rw [hW0]; exact (Stay.refl _ _).alloc _
  have HB := hide' (show Box W0 bs r by rw [hW0]; exact Box.new r hbs.symm)
  have HST := hide' hst
  have HCAP := hide' hcap
  clear hcap
  have HL := hide' (hl.keep hst)
  have HK : Hid (0 < n → ∀ k, la.map Addr.block = some k → k < W0.heap.size) := hide' (fun h0 k hk => Nat.lt_of_lt_of_le (hlt h0 k hk) hst.size)
  have HF := hide' (fun W => fits20 10 10 r W (by decide) (by decide))
  obtain ⟨ft, hft⟩ : ∃ b, b = fitB 10 10 r := ⟨_, rfl⟩
  rw [← hft] at HF
  have HFT := hide' hft
  have HXY := hide' (show I64 x ∧ I64 y from ⟨hx, hy⟩)
  clear hst hl hlt _hr hx hy hft
  obtain ⟨c0, c1, c2, c3, _⟩ := HB.out
  go_enter Try.func5, Try.ntmps5
  go_upto_region 1 with fail
  rw [← hW0, ← hbs]
  clear hW0 hbs
  by_cases h20 : n ≤ 20
  · have hz0 : ¬ (20 : Int) < (n : Nat) := by omega
    have hz1 : decide ((20 : Int) < (n : Nat)) = false := decide_eq_false hz0
    go_wp2_with fail
    refine (HF.out _).mono ?_
    rintro _ w1 ⟨rfl, hs⟩
    have HS1 := hide' (HST.out.trans hs)
    have HSA := hide' hs
    clear hs HF c0 c1 c2 c3 hz0 hz1
    cases ft
    · clear HL HK HFT HXY HB HSA
      go_wp2_with fail
      refine (awake7 D _).mono ?_
      rintro _ w2 ⟨rfl, hs⟩
      have HS2 := hide' (HS1.out.trans hs)
      clear hs
      go_wp2
      go_ret
      exact ⟨rfl, HS2.out⟩
    · have HN := hide' (new_in (w0 := W0) (a := 10) (h := 10) HSA.out (by decide) (by decide) (by decide) (by decide))
      clear HS1
      go_wp2_with fail
      refine HN.out.mono ?_
      rintro e w2 ⟨q0, rfl, hi, _⟩
      have HI := hide' hi
      have HM := hide' (news9 10 10 w2 (by decide) (by decide))
      obtain ⟨fb, hfb⟩ : ∃ b, b = q0.b := ⟨_, rfl⟩
      rw [← hfb]
      have HFB := hide' hfb
      clear hi HN hfb HSA
      go_wp2_with fail
      refine HM.out.mono ?_
      rintro e w3 ⟨sq, rfl, hs2, hsa, hsn⟩
      obtain ⟨sb, sv⟩ := sq
      have HT : Hid (TwIn W0 w3 fb sb 10 10 q0 (fun _ => Cl.zero) [] sv 0 []) := hide' (by rw [HFB.out]; exact TwIn.begin HI.out hsa hs2 hsn)
      have HA1 := hide' (add21 ⟨sb, sv⟩ 10 10 0 [] 0 r w3 HT.out.sa (by decide) (by decide) (by omega) (by omega))
      rw [full_add HFT.out.symm] at HA1
      obtain ⟨c0, c1, c2, c3, _⟩ := HB.out.keep HT.out.fi.stay
      clear hs2 hsa hsn HM HI HFB
      simp only at HA1
      go_wp2_with fail
      refine HA1.out.mono ?_
      rintro e w4 ⟨v2, rfl, hsa, hm⟩
      have HT2 := hide' (HT.out.stack hsa hm)
      have HPR := hide' (HT2.out.pair (fun p hp => by rw [List.mem_singleton] at hp; subst hp; exact full_ok HFT.out.symm) (by decide) (by decide) (Nat.zero_le _))
      have HDC := hide' (D.cells q0 (fun _ => Cl.zero) [] ⟨sb, v2⟩ 10 10 1 [fullW r] 1 x y la n lc l w4 HPR.out (HL.out.keep HT2.out.fi.stay) (CRd.apart HK.out HT2.out.fi.new (fun j hj => (HT2.out.so j hj).1)) (by omega) HCAP.out HXY.out.1 HXY.out.2)
      rw [full_drawn, full_err, HT2.out.fi.eb] at HDC
      obtain ⟨M, hM⟩ : ∃ M, M = cellsA [fullW r] (fullW r) x y l n := ⟨_, rfl⟩
      rw [← hM] at HDC
      have HMM := hide' hM
      obtain ⟨mm, hmm⟩ : ∃ m, m = M.length := ⟨_, rfl⟩
      have hmn : mm ≤ n := by rw [hmm, hM]; exact cellsA_len _ _ _ _ _ _
      have HML := hide' hmm
      clear hsa hm HT HA1 HPR hM hmm c0 c1 c2 c3
      simp only at HDC
      go_wp2_with fail
      refine HDC.out.mono ?_
      rintro e w5 hd
      obtain ⟨fq2, rfl, ht, _⟩ := HT2.out.drew hd
      rw [← HML.out]
      have HT5 := hide' ht
      have HBX := hide' (HB.out.keep ht.fi.stay)
      have hmc : ¬ (n : Int) < (mm : Nat) := by omega
      have hmd : decide ((n : Int) < (mm : Nat)) = false := decide_eq_false hmc
      have HS1 := hide' (HST.out.trans ht.fi.stay)
      clear hd ht HT2 HDC
      obtain ⟨c0, c1, c2, c3, _⟩ := HBX.out
      by_cases hx0 : x < 0
      · clear HT5 HBX HB HL HK HFT HXY HML HMM HST
        go_wp2_with fail
        refine (awake7 D _).mono ?_
        rintro _ w2 ⟨rfl, hs⟩
        have HS2 := hide' (HS1.out.trans hs)
        clear hs
        go_wp2
        go_ret
        exact ⟨rfl, HS2.out⟩
      by_cases hy0 : y < 0
      · clear HT5 HBX HB HL HK HFT HXY HML HMM HST
        go_wp2_with fail
        refine (awake7 D _).mono ?_
        rintro _ w2 ⟨rfl, hs⟩
        have HS2 := hide' (HS1.out.trans hs)
        clear hs
        go_wp2
        go_ret
        exact ⟨rfl, HS2.out⟩
      by_cases hx9 : 9 < x
      · clear HT5 HBX HB HL HK HFT HXY HML HMM HST
        go_wp2_with fail
        refine (awake7 D _).mono ?_
        rintro _ w2 ⟨rfl, hs⟩
        have HS2 := hide' (HS1.out.trans hs)
        clear hs
        go_wp2
        go_ret
        exact ⟨rfl, HS2.out⟩
      by_cases hyh : r.h ≤ y
      · have hyd : decide (r.h ≤ y) = true := decide_eq_true hyh
        clear HT5 HB HL HK HFT HXY HML HMM HST
        go_wp2_with fail
        refine (awake7 D _).mono ?_
        rintro _ w2 ⟨rfl, hs⟩
        have HS2 := hide' (HS1.out.trans hs)
        clear hs
        go_wp2
        go_ret
        exact ⟨rfl, HS2.out⟩
      have hyd : decide (r.h ≤ y) = false := decide_eq_false hyh
      have HBD : Hid (0 < r.w ∧ r.w ≤ 10 ∧ 0 < r.h ∧ r.h ≤ 10 ∧ 0 ≤ r.x ∧ 0 ≤ r.y ∧ r.x + r.w ≤ 10 ∧ r.y + r.h ≤ 10) := hide' (by have := fit_bd HFT.out.symm; omega)
      have HNR := full_near (x := x) (y := y) l n HFT.out.symm ⟨by omega, by omega⟩ ⟨by omega, by omega⟩
      have HLN : Hid (mm = min n (r.w - x).toNat) := hide' (by rw [HML.out, HMM.out, HNR]; exact full_len l (by omega) ⟨by omega, by omega⟩ n)
      have HAL : Hid (∀ j : Nat, j < n → x + (j : Int) < r.w → atF 10 10 (applyW 10 10 (fun _ => Cl.zero) M) (r.x + x + j) (r.y + y) = l j) := hide' (fun j h1 h2 => by rw [HMM.out, HNR]; exact full_at l _ HFT.out.symm (by omega) ⟨by omega, by omega⟩ j h2 n h1)
      have HSB := hide' (HST.out.trans HT5.out.fi.stay)
      have HS50 := hide' (Stay.refl (fun _ => False) w5)
      have hxb : -1073741824 ≤ x ∧ x ≤ 9 := ⟨by omega, by omega⟩
      clear HB HK HFT HXY HML HMM HST HNR HS1
      go_wp2
      clear c0 c1 c2 c3
      go_loopg [15] n (fun gg v15 wr => ∃ i : Nat, i ≤ n ∧ (x + (i : Int) ≤ max x r.w) ∧ gg = n - i ∧ v15 = .int .i64 (i : Int) ∧ Hid (Stay (fun _ => False) w5 wr))
      case atStart => exact ⟨0, Nat.zero_le _, by omega, rfl, rfl, HS50⟩
      case round =>
        clear HS50
        obtain ⟨i, hin, hix, rfl, rfl, HS⟩ := hrel
        have HBX2 := hide' (HBX.out.keep HS.out)
        by_cases hli : i < n
        · have hz3 : (i : Int) < (n : Nat) := by omega
          by_cases hxw : x + (i : Int) < r.w
          · have HBX := HBX2
            obtain ⟨c, hc⟩ : ∃ c, c = l i := ⟨_, rfl⟩
            have HAT := hide' (fun W (hs : Stay (fun _ => False) wr W) => at_in (w := W) (r.x + x + i) (r.y + y) c (HT5.out.fi.keep (HS.out.trans hs)) (by rw [hc]; exact HAL.out i hli hxw) (by have := HBD.out; unfold I64; omega) (by have := HBD.out; unfold I64; omega))
            obtain ⟨lg, lo, e, hb⟩ := HL.out i hli
            subst e
            rw [← hc] at hb
            have HLB := hide' (hb.keep (HT5.out.fi.stay.trans HS.out))
            have hrb : (0 ≤ r.x ∧ r.x ≤ 10) ∧ (0 ≤ r.y ∧ r.y ≤ 10) ∧ (0 < r.w ∧ r.w ≤ 10) ∧ (0 < r.h ∧ r.h ≤ 10) := by have := HBD.out; omega
            have hw1 : IntKind.i64.wrap (r.x + x) = r.x + x := by rw [IntKind.wrap_i64]; omega
            have hw2 : IntKind.i64.wrap (r.x + x + (i : Int)) = r.x + x + (i : Int) := by rw [IntKind.wrap_i64]; omega
            have hw3 : IntKind.i64.wrap (r.y + y) = r.y + y := by rw [IntKind.wrap_i64]; omega
            have hS : (fun w' => Stay (fun _ => False) wr w') wr.drew := (Stay.refl _ _).drew
            obtain ⟨c0, c1, c2, c3, _⟩ := HBX.out
            clear hc hb
            go_upto_region 15 with fail
            clear c0 c1 c2 c3
            refine wp_region_mix (fun w' => Stay (fun _ => False) wr w') [(0, true), (1, true), (2, true), (3, true), (4, true), (5, true), (6, true), (7, true), (8, true), (9, true), (10, true), (12, true), (13, true), (14, true), (15, true), (11, false), (16, true)] (by kernel_rfl) (by kernel_rfl) (fun _ d _ _ _ h => by cases d <;> exact h) hS ?_
            refine mix_begin (fun K0 hK0 => ?_)
            refine mix_take hK0 (some 88) (.move (.tmp 9)) 26 _ (by kernel_rfl) (by kernel_rfl) (fun w' hS' => by (obtain ⟨x0, x1, _⟩ := HBX.out.keep hS'; simp only [opr]; go_simp; try with_reducible rfl)) (fun K1 hK1 => ?_)
            clear hK0 K0
            simp only [Act.put, List.setIfInBounds_toArray, List.set_cons_zero, List.set_cons_succ]
            refine mix_take hK1 (some 89) (.fieldAddr 41 (.tmp 4) 0) 0 _ (by kernel_rfl) (by kernel_rfl) (fun w' hS' => by (obtain ⟨x0, x1, _⟩ := HBX.out.keep hS'; simp only [opr]; go_simp; try with_reducible rfl)) (fun K2 hK2 => ?_)
            clear hK1 K1
            simp only [Act.put, List.setIfInBounds_toArray, List.set_cons_zero, List.set_cons_succ]
            refine mix_take hK2 (some 90) (.load 3 (.tmp 89)) 3 _ (by kernel_rfl) (by kernel_rfl) (fun w' hS' => by (obtain ⟨x0, x1, _⟩ := HBX.out.keep hS'; simp only [opr]; go_simp; try with_reducible rfl)) (fun K3 hK3 => ?_)
            clear hK2 K2
            simp only [Act.put, List.setIfInBounds_toArray, List.set_cons_zero, List.set_cons_succ]
            refine mix_take hK3 (some 91) (.move (.tmp 1)) 3 _ (by kernel_rfl) (by kernel_rfl) (fun w' hS' => by (obtain ⟨x0, x1, _⟩ := HBX.out.keep hS'; simp only [opr]; go_simp; try with_reducible rfl)) (fun K4 hK4 => ?_)
            clear hK3 K3
            simp only [Act.put, List.setIfInBounds_toArray, List.set_cons_zero, List.set_cons_succ]
            refine mix_take hK4 (some 92) (.binOp BinOp.add 3 (.tmp 90) (.tmp 91) 3) 3 _ (by kernel_rfl) (by kernel_rfl) (fun w' hS' => by (obtain ⟨x0, x1, _⟩ := HBX.out.keep hS'; simp only [opr]; go_simp; try with_reducible rfl)) (fun K5 hK5 => ?_)
            clear hK4 K4
            simp only [Act.put, List.setIfInBounds_toArray, List.set_cons_zero, List.set_cons_succ]
            refine mix_take hK5 (some 93) (.move (.tmp 15)) 3 _ (by kernel_rfl) (by kernel_rfl) (fun w' hS' => by (obtain ⟨x0, x1, _⟩ := HBX.out.keep hS'; simp only [opr]; go_simp; try with_reducible rfl)) (fun K6 hK6 => ?_)
            clear hK5 K5
            simp only [Act.put, List.setIfInBounds_toArray, List.set_cons_zero, List.set_cons_succ]
            refine mix_take hK6 (some 94) (.binOp BinOp.add 3 (.tmp 92) (.tmp 93) 3) 3 _ (by kernel_rfl) (by kernel_rfl) (fun w' hS' => by (obtain ⟨x0, x1, _⟩ := HBX.out.keep hS'; simp only [opr]; go_simp; try with_reducible rfl)) (fun K7 hK7 => ?_)
            clear hK6 K6
            simp only [Act.put, List.setIfInBounds_toArray, List.set_cons_zero, List.set_cons_succ]
            refine mix_take hK7 (some 95) (.fieldAddr 41 (.tmp 4) 1) 0 _ (by kernel_rfl) (by kernel_rfl) (fun w' hS' => by (obtain ⟨x0, x1, _⟩ := HBX.out.keep hS'; simp only [opr]; go_simp; try with_reducible rfl)) (fun K8 hK8 => ?_)
            clear hK7 K7
            simp only [Act.put, List.setIfInBounds_toArray, List.set_cons_zero, List.set_cons_succ]
            refine mix_take hK8 (some 96) (.load 3 (.tmp 95)) 3 _ (by kernel_rfl) (by kernel_rfl) (fun w' hS' => by (obtain ⟨x0, x1, _⟩ := HBX.out.keep hS'; simp only [opr]; go_simp; try with_reducible rfl)) (fun K9 hK9 => ?_)
            clear hK8 K8
            simp only [Act.put, List.setIfInBounds_toArray, List.set_cons_zero, List.set_cons_succ]
            refine mix_take hK9 (some 97) (.move (.tmp 2)) 3 _ (by kernel_rfl) (by kernel_rfl) (fun w' hS' => by (obtain ⟨x0, x1, _⟩ := HBX.out.keep hS'; simp only [opr]; go_simp; try with_reducible rfl)) (fun K10 hK10 => ?_)
            clear hK9 K9
            simp only [Act.put, List.setIfInBounds_toArray, List.set_cons_zero, List.set_cons_succ]
            refine mix_take hK10 (some 98) (.binOp BinOp.add 3 (.tmp 96) (.tmp 97) 3) 3 _ (by kernel_rfl) (by kernel_rfl) (fun w' hS' => by (obtain ⟨x0, x1, _⟩ := HBX.out.keep hS'; simp only [opr]; go_simp; try with_reducible rfl)) (fun K11 hK11 => ?_)
            clear hK10 K10
            simp only [Act.put, List.setIfInBounds_toArray, List.set_cons_zero, List.set_cons_succ]
            refine mix_take hK11 (some 100) (.move (.tmp 3)) 33 _ (by kernel_rfl) (by kernel_rfl) (fun w' hS' => by (obtain ⟨x0, x1, _⟩ := HBX.out.keep hS'; simp only [opr]; go_simp; try with_reducible rfl)) (fun K12 hK12 => ?_)
            clear hK11 K11
            simp only [Act.put, List.setIfInBounds_toArray, List.set_cons_zero, List.set_cons_succ]
            refine mix_take hK12 (some 101) (.move (.tmp 15)) 3 _ (by kernel_rfl) (by kernel_rfl) (fun w' hS' => by (obtain ⟨x0, x1, _⟩ := HBX.out.keep hS'; simp only [opr]; go_simp; try with_reducible rfl)) (fun K13 hK13 => ?_)
            clear hK12 K12
            simp only [Act.put, List.setIfInBounds_toArray, List.set_cons_zero, List.set_cons_succ]
            refine mix_take hK13 (some 102) (.indexAddr 33 (.tmp 100) (.tmp 101)) 0 _ (by kernel_rfl) (by kernel_rfl) (fun w' hS' => by (obtain ⟨x0, x1, _⟩ := HBX.out.keep hS'; simp only [opr]; go_simp; try with_reducible rfl)) (fun K14 hK14 => ?_)
            clear hK13 K13
            simp only [Act.put, List.setIfInBounds_toArray, List.set_cons_zero, List.set_cons_succ]
            refine mix_take hK14 (some 103) (.load 53 (.tmp 102)) 53 _ (by kernel_rfl) (by kernel_rfl) (fun w' hS' => by exact run_load_BoxCAt rfl rfl (HLB.out.keep hS')) (fun K15 hK15 => ?_)
            clear hK14 K14
            simp only [Act.put, List.setIfInBounds_toArray, List.set_cons_zero, List.set_cons_succ]
            refine mix_call hK15 (some 99) 23 #[.tmp 88, .tmp 94, .tmp 98] #[26, 3, 3] 53 _ (by kernel_rfl) (by kernel_rfl) (enters Try.func23 (by kernel_rfl) (by kernel_rfl)) (by go_simp; try with_reducible rfl) (fun K16 hK16 => ?_)
            clear hK15 K15
            refine ((HAT.out _ hS)).mono ?_
            rintro e wm1 ⟨rfl, hs1⟩
            have hS1 : _ := (hS.trans hs1)
            refine ⟨_, rfl, hS1, ?_⟩
            clear hs1
            simp only [Act.put, List.setIfInBounds_toArray, List.set_cons_zero, List.set_cons_succ]
            refine mix_take hK16 (some 104) (.binOp BinOp.neq 53 (.tmp 99) (.tmp 103) 53) 4 _ (by kernel_rfl) (by kernel_rfl) (fun w' hS' => by exact neqC_op false c c rfl rfl (by simp)) (fun K17 hK17 => ?_)
            clear hK16 K16
            simp only [Act.put, List.setIfInBounds_toArray, List.set_cons_zero, List.set_cons_succ]
            refine hK17 _ _ (mix_nil ?_)
            clear hK17 K17
            have HS2 := hide' (HS.out.trans hS1)
            clear HAT HLB HBX HBX2 hw1 hw2 hw3
            go_wp2
            go_roundg (n - (i + 1))
            case measure => omega
            case rel => exact ⟨i + 1, by omega, by omega, rfl, by go_num, HS2⟩
          · have hxf : decide (x + (i : Int) < r.w) = false := decide_eq_false hxw
            have HS1 := hide' (HSB.out.trans HS.out)
            obtain ⟨c0, c1, c2, c3, _⟩ := HBX2.out
            have hrb : 0 < r.w ∧ r.w ≤ 10 := by have := HBD.out; omega
            obtain ⟨z, hz⟩ : ∃ z, z = min (n : Int) (r.w - x) := ⟨_, rfl⟩
            have e3 : min (n : Int) (r.w - x) = z := hz.symm
            have e4 : max 0 z = (mm : Int) := by have := HLN.out; omega
            clear hz HL HBX HAL HBX2 HT5 HSB HS
            go_wp2_with fail
            refine (awake7 D _).mono ?_
            rintro _ w2 ⟨rfl, hs⟩
            have HS2 := hide' (HS1.out.trans hs)
            clear hs
            go_wp2
            go_ret
            exact ⟨rfl, HS2.out⟩
        · have hin2 : i = n := by omega
          subst hin2
          have HS1 := hide' (HSB.out.trans HS.out)
          obtain ⟨c0, c1, c2, c3, _⟩ := HBX2.out
          have hrb : 0 < r.w ∧ r.w ≤ 10 := by have := HBD.out; omega
          obtain ⟨z, hz⟩ : ∃ z, z = min (i : Int) (r.w - x) := ⟨_, rfl⟩
          have e3 : min (i : Int) (r.w - x) = z := hz.symm
          have e4 : max 0 z = (mm : Int) := by have := HLN.out; omega
          clear hz HL HBX HAL HBX2 HT5 HSB HS
          go_wp2_with fail
          refine (awake7 D _).mono ?_
          rintro _ w2 ⟨rfl, hs⟩
          have HS2 := hide' (HS1.out.trans hs)
          clear hs
          go_wp2
          go_ret
          exact ⟨rfl, HS2.out⟩
  · clear HF HFT HL HK HXY HB
    have hz0 : (20 : Int) < (n : Nat) := by omega
    have hz1 : decide ((20 : Int) < (n : Nat)) = true := decide_eq_true hz0
    have HS1 := HST
    go_wp2_with fail
    refine (awake7 D _).mono ?_
    rintro _ w2 ⟨rfl, hs⟩
    have HS2 := hide' (HS1.out.trans hs)
    clear hs
    go_wp2
    go_ret
    exact ⟨rfl, HS2.out⟩

end Go.Proofs.Yticccknocjnkpaa
