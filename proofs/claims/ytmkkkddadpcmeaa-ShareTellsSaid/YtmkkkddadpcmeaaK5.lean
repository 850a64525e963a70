/-
  The document's own answer for shares: the walk (K5).
-/
import Derived.Test.YtmkkkddadpcmeaaK4
namespace Go.Proofs.Ytmkkkddadpcmeaa
open Go.RowKit Ieee

set_option maxHeartbeats 4000000 in
set_option maxRecDepth 100000 in
theorem rshares_any (f : Nat → Nat) (b off n N cap : Nat) (w : World) (hn : n ≤ 64) (h0 : 0 < n) (hN : N ≤ 512) (hf : ∀ j, f j < 18446744073709551616) (E : Nat → Nat) (hO : Order n (fun j => restF (quoF N (tog f n) n j)) E)
    (hc : ∀ j, j < n → w.cell? ⟨b, off + j, none⟩ = some (.float .f64 (f j))) :
    Calls Try.prog 18 #[.int .i64 (N : Int), .slice (some ⟨b, off, none⟩) n cap] w fun e w' => Shared w n N (tog f n) E e w' := by
  have HT := hide' (rtogether_any f b off n cap w hn h0 hf hc)
  have hT := tog_word f hf n h0
  obtain ⟨T, hTT⟩ : ∃ T, T = tog f n := ⟨_, rfl⟩
  rw [← hTT] at HT hT hO ⊢
  have HF := hide' (fine_all T n N hn hN hT.1 hT.2)
  have HQ := hide' (fun j hj => quo_word T n N hn hN hT.1 hT.2 j hj)
  have HO := hide' hO
  have hN5 : (N : Int) ≤ 512 := by omega
  have hN0 : ¬ (N : Int) < 0 := by omega
  have hN6 : ¬ (512 : Int) < N := by omega
  have hz : ((n : Int) == 0) = false := by simp; omega
  have hn64 : (n : Int) ≤ 64 := by omega
  have H0 := hide' h0
  have HN := hide' hN
  clear hc hf hTT hT hO h0
  go_enter Try.func18, Try.ntmps18
  go_wp2_with fail
  refine HT.out.mono ?_
  rintro e w1 ⟨B1, cap1, hB1, rfl, hc1, hb1⟩
  have HC1 := hide' hc1
  have HB1 := hide' hb1
  have HL1 : Hid (B1 < w1.heap.size) := World.block_lt_of_cell? _ _ (hc1 0 H0.out)
  clear hB1 hc1 hb1
  go_wp2_with fail
  go_loopg [6, 7] n (fun g vs vi wr => w1 = wr ∧ ∃ k : Nat, k ≤ n ∧ g = n - k ∧ vi = .int .i64 (k : Int) ∧ vs = .float .f64 (sumTo T k))
  case atStart => exact ⟨rfl, 0, Nat.zero_le _, rfl, rfl, rfl⟩
  case round =>
    obtain ⟨rfl, k, hk, rfl, rfl, rfl⟩ := hrel
    by_cases hlt : k < n
    · have hcell : w1.cell? ⟨B1, k, none⟩ = some (.float .f64 (T k)) := HC1.out k hlt
      have hadd : ∀ W : World, (binOp .add 22 (.float .f64 (sumTo T k)) (.float .f64 (T k))).run Try.prog W = .ok (.float .f64 (sumTo T (k + 1))) W := fun W => run_float_arith W .add 22 .f64 _ _ _ (some_getD (HF.out.add k hlt))
      have hkz : (k : Int) < (n : Int) := by omega
      go_wp2
      go_roundg (n - (k + 1))
      case measure => omega
      case rel => exact ⟨rfl, k + 1, by omega, rfl, by go_num, rfl⟩
    · have e : k = n := by omega
      subst e
      obtain ⟨i0, hi0, hz0, hz1, hz2'⟩ := info_parts info22
      obtain ⟨i3, hi3, hy0, hy1, hy2⟩ := info_parts info3
      obtain ⟨Q, hQ⟩ : ∃ Q : Nat → Nat, Q = fun j => quoF N T k j := ⟨_, rfl⟩
      obtain ⟨K, hK⟩ : ∃ K : Nat → Nat, K = fun j => whoF (quoF N T k j) := ⟨_, rfl⟩
      obtain ⟨R, hR⟩ : ∃ R : Nat → Nat, R = fun j => if j < k then restF (quoF N T k j) else 0 := ⟨_, rfl⟩
      obtain ⟨O, hOO⟩ : ∃ O : Nat → Nat, O = outAt N K := ⟨_, rfl⟩
      -- one round's numbers
      have HX : Hid (∀ i, i < k → ∃ p, floatBits .mul .f64 (floatOfInt .f64 (N : Int)) (T i) = some p ∧ floatBits .quo .f64 p (sumTo T k) = some (Q i) ∧ floatToIntVal .f64 (Q i) .i64 = some ((K i : Nat) : Int) ∧
          floatOfInt .f64 ((K i : Nat) : Int) = flo (Q i) ∧ floatBits .sub .f64 (Q i) (flo (Q i)) = some (R i) ∧ K i ≤ 512) := by
        intro i hi
        obtain ⟨w', p, a1, a2, a3, a4, a5, a6, a7, a8, a9, a10⟩ := HQ.out i hi
        have hd := Nat.le_trans (div_le_of N _ a7) HN.out
        have hw : whoF (quoF N T k i) = V (quoF N T k i) / U := by unfold whoF; rw [whole_fin _ a6 hd]; rfl
        obtain ⟨s, s1, s2, _, s4⟩ := flo_fin _ a6 hd
        have e1 : Q i = quoF N T k i := by rw [hQ]
        have e2 : K i = V (quoF N T k i) / U := by rw [hK]; exact hw
        have e3 : R i = restF (quoF N T k i) := by rw [hR]; simp [hi]
        rw [e1, e2, e3]
        exact ⟨p, a3, a4, int_of_quo _ a6 hd, by rw [s2, s1], some_getD (by rw [s1]; exact sub_fin a6 s4), hd⟩
      have HRPP : Hid (∀ j, Pos (R j)) := fun j => by
        rw [hR]
        by_cases hj : j < k
        · obtain ⟨w', p, a1, a2, a3, a4, a5, a6, a7, a8, a9, a10⟩ := HQ.out j hj
          simp only [hj, if_true]
          exact rest_pos a6 (Nat.le_trans (div_le_of N _ a7) HN.out)
        · simp only [hj, if_false]
          exact pos_zero
      have HRLL : Hid (∀ j, R j < 18446744073709551616) := fun j => by
        rw [hR]
        by_cases hj : j < k
        · simp only [hj, if_true]; exact restF_lt _
        · simp only [hj, if_false]; decide
      have HORR : Hid (Order k R E) := HO.out.congr fun j hj => by rw [hR]; simp [hj]
      have HQQ := hide' hQ
      have HKK := hide' hK
      have HRR := hide' hR
      have HOO := hide' hOO
      clear hQ hK hR hOO
      have hle : Hid (∀ j, leftAt N K j ≤ N) := fun j => leftAt_le N K j
      go_wp2_with fail
      go_loopg [8, 9, 10, 11] k (fun g u8 u9 vl vi wr => ∃ (i : Nat) (v8 v9 : Value), v8 = u8 ∧ v9 = u9 ∧ i ≤ k ∧ g = k - i ∧ vi = .int .i64 (i : Int) ∧ vl = .int .i64 (leftAt N K i : Int) ∧ Hid (Two w1 wr v8 v9 i i O R))
      case atStart => exact ⟨0, _, _, rfl, rfl, Nat.zero_le _, rfl, rfl, rfl, Two.start w1 w1 (Below.refl _ _) O R⟩
      case round =>
        obtain ⟨i, v8, v9, rfl, rfl, hi, rfl, rfl, rfl, HTWO⟩ := hrel
        by_cases hlt : i < k
        · have hcell : wr.cell? ⟨B1, i, none⟩ = some (.float .f64 (T i)) := by
            rw [HTWO.out.below.cell (p := ⟨B1, i, none⟩) HL1.out]; exact HC1.out i hlt
          have hiz : (i : Int) < (k : Int) := by omega
          obtain ⟨p, x1, x2, x3, x4, x5, x6⟩ := HX.out i hlt
          have y1 : ∀ W : World, (binOp .mul 22 (.float .f64 (floatOfInt .f64 (N : Int))) (.float .f64 (T i))).run Try.prog W = .ok (.float .f64 p) W := fun W => run_float_arith W .mul 22 .f64 _ _ p x1
          have y2 : ∀ W : World, (binOp .quo 22 (.float .f64 p) (.float .f64 (sumTo T k))).run Try.prog W = .ok (.float .f64 (Q i)) W := fun W => run_float_arith W .quo 22 .f64 _ _ _ x2
          have y3 : ∀ W : World, (convert 22 3 (.float .f64 (Q i))).run Try.prog W = .ok (.int .i64 ((K i : Nat) : Int)) W := fun W => run_convert_float_int W 22 3 .f64 .i64 (Q i) _ (by kernel_rfl) Try.underlying3 x3
          have y5 : ∀ W : World, (binOp .sub 22 (.float .f64 (Q i)) (.float .f64 (flo (Q i)))).run Try.prog W = .ok (.float .f64 (R i)) W := fun W => run_float_arith W .sub 22 .f64 _ _ _ x5
          have hl1 := hle.out i
          have hl2 : ((leftAt N K i : Nat) : Int) ≤ 512 := by have := HN.out; omega
          have hk2 : ((K i : Nat) : Int) ≤ 512 := by omega
          have HS : Hid (leftAt N K (i + 1) = leftAt N K i - min (K i) (leftAt N K i)) := rfl
          have HO1 : Hid (O i = min (K i) (leftAt N K i)) := by show O i = _; rw [HOO.out]; rfl
          clear x1 x2 x3 x5 x6 hl1
          by_cases hgt : leftAt N K i < K i
          · have hgz : ((leftAt N K i : Nat) : Int) < ((K i : Nat) : Int) := by omega
            have HOi : Hid (O i = leftAt N K i) := by have := HO1.out; show O i = _; omega
            have hls : ((leftAt N K i : Nat) : Int) - ((leftAt N K i : Nat) : Int) = ((leftAt N K (i + 1) : Nat) : Int) := by rw [HS.out]; omega
            clear hgt
            go_wp2_with (first
              | (at_builtin; refine wpList_append_own _ rfl _ _ 27 rfl w1.heap.size 22 i0 (.float .f64 0) 1 8 Try.underlying27 hi0 hz0 hz1 hz2' rfl (by decide) _ _ _ rfl (HTWO.out.alloc _).own9 ⟨wr.heap.size, 0, none⟩ 1 1 [.float .f64 (R i)] rfl rfl (cell_one_new _ _ _) (fun x hx => by simp at hx; subst hx; rfl) (by unfold maxLen; omega) (by omega) (by have := HTWO.out.below.size; simp; omega) ?_; intro v' w3 hown' hgrow3 hnil3)
              | (at_builtin; refine wpList_append_own _ rfl _ _ 30 rfl w1.heap.size 3 i3 (.int .i64 0) 1 8 Try.underlying30 hi3 hy0 hy1 hy2 rfl (by decide) _ _ _ rfl (((HTWO.out.alloc _).grow9 hown' hgrow3).alloc _).own8 ⟨w3.heap.size, 0, none⟩ 1 1 [.int .i64 (leftAt N K i : Int)] rfl rfl (cell_one_new _ _ _) (fun x hx => by simp at hx; subst hx; rfl) (by unfold maxLen; omega) (by omega) (by have := ((HTWO.out.alloc (.cells #[.float .f64 (R i)] 22)).grow9 hown' hgrow3).below.size; simp; omega) ?_; intro v'' w4 hown4 hgrow4 hnil4))
            have HEND : Hid (Two w1 w4 v'' v' (i + 1) (i + 1) O R) := (((HTWO.out.alloc _).grow9 hown' hgrow3).alloc _).grow8 (by rw [HOi.out]; exact hown4) hgrow4
            clear hown' hgrow3 hnil3 hown4 hgrow4 hnil4
            go_wp2
            go_roundg (k - (i + 1))
            case measure => omega
            case rel => exact ⟨i + 1, v'', v', rfl, rfl, by omega, rfl, by go_num, by first | rfl | go_num | (congr 1; omega), HEND⟩
          · have hgz : ¬ ((leftAt N K i : Nat) : Int) < ((K i : Nat) : Int) := by omega
            have HOi : Hid (O i = K i) := by have := HO1.out; show O i = _; omega
            have hls : ((leftAt N K i : Nat) : Int) - ((K i : Nat) : Int) = ((leftAt N K (i + 1) : Nat) : Int) := by rw [HS.out]; omega
            clear hgt
            go_wp2_with (first
              | (at_builtin; refine wpList_append_own _ rfl _ _ 27 rfl w1.heap.size 22 i0 (.float .f64 0) 1 8 Try.underlying27 hi0 hz0 hz1 hz2' rfl (by decide) _ _ _ rfl (HTWO.out.alloc _).own9 ⟨wr.heap.size, 0, none⟩ 1 1 [.float .f64 (R i)] rfl rfl (cell_one_new _ _ _) (fun x hx => by simp at hx; subst hx; rfl) (by unfold maxLen; omega) (by omega) (by have := HTWO.out.below.size; simp; omega) ?_; intro v' w3 hown' hgrow3 hnil3)
              | (at_builtin; refine wpList_append_own _ rfl _ _ 30 rfl w1.heap.size 3 i3 (.int .i64 0) 1 8 Try.underlying30 hi3 hy0 hy1 hy2 rfl (by decide) _ _ _ rfl (((HTWO.out.alloc _).grow9 hown' hgrow3).alloc _).own8 ⟨w3.heap.size, 0, none⟩ 1 1 [.int .i64 (K i : Int)] rfl rfl (cell_one_new _ _ _) (fun x hx => by simp at hx; subst hx; rfl) (by unfold maxLen; omega) (by omega) (by have := ((HTWO.out.alloc (.cells #[.float .f64 (R i)] 22)).grow9 hown' hgrow3).below.size; simp; omega) ?_; intro v'' w4 hown4 hgrow4 hnil4))
            have HEND : Hid (Two w1 w4 v'' v' (i + 1) (i + 1) O R) := (((HTWO.out.alloc _).grow9 hown' hgrow3).alloc _).grow8 (by rw [HOi.out]; exact hown4) hgrow4
            clear hown' hgrow3 hnil3 hown4 hgrow4 hnil4
            go_wp2
            go_roundg (k - (i + 1))
            case measure => omega
            case rel => exact ⟨i + 1, v'', v', rfl, rfl, by omega, rfl, by go_num, by first | rfl | go_num | (congr 1; omega), HEND⟩
        · have e : i = k := by omega
          subst e
          obtain ⟨g8, g9, c8, c9, rfl, rfl, l1, l2, l3, l4, l5, l6, l7⟩ := HTWO.out.lay H0.out
          have hmk := run_make_row' (P := Try.prog) 49 4 (.bool false) 1 Try.underlying49 info4 rfl .i64 .i64 i (by omega) (by omega)
          have HD0 : Hid (Deal w1 (wr.alloc (.cells (madeCells #[.bool false] i) 4)) g8 g9 wr.heap.size i 0 O R E (fun _ => false)) :=
            ⟨fun j hj => by simp only [turnsTo, Nat.add_zero]; exact (World.cell?_alloc_lt _ _ _ l3).trans (l5 j hj), fun j => (World.frozen?_of_block (w := wr) (Below.heap_alloc _ _ _ l3)).trans (l6 j), fun j hj => (World.cell?_alloc_lt _ _ _ l4).trans (l7 j hj),
             World.rowIs_made wr _ i 4, Nat.ne_of_lt l3, Nat.ne_of_lt l4, l2, by simp; omega, by simp; omega, l1, HTWO.out.below.size, HTWO.out.below.alloc HTWO.out.below.size _⟩
          have HLE : Hid (leftAt N K i ≤ N) := hle.out i
          obtain ⟨L, hL⟩ : ∃ L, L = leftAt N K i := ⟨_, rfl⟩
          have HLL := hide' hL
          rw [← hL] at HLE ⊢
          clear l1 l2 l3 l4 l5 l6 l7 hL HTWO HX HF HQ
          have HOR := HORR
          have HRL := HRLL
          have HRP := HRPP
          go_wp2_with fail
          go_loopg [10, 15, 16] L (fun g3 vl vg vc wr => ∃ (t c gg : Nat) (got : Nat → Bool), vl = .int .i64 ((L - t : Nat) : Int) ∧ vg = .slice (some ⟨gg, 0, none⟩) i i ∧ vc = .int .i64 (c : Int) ∧ t ≤ L ∧ g3 = L - t ∧ c ≤ i ∧ Hid (t % i = c % i) ∧ Hid (Got i E c got) ∧ Hid (Deal w1 wr g8 g9 gg i t O R E got))
          case atStart => exact ⟨0, 0, _, _, rfl, rfl, rfl, Nat.zero_le _, rfl, Nat.zero_le _, rfl, Got.none i E, HD0⟩
          case round =>
            clear HD0 hmk
            obtain ⟨t, c, gg, got, rfl, rfl, rfl, ht, rfl, hci, HTC, HG, HD⟩ := hrel
            by_cases htL : t < L
            · have hlz : (0 : Int) < ((L - t : Nat) : Int) := by omega
              by_cases hcn : c = i
              · -- a new round of the places
                have hlz3 : decide (0 < L - t) = true := decide_eq_true (by omega)
                have hlz4 : decide ((0 : Int) < ((L - t : Nat) : Int)) = true := decide_eq_true hlz
                have hmk2 := run_make_row' (P := Try.prog) 49 4 (.bool false) 1 Try.underlying49 info4 rfl .i64 .i64 i (by omega) (by omega)
                have hc2 : 0 < i := H0.out
                have HG2 : Hid (Got i E 0 (fun _ => false)) := Got.none i E
                have HD2 : Hid (Deal w1 (wr.alloc (.cells (madeCells #[.bool false] i) 4)) g8 g9 wr.heap.size i t O R E (fun _ => false)) := HD.out.reset
                have HTC2 : Hid (t % i = 0) := by show t % i = 0; rw [HTC.out, hcn, Nat.mod_self]
                clear HG HD HTC
                have hcn2 := hcn.symm
                clear hcn
                subst hcn2
                have HNX : Hid (srch R (fun _ => false : Nat → Bool) i = some (E 0)) := srch_next HRP.out HRL.out HOR.out hc2 HG2.out
                have HEN : Hid (E 0 < i) := (HOR.out.all _).1 ⟨0, hc2, rfl⟩
                go_wp2_with fail
                go_loopg [17, 18] i (fun g4 va vj wx => ∃ j q : Nat, vj = .int .i64 (j : Int) ∧ j ≤ i ∧ g4 = i - j ∧ wx = (wr.alloc (.cells (madeCells #[.bool false] i) 4)).drewN q ∧ ((va = .int .i64 (-1) ∧ Hid (srch R (fun _ => false : Nat → Bool) j = none)) ∨ ∃ a : Nat, va = .int .i64 (a : Int) ∧ a < i ∧ Hid (srch R (fun _ => false : Nat → Bool) j = some a)))
                case atStart => exact ⟨0, 0, rfl, Nat.zero_le _, rfl, rfl, Or.inl ⟨rfl, rfl⟩⟩
                case round =>
                  obtain ⟨j, q, rfl, hj, rfl, rfl, hst⟩ := hrel
                  by_cases hji : j < i
                  · have hjz : (j : Int) < (i : Int) := by omega
                    have hj0 : (0 : Int) ≤ (j : Int) := by omega
                    obtain ⟨bj, hbj⟩ : ∃ x, (fun _ => false : Nat → Bool) j = x := ⟨_, rfl⟩
                    have cg : (wr.alloc (.cells (madeCells #[.bool false] i) 4)).cell? ⟨wr.heap.size, j, none⟩ = some (.bool bj) := by rw [← hbj]; exact HD2.out.gots.cell hji
                    cases bj
                    · rcases hst with ⟨rfl, HSN⟩ | ⟨a, rfl, hai, HSA⟩
                      · have HN2 : Hid (srch R (fun _ => false : Nat → Bool) (j + 1) = some j) := by show (if _ then _ else _) = _; rw [HSN.out, hbj]; rfl
                        clear hbj
                        go_wp2_with fail
                        go_quiet (fail)
                        go_wp2
                        go_roundg (i - (j + 1))
                        case measure => omega
                        case rel => exact ⟨j + 1, _, by go_num, by omega, rfl, by first | rfl | exact World.drewN_drewN .., Or.inr ⟨j, rfl, hji, HN2⟩⟩
                      · have haz : (a : Int) < (i : Int) := by omega
                        have ha0 : decide ((a : Int) < 0) = false := decide_eq_false (by omega)
                        have ha1 : (0 : Int) ≤ (a : Int) := by omega
                        obtain ⟨X, hX⟩ : ∃ X : Value, X = .float .f64 (R j) := ⟨_, rfl⟩
                        obtain ⟨Y, hY⟩ : ∃ Y : Value, Y = .float .f64 (R a) := ⟨_, rfl⟩
                        have cx : (wr.alloc (.cells (madeCells #[.bool false] i) 4)).cell? ⟨g9, j, none⟩ = some X := by rw [hX]; exact HD2.out.abv j hji
                        have cy : (wr.alloc (.cells (madeCells #[.bool false] i) 4)).cell? ⟨g9, a, none⟩ = some Y := by rw [hY]; exact HD2.out.abv a hai
                        have hgt := pos_gt (HRP.out j) (HRP.out a) (HRL.out j) (HRL.out a)
                        have hlaw : ∀ W : World, (binOp .gtr 22 X Y).run Try.prog W = .ok (.bool (decide (R a < R j))) W := fun W => by
                          rw [hX, hY, binOp_float_cmp_gtr, hgt]
                          rfl
                        clear hX hY hgt
                        by_cases hlt2 : R a < R j
                        · rw [decide_eq_true hlt2] at hlaw
                          have HN2 : Hid (srch R (fun _ => false : Nat → Bool) (j + 1) = some j) := by show (if _ then _ else _) = _; rw [HSA.out, hbj]; simp [hlt2]
                          clear hbj hlt2
                          go_wp2_with fail
                          go_quiet (fail)
                          go_wp2
                          go_roundg (i - (j + 1))
                          case measure => omega
                          case rel => exact ⟨j + 1, _, by go_num, by omega, rfl, by first | rfl | exact World.drewN_drewN .., Or.inr ⟨j, rfl, hji, HN2⟩⟩
                        · rw [decide_eq_false hlt2] at hlaw
                          have HN2 : Hid (srch R (fun _ => false : Nat → Bool) (j + 1) = some a) := by show (if _ then _ else _) = _; rw [HSA.out, hbj]; simp [hlt2]
                          clear hbj hlt2
                          go_wp2_with fail
                          go_quiet (fail)
                          go_wp2
                          go_roundg (i - (j + 1))
                          case measure => omega
                          case rel => exact ⟨j + 1, _, by go_num, by omega, rfl, by first | rfl | exact World.drewN_drewN .., Or.inr ⟨a, rfl, hai, HN2⟩⟩
                    · have HN2 : Hid (srch R (fun _ => false : Nat → Bool) (j + 1) = srch R (fun _ => false : Nat → Bool) j) := by show (if _ then _ else _) = _; rw [hbj]; rfl
                      clear hbj
                      go_wp2_with fail
                      go_quiet (fail)
                      go_wp2
                      go_roundg (i - (j + 1))
                      case measure => omega
                      case rel =>
                        refine ⟨j + 1, _, by go_num, by omega, rfl, by first | rfl | exact World.drewN_drewN .., ?_⟩
                        rcases hst with ⟨rfl, h⟩ | ⟨a, rfl, h1, h⟩
                        · exact Or.inl ⟨rfl, by rw [HN2.out]; exact h⟩
                        · exact Or.inr ⟨a, rfl, h1, by rw [HN2.out]; exact h⟩
                  · have ej : j = i := by omega
                    rcases hst with ⟨_, HSN⟩ | ⟨a, rfl, hai, HSA⟩
                    · exfalso
                      have h1 := HSN.out
                      rw [ej, HNX.out] at h1
                      cases h1
                    · have hae : a = E 0 := by
                        have h1 := HSA.out
                        rw [ej, HNX.out] at h1
                        exact (Option.some.inj h1).symm
                      have HAE := hide' hae
                      have hjz : ¬ (j : Int) < (i : Int) := by omega
                      have haz : (a : Int) < (i : Int) := by omega
                      have ha1 : (0 : Int) ≤ (a : Int) := by omega
                      have hEt : Hid (E (t % i) = a) := by show E (t % i) = a; rw [hae, HTC2.out]
                      obtain ⟨x, hx⟩ : ∃ x, x = O a + turnsTo E i t a := ⟨_, rfl⟩
                      have hx5 : (x : Int) ≤ 1024 := by
                        have h1 := turnsTo_le E i t a
                        have h2 : O a ≤ N := by rw [HOO.out]; exact Nat.le_trans (Nat.min_le_right _ _) (leftAt_le _ _ _)
                        have h3 := HN.out
                        have h4 := HLE.out
                        omega
                      have c1 : (wr.alloc (.cells (madeCells #[.bool false] i) 4)).cell? ⟨wr.heap.size, a, none⟩ = some (.bool ((fun _ => false : Nat → Bool) a)) := HD2.out.gots.cell hai
                      have f1 : (wr.alloc (.cells (madeCells #[.bool false] i) 4)).frozen? ⟨wr.heap.size, a, none⟩ = false := HD2.out.gots.frozen a
                      have c3 : (((wr.alloc (.cells (madeCells #[.bool false] i) 4)).drewN q).setCell ⟨wr.heap.size, a, none⟩ (.bool true)).cell? ⟨g8, a, none⟩ = some (.int .i64 (x : Int)) := by rw [hx]; exact ((HD2.out.drewN q).mark a).out a hai
                      have f3 : (wr.alloc (.cells (madeCells #[.bool false] i) 4)).frozen? ⟨g8, a, none⟩ = false := HD2.out.free a
                      have hlm : ((L - t : Nat) : Int) - 1 = ((L - (t + 1) : Nat) : Int) := by omega
                      have hlb : ((L - (t + 1) : Nat) : Int) ≤ 512 := by have h1 := HLE.out; have h2 := HN.out; omega
                      have HX2 := hide' hx
                      clear hae hx
                      go_wp2
                      go_roundg (L - (t + 1))
                      case measure => omega
                      case rel =>
                        have hd := (((HD2.out.drewN q).mark a)).inc (by rw [hEt.out]; exact hai)
                        rw [hEt.out, ← HX2.out] at hd
                        refine ⟨t + 1, 0 + 1, wr.heap.size, (fun y => if y = a then true else (fun _ => false : Nat → Bool) y), by first | rfl | go_num | (congr 1; omega), rfl, by go_num, by omega, rfl, by omega, ?_, ?_, hd⟩
                        · show (t + 1) % i = (0 + 1) % i
                          rw [Nat.add_mod t 1 i, HTC2.out]
                          simp
                        · rw [HAE.out]; exact HG2.out.step
              · have hcz : ((c : Int) == (i : Int)) = false := by simp; omega
                have hc2 : c < i := by omega
                have HG2 := HG
                have HD2 := HD
                have HTC2 : Hid (t % i = c) := by show t % i = c; rw [HTC.out, Nat.mod_eq_of_lt hc2]
                clear hcn HG HD HTC
                have HNX : Hid (srch R got i = some (E c)) := srch_next HRP.out HRL.out HOR.out hc2 HG2.out
                have HEN : Hid (E c < i) := (HOR.out.all _).1 ⟨c, hc2, rfl⟩
                go_wp2_with fail
                go_loopg [17, 18] i (fun g4 va vj wx => ∃ j q : Nat, vj = .int .i64 (j : Int) ∧ j ≤ i ∧ g4 = i - j ∧ wx = wr.drewN q ∧ ((va = .int .i64 (-1) ∧ Hid (srch R got j = none)) ∨ ∃ a : Nat, va = .int .i64 (a : Int) ∧ a < i ∧ Hid (srch R got j = some a)))
                case atStart => exact ⟨0, 0, rfl, Nat.zero_le _, rfl, rfl, Or.inl ⟨rfl, rfl⟩⟩
                case round =>
                  obtain ⟨j, q, rfl, hj, rfl, rfl, hst⟩ := hrel
                  by_cases hji : j < i
                  · have hjz : (j : Int) < (i : Int) := by omega
                    have hj0 : (0 : Int) ≤ (j : Int) := by omega
                    obtain ⟨bj, hbj⟩ : ∃ x, got j = x := ⟨_, rfl⟩
                    have cg : wr.cell? ⟨gg, j, none⟩ = some (.bool bj) := by rw [← hbj]; exact HD2.out.gots.cell hji
                    cases bj
                    · rcases hst with ⟨rfl, HSN⟩ | ⟨a, rfl, hai, HSA⟩
                      · have HN2 : Hid (srch R got (j + 1) = some j) := by show (if _ then _ else _) = _; rw [HSN.out, hbj]; rfl
                        clear hbj
                        go_wp2_with fail
                        go_quiet (fail)
                        go_wp2
                        go_roundg (i - (j + 1))
                        case measure => omega
                        case rel => exact ⟨j + 1, _, by go_num, by omega, rfl, by first | rfl | exact World.drewN_drewN .., Or.inr ⟨j, rfl, hji, HN2⟩⟩
                      · have haz : (a : Int) < (i : Int) := by omega
                        have ha0 : decide ((a : Int) < 0) = false := decide_eq_false (by omega)
                        have ha1 : (0 : Int) ≤ (a : Int) := by omega
                        obtain ⟨X, hX⟩ : ∃ X : Value, X = .float .f64 (R j) := ⟨_, rfl⟩
                        obtain ⟨Y, hY⟩ : ∃ Y : Value, Y = .float .f64 (R a) := ⟨_, rfl⟩
                        have cx : wr.cell? ⟨g9, j, none⟩ = some X := by rw [hX]; exact HD2.out.abv j hji
                        have cy : wr.cell? ⟨g9, a, none⟩ = some Y := by rw [hY]; exact HD2.out.abv a hai
                        have hgt := pos_gt (HRP.out j) (HRP.out a) (HRL.out j) (HRL.out a)
                        have hlaw : ∀ W : World, (binOp .gtr 22 X Y).run Try.prog W = .ok (.bool (decide (R a < R j))) W := fun W => by
                          rw [hX, hY, binOp_float_cmp_gtr, hgt]
                          rfl
                        clear hX hY hgt
                        by_cases hlt2 : R a < R j
                        · rw [decide_eq_true hlt2] at hlaw
                          have HN2 : Hid (srch R got (j + 1) = some j) := by show (if _ then _ else _) = _; rw [HSA.out, hbj]; simp [hlt2]
                          clear hbj hlt2
                          go_wp2_with fail
                          go_quiet (fail)
                          go_wp2
                          go_roundg (i - (j + 1))
                          case measure => omega
                          case rel => exact ⟨j + 1, _, by go_num, by omega, rfl, by first | rfl | exact World.drewN_drewN .., Or.inr ⟨j, rfl, hji, HN2⟩⟩
                        · rw [decide_eq_false hlt2] at hlaw
                          have HN2 : Hid (srch R got (j + 1) = some a) := by show (if _ then _ else _) = _; rw [HSA.out, hbj]; simp [hlt2]
                          clear hbj hlt2
                          go_wp2_with fail
                          go_quiet (fail)
                          go_wp2
                          go_roundg (i - (j + 1))
                          case measure => omega
                          case rel => exact ⟨j + 1, _, by go_num, by omega, rfl, by first | rfl | exact World.drewN_drewN .., Or.inr ⟨a, rfl, hai, HN2⟩⟩
                    · have HN2 : Hid (srch R got (j + 1) = srch R got j) := by show (if _ then _ else _) = _; rw [hbj]; rfl
                      clear hbj
                      go_wp2_with fail
                      go_quiet (fail)
                      go_wp2
                      go_roundg (i - (j + 1))
                      case measure => omega
                      case rel =>
                        refine ⟨j + 1, _, by go_num, by omega, rfl, by first | rfl | exact World.drewN_drewN .., ?_⟩
                        rcases hst with ⟨rfl, h⟩ | ⟨a, rfl, h1, h⟩
                        · exact Or.inl ⟨rfl, by rw [HN2.out]; exact h⟩
                        · exact Or.inr ⟨a, rfl, h1, by rw [HN2.out]; exact h⟩
                  · have ej : j = i := by omega
                    rcases hst with ⟨_, HSN⟩ | ⟨a, rfl, hai, HSA⟩
                    · exfalso
                      have h1 := HSN.out
                      rw [ej, HNX.out] at h1
                      cases h1
                    · have hae : a = E c := by
                        have h1 := HSA.out
                        rw [ej, HNX.out] at h1
                        exact (Option.some.inj h1).symm
                      have HAE := hide' hae
                      have hjz : ¬ (j : Int) < (i : Int) := by omega
                      have haz : (a : Int) < (i : Int) := by omega
                      have ha1 : (0 : Int) ≤ (a : Int) := by omega
                      have hEt : Hid (E (t % i) = a) := by show E (t % i) = a; rw [hae, HTC2.out]
                      obtain ⟨x, hx⟩ : ∃ x, x = O a + turnsTo E i t a := ⟨_, rfl⟩
                      have hx5 : (x : Int) ≤ 1024 := by
                        have h1 := turnsTo_le E i t a
                        have h2 : O a ≤ N := by rw [HOO.out]; exact Nat.le_trans (Nat.min_le_right _ _) (leftAt_le _ _ _)
                        have h3 := HN.out
                        have h4 := HLE.out
                        omega
                      have c1 : wr.cell? ⟨gg, a, none⟩ = some (.bool (got a)) := HD2.out.gots.cell hai
                      have f1 : wr.frozen? ⟨gg, a, none⟩ = false := HD2.out.gots.frozen a
                      have c3 : ((wr.drewN q).setCell ⟨gg, a, none⟩ (.bool true)).cell? ⟨g8, a, none⟩ = some (.int .i64 (x : Int)) := by rw [hx]; exact ((HD2.out.drewN q).mark a).out a hai
                      have f3 : wr.frozen? ⟨g8, a, none⟩ = false := HD2.out.free a
                      have hlm : ((L - t : Nat) : Int) - 1 = ((L - (t + 1) : Nat) : Int) := by omega
                      have hlb : ((L - (t + 1) : Nat) : Int) ≤ 512 := by have h1 := HLE.out; have h2 := HN.out; omega
                      have HX2 := hide' hx
                      clear hae hx
                      go_wp2
                      go_roundg (L - (t + 1))
                      case measure => omega
                      case rel =>
                        have hd := (((HD2.out.drewN q).mark a)).inc (by rw [hEt.out]; exact hai)
                        rw [hEt.out, ← HX2.out] at hd
                        refine ⟨t + 1, c + 1, gg, (fun y => if y = a then true else got y), by first | rfl | go_num | (congr 1; omega), rfl, by go_num, by omega, rfl, by omega, ?_, ?_, hd⟩
                        · show (t + 1) % i = (c + 1) % i
                          rw [Nat.add_mod t 1, Nat.add_mod c 1, HTC2.out, Nat.mod_eq_of_lt hc2]
                        · rw [HAE.out]; exact HG2.out.step
            · have e : t = L := by omega
              subst e
              have hlz : ¬ (0 : Int) < ((t - t : Nat) : Int) := by omega
              go_wp2
              go_ret
              refine ⟨g8, c8, Nat.le_trans HB1.out.size HD.out.b8, rfl, fun j hj => ?_, HB1.out.trans (HD.out.below.mono HB1.out.size)⟩
              rw [HD.out.out j hj]
              unfold shareF
              rw [HOO.out, HLL.out, HKK.out]

end Go.Proofs.Ytmkkkddadpcmeaa
