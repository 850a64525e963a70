/-
  GridPlays walked: true of any sizes and any acts. No conditions.
-/
import Derived.Test.YtmpmdlbhiogelaaH0
import Derived.Test.YtmpmdlbhiogelaaH1
import Derived.Test.YtmpmdlbhiogelaaH2
import Derived.Test.YtmpmdlbhiogelaaH3
import Derived.Test.YtmpmdlbhiogelaaH4
import Derived.Test.YtmpmdlbhiogelaaH5
namespace Go.Proofs.Ytmpmdlbhiogelaa
open Go.RowKit

set_option maxRecDepth 100000 in
set_option maxHeartbeats 8000000 in
theorem plays_go (ad : Option Addr) (n cap : Nat) (A : Nat → Ac) (x y : Nat) (w : World) (hA : Acts w ad n A) (hn : n ≤ 40) (hx : x < 256) (hy : y < 256) : Calls Try.prog 3 #[.int .u8 (x : Nat), .int .u8 (y : Nat), .slice ad n cap] w (LawTrue w) := by
  have HA := hide' hA
  have HAW := hide' awake7
  have n1 : (n : Int) ≤ 40 := by omega
  have xw : IntKind.i64.wrap (x : Int) = x := by rw [IntKind.wrap_i64]; omega
  have yw : IntKind.i64.wrap (y : Int) = y := by rw [IntKind.wrap_i64]; omega
  have xt := tmod_nat x
  have yt := tmod_nat y
  obtain ⟨xr, hxr⟩ : ∃ n, n = x % 12 := ⟨_, rfl⟩
  obtain ⟨yr, hyr⟩ : ∃ n, n = y % 12 := ⟨_, rfl⟩
  rw [← hxr] at xt
  rw [← hyr] at yt
  obtain ⟨u0, hu⟩ : ∃ n, n = 1 + xr := ⟨_, rfl⟩
  obtain ⟨v0, hv⟩ : ∃ n, n = 1 + yr := ⟨_, rfl⟩
  have g3 : IntKind.i64.wrap (xr : Int) = xr := by rw [IntKind.wrap_i64]; omega
  have g4 : IntKind.i64.wrap (yr : Int) = yr := by rw [IntKind.wrap_i64]; omega
  have g5 : IntKind.i64.wrap (1 + (xr : Int)) = (u0 : Nat) := by rw [IntKind.wrap_i64]; omega
  have g6 : IntKind.i64.wrap (1 + (yr : Int)) = (v0 : Nat) := by rw [IntKind.wrap_i64]; omega
  have HN := hide' (fun w => new8 u0 v0 w (by omega) (by omega) (by omega) (by omega))
  have HM := hide' (fun w => new8 v0 u0 w (by omega) (by omega) (by omega) (by omega))
  have HNR := hide' (fun w => refNewC u0 v0 w (by omega) (by omega) (by omega) (by omega))
  have HMR := hide' (fun w => refNewC v0 u0 w (by omega) (by omega) (by omega) (by omega))
  clear hA hxr hyr hu hv
  go_enter Try.func3, Try.ntmps3
  go_wp2_with fail
  refine (HN.out _).mono ?_
  rintro e w1 ⟨G, rfl, hs, hG, hgw, hgh, hab⟩
  have HS1 := hide' hs
  have HG1 := hide' hG
  have HGW := hide' (show G.w = u0 ∧ G.h = v0 ∧ w.heap.size ≤ G.bc from ⟨hgw, hgh, hab.2.2⟩)
  clear hs hG hgw hgh hab
  go_wp2_with fail
  refine (HM.out _).mono ?_
  rintro e w2 ⟨O, rfl, hs, hO, how, hoh, hab⟩
  have HS2 := hide' (HS1.out.trans hs)
  have HG2 := hide' (HG1.out.keep hs)
  have HO2 := hide' hO
  have HOW := hide' (show O.w = v0 ∧ O.h = u0 ∧ w.heap.size ≤ O.bc ∧ G.off O.bc ∧ O.off G.bc from ⟨how, hoh, Nat.le_trans HS1.out.size hab.2.2, HG1.out.off_new hab.2.2, by
    have := HG1.out.lt
    unfold Gr.above at hab
    unfold Gr.off
    omega⟩)
  clear hs hO how hoh hab HS1 HG1 HN HM
  go_wp2_with fail
  refine (HNR.out _).mono ?_
  rintro e w3 ⟨q, rfl, hs, hq, hqw, hqh, hqb⟩
  have HS3 := hide' (HS2.out.trans hs)
  have HG3 := hide' (HG2.out.keep hs)
  have HO3 := hide' (HO2.out.keep hs)
  have HQ3 := hide' hq
  have HQW := hide' (show q.w = G.w ∧ q.h = G.h ∧ q.b ≠ G.bc ∧ q.b ≠ O.bc from ⟨hqw.trans HGW.out.1.symm, hqh.trans HGW.out.2.1.symm, by have := HG2.out.lt; omega, by have := HO2.out.lt; omega⟩)
  clear hs hq hqw hqh hqb HS2 HG2 HO2
  go_wp2_with fail
  refine (HMR.out _).mono ?_
  rintro e w4 ⟨p, rfl, hs, hp, hpw, hph, hpb⟩
  have hal : Stay (fun _ => False) w4 ((w4.alloc (.cells #[.int .i64 (q.w : Nat), .int .i64 (q.h : Nat), .slice (some ⟨q.b, 0, none⟩) q.n q.cap] 28)).alloc (.cells #[.int .i64 (p.w : Nat), .int .i64 (p.h : Nat), .slice (some ⟨p.b, 0, none⟩) p.n p.cap] 28)) := ((Stay.refl _ _).alloc _).alloc _
  have HH : Hid (PH w w4.heap.size (w4.heap.size + 1) G O q p (fun _ => Cl.zero) (fun _ => Cl.zero) ((w4.alloc (.cells #[.int .i64 (q.w : Nat), .int .i64 (q.h : Nat), .slice (some ⟨q.b, 0, none⟩) q.n q.cap] 28)).alloc (.cells #[.int .i64 (p.w : Nat), .int .i64 (p.h : Nat), .slice (some ⟨p.b, 0, none⟩) p.n p.cap] 28))) := by
    have k1 := HG3.out.keep hs
    have k2 := HO3.out.keep hs
    have k3 := (HQ3.out.keep hs).lt
    have k4 := hp.lt
    have k5 := HG3.out.lt
    have k6 := HO3.out.lt
    have k7 := (HS3.out.trans hs).size
    have k8 := HGW.out.2.2
    have k9 := HOW.out.2.2.1
    exact ⟨(HS3.out.trans hs).trans hal, (BoxG.new q.g3 rfl).alloc _, BoxG.new p.g3 (by simp), k1.keep hal, (HQ3.out.keep hs).keep hal, k2.keep hal, hp.keep hal, ⟨by omega, by omega, by omega, k8, k9⟩,
      ⟨HOW.out.2.2.2.1, k1.off_new (Nat.le_refl _), k1.off_new (Nat.le_succ _)⟩, ⟨HOW.out.2.2.2.2, k2.off_new (Nat.le_refl _), k2.off_new (Nat.le_succ _)⟩, ⟨HQW.out.2.2.1, HQW.out.2.2.2, by omega, by omega⟩, ⟨by omega, by omega, by omega, by omega⟩,
      HQW.out.1, HQW.out.2.1, hpw.trans HOW.out.1.symm, hph.trans HOW.out.2.1.symm⟩
  clear hs hp hpw hph hpb hal HS3 HG3 HO3 HQ3 HQW HNR HMR HGW HOW xw yw xt yt g3 g4 g5 g6
  go_upto_region 8 with fail
  obtain ⟨X1, hX1⟩ : ∃ X, X = w4.heap.size := ⟨_, rfl⟩
  obtain ⟨X2, hX2⟩ : ∃ X, X = w4.heap.size + 1 := ⟨_, rfl⟩
  obtain ⟨W0, hW0⟩ : ∃ W, W = ((w4.alloc (.cells #[.int .i64 (q.w : Nat), .int .i64 (q.h : Nat), .slice (some ⟨q.b, 0, none⟩) q.n q.cap] 28)).alloc (.cells #[.int .i64 (p.w : Nat), .int .i64 (p.h : Nat), .slice (some ⟨p.b, 0, none⟩) p.n p.cap] 28)) := ⟨_, rfl⟩
  rw [← hX2, ← hX1, ← hW0] at HH
  rw [← hW0, ← hX2, ← hX1]
  clear hX1 hX2 hW0
  go_wp2_with fail
  go_loopg [9, 13] n (fun gg v9 v13 wr => ∃ k : Nat, k ≤ n ∧ gg = n - k ∧ v13 = .int .i64 (k : Int) ∧ ∃ G q p f g, v9 = .pointer (some ⟨G.g, 0, none⟩) ∧ Hid (PH w X1 X2 G O q p f g wr))
  case atStart => exact ⟨0, Nat.zero_le _, rfl, rfl, G, q, p, _, _, rfl, HH⟩
  case round =>
    clear HH
    obtain ⟨k, hk, rfl, rfl, G, q, p, f, g, rfl, HH⟩ := hrel
    by_cases hlt : k < n
    · have kn : (k : Int) < (n : Nat) := by omega
      obtain ⟨b, o, rfl, hac⟩ := HA.out.at' k hlt
      obtain ⟨a, ha⟩ : ∃ a, a = A k := ⟨_, rfl⟩
      rw [← ha] at hac
      have hac2 := hac.stay HH.out.stay (fun h => h)
      have HWF := hide' (show I64 a.x ∧ I64 a.y from by rw [ha]; exact HA.out.wf k hlt)
      obtain ⟨B, hB⟩ : ∃ B, B = wr.heap.size := ⟨_, rfl⟩
      have HP := hide' (HH.out.act (a := a) hB)
      have HZ := hide' HH.out.sz
      have HQ0 := hide' HH.out.r1
      obtain ⟨k0, k1, k2, k3, k4, k5, k6, k7, k8, k9, k10⟩ := hac2
      clear hac ha HH
      go_upto_block 2 with fail
      clear k0 k1 k2 k3 k4 k5 k6 k7 k8 k9 k10
      obtain ⟨W1, hW1⟩ : ∃ W, W = (wr.alloc (.cells #[.int .i64 a.d, .int .i64 a.r.x, .int .i64 a.r.y, .int .i64 a.r.w, .int .i64 a.r.h, .int .i64 a.x, .int .i64 a.y, .int .i32 a.c.r, .int .i64 a.c.fg, .int .i64 a.c.bg, .int .i64 a.c.fl] 37)) := ⟨_, rfl⟩
      rw [← hW1] at HP
      rw [← hW1, ← hB]
      clear hW1 hB
      go_cut [9, 66] (fun s9 s66 wx => ∃ G q p f g, s9 = .pointer (some ⟨G.g, 0, none⟩) ∧ Hid (PL w X1 X2 B a G O q p f f g g wx ∧ (q.w = G.w ∧ q.h = G.h ∧ p.w = O.w ∧ p.h = O.h)))
      case first =>
        by_cases h0 : a.d = 0
        · exact plays_do0 (by kernel_rfl) h0 HP HZ HQ0 HWF (by assumption) (by assumption)
        by_cases h1 : a.d = 1
        · exact plays_do1 (by kernel_rfl) h1 HP HZ HQ0 HWF (by assumption) (by assumption)
        by_cases h2 : a.d = 2
        · exact plays_do2 (by kernel_rfl) h2 HP HZ HQ0 HWF (by assumption) (by assumption)
        by_cases h3 : a.d = 3
        · exact plays_do3 (by kernel_rfl) h3 HP HZ HQ0 HWF (by assumption) (by assumption)
        by_cases h4 : a.d = 4
        · exact plays_do4 (by kernel_rfl) h4 HP HZ HQ0 HWF (by assumption) (by assumption)
        exact plays_do5 (by kernel_rfl) h0 h1 h2 h3 h4 HP HZ HQ0 HWF (by assumption) (by assumption)
      case rest =>
      clear HP HZ HQ0
      obtain ⟨G, q, p, f, g, rfl, HR⟩ := hcut
      have HZ := hide' HR.out.2
      have HS1 : Hid (∀ W, PL w X1 X2 B a G O q p f f g g W → Calls Try.prog 19 #[.pointer (some ⟨G.g, 0, none⟩), .agg #[.int .i64 q.g3.w, .int .i64 q.g3.h, q.g3.l]] W (Gives (.int .i64 0) W)) := fun W h => shows19 G f q f W h.g1 h.r1 HZ.out.1 HZ.out.2.1 (fun _ _ _ _ => rfl)
      have HS2 : Hid (∀ W, PL w X1 X2 B a G O q p f f g g W → Calls Try.prog 19 #[.pointer (some ⟨O.g, 0, none⟩), .agg #[.int .i64 p.g3.w, .int .i64 p.g3.h, p.g3.l]] W (Gives (.int .i64 0) W)) := fun W h => shows19 O g p g W h.g2 h.r2 HZ.out.2.2.1 HZ.out.2.2.2 (fun _ _ _ _ => rfl)
      obtain ⟨cv, hcv⟩ : ∃ c, c = atF G.w G.h f a.x a.y := ⟨_, rfl⟩
      have HAT1 : Hid (∀ W, PL w X1 X2 B a G O q p f f g g W → Calls Try.prog 20 #[.pointer (some ⟨G.g, 0, none⟩), .int .i64 a.x, .int .i64 a.y] W (Gives (.agg #[.int .i32 cv.r, .int .i64 cv.fg, .int .i64 cv.bg, .int .i64 cv.fl]) W)) := fun W h => by rw [hcv]; exact at20 G f a.x a.y W h.g1 HWF.out.1 HWF.out.2
      have HAT2 : Hid (∀ W, PL w X1 X2 B a G O q p f f g g W → Calls Try.prog 21 #[.agg #[.int .i64 q.g3.w, .int .i64 q.g3.h, q.g3.l], .int .i64 a.x, .int .i64 a.y] W (Gives (.agg #[.int .i32 cv.r, .int .i64 cv.fg, .int .i64 cv.bg, .int .i64 cv.fl]) W)) := fun W h => by
        have := refAt21 q f a.x a.y W h.r1
        rwa [HZ.out.1, HZ.out.2.1, ← hcv] at this
      clear hcv
      go_upto_region 42 with fail
      have hS : (fun w' => PL w X1 X2 B a G O q p f f g g w') wc.drew := HR.out.1.keep (Stay.refl _ _).drew
      refine wp_region_mix (fun w' => PL w X1 X2 B a G O q p f f g g w') [(0, true), (1, true), (2, false), (3, true), (4, true), (5, true), (6, true), (7, false), (8, true), (9, true), (10, true), (11, true), (12, true), (13, true), (14, true), (15, true), (17, true), (18, true), (19, true), (20, true), (21, true), (16, false), (22, false), (23, true), (24, true)] (by kernel_rfl) (by kernel_rfl) (fun _ d _ _ _ h => by cases d <;> exact h) hS ?_
      refine mix_begin (fun K0 hK0 => ?_)
      refine mix_take hK0 (some 227) (.move (.tmp 9)) 24 _ (by kernel_rfl) (by kernel_rfl) (fun w' hS' => by (obtain ⟨c0, c1, c2, c3, c4, c5, c6, c7, c8, c9, c10⟩ := hS'.act; simp only [opr]; go_simp; try with_reducible rfl)) (fun K1 hK1 => ?_)
      clear hK0 K0
      simp only [Act.put, List.setIfInBounds_toArray, List.set_cons_zero, List.set_cons_succ]
      refine mix_take hK1 (some 228) (.load 28 (.tmp 11)) 28 _ (by kernel_rfl) (by kernel_rfl) (fun w' hS' => by exact run_load_BoxG rfl rfl hS'.b1) (fun K2 hK2 => ?_)
      clear hK1 K1
      simp only [Act.put, List.setIfInBounds_toArray, List.set_cons_zero, List.set_cons_succ]
      refine mix_call hK2 (some 229) 19 #[.tmp 227, .tmp 228] #[24, 28] 3 _ (by kernel_rfl) (by kernel_rfl) (enters Try.func19 (by kernel_rfl) (by kernel_rfl)) (by go_simp; try with_reducible rfl) (fun K3 hK3 => ?_)
      clear hK2 K2
      refine (HS1.out _ hS).mono ?_
      rintro e wm1 ⟨rfl, hs1⟩
      have hS1 : _ := hS.keep hs1
      refine ⟨_, rfl, hS1, ?_⟩
      clear hs1
      simp only [Act.put, List.setIfInBounds_toArray, List.set_cons_zero, List.set_cons_succ]
      refine mix_take hK3 (some 230) (.binOp BinOp.neq 3 (.tmp 229) (.const (Value.int IntKind.i64 0)) 3) 4 _ (by kernel_rfl) (by kernel_rfl) (fun w' hS' => by (obtain ⟨c0, c1, c2, c3, c4, c5, c6, c7, c8, c9, c10⟩ := hS'.act; simp only [opr]; go_simp; try with_reducible rfl)) (fun K4 hK4 => ?_)
      clear hK3 K3
      simp only [Act.put, List.setIfInBounds_toArray, List.set_cons_zero, List.set_cons_succ]
      refine mix_take hK4 (some 231) (.move (.tmp 230)) 4 _ (by kernel_rfl) (by kernel_rfl) (fun w' hS' => by (obtain ⟨c0, c1, c2, c3, c4, c5, c6, c7, c8, c9, c10⟩ := hS'.act; simp only [opr]; go_simp; try with_reducible rfl)) (fun K5 hK5 => ?_)
      clear hK4 K4
      simp only [Act.put, List.setIfInBounds_toArray, List.set_cons_zero, List.set_cons_succ]
      refine mix_take hK5 (some 232) (.move (.tmp 10)) 24 _ (by kernel_rfl) (by kernel_rfl) (fun w' hS' => by (obtain ⟨c0, c1, c2, c3, c4, c5, c6, c7, c8, c9, c10⟩ := hS'.act; simp only [opr]; go_simp; try with_reducible rfl)) (fun K6 hK6 => ?_)
      clear hK5 K5
      simp only [Act.put, List.setIfInBounds_toArray, List.set_cons_zero, List.set_cons_succ]
      refine mix_take hK6 (some 233) (.load 28 (.tmp 12)) 28 _ (by kernel_rfl) (by kernel_rfl) (fun w' hS' => by exact run_load_BoxG rfl rfl hS'.b2) (fun K7 hK7 => ?_)
      clear hK6 K6
      simp only [Act.put, List.setIfInBounds_toArray, List.set_cons_zero, List.set_cons_succ]
      refine mix_call hK7 (some 234) 19 #[.tmp 232, .tmp 233] #[24, 28] 3 _ (by kernel_rfl) (by kernel_rfl) (enters Try.func19 (by kernel_rfl) (by kernel_rfl)) (by go_simp; try with_reducible rfl) (fun K8 hK8 => ?_)
      clear hK7 K7
      refine (HS2.out _ hS1).mono ?_
      rintro e wm2 ⟨rfl, hs2⟩
      have hS2 : _ := hS1.keep hs2
      refine ⟨_, rfl, hS2, ?_⟩
      clear hs2
      simp only [Act.put, List.setIfInBounds_toArray, List.set_cons_zero, List.set_cons_succ]
      refine mix_take hK8 (some 235) (.binOp BinOp.neq 3 (.tmp 234) (.const (Value.int IntKind.i64 0)) 3) 4 _ (by kernel_rfl) (by kernel_rfl) (fun w' hS' => by (obtain ⟨c0, c1, c2, c3, c4, c5, c6, c7, c8, c9, c10⟩ := hS'.act; simp only [opr]; go_simp; try with_reducible rfl)) (fun K9 hK9 => ?_)
      clear hK8 K8
      simp only [Act.put, List.setIfInBounds_toArray, List.set_cons_zero, List.set_cons_succ]
      refine mix_take hK9 (some 236) (.pick (.tmp 231) (.const (Value.bool true)) (.tmp 235)) 4 _ (by kernel_rfl) (by kernel_rfl) (fun w' hS' => by (obtain ⟨c0, c1, c2, c3, c4, c5, c6, c7, c8, c9, c10⟩ := hS'.act; simp only [opr]; go_simp; try with_reducible rfl)) (fun K10 hK10 => ?_)
      clear hK9 K9
      simp only [Act.put, List.setIfInBounds_toArray, List.set_cons_zero, List.set_cons_succ]
      refine mix_take hK10 (some 237) (.move (.tmp 236)) 4 _ (by kernel_rfl) (by kernel_rfl) (fun w' hS' => by (obtain ⟨c0, c1, c2, c3, c4, c5, c6, c7, c8, c9, c10⟩ := hS'.act; simp only [opr]; go_simp; try with_reducible rfl)) (fun K11 hK11 => ?_)
      clear hK10 K10
      simp only [Act.put, List.setIfInBounds_toArray, List.set_cons_zero, List.set_cons_succ]
      refine mix_take hK11 (some 238) (.move (.tmp 9)) 24 _ (by kernel_rfl) (by kernel_rfl) (fun w' hS' => by (obtain ⟨c0, c1, c2, c3, c4, c5, c6, c7, c8, c9, c10⟩ := hS'.act; simp only [opr]; go_simp; try with_reducible rfl)) (fun K12 hK12 => ?_)
      clear hK11 K11
      simp only [Act.put, List.setIfInBounds_toArray, List.set_cons_zero, List.set_cons_succ]
      refine mix_take hK12 (some 239) (.fieldAddr 37 (.tmp 14) 2) 0 _ (by kernel_rfl) (by kernel_rfl) (fun w' hS' => by (obtain ⟨c0, c1, c2, c3, c4, c5, c6, c7, c8, c9, c10⟩ := hS'.act; simp only [opr]; go_simp; try with_reducible rfl)) (fun K13 hK13 => ?_)
      clear hK12 K12
      simp only [Act.put, List.setIfInBounds_toArray, List.set_cons_zero, List.set_cons_succ]
      refine mix_take hK13 (some 240) (.load 3 (.tmp 239)) 3 _ (by kernel_rfl) (by kernel_rfl) (fun w' hS' => by (obtain ⟨c0, c1, c2, c3, c4, c5, c6, c7, c8, c9, c10⟩ := hS'.act; simp only [opr]; go_simp; try with_reducible rfl)) (fun K14 hK14 => ?_)
      clear hK13 K13
      simp only [Act.put, List.setIfInBounds_toArray, List.set_cons_zero, List.set_cons_succ]
      refine mix_take hK14 (some 241) (.fieldAddr 37 (.tmp 14) 3) 0 _ (by kernel_rfl) (by kernel_rfl) (fun w' hS' => by (obtain ⟨c0, c1, c2, c3, c4, c5, c6, c7, c8, c9, c10⟩ := hS'.act; simp only [opr]; go_simp; try with_reducible rfl)) (fun K15 hK15 => ?_)
      clear hK14 K14
      simp only [Act.put, List.setIfInBounds_toArray, List.set_cons_zero, List.set_cons_succ]
      refine mix_take hK15 (some 242) (.load 3 (.tmp 241)) 3 _ (by kernel_rfl) (by kernel_rfl) (fun w' hS' => by (obtain ⟨c0, c1, c2, c3, c4, c5, c6, c7, c8, c9, c10⟩ := hS'.act; simp only [opr]; go_simp; try with_reducible rfl)) (fun K16 hK16 => ?_)
      clear hK15 K15
      simp only [Act.put, List.setIfInBounds_toArray, List.set_cons_zero, List.set_cons_succ]
      refine mix_take hK16 (some 244) (.load 28 (.tmp 11)) 28 _ (by kernel_rfl) (by kernel_rfl) (fun w' hS' => by exact run_load_BoxG rfl rfl hS'.b1) (fun K17 hK17 => ?_)
      clear hK16 K16
      simp only [Act.put, List.setIfInBounds_toArray, List.set_cons_zero, List.set_cons_succ]
      refine mix_take hK17 (some 245) (.fieldAddr 37 (.tmp 14) 2) 0 _ (by kernel_rfl) (by kernel_rfl) (fun w' hS' => by (obtain ⟨c0, c1, c2, c3, c4, c5, c6, c7, c8, c9, c10⟩ := hS'.act; simp only [opr]; go_simp; try with_reducible rfl)) (fun K18 hK18 => ?_)
      clear hK17 K17
      simp only [Act.put, List.setIfInBounds_toArray, List.set_cons_zero, List.set_cons_succ]
      refine mix_take hK18 (some 246) (.load 3 (.tmp 245)) 3 _ (by kernel_rfl) (by kernel_rfl) (fun w' hS' => by (obtain ⟨c0, c1, c2, c3, c4, c5, c6, c7, c8, c9, c10⟩ := hS'.act; simp only [opr]; go_simp; try with_reducible rfl)) (fun K19 hK19 => ?_)
      clear hK18 K18
      simp only [Act.put, List.setIfInBounds_toArray, List.set_cons_zero, List.set_cons_succ]
      refine mix_take hK19 (some 247) (.fieldAddr 37 (.tmp 14) 3) 0 _ (by kernel_rfl) (by kernel_rfl) (fun w' hS' => by (obtain ⟨c0, c1, c2, c3, c4, c5, c6, c7, c8, c9, c10⟩ := hS'.act; simp only [opr]; go_simp; try with_reducible rfl)) (fun K20 hK20 => ?_)
      clear hK19 K19
      simp only [Act.put, List.setIfInBounds_toArray, List.set_cons_zero, List.set_cons_succ]
      refine mix_take hK20 (some 248) (.load 3 (.tmp 247)) 3 _ (by kernel_rfl) (by kernel_rfl) (fun w' hS' => by (obtain ⟨c0, c1, c2, c3, c4, c5, c6, c7, c8, c9, c10⟩ := hS'.act; simp only [opr]; go_simp; try with_reducible rfl)) (fun K21 hK21 => ?_)
      clear hK20 K20
      simp only [Act.put, List.setIfInBounds_toArray, List.set_cons_zero, List.set_cons_succ]
      refine mix_call hK21 (some 243) 20 #[.tmp 238, .tmp 240, .tmp 242] #[24, 3, 3] 35 _ (by kernel_rfl) (by kernel_rfl) (enters Try.func20 (by kernel_rfl) (by kernel_rfl)) (by go_simp; try with_reducible rfl) (fun K22 hK22 => ?_)
      clear hK21 K21
      refine (HAT1.out _ hS2).mono ?_
      rintro e wm3 ⟨rfl, hs3⟩
      have hS3 : _ := hS2.keep hs3
      refine ⟨_, rfl, hS3, ?_⟩
      clear hs3
      simp only [Act.put, List.setIfInBounds_toArray, List.set_cons_zero, List.set_cons_succ]
      refine mix_call hK22 (some 249) 21 #[.tmp 244, .tmp 246, .tmp 248] #[28, 3, 3] 35 _ (by kernel_rfl) (by kernel_rfl) (enters Try.func21 (by kernel_rfl) (by kernel_rfl)) (by go_simp; try with_reducible rfl) (fun K23 hK23 => ?_)
      clear hK22 K22
      refine (HAT2.out _ hS3).mono ?_
      rintro e wm4 ⟨rfl, hs4⟩
      have hS4 : _ := hS3.keep hs4
      refine ⟨_, rfl, hS4, ?_⟩
      clear hs4
      simp only [Act.put, List.setIfInBounds_toArray, List.set_cons_zero, List.set_cons_succ]
      refine mix_take hK23 (some 250) (.binOp BinOp.neq 35 (.tmp 243) (.tmp 249) 35) 4 _ (by kernel_rfl) (by kernel_rfl) (fun w' hS' => by exact neqC_op false _ _ rfl rfl (by simp)) (fun K24 hK24 => ?_)
      clear hK23 K23
      simp only [Act.put, List.setIfInBounds_toArray, List.set_cons_zero, List.set_cons_succ]
      refine mix_take hK24 (some 251) (.pick (.tmp 237) (.const (Value.bool true)) (.tmp 250)) 4 _ (by kernel_rfl) (by kernel_rfl) (fun w' hS' => by (obtain ⟨c0, c1, c2, c3, c4, c5, c6, c7, c8, c9, c10⟩ := hS'.act; simp only [opr]; go_simp; try with_reducible rfl)) (fun K25 hK25 => ?_)
      clear hK24 K24
      simp only [Act.put, List.setIfInBounds_toArray, List.set_cons_zero, List.set_cons_succ]
      refine hK25 _ _ (mix_nil ?_)
      clear hK25 K25
      have HH2 := hide' (PL.head hS4 HZ.out)
      clear hS hS4 HR HS1 HS2 HAT1 HAT2
      go_wp2
      go_roundg (n - (k + 1))
      case measure => omega
      case rel => exact ⟨k + 1, by omega, rfl, by go_num, G, q, p, f, g, rfl, HH2⟩
    · have hkn : k = n := by omega
      subst hkn
      have d1 : decide ((k : Int) < (k : Nat)) = false := by simp
      have HSW := hide' HH.out.stay
      clear HH
      go_wp2_with fail
      refine (HAW.out _).mono ?_
      rintro e w9 ⟨rfl, hs⟩
      have HE := hide' (HSW.out.trans hs)
      clear hs
      go_wp2
      go_ret
      exact ⟨by simp, HE.out⟩

end Go.Proofs.Ytmpmdlbhiogelaa
