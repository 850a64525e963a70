/-
  GridBack walked: true of any acts, any rectangle and any place. No conditions.
-/
import Derived.Test.YtmpmdlbhiogelaaE9
import Derived.Test.YtmpmdlbhiogelaaF0
namespace Go.Proofs.Ytmpmdlbhiogelaa
open Go.RowKit

theorem Box.lt {w : World} {b : Nat} {r : R} (h : Box w b r) : b < w.heap.size := World.block_lt_of_cell? _ _ h.c0

/-- What came to another place comes back as it was. -/
theorem back_same (r : R) (X Y : Nat) (hX : X < 12) (hY : Y < 12) (f f1 f2 : Nat → Cl) (h1 : Blits 12 12 12 12 r X Y f (fun _ => Cl.zero) f1) (h2 : Blits 12 12 12 12 (⟨(X : Nat), (Y : Nat), r.w, r.h⟩ : R) r.x r.y f1 f f2) (hn : 0 < cntAll (comesB 12 12 r X Y) 12 12) :
    cntAll (comesB 12 12 (⟨(X : Nat), (Y : Nat), r.w, r.h⟩ : R) r.x r.y) 12 12 = cntAll (comesB 12 12 r X Y) 12 12 ∧ ∀ U V : Nat, U < 12 → V < 12 → f2 (V * 12 + U) = f (V * 12 + U) := by
  have hxy : rightB ⟨(X : Nat), (Y : Nat), 0, 0⟩ = true := right_of (by omega)
  have hr : rightB r = true := by
    cases hr : rightB r
    · have := (Blits.wrong (gw := 12) (gh := 12) (ow := 12) (oh := 12) (r := r) (x := (X : Nat)) (y := (Y : Nat)) f f (by rw [hr]; rfl)).2
      omega
    · rfl
  obtain ⟨⟨p1, p2⟩, ⟨p3, p4⟩, ⟨p5, p6⟩, p7, p8⟩ := right_bd hr
  have hr2 : rightB (⟨(X : Nat), (Y : Nat), r.w, r.h⟩ : R) = true := right_of (by omega)
  have hxy2 : rightB ⟨r.x, r.y, 0, 0⟩ = true := right_of (by omega)
  obtain ⟨x0, y0, a0, b0, _, _, _, x1, y1, a1, b1, u1, v1, _, hx1, hy1, hm, huv⟩ := blit_rect 12 12 12 12 r X Y (by decide) (by decide) (by decide) (by decide) hr hxy
  have hN := cntAll_rect hx1 hy1 hm
  have hb : 0 < b1 := by
    rw [hN] at hn
    exact Nat.pos_of_mul_pos_left hn
  obtain ⟨e1, e2, e3, e4, e5⟩ := huv hb
  have key : ∀ U V : Nat, U < 12 → V < 12 → (comesB 12 12 (⟨(X : Nat), (Y : Nat), r.w, r.h⟩ : R) r.x r.y U V = true ↔ (u1 ≤ U ∧ U < u1 + a1 ∧ v1 ≤ V ∧ V < v1 + b1)) := fun U V hU hV => by
    unfold comesB
    rw [hr2, hxy2]
    simp only [Bool.and_self, Bool.true_and, Bool.and_eq_true]
    constructor
    · rintro ⟨q1, q2⟩
      obtain ⟨a, b, ha, hb', ha2, hb2⟩ := ins_true q2
      have := (hm a b ha2 hb2).1 (by
        unfold comesB
        rw [hr, hxy]
        simp only [Bool.and_self, Bool.true_and, Bool.and_eq_true]
        have ea : (a : Int) - (X : Nat) + r.x = (U : Nat) := by omega
        have eb : (b : Int) - (Y : Nat) + r.y = (V : Nat) := by omega
        rw [ea, eb]
        refine ⟨?_, ins_nat hU hV⟩
        unfold inB at q1 ⊢
        simp only [Bool.and_eq_true, decide_eq_true_eq] at q1 ⊢
        omega)
      omega
    · rintro ⟨q1, q2, q3, q4⟩
      obtain ⟨a, ha⟩ : ∃ a : Nat, (U : Int) - r.x + (X : Nat) = (a : Nat) := ⟨((U : Int) - r.x + (X : Nat)).toNat, by omega⟩
      obtain ⟨b, hb'⟩ : ∃ b : Nat, (V : Int) - r.y + (Y : Nat) = (b : Nat) := ⟨((V : Int) - r.y + (Y : Nat)).toNat, by omega⟩
      have hc := (hm a b (by omega) (by omega)).2 (by omega)
      unfold comesB at hc
      rw [hr, hxy] at hc
      simp only [Bool.and_self, Bool.true_and, Bool.and_eq_true] at hc
      rw [ha, hb']
      refine ⟨?_, ins_nat (by omega) (by omega)⟩
      have h1 := hc.1
      unfold inB at h1 ⊢
      simp only [Bool.and_eq_true, decide_eq_true_eq] at h1 ⊢
      omega
  refine ⟨by rw [hN]; exact cntAll_rect e3 e4 key, fun U V hU hV => ?_⟩
  rw [h2 U V hU hV]
  by_cases hc : comesB 12 12 (⟨(X : Nat), (Y : Nat), r.w, r.h⟩ : R) r.x r.y U V = true
  · rw [if_pos hc]
    have hk := (key U V hU hV).1 hc
    obtain ⟨a, ha⟩ : ∃ a : Nat, (U : Int) - r.x + (X : Nat) = (a : Nat) := ⟨((U : Int) - r.x + (X : Nat)).toNat, by omega⟩
    obtain ⟨b, hb'⟩ : ∃ b : Nat, (V : Int) - r.y + (Y : Nat) = (b : Nat) := ⟨((V : Int) - r.y + (Y : Nat)).toNat, by omega⟩
    show atF 12 12 f1 ((U : Int) - r.x + (X : Nat)) ((V : Int) - r.y + (Y : Nat)) = _
    rw [ha, hb', atF_nat f1 (by omega) (by omega), h1 a b (by omega) (by omega), if_pos ((hm a b (by omega) (by omega)).2 (by omega))]
    rw [show (a : Int) - (X : Nat) + r.x = (U : Nat) by omega, show (b : Int) - (Y : Nat) + r.y = (V : Nat) by omega, atF_nat f hU hV]
  · rw [if_neg hc]

/-- The grids and the box, while GridBack goes on. -/
structure BK (w : World) (r : R) (G O : Gr) (f : Nat → Cl) (wr : World) : Prop where
  stay : Stay (fun _ => False) w wr
  box : Box wr w.heap.size r
  one : GridAt wr G f
  two : GridAt wr O (fun _ => Cl.zero)

theorem back_long (ad : Option Addr) (n cap : Nat) (r : R) (x y : Int) (w : World) (hle : (n : Int) ≤ 9223372036854775807) (hn : 40 < n) : Calls Try.prog 5 #[.slice ad n cap, .agg #[.int .i64 r.x, .int .i64 r.y, .int .i64 r.w, .int .i64 r.h], .int .u8 x, .int .u8 y] w (LawTrue w) := by
  have HS := hide' ((Stay.refl (fun _ => False) w).alloc (.cells #[.int .i64 r.x, .int .i64 r.y, .int .i64 r.w, .int .i64 r.h] 31))
  have n1 : (40 : Int) < (n : Nat) := by omega
  have HAW := hide' awake7
  go_enter Try.func5, Try.ntmps5
  go_wp2_with fail
  refine (HAW.out _).mono ?_
  rintro e w9 ⟨rfl, hs⟩
  have HE := hide' (HS.out.trans hs)
  clear hs
  go_wp2
  go_ret
  exact ⟨by simp, HE.out⟩

set_option maxRecDepth 100000 in
set_option maxHeartbeats 2000000 in
theorem back_go (ad : Option Addr) (n cap : Nat) (A : Nat → Ac) (r : R) (x y : Nat) (w : World) (hA : Acts w ad n A) (hn : n ≤ 40) (hx : x < 256) (hy : y < 256) : Calls Try.prog 5 #[.slice ad n cap, .agg #[.int .i64 r.x, .int .i64 r.y, .int .i64 r.w, .int .i64 r.h], .int .u8 (x : Nat), .int .u8 (y : Nat)] w (LawTrue w) := by
  have hs0 : Stay (fun _ => False) w (w.alloc (.cells #[.int .i64 r.x, .int .i64 r.y, .int .i64 r.w, .int .i64 r.h] 31)) := (Stay.refl _ _).alloc _
  have HS := hide' hs0
  have HB := hide' (Box.new (w := w) r rfl)
  have HN := hide' (fun w => new8 12 12 w (by decide) (by decide) (by decide) (by decide))
  have HA := hide' hA
  have HAW := hide' awake7
  have n1 : (n : Int) ≤ 40 := by omega
  have xw : IntKind.i64.wrap (x : Int) = x := by rw [IntKind.wrap_i64]; omega
  have yw : IntKind.i64.wrap (y : Int) = y := by rw [IntKind.wrap_i64]; omega
  have xt := tmod_nat x
  have yt := tmod_nat y
  obtain ⟨X, hX⟩ : ∃ X, X = x % 12 := ⟨_, rfl⟩
  obtain ⟨Y, hY⟩ : ∃ Y, Y = y % 12 := ⟨_, rfl⟩
  rw [← hX] at xt
  rw [← hY] at yt
  have e3 : IntKind.i64.wrap (X : Int) = X := by rw [IntKind.wrap_i64]; omega
  have e4 : IntKind.i64.wrap (Y : Int) = Y := by rw [IntKind.wrap_i64]; omega
  have HXY := hide' (show X < 12 ∧ Y < 12 by omega)
  clear hs0 hA hX hY
  go_enter Try.func5, Try.ntmps5
  go_wp2_with fail
  refine (HN.out _).mono ?_
  rintro e w1 ⟨G, rfl, hs, hG, hgw, hgh, hab⟩
  have HS1 := hide' (HS.out.trans hs)
  have HB1 := hide' (HB.out.keep hs)
  have HG1 := hide' hG
  have HGW := hide' (show G.w = 12 ∧ G.h = 12 ∧ w.heap.size < G.bc from ⟨hgw, hgh, by have := hab.2.2; have := HB.out.lt; omega⟩)
  clear hs hG hgw hgh hab HS HB
  go_wp2_with fail
  refine (HN.out _).mono ?_
  rintro e w2 ⟨O, rfl, hs, hO, how, hoh, hab⟩
  have HI := hide' (show BK w r G O (fun _ => Cl.zero) w2 from ⟨HS1.out.trans hs, HB1.out.keep hs, HG1.out.keep hs, hO⟩)
  have HOW := hide' (show O.w = 12 ∧ O.h = 12 ∧ w.heap.size < O.bc ∧ G.off O.bc ∧ O.off G.bc from ⟨how, hoh, by have := hab.2.2; have := HB1.out.lt; omega, HG1.out.off_new hab.2.2, by
    have := HG1.out.lt
    unfold Gr.above at hab
    unfold Gr.off
    omega⟩)
  clear hs hO how hoh hab HS1 HB1 HG1 HN
  go_wp2_with fail
  go_loopg [11] n (fun g v wr => ∃ k : Nat, k ≤ n ∧ g = n - k ∧ v = .int .i64 (k : Int) ∧ Hid (∃ f, BK w r G O f wr))
  case atStart => exact ⟨0, Nat.zero_le _, rfl, rfl, _, HI.out⟩
  case round =>
    obtain ⟨k, hk, rfl, rfl, HIk⟩ := hrel
    by_cases hlt : k < n
    · have kn : (k : Int) < (n : Nat) := by omega
      obtain ⟨b, o, rfl, hac⟩ := HA.out.at' k hlt
      obtain ⟨f, hf⟩ := HIk.out
      have hbw : b < w.heap.size := World.block_lt_of_cell? _ _ hac.c0
      have HNB : Hid (¬ b = G.bc) := show ¬ b = G.bc by have := HGW.out.2.2; omega
      obtain ⟨a, ha⟩ : ∃ a, a = A k := ⟨_, rfl⟩
      rw [← ha] at hac
      have HAC := hide' (hac.stay hf.stay (fun h => h))
      have HG0 := hide' hf.one
      have HBK := hide' hf
      have HFL := hide' (fun W h => fill14 G f a.r a.c W h)
      clear hac hf hbw ha HIk
      go_upto_region 9 with fail
      have hS : (fun w' => Stay (fun j => j = G.bc) wr w') wr.drew := (Stay.refl _ _).drew
      refine wp_region_mix (fun w' => Stay (fun j => j = G.bc) wr w') [(0, true), (1, true), (2, true), (3, true), (4, true), (5, true), (6, true), (7, true), (8, true), (9, true), (10, true), (11, false)] (by kernel_rfl) (by kernel_rfl) (fun _ d _ _ _ h => by cases d <;> exact h) hS ?_
      refine mix_begin (fun K0 hK0 => ?_)
      refine mix_take hK0 (some 33) (.move (.tmp 9)) 24 _ (by kernel_rfl) (by kernel_rfl) (fun w' hS' => by (obtain ⟨c0, c1, c2, c3, c4, c5, c6, c7, c8, c9, c10⟩ := HAC.out.stay hS' HNB.out; simp only [opr]; go_simp; try with_reducible rfl)) (fun K1 hK1 => ?_)
      clear hK0 K0
      simp only [Act.put, List.setIfInBounds_toArray, List.set_cons_zero, List.set_cons_succ]
      refine mix_take hK1 (some 34) (.move (.tmp 0)) 22 _ (by kernel_rfl) (by kernel_rfl) (fun w' hS' => by (obtain ⟨c0, c1, c2, c3, c4, c5, c6, c7, c8, c9, c10⟩ := HAC.out.stay hS' HNB.out; simp only [opr]; go_simp; try with_reducible rfl)) (fun K2 hK2 => ?_)
      clear hK1 K1
      simp only [Act.put, List.setIfInBounds_toArray, List.set_cons_zero, List.set_cons_succ]
      refine mix_take hK2 (some 35) (.move (.tmp 11)) 3 _ (by kernel_rfl) (by kernel_rfl) (fun w' hS' => by (obtain ⟨c0, c1, c2, c3, c4, c5, c6, c7, c8, c9, c10⟩ := HAC.out.stay hS' HNB.out; simp only [opr]; go_simp; try with_reducible rfl)) (fun K3 hK3 => ?_)
      clear hK2 K2
      simp only [Act.put, List.setIfInBounds_toArray, List.set_cons_zero, List.set_cons_succ]
      refine mix_take hK3 (some 36) (.indexAddr 22 (.tmp 34) (.tmp 35)) 0 _ (by kernel_rfl) (by kernel_rfl) (fun w' hS' => by (obtain ⟨c0, c1, c2, c3, c4, c5, c6, c7, c8, c9, c10⟩ := HAC.out.stay hS' HNB.out; simp only [opr]; go_simp; try with_reducible rfl)) (fun K4 hK4 => ?_)
      clear hK3 K3
      simp only [Act.put, List.setIfInBounds_toArray, List.set_cons_zero, List.set_cons_succ]
      refine mix_take hK4 (some 37) (.fieldAddr 37 (.tmp 36) 1) 0 _ (by kernel_rfl) (by kernel_rfl) (fun w' hS' => by (obtain ⟨c0, c1, c2, c3, c4, c5, c6, c7, c8, c9, c10⟩ := HAC.out.stay hS' HNB.out; simp only [opr]; go_simp; try with_reducible rfl)) (fun K5 hK5 => ?_)
      clear hK4 K4
      simp only [Act.put, List.setIfInBounds_toArray, List.set_cons_zero, List.set_cons_succ]
      refine mix_take hK5 (some 38) (.load 31 (.tmp 37)) 31 _ (by kernel_rfl) (by kernel_rfl) (fun w' hS' => by (obtain ⟨c0, c1, c2, c3, c4, c5, c6, c7, c8, c9, c10⟩ := HAC.out.stay hS' HNB.out; simp only [opr]; go_simp; try with_reducible rfl)) (fun K6 hK6 => ?_)
      clear hK5 K5
      simp only [Act.put, List.setIfInBounds_toArray, List.set_cons_zero, List.set_cons_succ]
      refine mix_take hK6 (some 39) (.move (.tmp 0)) 22 _ (by kernel_rfl) (by kernel_rfl) (fun w' hS' => by (obtain ⟨c0, c1, c2, c3, c4, c5, c6, c7, c8, c9, c10⟩ := HAC.out.stay hS' HNB.out; simp only [opr]; go_simp; try with_reducible rfl)) (fun K7 hK7 => ?_)
      clear hK6 K6
      simp only [Act.put, List.setIfInBounds_toArray, List.set_cons_zero, List.set_cons_succ]
      refine mix_take hK7 (some 40) (.move (.tmp 11)) 3 _ (by kernel_rfl) (by kernel_rfl) (fun w' hS' => by (obtain ⟨c0, c1, c2, c3, c4, c5, c6, c7, c8, c9, c10⟩ := HAC.out.stay hS' HNB.out; simp only [opr]; go_simp; try with_reducible rfl)) (fun K8 hK8 => ?_)
      clear hK7 K7
      simp only [Act.put, List.setIfInBounds_toArray, List.set_cons_zero, List.set_cons_succ]
      refine mix_take hK8 (some 41) (.indexAddr 22 (.tmp 39) (.tmp 40)) 0 _ (by kernel_rfl) (by kernel_rfl) (fun w' hS' => by (obtain ⟨c0, c1, c2, c3, c4, c5, c6, c7, c8, c9, c10⟩ := HAC.out.stay hS' HNB.out; simp only [opr]; go_simp; try with_reducible rfl)) (fun K9 hK9 => ?_)
      clear hK8 K8
      simp only [Act.put, List.setIfInBounds_toArray, List.set_cons_zero, List.set_cons_succ]
      refine mix_take hK9 (some 42) (.fieldAddr 37 (.tmp 41) 4) 0 _ (by kernel_rfl) (by kernel_rfl) (fun w' hS' => by (obtain ⟨c0, c1, c2, c3, c4, c5, c6, c7, c8, c9, c10⟩ := HAC.out.stay hS' HNB.out; simp only [opr]; go_simp; try with_reducible rfl)) (fun K10 hK10 => ?_)
      clear hK9 K9
      simp only [Act.put, List.setIfInBounds_toArray, List.set_cons_zero, List.set_cons_succ]
      refine mix_take hK10 (some 43) (.load 35 (.tmp 42)) 35 _ (by kernel_rfl) (by kernel_rfl) (fun w' hS' => by (obtain ⟨c0, c1, c2, c3, c4, c5, c6, c7, c8, c9, c10⟩ := HAC.out.stay hS' HNB.out; simp only [opr]; go_simp; try with_reducible rfl)) (fun K11 hK11 => ?_)
      clear hK10 K10
      simp only [Act.put, List.setIfInBounds_toArray, List.set_cons_zero, List.set_cons_succ]
      refine mix_call hK11 (some 44) 14 #[.tmp 33, .tmp 38, .tmp 43] #[24, 31, 35] 3 _ (by kernel_rfl) (by kernel_rfl) (enters Try.func14 (by kernel_rfl) (by kernel_rfl)) (by go_simp; try with_reducible rfl) (fun K12 hK12 => ?_)
      clear hK11 K11
      refine (HFL.out _ (HG0.out.keep (Stay.refl _ _).drew)).mono ?_
      rintro e wm1 ⟨F1, ⟨rfl, hs1, hg1⟩, _⟩
      have hS1 : _ := hS.trans hs1
      refine ⟨_, rfl, hS1, ?_⟩
      have HGN := hide' hg1
      have HFN := hide' hs1
      clear hg1
      clear hs1
      simp only [Act.put, List.setIfInBounds_toArray, List.set_cons_zero, List.set_cons_succ]
      refine hK12 _ _ (mix_nil ?_)
      clear hK12 K12
      have HI2 : Hid (∃ f, BK w r G O f wm1) := ⟨F1, HBK.out.stay.trans' hS1 (by have := HGW.out; omega), HBK.out.box.stay hS1 (by have := HGW.out; omega), HGN.out, HBK.out.two.apart hS1 HOW.out.2.2.2.2⟩
      clear hS hS1 HGN HFN HBK HAC HG0 HFL
      go_wp2
      go_roundg (n - (k + 1))
      case measure => omega
      case rel => exact ⟨k + 1, by omega, rfl, by go_num, HI2⟩
    · have hkn : k = n := by omega
      subst hkn
      have d1 : decide ((k : Int) < (k : Nat)) = false := by simp
      obtain ⟨f, hf⟩ := HIk.out
      have HBK := hide' hf
      have HC1 := hide' (blit18_any G O f (fun _ => Cl.zero) r X Y wr hf.one hf.two (.inr ⟨HOW.out.2.2.2.1, rfl⟩))
      rw [HGW.out.1, HGW.out.2.1, HOW.out.1, HOW.out.2.1] at HC1
      obtain ⟨N, hN⟩ : ∃ N, N = cntAll (comesB 12 12 r X Y) 12 12 := ⟨_, rfl⟩
      rw [← hN] at HC1
      have HNN := hide' hN
      clear hf HIk hN
      obtain ⟨r0, r1, r2, r3, r4, r5, r6, r7⟩ := HBK.out.box
      go_wp2_with fail
      refine HC1.out.mono ?_
      rintro e w3 ⟨f1, ⟨rfl, hst, hO⟩, hb1⟩
      have HS3 : Hid (Stay (fun _ => False) w w3) := HBK.out.stay.trans' hst (by have := HOW.out; omega)
      have HB3 := hide' (HBK.out.box.stay hst (by have := HOW.out; omega))
      have HG3 := hide' (HBK.out.one.apart hst HOW.out.2.2.2.1)
      have HO3 := hide' hO
      have HF1 := hide' hb1
      clear hst hO hb1 HC1 HBK r0 r1 r2 r3 r4 r5 r6 r7
      by_cases hN0 : N = 0
      · subst hN0
        go_wp2_with fail
        refine (HAW.out _).mono ?_
        rintro e w9 ⟨rfl, hs⟩
        have HE := hide' (HS3.out.trans hs)
        clear hs
        go_wp2
        go_ret
        exact ⟨by simp, HE.out⟩
      · have z1 : ((N : Int) == 0) = false := by simpa using hN0
        have HN0 := hide' hN0
        have HCL := hide' (clone24 G f w3 HG3.out)
        clear hN0
        go_wp2_with fail
        refine HCL.out.mono ?_
        rintro e w4 ⟨f3, ⟨Q, rfl, hs, hQ, hqw, hqh, hab⟩, hf3⟩
        have HS4 := hide' (HS3.out.trans hs)
        have HB4 := hide' (HB3.out.keep hs)
        have HG4 := hide' (HG3.out.keep hs)
        have HO4 := hide' (HO3.out.keep hs)
        have HQ4 := hide' hQ
        have HQW := hide' (show Q.w = G.w ∧ Q.h = G.h ∧ Q.off G.bc from ⟨hqw, hqh, by
          have := HG3.out.lt
          unfold Gr.above at hab
          unfold Gr.off
          omega⟩)
        have HF3 := hide' hf3
        clear hs hQ hqw hqh hab hf3 HS3 HB3 HG3 HO3 HCL
        have HC2 := hide' (blit18_any O G f1 f (⟨(X : Nat), (Y : Nat), r.w, r.h⟩ : R) r.x r.y w4 HO4.out HG4.out (.inr ⟨HOW.out.2.2.2.2, rfl⟩))
        rw [HGW.out.1, HGW.out.2.1, HOW.out.1, HOW.out.2.1] at HC2
        obtain ⟨N2, hN2⟩ : ∃ N, N = cntAll (comesB 12 12 (⟨(X : Nat), (Y : Nat), r.w, r.h⟩ : R) r.x r.y) 12 12 := ⟨_, rfl⟩
        rw [← hN2] at HC2
        have HNN2 := hide' hN2
        clear hN2
        obtain ⟨r0, r1, r2, r3, r4, r5, r6, r7⟩ := HB4.out
        go_wp2_with fail
        refine HC2.out.mono ?_
        rintro e w5 ⟨f2, ⟨rfl, hst, hG⟩, hb2⟩
        have hbs := back_same r X Y HXY.out.1 HXY.out.2 f f1 f2 HF1.out hb2 (by have := HN0.out; have := HNN.out; omega)
        have HEQ : Hid (N2 = N) := by rw [HNN.out, HNN2.out]; exact hbs.1
        have HS5 : Hid (Stay (fun _ => False) w w5) := HS4.out.trans' hst (by have := HGW.out; omega)
        have HQ5 := hide' (HQ4.out.apart hst HQW.out.2.2)
        have HE5 : Hid (∀ W, Stay (fun _ => False) w5 W → Calls Try.prog 25 #[.pointer (some ⟨G.g, 0, none⟩), .pointer (some ⟨Q.g, 0, none⟩)] W (Gives (.bool true) W)) := fun W hW => equal25 G Q f2 f3 true W (hG.keep hW) (HQ5.out.keep hW) HQW.out.1 HQW.out.2.1 ⟨fun _ U V hU hV => by
          rw [HF3.out U V hU hV]
          have hU' : U < 12 := by have := HGW.out; omega
          have hV' : V < 12 := by have := HGW.out; omega
          rw [HGW.out.1]
          exact hbs.2 U V hU' hV', fun _ => rfl⟩
        clear hst hG hb2 hbs HC2 HS4 HB4 HG4 HO4 HQ4 HF1 HNN HNN2 r0 r1 r2 r3 r4 r5 r6 r7
        obtain rfl := HEQ.out
        go_wp2_with fail
        refine (HE5.out _ (Stay.refl _ _)).mono ?_
        rintro e w6 ⟨rfl, hs⟩
        have HS6 := hide' (HS5.out.trans hs)
        clear hs
        go_wp2_with fail
        refine (HAW.out _).mono ?_
        rintro e w9 ⟨rfl, hs⟩
        have HE := hide' (HS6.out.trans hs)
        clear hs
        go_wp2
        go_ret
        exact ⟨by simp, HE.out⟩

end Go.Proofs.Ytmpmdlbhiogelaa
