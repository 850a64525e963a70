/-
  GridNews walked, where there is a grid. No conditions.
-/
import Derived.Test.YtmpmdlbhiogelaaE8
namespace Go.Proofs.Ytmpmdlbhiogelaa
open Go.RowKit

/-- The first grid and the box, while GridNews goes on. -/
structure N1 (w : World) (c : Cl) (G : Gr) (f : Nat → Cl) (wr : World) : Prop where
  stay : Stay (fun _ => False) w wr
  box : BoxC wr w.heap.size c
  grid : GridAt wr G f

theorem N1.keep {w wr w1 : World} {c : Cl} {G : Gr} {f : Nat → Cl} (h : N1 w c G f wr) (hs : Stay (fun _ => False) wr w1) : N1 w c G f w1 := ⟨h.stay.trans hs, h.box.keep hs, h.grid.keep hs⟩

/-- Both grids and the box. -/
structure N2 (w : World) (c : Cl) (G O : Gr) (f h : Nat → Cl) (wr : World) : Prop where
  one : N1 w c G f wr
  two : GridAt wr O h

theorem N2.keep {w wr w1 : World} {c : Cl} {G O : Gr} {f h : Nat → Cl} (k : N2 w c G O f h wr) (hs : Stay (fun _ => False) wr w1) : N2 w c G O f h w1 := ⟨k.one.keep hs, k.two.keep hs⟩

theorem first_cell {w : World} {b n : Nat} {f : Nat → Cl} (h : Pix w b n f) (hn : 0 < n) : w.cell? ⟨b, 0, none⟩ = some (.int .i32 (f 0).r) ∧ w.frozen? ⟨b, 0, none⟩ = false := by
  have := (h 0 hn).eight
  rw [Nat.zero_mul] at this
  exact ⟨this.1.1, this.2.1⟩

set_option maxRecDepth 100000 in
set_option maxHeartbeats 2000000 in
theorem news_main (a b : Nat) (x y : Int) (c : Cl) (w : World) (a1 : 1 ≤ a) (a2 : a ≤ 512) (b1 : 1 ≤ b) (b2 : b ≤ 512) (hp : a * b ≤ 4000) (hx : I64 x) (hy : I64 y) :
    Calls Try.prog 4 #[.int .i64 (a : Nat), .int .i64 (b : Nat), .int .i64 x, .int .i64 y, .agg #[.int .i32 c.r, .int .i64 c.fg, .int .i64 c.bg, .int .i64 c.fl]] w (LawTrue w) := by
  have hs0 : Stay (fun _ => False) w (w.alloc (.cells #[.int .i32 c.r, .int .i64 c.fg, .int .i64 c.bg, .int .i64 c.fl] 35)) := (Stay.refl _ _).alloc _
  have HS := hide' hs0
  have HB := hide' (BoxC.new (w := w) c rfl)
  have HAW := hide' awake7
  have HR := hide' (right22 a b)
  rw [show (sizeB a && sizeB b) = true by unfold sizeB; simp; omega] at HR
  have HN := hide' (fun w => new8 a b w a1 a2 b1 b2)
  obtain ⟨n, hn⟩ : ∃ n, n = a * b := ⟨_, rfl⟩
  have m1 : IntKind.i64.wrap ((a : Int) * (b : Int)) = (n : Nat) := by rw [IntKind.wrap_i64, ← Int.natCast_mul, ← hn]; omega
  have m2 : ¬ (4000 : Int) < (n : Nat) := by omega
  have m3 : (a : Int) ≤ 512 := by omega
  have m4 : (b : Int) ≤ 512 := by omega
  have hbi : I64 (b : Int) := by unfold I64; omega
  have HH := hide' (show I64 x ∧ I64 y ∧ 1 ≤ a ∧ 1 ≤ b ∧ I64 (b : Int) ∧ b ≤ 512 from ⟨hx, hy, a1, b1, hbi, b2⟩)
  clear hs0 hp hn a1 a2 b1 b2 hx hy hbi
  go_enter Try.func4, Try.ntmps4
  go_wp2_with fail
  refine (HR.out _).mono ?_
  rintro e w1 ⟨rfl, rfl⟩
  go_wp2_with fail
  refine (HN.out _).mono ?_
  rintro e w2 ⟨G, rfl, hs, hG, hgw, hgh, hab⟩
  have HI := hide' (show N1 w c G (fun _ => Cl.zero) w2 from ⟨HS.out.trans hs, HB.out.keep hs, hG⟩)
  have HWH := hide' (show G.w = a ∧ G.h = b from ⟨hgw, hgh⟩)
  clear hs hG hgw hgh hab HS HB HN
  go_wp2_with fail
  refine (HR.out _).mono ?_
  rintro e w3 ⟨rfl, rfl⟩
  have HZ1 : Hid (∀ W, N1 w c G (fun _ => Cl.zero) W → Calls Try.prog 17 #[.pointer (some ⟨G.g, 0, none⟩), .int .i64 0, .int .i64 (b : Nat)] W (Gives (.pointer none) W)) := fun W h => resize17_nil G _ 0 b W h.grid (by unfold sizeB; simp)
  have HZ2 : Hid (∀ W, N1 w c G (fun _ => Cl.zero) W → Calls Try.prog 17 #[.pointer (some ⟨G.g, 0, none⟩), .int .i64 (a : Nat), .int .i64 513] W (Gives (.pointer none) W)) := fun W h => resize17_nil G _ a 513 W h.grid (by unfold sizeB; simp)
  have HZ3 : Hid (∀ W, N1 w c G (fun _ => Cl.zero) W → Calls Try.prog 23 #[.pointer (some ⟨G.g, 0, none⟩), .int .i64 (-1)] W (Gives (.slice none 0 0) W)) := fun W h => row23_out G _ (-1) W h.grid (by unfold I64; omega) (by unfold inB; simp)
  have HZ4 : Hid (∀ W, N1 w c G (fun _ => Cl.zero) W → Calls Try.prog 23 #[.pointer (some ⟨G.g, 0, none⟩), .int .i64 (b : Nat)] W (Gives (.slice none 0 0) W)) := fun W h => row23_out G _ b W h.grid HH.out.2.2.2.2.1 (by rw [HWH.out.2]; unfold inB; simp)
  have HZ5 : Hid (∀ W, N1 w c G (fun _ => Cl.zero) W → Calls Try.prog 18 #[.pointer (some ⟨G.g, 0, none⟩), .pointer none, .agg #[.int .i64 (⟨0, 0, 1, 1⟩ : R).x, .int .i64 (⟨0, 0, 1, 1⟩ : R).y, .int .i64 (⟨0, 0, 1, 1⟩ : R).w, .int .i64 (⟨0, 0, 1, 1⟩ : R).h], .int .i64 0, .int .i64 0] W (Gives (.int .i64 0) W)) := fun W h => blit18_nil G _ W h.grid
  have HZ6 : Hid (∀ W, N1 w c G (fun _ => Cl.zero) W → Calls Try.prog 24 #[.pointer (some ⟨G.g, 0, none⟩)] W (fun e w' => ∃ f, NewGrid G.w G.h f W e w' ∧ ∀ X Y : Nat, X < G.w → Y < G.h → f (Y * G.w + X) = Cl.zero)) := fun W h => clone24 G _ W h.grid
  go_wp2_with fail
  refine (HZ1.out _ HI.out).mono ?_
  rintro e w4 ⟨rfl, hs⟩
  have HI4 := hide' (HI.out.keep hs)
  clear hs HI
  go_wp2_with fail
  refine (HZ2.out _ HI4.out).mono ?_
  rintro e w5 ⟨rfl, hs⟩
  have HI5 := hide' (HI4.out.keep hs)
  clear hs HI4
  go_wp2_with fail
  refine (HZ3.out _ HI5.out).mono ?_
  rintro e w6 ⟨rfl, hs⟩
  have HI6 := hide' (HI5.out.keep hs)
  clear hs HI5
  go_wp2_with fail
  refine (HZ4.out _ HI6.out).mono ?_
  rintro e w7 ⟨rfl, hs⟩
  have HI7 := hide' (HI6.out.keep hs)
  clear hs HI6
  go_wp2_with fail
  refine (HZ5.out _ HI7.out).mono ?_
  rintro e w8 ⟨rfl, hs⟩
  have HI8 := hide' (HI7.out.keep hs)
  clear hs HI7
  clear HZ1 HZ2 HZ3 HZ4 HZ5
  go_wp2_with fail
  refine (HZ6.out _ HI8.out).mono ?_
  rintro e w9 ⟨f2, ⟨O, rfl, hs, hO, how, hoh, hab⟩, hf2⟩
  have HJ := hide' (show N2 w c G O (fun _ => Cl.zero) f2 w9 from ⟨HI8.out.keep hs, hO⟩)
  have HF2 := hide' hf2
  have HOW := hide' (show O.w = G.w ∧ O.h = G.h ∧ G.off O.bc ∧ w.heap.size < O.bc from ⟨how, hoh, HI8.out.grid.off_new hab.2.2, Nat.lt_of_lt_of_le HI8.out.box.lt hab.2.2⟩)
  have HE1 : Hid (∀ W, N2 w c G O (fun _ => Cl.zero) f2 W → Calls Try.prog 25 #[.pointer (some ⟨G.g, 0, none⟩), .pointer (some ⟨O.g, 0, none⟩)] W (Gives (.bool true) W)) := fun W h => equal25 G O _ f2 true W h.one.grid h.two HOW.out.1 HOW.out.2.1 ⟨fun _ X Y hX hY => (HF2.out X Y hX hY).symm, fun _ => rfl⟩
  have HE2 : Hid (∀ W, N2 w c G O (fun _ => Cl.zero) f2 W → Calls Try.prog 25 #[.pointer (some ⟨G.g, 0, none⟩), .pointer none] W (Gives (.bool false) W)) := fun W h => equal25_nil G _ W h.one.grid
  have HSE : Hid (∀ W, N2 w c G O (fun _ => Cl.zero) f2 W → Calls Try.prog 10 #[.pointer (some ⟨O.g, 0, none⟩), .int .i64 x, .int .i64 y, .agg #[.int .i32 c.r, .int .i64 c.fg, .int .i64 c.bg, .int .i64 c.fl]] W (Turns (.bool (insB G.w G.h x y)) O (setF G.w G.h f2 x y c) W)) := fun W h => by
    have := set10 O f2 x y c W h.two HH.out.1 HH.out.2.1
    rwa [HOW.out.1, HOW.out.2.1] at this
  clear hs hO how hoh hab hf2 HI8 HZ6
  go_wp2_with fail
  refine (HE1.out _ HJ.out).mono ?_
  rintro e w10 ⟨rfl, hs⟩
  have HJ1 := hide' (HJ.out.keep hs)
  clear hs HJ
  go_wp2_with fail
  refine (HE2.out _ HJ1.out).mono ?_
  rintro e w11 ⟨rfl, hs⟩
  have HJ2 := hide' (HJ1.out.keep hs)
  clear hs HJ1
  clear HE1 HE2
  obtain ⟨c0, c1, c2, c3, c4, c5, c6, c7⟩ := HJ2.out.one.box
  obtain ⟨is, his⟩ : ∃ b, b = insB G.w G.h x y := ⟨_, rfl⟩
  obtain ⟨F3, hF3⟩ : ∃ F, F = setF G.w G.h f2 x y c := ⟨_, rfl⟩
  rw [← his, ← hF3] at HSE
  have HIS := hide' his
  have HF3 := hide' hF3
  clear his hF3
  go_wp2_with fail
  refine (HSE.out _ HJ2.out).mono ?_
  rintro e w12 ⟨rfl, hs, hO⟩
  have HK := hide' (show N2 w c G O (fun _ => Cl.zero) F3 w12 from ⟨⟨HJ2.out.one.stay.trans' hs (Nat.le_of_lt HOW.out.2.2.2), HJ2.out.one.box.stay hs (by have := HOW.out.2.2.2; omega), HJ2.out.one.grid.apart hs HOW.out.2.2.1⟩, hO⟩)
  clear hs hO HSE HJ2 c0 c1 c2 c3 c4 c5 c6 c7
  have HRW : Hid (∀ W, N2 w c G O (fun _ => Cl.zero) F3 W → Calls Try.prog 23 #[.pointer (some ⟨G.g, 0, none⟩), .int .i64 0] W (NewRow G.w (fun _ => Cl.zero) W)) := fun W h => row23_in G _ 0 W h.one.grid h.one.grid.h1
  go_wp2_with fail
  refine (HRW.out _ HK.out).mono ?_
  rintro e w13 ⟨gr, cap, rfl, hs, hpx, hgr⟩
  have HK1 := hide' (HK.out.keep hs)
  have hz := first_cell hpx (Nat.lt_of_lt_of_le Nat.zero_lt_one HK1.out.one.grid.w1)
  obtain ⟨z0, z1⟩ := hz
  have gw0 : (0 : Int) < (G.w : Nat) := by have := HK1.out.one.grid.w1; omega
  have HGR : Hid (w.heap.size ≤ gr ∧ gr < w13.heap.size) := ⟨Nat.le_trans HK.out.one.stay.size hgr, hpx.lt (Nat.lt_of_lt_of_le Nat.zero_lt_one HK1.out.one.grid.w1)⟩
  have HNE : Hid (gr ≠ w.heap.size ∧ G.off gr ∧ O.off gr) := ⟨by have := HK.out.one.box.lt; omega, HK.out.one.grid.off_new hgr, HK.out.two.off_new hgr⟩
  clear hs hpx hgr HK HRW
  go_upto_region 16 with fail
  obtain ⟨W14, hW⟩ : ∃ W, W = w13.setCell ⟨gr, 0, none⟩ (.int .i32 9) := ⟨_, rfl⟩
  have HK2 : Hid (N2 w c G O (fun _ => Cl.zero) F3 W14) := by
    have hst : Stay (fun k => k = gr) w13 W14 := by rw [hW]; exact (Stay.refl (fun k => k = gr) w13).setCell (p := ⟨gr, 0, none⟩) rfl _
    exact ⟨⟨HK1.out.one.stay.trans' hst HGR.out.1, HK1.out.one.box.stay hst (fun h => HNE.out.1 h.symm), HK1.out.one.grid.apart hst HNE.out.2.1⟩, HK1.out.two.apart hst HNE.out.2.2⟩
  rw [← hW]
  clear hW z0 z1 gw0 HK1 HGR HNE
  obtain ⟨bq, hbq⟩ : ∃ b, b = (!is || decide (c = Cl.zero)) := ⟨_, rfl⟩
  have HE3 : Hid (∀ W, N2 w c G O (fun _ => Cl.zero) F3 W → Calls Try.prog 25 #[.pointer (some ⟨G.g, 0, none⟩), .pointer (some ⟨O.g, 0, none⟩)] W (Gives (.bool bq) W)) := fun W h => equal25 G O _ F3 bq W h.one.grid h.two HOW.out.1 HOW.out.2.1 (by
    rw [hbq]
    cases hq : is
    · rw [hq] at HIS
      have e := setF_out f2 c HIS.out.symm
      refine ⟨fun _ X Y hX hY => ?_, fun _ => rfl⟩
      rw [HF3.out, e, HF2.out X Y hX hY]
    · rw [hq] at HIS
      obtain ⟨X0, Y0, rfl, rfl, hX0, hY0⟩ := ins_true HIS.out.symm
      have e := setF_nat f2 c hX0 hY0
      simp only [Bool.not_true, Bool.false_or, decide_eq_true_eq]
      constructor
      · intro hc X Y hX hY
        rw [HF3.out, e]
        show Cl.zero = if Y * G.w + X = Y0 * G.w + X0 then c else f2 (Y * G.w + X)
        rw [HF2.out X Y hX hY, hc]
        split <;> rfl
      · intro h
        have := h X0 Y0 hX0 hY0
        rw [HF3.out, e] at this
        simp only [if_pos] at this
        exact this.symm)
  have HA1 : Hid (∀ W, N2 w c G O (fun _ => Cl.zero) F3 W → Calls Try.prog 20 #[.pointer (some ⟨G.g, 0, none⟩), .int .i64 x, .int .i64 y] W (Gives (.agg #[.int .i32 0, .int .i64 0, .int .i64 0, .int .i64 0]) W)) := fun W h => by
    have := at20 G _ x y W h.one.grid HH.out.1 HH.out.2.1
    rwa [atF_blank] at this
  have HA2 : Hid (∀ W, N2 w c G O (fun _ => Cl.zero) F3 W → Calls Try.prog 20 #[.pointer (some ⟨G.g, 0, none⟩), .int .i64 0, .int .i64 0] W (Gives (.agg #[.int .i32 0, .int .i64 0, .int .i64 0, .int .i64 0]) W)) := fun W h => by
    have := at20 G _ 0 0 W h.one.grid i64_zero i64_zero
    rwa [atF_blank] at this
  clear HIS HF3 HF2
  cases is
  · obtain rfl : bq = true := hbq
    go_wp2_with fail
    refine (HE3.out _ HK2.out).mono ?_
    rintro e w14 ⟨rfl, hs⟩
    have HK3 := hide' (HK2.out.keep hs)
    clear hs HK2
    go_wp2_with fail
    refine (HA1.out _ HK3.out).mono ?_
    rintro e w15 ⟨rfl, hs⟩
    have HK4 := hide' (HK3.out.keep hs)
    clear hs HK3
    go_wp2_with fail
    refine (HA2.out _ HK4.out).mono ?_
    rintro e w16 ⟨rfl, hs⟩
    have HK5 := hide' (HK4.out.keep hs)
    clear hs HK4
    go_wp2_with fail
    refine (HAW.out _).mono ?_
    rintro e w17 ⟨rfl, hs⟩
    have HE := hide' (HK5.out.one.stay.trans hs)
    clear hs
    go_wp2
    go_ret
    exact ⟨by simp, HE.out⟩
  · by_cases hcz : c = Cl.zero
    · obtain rfl : bq = true := by rw [hbq, hcz]; rfl
      clear hbq
      go_wp2_with fail
      refine (HE3.out _ HK2.out).mono ?_
      rintro e w14 ⟨rfl, hs⟩
      have HK3 := hide' (HK2.out.keep hs)
      clear hs HK2
      have HBX := hide' HK3.out.one.box
      rw [hcz] at HBX
      obtain ⟨c0, c1, c2, c3, c4, c5, c6, c7⟩ := HBX.out
      simp only [Cl.zero] at c0 c1 c2 c3
      go_wp2_with fail
      all_goals first
        | (exfalso; omega)
        | (refine (HA1.out _ HK3.out).mono ?_
           rintro e w15 ⟨rfl, hs⟩
           have HK4 := hide' (HK3.out.keep hs)
           clear hs HK3
           go_wp2_with fail
           refine (HA2.out _ HK4.out).mono ?_
           rintro e w16 ⟨rfl, hs⟩
           have HK5 := hide' (HK4.out.keep hs)
           clear hs HK4
           go_wp2_with fail
           refine (HAW.out _).mono ?_
           rintro e w17 ⟨rfl, hs⟩
           have HE := hide' (HK5.out.one.stay.trans hs)
           clear hs
           go_wp2
           go_ret
           exact ⟨by simp, HE.out⟩)
    · have hz := not_zero hcz
      obtain rfl : bq = false := by rw [hbq]; simp [hcz]
      clear hbq
      go_wp2_with fail
      refine (HE3.out _ HK2.out).mono ?_
      rintro e w14 ⟨rfl, hs⟩
      have HK3 := hide' (HK2.out.keep hs)
      clear hs HK2
      obtain ⟨c0, c1, c2, c3, c4, c5, c6, c7⟩ := HK3.out.one.box
      go_wp2_with fail
      all_goals first
        | (exfalso; omega)
        | (refine (HA1.out _ HK3.out).mono ?_
           rintro e w15 ⟨rfl, hs⟩
           have HK4 := hide' (HK3.out.keep hs)
           clear hs HK3
           go_wp2_with fail
           refine (HA2.out _ HK4.out).mono ?_
           rintro e w16 ⟨rfl, hs⟩
           have HK5 := hide' (HK4.out.keep hs)
           clear hs HK4
           go_wp2_with fail
           refine (HAW.out _).mono ?_
           rintro e w17 ⟨rfl, hs⟩
           have HE := hide' (HK5.out.one.stay.trans hs)
           clear hs
           go_wp2
           go_ret
           exact ⟨by simp, HE.out⟩)

end Go.Proofs.Ytmpmdlbhiogelaa
