/-
  Copy, Resize and Clone of a grid, and Blit of any numbers and to none: walked. No conditions.
-/
import Derived.Test.YtmpmdlbhiogelaaD7
namespace Go.Proofs.Ytmpmdlbhiogelaa
open Go.RowKit

theorem blit18_wrong (p0 : Value) (o : Option Addr) (r : R) (x y : Int) (w : World) (h : (rightB r && rightB ⟨x, y, 0, 0⟩) = false) : Calls Try.prog 18 #[p0, .pointer o, .agg #[.int .i64 r.x, .int .i64 r.y, .int .i64 r.w, .int .i64 r.h], .int .i64 x, .int .i64 y] w (Gives (.int .i64 0) w) := by
  have HS := hide' ((Stay.refl (fun _ => False) w).alloc (.cells #[.int .i64 r.x, .int .i64 r.y, .int .i64 r.w, .int .i64 r.h] 31))
  have HB := hide' (Box.new (w := w) r rfl)
  have HR := hide' (right33 r)
  have HRX := hide' (right33 ⟨x, y, 0, 0⟩)
  obtain ⟨c1, hc1⟩ : ∃ c, c = rightB r := ⟨_, rfl⟩
  obtain ⟨c2, hc2⟩ : ∃ c, c = rightB ⟨x, y, 0, 0⟩ := ⟨_, rfl⟩
  rw [← hc1] at HR h
  rw [← hc2] at HRX h
  clear hc1 hc2
  go_enter Try.func18, Try.ntmps18
  go_wp2_with fail
  refine (HR.out _).mono ?_
  rintro e w1 ⟨rfl, hs⟩
  have HS1 := hide' (HS.out.trans hs)
  clear hs
  cases c1
  · go_wp2
    go_ret
    exact ⟨rfl, HS1.out⟩
  · have hc2 : c2 = false := by simpa using h
    subst hc2
    go_wp2_with fail
    refine (HRX.out _).mono ?_
    rintro e w2 ⟨rfl, hs⟩
    have HS2 := hide' (HS1.out.trans hs)
    clear hs
    go_wp2
    go_ret
    exact ⟨rfl, HS2.out⟩

/-- Blit, whatever its numbers. -/
theorem blit18_any (G O : Gr) (F f : Nat → Cl) (r : R) (x y : Int) (w : World) (hG : GridAt w G F) (hO : GridAt w O f) (hoo : OneOff G O F f F f) :
    Calls Try.prog 18 #[.pointer (some ⟨G.g, 0, none⟩), .pointer (some ⟨O.g, 0, none⟩), .agg #[.int .i64 r.x, .int .i64 r.y, .int .i64 r.w, .int .i64 r.h], .int .i64 x, .int .i64 y] w
      (fun e w' => ∃ f', Turns (.int .i64 (cntAll (comesB G.w G.h r x y) O.w O.h : Nat)) O f' w e w' ∧ Blits G.w G.h O.w O.h r x y F f f') := by
  cases hr : rightB r
  · have hw : (rightB r && rightB ⟨x, y, 0, 0⟩) = false := by rw [hr]; rfl
    have hb := Blits.wrong (gw := G.w) (gh := G.h) (ow := O.w) (oh := O.h) F f hw
    refine (blit18_wrong _ _ r x y w hw).mono ?_
    rintro e w1 ⟨rfl, hs⟩
    exact ⟨f, ⟨by rw [hb.2]; rfl, stay_any hs, hO.keep hs⟩, hb.1⟩
  · cases hxy : rightB ⟨x, y, 0, 0⟩
    · have hw : (rightB r && rightB ⟨x, y, 0, 0⟩) = false := by rw [hr, hxy]; rfl
      have hb := Blits.wrong (gw := G.w) (gh := G.h) (ow := O.w) (oh := O.h) F f hw
      refine (blit18_wrong _ _ r x y w hw).mono ?_
      rintro e w1 ⟨rfl, hs⟩
      exact ⟨f, ⟨by rw [hb.2]; rfl, stay_any hs, hO.keep hs⟩, hb.1⟩
    · exact blit18 G O F f r x y w hG hO hoo hr hxy

/-- A turn of a block that is new is no turn of what was there. -/
theorem Stay.trans' {w w1 w2 : World} {b : Nat} (h : Stay (fun _ => False) w w1) (k : Stay (fun j => j = b) w1 w2) (hb : w.heap.size ≤ b) : Stay (fun _ => False) w w2 :=
  ⟨k.os.trans h.os, k.tape.trans h.tape, k.output.trans h.output, Nat.le_trans h.size k.size, fun i hi hs => (k.block i (Nat.lt_of_lt_of_le hi h.size) (by show ¬ i = b; omega)).trans (h.block i hi hs)⟩

theorem copy16 (G : Gr) (f : Nat → Cl) (r : R) (x y : Int) (w : World) (hG : GridAt w G f) : Calls Try.prog 16 #[.pointer (some ⟨G.g, 0, none⟩), .agg #[.int .i64 r.x, .int .i64 r.y, .int .i64 r.w, .int .i64 r.h], .int .i64 x, .int .i64 y] w
      (fun e w' => ∃ f', Turns (.int .i64 (cntAll (comesB G.w G.h r x y) G.w G.h : Nat)) G f' w e w' ∧ Blits G.w G.h G.w G.h r x y f f f') := by
  have hs0 : Stay (fun _ => False) w (w.alloc (.cells #[.int .i64 r.x, .int .i64 r.y, .int .i64 r.w, .int .i64 r.h] 31)) := (Stay.refl _ _).alloc _
  have HS := hide' hs0
  have HB := hide' (blit18_any G G f f r x y _ (hG.keep hs0) (hG.keep hs0) (.inl ⟨rfl, rfl, rfl⟩))
  obtain ⟨N, hN⟩ : ∃ n, n = cntAll (comesB G.w G.h r x y) G.w G.h := ⟨_, rfl⟩
  rw [← hN] at HB
  rw [← hN]
  clear hs0 hG hN
  go_enter Try.func16, Try.ntmps16
  go_wp2_with fail
  refine HB.out.mono ?_
  rintro e w1 ⟨f1, ⟨rfl, h1, h2⟩, h3⟩
  have HE : Hid (Stay (fun b => b = G.bc) w w1 ∧ GridAt w1 G f1 ∧ Blits G.w G.h G.w G.h r x y f f f1) := ⟨(stay_any HS.out).trans h1, h2, h3⟩
  clear h1 h2 h3
  go_wp2
  go_ret
  exact ⟨f1, ⟨rfl, HE.out.1, HE.out.2.1⟩, HE.out.2.2⟩

/-- What a grid has in another size. -/
def resized (gw gh : Nat) (F : Nat → Cl) (f : Nat → Cl) (a b : Nat) : Prop := ∀ X Y : Nat, X < a → Y < b → f (Y * a + X) = if X < gw ∧ Y < gh then F (Y * gw + X) else Cl.zero

theorem resized_of {gw gh a b : Nat} {F f : Nat → Cl} (g1 : gw ≤ 512) (g2 : gh ≤ 512) (h : Blits gw gh a b ⟨0, 0, gw, gh⟩ 0 0 F (fun _ => Cl.zero) f) : resized gw gh F f a b := fun X Y hX hY => by
  rw [h X Y hX hY]
  have e1 : rightB ⟨0, 0, gw, gh⟩ = true := right_of (by omega)
  have e2 : rightB ⟨0, 0, 0, 0⟩ = true := by decide
  by_cases hh : X < gw ∧ Y < gh
  · have e3 : comesB gw gh ⟨0, 0, gw, gh⟩ 0 0 X Y = true := by
      unfold comesB
      rw [e1, e2]
      unfold insB inB
      simp
      omega
    rw [if_pos hh, if_pos e3]
    simp only [Int.sub_zero, Int.add_zero]
    exact atF_nat F hh.1 hh.2
  · have e3 : ¬ comesB gw gh ⟨0, 0, gw, gh⟩ 0 0 X Y = true := by
      intro h3
      unfold comesB at h3
      rw [e1, e2] at h3
      unfold insB inB at h3
      simp at h3
      omega
    rw [if_neg hh, if_neg e3]

theorem resize17 (G : Gr) (F : Nat → Cl) (a b : Nat) (w : World) (hG : GridAt w G F) (a1 : 1 ≤ a) (a2 : a ≤ 512) (b1 : 1 ≤ b) (b2 : b ≤ 512) : Calls Try.prog 17 #[.pointer (some ⟨G.g, 0, none⟩), .int .i64 (a : Nat), .int .i64 (b : Nat)] w
    (fun e w' => ∃ f, NewGrid a b f w e w' ∧ resized G.w G.h F f a b) := by
  have HG := hide' hG
  have HN := hide' (new8 a b w a1 a2 b1 b2)
  have HW := hide' (fun w h => whole28 G F w h)
  have HSZ := hide' (show G.w ≤ 512 ∧ G.h ≤ 512 from ⟨hG.w2, hG.h2⟩)
  clear hG a1 a2 b1 b2
  go_enter Try.func17, Try.ntmps17
  go_wp2_with fail
  refine HN.out.mono ?_
  rintro e w1 ⟨O, rfl, hs, hO, rfl, rfl, hab⟩
  have HG1 := hide' (HG.out.keep hs)
  have HO1 := hide' hO
  have HS1 := hide' hs
  have HOF : Hid (G.off O.bc) := HG.out.off_new hab.2.2
  have HAB := hide' hab
  clear hs hO hab HG HN
  go_wp2_with fail
  refine (HW.out _ HG1.out).mono ?_
  rintro e w2 ⟨rfl, hs⟩
  have HG2 := hide' (HG1.out.keep hs)
  have HO2 := hide' (HO1.out.keep hs)
  have HS2 := hide' (HS1.out.trans hs)
  clear hs HG1 HO1 HS1 HW
  go_wp2_with fail
  refine (blit18_any G O F (fun _ => Cl.zero) (⟨0, 0, (G.w : Nat), (G.h : Nat)⟩ : R) 0 0 _ HG2.out HO2.out (.inr ⟨HOF.out, rfl⟩)).mono ?_
  rintro e w3 ⟨f1, ⟨rfl, h1, h2⟩, h3⟩
  have HE : Hid (Stay (fun _ => False) w w3 ∧ GridAt w3 O f1 ∧ resized G.w G.h F f1 O.w O.h) := ⟨(HS2.out.trans' h1 (by have := HAB.out; unfold Gr.above at this; omega)), h2, resized_of HSZ.out.1 HSZ.out.2 h3⟩
  clear h1 h2 h3
  go_wp2
  go_ret
  exact ⟨f1, ⟨O, rfl, HE.out.1, HE.out.2.1, rfl, rfl, HAB.out⟩, HE.out.2.2⟩

theorem clone24 (G : Gr) (F : Nat → Cl) (w : World) (hG : GridAt w G F) : Calls Try.prog 24 #[.pointer (some ⟨G.g, 0, none⟩)] w (fun e w' => ∃ f, NewGrid G.w G.h f w e w' ∧ ∀ X Y : Nat, X < G.w → Y < G.h → f (Y * G.w + X) = F (Y * G.w + X)) := by
  have HG := hide' hG
  have HZ := hide' (size34 G F w hG)
  have HR := hide' (fun w h => resize17 G F G.w G.h w h hG.w1 hG.w2 hG.h1 hG.h2)
  clear hG
  go_enter Try.func24, Try.ntmps24
  go_wp2_with fail
  refine HZ.out.mono ?_
  rintro e w1 ⟨rfl, hs⟩
  have HG1 := hide' (HG.out.keep hs)
  have HS1 := hide' hs
  clear hs HG HZ
  go_wp2_with fail
  refine (HR.out _ HG1.out).mono ?_
  rintro e w2 ⟨f1, ⟨O, rfl, h1, h2, h3, h4, h5⟩, h6⟩
  have HE : Hid (Stay (fun _ => False) w w2 ∧ GridAt w2 O f1 ∧ O.w = G.w ∧ O.h = G.h ∧ O.above w.heap.size ∧ resized G.w G.h F f1 G.w G.h) := ⟨HS1.out.trans h1, h2, h3, h4, by have := HS1.out.size; unfold Gr.above at h5 ⊢; omega, h6⟩
  clear h1 h2 h3 h4 h5 h6
  go_wp2
  go_ret
  exact ⟨f1, ⟨O, rfl, HE.out.1, HE.out.2.1, HE.out.2.2.1, HE.out.2.2.2.1, HE.out.2.2.2.2.1⟩, fun X Y hX hY => by rw [HE.out.2.2.2.2.2 X Y hX hY, if_pos ⟨hX, hY⟩]⟩

set_option maxRecDepth 100000 in
theorem blit18_nil (G : Gr) (F : Nat → Cl) (w : World) (hG : GridAt w G F) : Calls Try.prog 18 #[.pointer (some ⟨G.g, 0, none⟩), .pointer none, .agg #[.int .i64 (⟨0, 0, 1, 1⟩ : R).x, .int .i64 (⟨0, 0, 1, 1⟩ : R).y, .int .i64 (⟨0, 0, 1, 1⟩ : R).w, .int .i64 (⟨0, 0, 1, 1⟩ : R).h], .int .i64 0, .int .i64 0] w (Gives (.int .i64 0) w) := by
  have hs0 : Stay (fun _ => False) w (w.alloc (.cells #[.int .i64 (⟨0, 0, 1, 1⟩ : R).x, .int .i64 (⟨0, 0, 1, 1⟩ : R).y, .int .i64 (⟨0, 0, 1, 1⟩ : R).w, .int .i64 (⟨0, 0, 1, 1⟩ : R).h] 31)) := (Stay.refl _ _).alloc _
  have hgl := hG.lt
  have HR1 := hide' (right33 ⟨0, 0, 1, 1⟩)
  rw [show rightB ⟨0, 0, 1, 1⟩ = true by decide] at HR1
  have HR2 := hide' (right33 ⟨0, 0, 0, 0⟩)
  rw [show rightB ⟨0, 0, 0, 0⟩ = true by decide] at HR2
  have hq : bothR ⟨0, 0, 1, 1⟩ (⟨0, 0, (G.w : Nat), (G.h : Nat)⟩ : R) = ⟨0, 0, 1, 1⟩ := by
    have h1 := hG.w1
    have h2 := hG.h1
    have h3 := hG.w2
    have h4 := hG.h2
    unfold bothR
    rw [if_pos (by rw [right_of (by omega), right_of (by omega)]; rfl)]
    have e : interR ⟨0, 0, 1, 1⟩ (⟨0, 0, (G.w : Nat), (G.h : Nat)⟩ : R) = ⟨0, 0, 1, 1⟩ := by
      show (⟨max 0 0, max 0 0, min (0 + 1) (0 + (G.w : Int)) - max 0 0, min (0 + 1) (0 + (G.h : Int)) - max 0 0⟩ : R) = _
      simp only [R.mk.injEq]
      omega
    rw [e]
    decide
  have HBO1 := hide' (fun w => both31 ⟨0, 0, 1, 1⟩ (⟨0, 0, (G.w : Nat), (G.h : Nat)⟩ : R) w)
  rw [hq] at HBO1
  have HBO2 := hide' (fun w => both31 ⟨0, 0, 1, 1⟩ (⟨0, 0, 0, 0⟩ : R) w)
  rw [show bothR ⟨0, 0, 1, 1⟩ ⟨0, 0, 0, 0⟩ = ⟨0, 0, 0, 0⟩ by decide] at HBO2
  have HAR := hide' (fun w => area32 ⟨0, 0, 0, 0⟩ w)
  rw [show areaI ⟨0, 0, 0, 0⟩ = 0 by decide] at HAR
  let X : World → Prop := fun W => Stay (fun _ => False) w W ∧ GridAt W G F
  have HX : Hid (X (w.alloc (.cells #[.int .i64 (⟨0, 0, 1, 1⟩ : R).x, .int .i64 (⟨0, 0, 1, 1⟩ : R).y, .int .i64 (⟨0, 0, 1, 1⟩ : R).w, .int .i64 (⟨0, 0, 1, 1⟩ : R).h] 31))) := ⟨hs0, hG.keep hs0⟩
  have HB := hide' (Box.new (w := w) ⟨0, 0, 1, 1⟩ rfl)
  have HXK : Hid (∀ W W1, X W → Stay (fun _ => False) W W1 → X W1) := fun W W1 h hs => ⟨h.1.trans hs, h.2.keep hs⟩
  have HXP : Hid (∀ W v0 v1 v2 v3, X W → X ((((W.setCell ⟨w.heap.size, 0, none⟩ v0).setCell ⟨w.heap.size, 1, none⟩ v1).setCell ⟨w.heap.size, 2, none⟩ v2).setCell ⟨w.heap.size, 3, none⟩ v3)) := fun W v0 v1 v2 v3 h =>
    have hp : Stay (fun k => k = w.heap.size) W _ := ((((Stay.refl (fun k => k = w.heap.size) W).setCell (p := ⟨w.heap.size, 0, none⟩) rfl v0).setCell (p := ⟨w.heap.size, 1, none⟩) rfl v1).setCell (p := ⟨w.heap.size, 2, none⟩) rfl v2).setCell (p := ⟨w.heap.size, 3, none⟩) rfl v3
    ⟨h.1.put (Nat.le_refl _) _ _ _ _, h.2.stay hp (by omega) (by omega) (by omega)⟩
  have HXQ : Hid (∀ W v0 v1, X W → X ((W.setCell ⟨w.heap.size, 0, none⟩ v0).setCell ⟨w.heap.size, 1, none⟩ v1)) := fun W v0 v1 h =>
    have hp : Stay (fun k => k = w.heap.size) W _ := ((Stay.refl (fun k => k = w.heap.size) W).setCell (p := ⟨w.heap.size, 0, none⟩) rfl v0).setCell (p := ⟨w.heap.size, 1, none⟩) rfl v1
    ⟨(h.1.setNew (p := ⟨w.heap.size, 0, none⟩) (Nat.le_refl _) v0).setNew (p := ⟨w.heap.size, 1, none⟩) (Nat.le_refl _) v1, h.2.stay hp (by omega) (by omega) (by omega)⟩
  have HXS : Hid (∀ W, X W → Stay (fun _ => False) w W) := fun W h => h.1
  have HWH : Hid (∀ W, X W → Calls Try.prog 28 #[.pointer (some ⟨G.g, 0, none⟩)] W (Gives (.agg #[.int .i64 (⟨0, 0, (G.w : Nat), (G.h : Nat)⟩ : R).x, .int .i64 (⟨0, 0, (G.w : Nat), (G.h : Nat)⟩ : R).y, .int .i64 (⟨0, 0, (G.w : Nat), (G.h : Nat)⟩ : R).w, .int .i64 (⟨0, 0, (G.w : Nat), (G.h : Nat)⟩ : R).h]) W)) := fun W h => whole28 G F W h.2
  have HWO : Hid (∀ W, X W → Calls Try.prog 28 #[.pointer none] W (Gives (.agg #[.int .i64 (⟨0, 0, 0, 0⟩ : R).x, .int .i64 (⟨0, 0, 0, 0⟩ : R).y, .int .i64 (⟨0, 0, 0, 0⟩ : R).w, .int .i64 (⟨0, 0, 0, 0⟩ : R).h]) W)) := fun W h => whole28_nil W
  clear_value X
  clear hs0 hgl hq hG
  go_enter Try.func18, Try.ntmps18
  go_upto_region 1 with fail
  obtain ⟨W, hW⟩ : ∃ W, W = (w.alloc (.cells #[.int .i64 (⟨0, 0, 1, 1⟩ : R).x, .int .i64 (⟨0, 0, 1, 1⟩ : R).y, .int .i64 (⟨0, 0, 1, 1⟩ : R).w, .int .i64 (⟨0, 0, 1, 1⟩ : R).h] 31)) := ⟨_, rfl⟩
  have HX' := HX
  have HB' := HB
  rw [← hW] at HX' HB'
  clear HX HB
  have HX := HX'
  have HB := HB'
  clear HX' HB'
  obtain ⟨rc0, rc1, rc2, rc3, rf0, rf1, rf2, rf3⟩ := HB.out
  simp only at rc0 rc1 rc2 rc3
  have hW' := hW
  simp only at hW'
  rw [← hW']
  clear hW hW'
  go_wp2_with fail
  refine (HR1.out _).mono ?_
  rintro e w2 ⟨rfl, hs⟩
  have HX2 := hide' (HXK.out _ _ HX.out hs)
  have HB2 := hide' (HB.out.keep hs)
  clear hs HX HB rc0 rc1 rc2 rc3 rf0 rf1 rf2 rf3
  go_wp2_with fail
  refine (HR2.out _).mono ?_
  rintro e w3 ⟨rfl, hs⟩
  have HX3 := hide' (HXK.out _ _ HX2.out hs)
  have HB3 := hide' (HB2.out.keep hs)
  clear hs HX2 HB2
  obtain ⟨rc0, rc1, rc2, rc3, rf0, rf1, rf2, rf3⟩ := HB3.out
  simp only at rc0 rc1 rc2 rc3
  go_wp2_with fail
  go_quiet (fail)
  clear rc0 rc1 rc2 rc3 rf0 rf1 rf2 rf3
  go_upto_region 4 with fail
  obtain ⟨W4, hW4⟩ : ∃ W, W = (w3.drewN nq) := ⟨_, rfl⟩
  have HX : Hid (X W4) := by rw [hW4]; exact HXK.out _ _ HX3.out ((Stay.refl _ _).drewN _)
  have HB : Hid (Box W4 w.heap.size ⟨0, 0, 1, 1⟩) := by rw [hW4]; exact HB3.out.keep ((Stay.refl _ _).drewN _)
  rw [← hW4]
  clear hW4 HX3 HB3
  have HBO := HBO1
  go_cut [] (fun wx => Hid (X wx ∧ Box wx w.heap.size ⟨0, 0, 1, 1⟩))
  case first =>
    refine any_begin (fun _ => True) (by kernel_rfl) (fun K0 hK0 => ?_)
    have hs : Stay (fun _ => False) W4 W4.drew := (Stay.refl _ _).drew
    have HX' := hide' (HXK.out _ _ HX.out hs)
    have HB' := hide' (HB.out.keep hs)
    clear HX HB hs
    have HX := HX'
    have HB := HB'
    clear HX' HB'
    obtain ⟨Wd, hWd⟩ : ∃ Wd, Wd = W4.drew := ⟨_, rfl⟩
    rw [← hWd] at HX HB
    rw [← hWd]
    clear hWd
    obtain ⟨rc0, rc1, rc2, rc3, rf0, rf1, rf2, rf3⟩ := HB.out
    refine any_take (i := 1) hK0 (some 34) (.move (.tmp 0)) 24 _ (by kernel_rfl) (fun _ d _ _ _ h => by cases d <;> exact h) (by kernel_rfl) (by kernel_rfl) (fun w' hS' => by simp only [opr]; go_simp; try with_reducible rfl) trivial (fun K1 hK1 => ?_)
    clear hK0 K0
    try simp only [Act.put, List.setIfInBounds_toArray, List.set_cons_zero, List.set_cons_succ]
    refine any_pick (rs := [0, 2]) hK1 (by kernel_rfl) (fun K2 hK2 => ?_)
    clear hK1 K1
    intro i hi
    simp only [List.mem_cons, List.not_mem_nil, or_false] at hi
    rcases hi with rfl | rfl
    · refine op_plain (some 33) (.load 31 (.tmp 7)) 31 (by kernel_rfl) (by kernel_rfl) ?_
      go_wp2
      refine hK2 0 (by simp) _ _ trivial (any_more fun K3 hK3 => ?_)
      clear hK2 K2
      refine any_pick (rs := [2]) hK3 (by kernel_rfl) (fun K4 hK4 => ?_)
      clear hK3 K3
      intro i hi
      simp only [List.mem_cons, List.not_mem_nil, or_false] at hi
      rcases hi with rfl
      refine op_plain (some 35) (.call { callee := Callee.value (.func 28), args := #[.tmp 34], argTypes := #[24] }) 31 (by kernel_rfl) (by kernel_rfl) ?_
      go_wp2_with fail
      refine (HWH.out _ HX.out).mono ?_
      rintro e Wr2 ⟨rfl, hs⟩
      have HX' := hide' (HXK.out _ _ HX.out hs)
      have HB' := hide' (HB.out.keep hs)
      clear HX HB hs rc0 rc1 rc2 rc3 rf0 rf1 rf2 rf3
      have HX := HX'
      have HB := HB'
      clear HX' HB'
      obtain ⟨rc0, rc1, rc2, rc3, rf0, rf1, rf2, rf3⟩ := HB.out
      go_wp2
      refine hK4 2 (by simp) _ _ trivial (any_more fun K5 hK5 => ?_)
      clear hK4 K4
      refine any_pick (rs := [3]) hK5 (by kernel_rfl) (fun K6 hK6 => ?_)
      clear hK5 K5
      intro i hi
      simp only [List.mem_cons, List.not_mem_nil, or_false] at hi
      rcases hi with rfl
      refine op_plain (some 36) (.call { callee := Callee.value (.func 31), args := #[.tmp 33, .tmp 35], argTypes := #[31, 31] }) 31 (by kernel_rfl) (by kernel_rfl) ?_
      go_wp2_with fail
      refine (HBO.out _).mono ?_
      rintro e Wr3 ⟨rfl, hs⟩
      have HX' := hide' (HXK.out _ _ HX.out hs)
      have HB' := hide' (HB.out.keep hs)
      clear HX HB hs rc0 rc1 rc2 rc3 rf0 rf1 rf2 rf3
      have HX := HX'
      have HB := HB'
      clear HX' HB'
      obtain ⟨rc0, rc1, rc2, rc3, rf0, rf1, rf2, rf3⟩ := HB.out
      go_wp2
      refine hK6 3 (by simp) _ _ trivial (any_more fun K7 hK7 => ?_)
      clear hK6 K6
      refine any_pick (rs := [4]) hK7 (by kernel_rfl) (fun K8 hK8 => ?_)
      clear hK7 K7
      intro i hi
      simp only [List.mem_cons, List.not_mem_nil, or_false] at hi
      rcases hi with rfl
      refine op_plain none (.store 31 (.tmp 7) (.tmp 36)) 0 (by kernel_rfl) (by kernel_rfl) ?_
      go_wp2
      refine hK8 4 (by simp) _ _ trivial (any_more fun K9 hK9 => ?_)
      clear hK8 K8
      refine any_done hK9 (by kernel_rfl) ?_
      clear hK9 K9
      go_wp2_with fail
      go_meet
      exact ⟨HXP.out _ _ _ _ _ HX.out, HB.out.put ⟨0, 0, 1, 1⟩⟩
    · refine op_plain (some 35) (.call { callee := Callee.value (.func 28), args := #[.tmp 34], argTypes := #[24] }) 31 (by kernel_rfl) (by kernel_rfl) ?_
      go_wp2_with fail
      refine (HWH.out _ HX.out).mono ?_
      rintro e Wr5 ⟨rfl, hs⟩
      have HX' := hide' (HXK.out _ _ HX.out hs)
      have HB' := hide' (HB.out.keep hs)
      clear HX HB hs rc0 rc1 rc2 rc3 rf0 rf1 rf2 rf3
      have HX := HX'
      have HB := HB'
      clear HX' HB'
      obtain ⟨rc0, rc1, rc2, rc3, rf0, rf1, rf2, rf3⟩ := HB.out
      go_wp2
      refine hK2 2 (by simp) _ _ trivial (any_more fun K3 hK3 => ?_)
      clear hK2 K2
      refine any_pick (rs := [0]) hK3 (by kernel_rfl) (fun K4 hK4 => ?_)
      clear hK3 K3
      intro i hi
      simp only [List.mem_cons, List.not_mem_nil, or_false] at hi
      rcases hi with rfl
      refine op_plain (some 33) (.load 31 (.tmp 7)) 31 (by kernel_rfl) (by kernel_rfl) ?_
      go_wp2
      refine hK4 0 (by simp) _ _ trivial (any_more fun K5 hK5 => ?_)
      clear hK4 K4
      refine any_pick (rs := [3]) hK5 (by kernel_rfl) (fun K6 hK6 => ?_)
      clear hK5 K5
      intro i hi
      simp only [List.mem_cons, List.not_mem_nil, or_false] at hi
      rcases hi with rfl
      refine op_plain (some 36) (.call { callee := Callee.value (.func 31), args := #[.tmp 33, .tmp 35], argTypes := #[31, 31] }) 31 (by kernel_rfl) (by kernel_rfl) ?_
      go_wp2_with fail
      refine (HBO.out _).mono ?_
      rintro e Wr7 ⟨rfl, hs⟩
      have HX' := hide' (HXK.out _ _ HX.out hs)
      have HB' := hide' (HB.out.keep hs)
      clear HX HB hs rc0 rc1 rc2 rc3 rf0 rf1 rf2 rf3
      have HX := HX'
      have HB := HB'
      clear HX' HB'
      obtain ⟨rc0, rc1, rc2, rc3, rf0, rf1, rf2, rf3⟩ := HB.out
      go_wp2
      refine hK6 3 (by simp) _ _ trivial (any_more fun K7 hK7 => ?_)
      clear hK6 K6
      refine any_pick (rs := [4]) hK7 (by kernel_rfl) (fun K8 hK8 => ?_)
      clear hK7 K7
      intro i hi
      simp only [List.mem_cons, List.not_mem_nil, or_false] at hi
      rcases hi with rfl
      refine op_plain none (.store 31 (.tmp 7) (.tmp 36)) 0 (by kernel_rfl) (by kernel_rfl) ?_
      go_wp2
      refine hK8 4 (by simp) _ _ trivial (any_more fun K9 hK9 => ?_)
      clear hK8 K8
      refine any_done hK9 (by kernel_rfl) ?_
      clear hK9 K9
      go_wp2_with fail
      go_meet
      exact ⟨HXP.out _ _ _ _ _ HX.out, HB.out.put ⟨0, 0, 1, 1⟩⟩
  case rest =>
  clear HX HB HBO HBO1
  obtain ⟨rc0, rc1, rc2, rc3, rf0, rf1, rf2, rf3⟩ := hcut.out.2
  simp only at rc0 rc1 rc2 rc3
  go_upto_region 6 with fail
  clear rc0 rc1 rc2 rc3 rf0 rf1 rf2 rf3
  obtain ⟨W6, hW6⟩ : ∃ W, W = ((wc.setCell ⟨w.heap.size, 0, none⟩ (.int .i64 0)).setCell ⟨w.heap.size, 1, none⟩ (.int .i64 0)) := ⟨_, rfl⟩
  have HX : Hid (X W6) := by rw [hW6]; exact HXQ.out _ _ _ hcut.out.1
  have HB : Hid (Box W6 w.heap.size ⟨0, 0, 1, 1⟩) := by rw [hW6]; exact hcut.out.2.put01 0 0
  rw [← hW6]
  clear hW6 hcut
  have HBO := HBO2
  go_cut [] (fun wx => Hid (X wx ∧ Box wx w.heap.size ⟨0, 0, 0, 0⟩))
  case first =>
    refine any_begin (fun _ => True) (by kernel_rfl) (fun K0 hK0 => ?_)
    have hs : Stay (fun _ => False) W6 W6.drew := (Stay.refl _ _).drew
    have HX' := hide' (HXK.out _ _ HX.out hs)
    have HB' := hide' (HB.out.keep hs)
    clear HX HB hs
    have HX := HX'
    have HB := HB'
    clear HX' HB'
    obtain ⟨Wd, hWd⟩ : ∃ Wd, Wd = W6.drew := ⟨_, rfl⟩
    rw [← hWd] at HX HB
    rw [← hWd]
    clear hWd
    obtain ⟨rc0, rc1, rc2, rc3, rf0, rf1, rf2, rf3⟩ := HB.out
    refine any_take (i := 1) hK0 (some 48) (.move (.tmp 1)) 24 _ (by kernel_rfl) (fun _ d _ _ _ h => by cases d <;> exact h) (by kernel_rfl) (by kernel_rfl) (fun w' hS' => by simp only [opr]; go_simp; try with_reducible rfl) trivial (fun K1 hK1 => ?_)
    clear hK0 K0
    try simp only [Act.put, List.setIfInBounds_toArray, List.set_cons_zero, List.set_cons_succ]
    refine any_pick (rs := [0, 2]) hK1 (by kernel_rfl) (fun K2 hK2 => ?_)
    clear hK1 K1
    intro i hi
    simp only [List.mem_cons, List.not_mem_nil, or_false] at hi
    rcases hi with rfl | rfl
    · refine op_plain (some 47) (.load 31 (.tmp 7)) 31 (by kernel_rfl) (by kernel_rfl) ?_
      go_wp2
      refine hK2 0 (by simp) _ _ trivial (any_more fun K3 hK3 => ?_)
      clear hK2 K2
      refine any_pick (rs := [2]) hK3 (by kernel_rfl) (fun K4 hK4 => ?_)
      clear hK3 K3
      intro i hi
      simp only [List.mem_cons, List.not_mem_nil, or_false] at hi
      rcases hi with rfl
      refine op_plain (some 49) (.call { callee := Callee.value (.func 28), args := #[.tmp 48], argTypes := #[24] }) 31 (by kernel_rfl) (by kernel_rfl) ?_
      go_wp2_with fail
      refine (HWO.out _ HX.out).mono ?_
      rintro e Wr2 ⟨rfl, hs⟩
      have HX' := hide' (HXK.out _ _ HX.out hs)
      have HB' := hide' (HB.out.keep hs)
      clear HX HB hs rc0 rc1 rc2 rc3 rf0 rf1 rf2 rf3
      have HX := HX'
      have HB := HB'
      clear HX' HB'
      obtain ⟨rc0, rc1, rc2, rc3, rf0, rf1, rf2, rf3⟩ := HB.out
      go_wp2
      refine hK4 2 (by simp) _ _ trivial (any_more fun K5 hK5 => ?_)
      clear hK4 K4
      refine any_pick (rs := [3]) hK5 (by kernel_rfl) (fun K6 hK6 => ?_)
      clear hK5 K5
      intro i hi
      simp only [List.mem_cons, List.not_mem_nil, or_false] at hi
      rcases hi with rfl
      refine op_plain (some 50) (.call { callee := Callee.value (.func 31), args := #[.tmp 47, .tmp 49], argTypes := #[31, 31] }) 31 (by kernel_rfl) (by kernel_rfl) ?_
      go_wp2_with fail
      refine (HBO.out _).mono ?_
      rintro e Wr3 ⟨rfl, hs⟩
      have HX' := hide' (HXK.out _ _ HX.out hs)
      have HB' := hide' (HB.out.keep hs)
      clear HX HB hs rc0 rc1 rc2 rc3 rf0 rf1 rf2 rf3
      have HX := HX'
      have HB := HB'
      clear HX' HB'
      obtain ⟨rc0, rc1, rc2, rc3, rf0, rf1, rf2, rf3⟩ := HB.out
      go_wp2
      refine hK6 3 (by simp) _ _ trivial (any_more fun K7 hK7 => ?_)
      clear hK6 K6
      refine any_pick (rs := [4]) hK7 (by kernel_rfl) (fun K8 hK8 => ?_)
      clear hK7 K7
      intro i hi
      simp only [List.mem_cons, List.not_mem_nil, or_false] at hi
      rcases hi with rfl
      refine op_plain none (.store 31 (.tmp 7) (.tmp 50)) 0 (by kernel_rfl) (by kernel_rfl) ?_
      go_wp2
      refine hK8 4 (by simp) _ _ trivial (any_more fun K9 hK9 => ?_)
      clear hK8 K8
      refine any_done hK9 (by kernel_rfl) ?_
      clear hK9 K9
      go_wp2_with fail
      go_meet
      exact ⟨HXP.out _ _ _ _ _ HX.out, HB.out.put ⟨0, 0, 0, 0⟩⟩
    · refine op_plain (some 49) (.call { callee := Callee.value (.func 28), args := #[.tmp 48], argTypes := #[24] }) 31 (by kernel_rfl) (by kernel_rfl) ?_
      go_wp2_with fail
      refine (HWO.out _ HX.out).mono ?_
      rintro e Wr5 ⟨rfl, hs⟩
      have HX' := hide' (HXK.out _ _ HX.out hs)
      have HB' := hide' (HB.out.keep hs)
      clear HX HB hs rc0 rc1 rc2 rc3 rf0 rf1 rf2 rf3
      have HX := HX'
      have HB := HB'
      clear HX' HB'
      obtain ⟨rc0, rc1, rc2, rc3, rf0, rf1, rf2, rf3⟩ := HB.out
      go_wp2
      refine hK2 2 (by simp) _ _ trivial (any_more fun K3 hK3 => ?_)
      clear hK2 K2
      refine any_pick (rs := [0]) hK3 (by kernel_rfl) (fun K4 hK4 => ?_)
      clear hK3 K3
      intro i hi
      simp only [List.mem_cons, List.not_mem_nil, or_false] at hi
      rcases hi with rfl
      refine op_plain (some 47) (.load 31 (.tmp 7)) 31 (by kernel_rfl) (by kernel_rfl) ?_
      go_wp2
      refine hK4 0 (by simp) _ _ trivial (any_more fun K5 hK5 => ?_)
      clear hK4 K4
      refine any_pick (rs := [3]) hK5 (by kernel_rfl) (fun K6 hK6 => ?_)
      clear hK5 K5
      intro i hi
      simp only [List.mem_cons, List.not_mem_nil, or_false] at hi
      rcases hi with rfl
      refine op_plain (some 50) (.call { callee := Callee.value (.func 31), args := #[.tmp 47, .tmp 49], argTypes := #[31, 31] }) 31 (by kernel_rfl) (by kernel_rfl) ?_
      go_wp2_with fail
      refine (HBO.out _).mono ?_
      rintro e Wr7 ⟨rfl, hs⟩
      have HX' := hide' (HXK.out _ _ HX.out hs)
      have HB' := hide' (HB.out.keep hs)
      clear HX HB hs rc0 rc1 rc2 rc3 rf0 rf1 rf2 rf3
      have HX := HX'
      have HB := HB'
      clear HX' HB'
      obtain ⟨rc0, rc1, rc2, rc3, rf0, rf1, rf2, rf3⟩ := HB.out
      go_wp2
      refine hK6 3 (by simp) _ _ trivial (any_more fun K7 hK7 => ?_)
      clear hK6 K6
      refine any_pick (rs := [4]) hK7 (by kernel_rfl) (fun K8 hK8 => ?_)
      clear hK7 K7
      intro i hi
      simp only [List.mem_cons, List.not_mem_nil, or_false] at hi
      rcases hi with rfl
      refine op_plain none (.store 31 (.tmp 7) (.tmp 50)) 0 (by kernel_rfl) (by kernel_rfl) ?_
      go_wp2
      refine hK8 4 (by simp) _ _ trivial (any_more fun K9 hK9 => ?_)
      clear hK8 K8
      refine any_done hK9 (by kernel_rfl) ?_
      clear hK9 K9
      go_wp2_with fail
      go_meet
      exact ⟨HXP.out _ _ _ _ _ HX.out, HB.out.put ⟨0, 0, 0, 0⟩⟩
  case rest =>
  have HI := hide' (HXS.out _ hcut.out.1)
  have HB := hide' hcut.out.2
  clear hcut HX HXK HXP HXQ HXS HBO HBO2 HWH HWO HR1 HR2
  obtain ⟨rc0, rc1, rc2, rc3, rf0, rf1, rf2, rf3⟩ := HB.out
  simp only at rc0 rc1 rc2 rc3
  go_wp2_with fail
  clear rc0 rc1 rc2 rc3 rf0 rf1 rf2 rf3
  go_loopg [53] 0 (fun g v wr => g = 0 ∧ v = .int .i64 0 ∧ wr = wc)
  case atStart => exact ⟨rfl, rfl, rfl⟩
  case round =>
    obtain ⟨rfl, rfl, rfl⟩ := hrel
    obtain ⟨rc0, rc1, rc2, rc3, rf0, rf1, rf2, rf3⟩ := HB.out
    simp only at rc0 rc1 rc2 rc3
    go_wp2_with fail
    refine (HAR.out _).mono ?_
    rintro e w9 ⟨rfl, hs⟩
    have HE := hide' (HI.out.trans hs)
    clear hs
    go_wp2
    go_ret
    exact ⟨rfl, HE.out⟩

end Go.Proofs.Ytmpmdlbhiogelaa
