/-
  Copy, Resize and Clone of a grid, and Blit of any numbers and to none: walked. No conditions.
-/
import Derived.Test.YticccknocjnkpaaD7
namespace Go.Proofs.Yticccknocjnkpaa
open Go.RowKit

theorem blit80_wrong (p0 : Value) (o : Option Addr) (r : R) (x y : Int) (w : World) (h : (rightB r && rightB ⟨x, y, 0, 0⟩) = false) : Calls Try.prog 80 #[p0, .pointer o, .agg #[.int .i64 r.x, .int .i64 r.y, .int .i64 r.w, .int .i64 r.h], .int .i64 x, .int .i64 y] w (Gives (.int .i64 0) w) := by
  have HS := hide' ((Stay.refl (fun _ => False) w).alloc (.cells #[.int .i64 r.x, .int .i64 r.y, .int .i64 r.w, .int .i64 r.h] 41))
  have HB := hide' (Box.new (w := w) r rfl)
  have HR := hide' (right67 r)
  have HRX := hide' (right67 ⟨x, y, 0, 0⟩)
  obtain ⟨c1, hc1⟩ : ∃ c, c = rightB r := ⟨_, rfl⟩
  obtain ⟨c2, hc2⟩ : ∃ c, c = rightB ⟨x, y, 0, 0⟩ := ⟨_, rfl⟩
  rw [← hc1] at HR h
  rw [← hc2] at HRX h
  clear hc1 hc2
  go_enter Try.func80, Try.ntmps80
  go_wp2_with fail
  refine (HR.out _).mono ?_
  rintro e w1 ⟨rfl, hs⟩
  have HS1 := hide' (HS.out.trans hs)
  clear hs
  cases c1
  · go_wp2
    go_ret
    exact ⟨rfl, HS1.out⟩
  · have hc2 : c2 = false := by simpa using h
    subst hc2
    go_wp2_with fail
    refine (HRX.out _).mono ?_
    rintro e w2 ⟨rfl, hs⟩
    have HS2 := hide' (HS1.out.trans hs)
    clear hs
    go_wp2
    go_ret
    exact ⟨rfl, HS2.out⟩

/-- Blit, whatever its numbers. -/
theorem blit80_any (G O : Gr) (F f : Nat → Cl) (r : R) (x y : Int) (w : World) (hG : GridAt w G F) (hO : GridAt w O f) (hoo : OneOff G O F f F f) :
    Calls Try.prog 80 #[.pointer (some ⟨G.g, 0, none⟩), .pointer (some ⟨O.g, 0, none⟩), .agg #[.int .i64 r.x, .int .i64 r.y, .int .i64 r.w, .int .i64 r.h], .int .i64 x, .int .i64 y] w
      (fun e w' => ∃ f', Turns (.int .i64 (cntAll (comesB G.w G.h r x y) O.w O.h : Nat)) O f' w e w' ∧ Blits G.w G.h O.w O.h r x y F f f') := by
  cases hr : rightB r
  · have hw : (rightB r && rightB ⟨x, y, 0, 0⟩) = false := by rw [hr]; rfl
    have hb := Blits.wrong (gw := G.w) (gh := G.h) (ow := O.w) (oh := O.h) F f hw
    refine (blit80_wrong _ _ r x y w hw).mono ?_
    rintro e w1 ⟨rfl, hs⟩
    exact ⟨f, ⟨by rw [hb.2]; rfl, stay_any hs, hO.keep hs⟩, hb.1⟩
  · cases hxy : rightB ⟨x, y, 0, 0⟩
    · have hw : (rightB r && rightB ⟨x, y, 0, 0⟩) = false := by rw [hr, hxy]; rfl
      have hb := Blits.wrong (gw := G.w) (gh := G.h) (ow := O.w) (oh := O.h) F f hw
      refine (blit80_wrong _ _ r x y w hw).mono ?_
      rintro e w1 ⟨rfl, hs⟩
      exact ⟨f, ⟨by rw [hb.2]; rfl, stay_any hs, hO.keep hs⟩, hb.1⟩
    · exact blit80 G O F f r x y w hG hO hoo hr hxy

/-- A turn of a block that is new is no turn of what was there. -/
theorem Stay.trans' {w w1 w2 : World} {b : Nat} (h : Stay (fun _ => False) w w1) (k : Stay (fun j => j = b) w1 w2) (hb : w.heap.size ≤ b) : Stay (fun _ => False) w w2 :=
  ⟨k.os.trans h.os, k.tape.trans h.tape, k.output.trans h.output, Nat.le_trans h.size k.size, fun i hi hs => (k.block i (Nat.lt_of_lt_of_le hi h.size) (by show ¬ i = b; omega)).trans (h.block i hi hs)⟩

/-- What a grid has in another size. -/
def resized (gw gh : Nat) (F : Nat → Cl) (f : Nat → Cl) (a b : Nat) : Prop := ∀ X Y : Nat, X < a → Y < b → f (Y * a + X) = if X < gw ∧ Y < gh then F (Y * gw + X) else Cl.zero

theorem resized_of {gw gh a b : Nat} {F f : Nat → Cl} (g1 : gw ≤ 512) (g2 : gh ≤ 512) (h : Blits gw gh a b ⟨0, 0, gw, gh⟩ 0 0 F (fun _ => Cl.zero) f) : resized gw gh F f a b := fun X Y hX hY => by
  rw [h X Y hX hY]
  have e1 : rightB ⟨0, 0, gw, gh⟩ = true := right_of (by omega)
  have e2 : rightB ⟨0, 0, 0, 0⟩ = true := by decide
  by_cases hh : X < gw ∧ Y < gh
  · have e3 : comesB gw gh ⟨0, 0, gw, gh⟩ 0 0 X Y = true := by
      unfold comesB
      rw [e1, e2]
      unfold insB inB
      simp
      omega
    rw [if_pos hh, if_pos e3]
    simp only [Int.sub_zero, Int.add_zero]
    exact atF_nat F hh.1 hh.2
  · have e3 : ¬ comesB gw gh ⟨0, 0, gw, gh⟩ 0 0 X Y = true := by
      intro h3
      unfold comesB at h3
      rw [e1, e2] at h3
      unfold insB inB at h3
      simp at h3
      omega
    rw [if_neg hh, if_neg e3]

theorem resize62 (G : Gr) (F : Nat → Cl) (a b : Nat) (w : World) (hG : GridAt w G F) (a1 : 1 ≤ a) (a2 : a ≤ 512) (b1 : 1 ≤ b) (b2 : b ≤ 512) : Calls Try.prog 62 #[.pointer (some ⟨G.g, 0, none⟩), .int .i64 (a : Nat), .int .i64 (b : Nat)] w
    (fun e w' => ∃ f, NewGrid a b f w e w' ∧ resized G.w G.h F f a b) := by
  have HG := hide' hG
  have HN := hide' (new24 a b w a1 a2 b1 b2)
  have HW := hide' (fun w h => whole60 G F w h)
  have HSZ := hide' (show G.w ≤ 512 ∧ G.h ≤ 512 from ⟨hG.w2, hG.h2⟩)
  clear hG a1 a2 b1 b2
  go_enter Try.func62, Try.ntmps62
  go_wp2_with fail
  refine HN.out.mono ?_
  rintro e w1 ⟨O, rfl, hs, hO, rfl, rfl, hab⟩
  have HG1 := hide' (HG.out.keep hs)
  have HO1 := hide' hO
  have HS1 := hide' hs
  have HOF : Hid (G.off O.bc) := HG.out.off_new hab.2.2
  have HAB := hide' hab
  clear hs hO hab HG HN
  go_wp2_with fail
  refine (HW.out _ HG1.out).mono ?_
  rintro e w2 ⟨rfl, hs⟩
  have HG2 := hide' (HG1.out.keep hs)
  have HO2 := hide' (HO1.out.keep hs)
  have HS2 := hide' (HS1.out.trans hs)
  clear hs HG1 HO1 HS1 HW
  go_wp2_with fail
  refine (blit80_any G O F (fun _ => Cl.zero) (⟨0, 0, (G.w : Nat), (G.h : Nat)⟩ : R) 0 0 _ HG2.out HO2.out (.inr ⟨HOF.out, rfl⟩)).mono ?_
  rintro e w3 ⟨f1, ⟨rfl, h1, h2⟩, h3⟩
  have HE : Hid (Stay (fun _ => False) w w3 ∧ GridAt w3 O f1 ∧ resized G.w G.h F f1 O.w O.h) := ⟨(HS2.out.trans' h1 (by have := HAB.out; unfold Gr.above at this; omega)), h2, resized_of HSZ.out.1 HSZ.out.2 h3⟩
  clear h1 h2 h3
  go_wp2
  go_ret
  exact ⟨f1, ⟨O, rfl, HE.out.1, HE.out.2.1, rfl, rfl, HAB.out⟩, HE.out.2.2⟩

theorem clone39 (G : Gr) (F : Nat → Cl) (w : World) (hG : GridAt w G F) : Calls Try.prog 39 #[.pointer (some ⟨G.g, 0, none⟩)] w (fun e w' => ∃ f, NewGrid G.w G.h f w e w' ∧ ∀ X Y : Nat, X < G.w → Y < G.h → f (Y * G.w + X) = F (Y * G.w + X)) := by
  have HG := hide' hG
  have HZ := hide' (size36 G F w hG)
  have HR := hide' (fun w h => resize62 G F G.w G.h w h hG.w1 hG.w2 hG.h1 hG.h2)
  clear hG
  go_enter Try.func39, Try.ntmps39
  go_wp2_with fail
  refine HZ.out.mono ?_
  rintro e w1 ⟨rfl, hs⟩
  have HG1 := hide' (HG.out.keep hs)
  have HS1 := hide' hs
  clear hs HG HZ
  go_wp2_with fail
  refine (HR.out _ HG1.out).mono ?_
  rintro e w2 ⟨f1, ⟨O, rfl, h1, h2, h3, h4, h5⟩, h6⟩
  have HE : Hid (Stay (fun _ => False) w w2 ∧ GridAt w2 O f1 ∧ O.w = G.w ∧ O.h = G.h ∧ O.above w.heap.size ∧ resized G.w G.h F f1 G.w G.h) := ⟨HS1.out.trans h1, h2, h3, h4, by have := HS1.out.size; unfold Gr.above at h5 ⊢; omega, h6⟩
  clear h1 h2 h3 h4 h5 h6
  go_wp2
  go_ret
  exact ⟨f1, ⟨O, rfl, HE.out.1, HE.out.2.1, HE.out.2.2.1, HE.out.2.2.2.1, HE.out.2.2.2.2.1⟩, fun X Y hX hY => by rw [HE.out.2.2.2.2.2 X Y hX hY, if_pos ⟨hX, hY⟩]⟩

end Go.Proofs.Yticccknocjnkpaa
