/-
  Sizes of grids, walked. No conditions.
  A cell of a grid is asked for: walked. No conditions.
  A cell of a grid is set: walked. No conditions.
  What a rectangle and a whole grid have in common. No conditions.
-/
import Derived.Test.YticccknocjnkpaaG1
import Derived.Test.YticccknocjnkpaaG3
import Derived.BigQuiet
namespace Go.Proofs.Yticccknocjnkpaa
open Go.RowKit

/-- Is there a grid of so many columns, or rows? -/
def sizeB (n : Int) : Bool := decide (1 ≤ n) && decide (n ≤ 512)

theorem isSize52 (n : Int) (w : World) : Calls Try.prog 52 #[.int .i64 n] w fun e w' => e = .returned (.bool (sizeB n)) ∧ w = w' := by
  unfold sizeB
  go_enter Try.func52, Try.ntmps52
  go_wp2
  all_goals
    go_ret
    exact ⟨by simp [*] <;> omega, rfl⟩

theorem GridAt.row0 {W : World} {G : Gr} {f : Nat → Cl} (h : GridAt W G f) : W.cell? ⟨G.br, 0, none⟩ = some (.slice (some ⟨G.bc, 0, none⟩) G.w (G.w * G.h)) := by
  have := h.rows 0 h.h1
  simpa using this

theorem size36 (G : Gr) (f : Nat → Cl) (w : World) (hG : GridAt w G f) : Calls Try.prog 36 #[.pointer (some ⟨G.g, 0, none⟩)] w (Gives (.tuple #[.int .i64 (G.w : Nat), .int .i64 (G.h : Nat)]) w) := by
  have c0 := hG.top
  have c1 := hG.row0
  have z : (((G.h : Nat) : Int) == 0) = false := by have := hG.h1; simp; omega
  have z2 : (0 : Int) < (G.h : Nat) := by have := hG.h1; omega
  have HS := hide' (Stay.refl (fun _ => False) w)
  obtain ⟨g, br, bc, a, b⟩ := G
  simp only at c0 c1 z z2 ⊢
  clear hG
  go_enter Try.func36, Try.ntmps36
  go_wp2_with fail
  go_quiet (fail)
  go_wp2
  go_ret2
  exact ⟨rfl, HS.out.drewN _⟩

theorem size36_nil (w : World) : Calls Try.prog 36 #[.pointer none] w (Gives (.tuple #[.int .i64 0, .int .i64 0]) w) := by
  go_enter Try.func36, Try.ntmps36
  go_wp2
  go_ret2
  exact ⟨rfl, Stay.refl _ _⟩

theorem whole60 (G : Gr) (f : Nat → Cl) (w : World) (hG : GridAt w G f) : Calls Try.prog 60 #[.pointer (some ⟨G.g, 0, none⟩)] w (Gives (.agg #[.int .i64 (⟨0, 0, (G.w : Nat), (G.h : Nat)⟩ : R).x, .int .i64 (⟨0, 0, (G.w : Nat), (G.h : Nat)⟩ : R).y, .int .i64 (⟨0, 0, (G.w : Nat), (G.h : Nat)⟩ : R).w, .int .i64 (⟨0, 0, (G.w : Nat), (G.h : Nat)⟩ : R).h]) w) := by
  have hG' := hG.keep ((Stay.refl _ _).alloc (.cells #[.int .i64 0, .int .i64 0, .int .i64 0, .int .i64 0] 41))
  have HC := hide' (size36 G f _ hG')
  have HS := hide' ((Stay.refl (fun _ => False) w).alloc (.cells #[.int .i64 0, .int .i64 0, .int .i64 0, .int .i64 0] 41))
  clear hG hG'
  go_enter Try.func60, Try.ntmps60
  go_wp2_with fail
  refine HC.out.mono ?_
  rintro e w1 ⟨rfl, hs⟩
  have HBz := hide' (Box.keep (Box.new (w := w) ⟨0, 0, 0, 0⟩ rfl) hs)
  obtain ⟨z0, z1, z2, z3, f0, f1, f2, f3⟩ := HBz.out
  have HS1 := hide' (HS.out.trans hs)
  clear hs
  go_wp2
  exact bodyPost_ret (results_box rfl _ _ _ ⟨0, 0, (G.w : Nat), (G.h : Nat)⟩ rfl (HBz.out.put ⟨0, 0, (G.w : Nat), (G.h : Nat)⟩)) rfl ⟨rfl, HS1.out.put (by omega) _ _ _ _⟩

theorem whole60_nil (w : World) : Calls Try.prog 60 #[.pointer none] w (Gives (.agg #[.int .i64 (⟨0, 0, 0, 0⟩ : R).x, .int .i64 (⟨0, 0, 0, 0⟩ : R).y, .int .i64 (⟨0, 0, 0, 0⟩ : R).w, .int .i64 (⟨0, 0, 0, 0⟩ : R).h]) w) := by
  have HC := hide' (size36_nil (w.alloc (.cells #[.int .i64 0, .int .i64 0, .int .i64 0, .int .i64 0] 41)))
  have HS := hide' ((Stay.refl (fun _ => False) w).alloc (.cells #[.int .i64 0, .int .i64 0, .int .i64 0, .int .i64 0] 41))
  go_enter Try.func60, Try.ntmps60
  go_wp2_with fail
  refine HC.out.mono ?_
  rintro e w1 ⟨rfl, hs⟩
  have HBz := hide' (Box.keep (Box.new (w := w) ⟨0, 0, 0, 0⟩ rfl) hs)
  obtain ⟨z0, z1, z2, z3, f0, f1, f2, f3⟩ := HBz.out
  have HS1 := hide' (HS.out.trans hs)
  clear hs
  go_wp2
  exact bodyPost_ret (results_box rfl _ _ _ ⟨0, 0, 0, 0⟩ rfl (HBz.out.put ⟨0, 0, 0, 0⟩)) rfl ⟨rfl, HS1.out.put (by omega) _ _ _ _⟩

end Go.Proofs.Yticccknocjnkpaa

namespace Go.Proofs.Yticccknocjnkpaa
open Go.RowKit

/-- Is there a cell at x and y? -/
def insB (w h : Nat) (x y : Int) : Bool := inB ⟨0, 0, w, h⟩ x y

theorem ins_true {w h : Nat} {x y : Int} (hi : insB w h x y = true) : ∃ X Y : Nat, x = X ∧ y = Y ∧ X < w ∧ Y < h := by
  unfold insB inB at hi
  simp at hi
  exact ⟨x.toNat, y.toNat, by omega, by omega, by omega, by omega⟩

theorem ins_nat {w h X Y : Nat} (hx : X < w) (hy : Y < h) : insB w h X Y = true := by
  unfold insB inB
  simp
  omega

theorem ins_false {w h : Nat} {x y : Int} (hi : insB w h x y = false) : ∀ X Y : Nat, X < w → Y < h → ¬ (x = X ∧ y = Y) := by
  rintro X Y hx hy ⟨rfl, rfl⟩
  rw [ins_nat hx hy] at hi
  cases hi

/-- The cell at x and y; the blank one, if there is none. -/
def atF (w h : Nat) (f : Nat → Cl) (x y : Int) : Cl := if insB w h x y = true then f (y * w + x).toNat else Cl.zero

theorem atF_nat {w h X Y : Nat} (f : Nat → Cl) (hx : X < w) (hy : Y < h) : atF w h f X Y = f (Y * w + X) := by
  unfold atF
  rw [if_pos (ins_nat hx hy)]
  congr 1

theorem GridAt.cells {W : World} {G : Gr} {f : Nat → Cl} (h : GridAt W G f) {X Y : Nat} (hx : X < G.w) (hy : Y < G.h) : CAt W G.bc (Y * G.w * 4 + X * 4) (f (Y * G.w + X)) := by
  have := h.pix (Y * G.w + X) (idx_lt hx hy)
  rwa [Nat.add_mul] at this

theorem CAt.four {W : World} {b o : Nat} {c : Cl} (h : CAt W b o c) : W.cell? ⟨b, o, none⟩ = some (.int .i32 c.r) ∧ W.cell? ⟨b, o + 1, none⟩ = some (.int .i64 c.fg) ∧ W.cell? ⟨b, o + 2, none⟩ = some (.int .i64 c.bg) ∧ W.cell? ⟨b, o + 3, none⟩ = some (.int .i64 c.fl) :=
  ⟨h.1 0 _ rfl, h.1 1 _ rfl, h.1 2 _ rfl, h.1 3 _ rfl⟩

theorem i64_nat {n : Nat} (h : n ≤ 512) : I64 (n : Int) := by unfold I64; omega

theorem i64_zero : I64 0 := by unfold I64; omega

theorem at51 (G : Gr) (f : Nat → Cl) (x y : Int) (w : World) (hG : GridAt w G f) (hx : I64 x) (hy : I64 y) : Calls Try.prog 51 #[.pointer (some ⟨G.g, 0, none⟩), .int .i64 x, .int .i64 y] w (Gives (.agg #[.int .i32 (atF G.w G.h f x y).r, .int .i64 (atF G.w G.h f x y).fg, .int .i64 (atF G.w G.h f x y).bg, .int .i64 (atF G.w G.h f x y).fl]) w) := by
  have hs0 : Stay (fun _ => False) w (w.alloc (.cells #[.int .i32 0, .int .i64 0, .int .i64 0, .int .i64 0] 53)) := (Stay.refl _ _).alloc _
  have HS := hide' hs0
  have HG := hide' (hG.keep hs0)
  have HW := hide' (fun w h => whole60 G f w h)
  have HI := hide' (fun w => in47 (⟨0, 0, (G.w : Nat), (G.h : Nat)⟩ : R) x y w i64_zero i64_zero (i64_nat hG.w2) (i64_nat hG.h2) hx hy)
  obtain ⟨q, hq⟩ : ∃ q, q = atF G.w G.h f x y := ⟨_, rfl⟩
  rw [← hq]
  have HQ := hide' hq
  obtain ⟨c, hc⟩ : ∃ c, c = insB G.w G.h x y := ⟨_, rfl⟩
  have hc' : inB (⟨0, 0, (G.w : Nat), (G.h : Nat)⟩ : R) x y = c := hc.symm
  rw [hc'] at HI
  have HC := hide' hc
  clear hs0 hG hx hy hq hc hc'
  go_enter Try.func51, Try.ntmps51
  go_wp2_with fail
  refine (HW.out _ HG.out).mono ?_
  rintro e w1 ⟨rfl, hs⟩
  have HS1 := hide' (HS.out.trans hs)
  have HG1 := hide' (HG.out.keep hs)
  have HBz := hide' (BoxC.keep (BoxC.new (w := w) Cl.zero rfl) hs)
  clear hs HS HG
  go_wp2_with fail
  refine (HI.out _).mono ?_
  rintro e w2 ⟨rfl, hs⟩
  have HS2 := hide' (HS1.out.trans hs)
  have HG2 := hide' (HG1.out.keep hs)
  have HBz2 := hide' (HBz.out.keep hs)
  clear hs HS1 HG1 HBz HW HI
  obtain ⟨z0, z1, z2, z3, f0, f1, f2, f3⟩ := HBz2.out
  cases c
  · have hq : q = Cl.zero := by rw [HQ.out]; unfold atF; rw [← HC.out]; rfl
    have HQ2 := hide' hq
    clear hq HQ
    go_wp2
    exact bodyPost_ret (results_BoxC rfl _ _ _ Cl.zero rfl (HBz2.out.put Cl.zero)) rfl ⟨Cl.ret HQ2.out.symm, BoxC.stay_put HS2.out (by omega) _ _ _ _⟩
  · obtain ⟨X, Y, rfl, rfl, hX, hY⟩ := ins_true HC.out.symm
    have hq : q = f (Y * G.w + X) := by rw [HQ.out, atF_nat f hX hY]
    have HQ2 := hide' hq
    have ct := HG2.out.top
    have cr := HG2.out.rows Y hY
    obtain ⟨c0, c1, c2, c3⟩ := (HG2.out.cells hX hY).four
    have HW2 := hide' HG2.out.h2
    rw [← hq] at c0 c1 c2 c3
    clear HQ HC hq
    obtain ⟨g, br, bc, a, b⟩ := G
    simp only at ct cr c0 c1 c2 c3 hX hY
    obtain ⟨o, ho⟩ : ∃ o, o = Y * a * 4 := ⟨_, rfl⟩
    obtain ⟨cp, hcp⟩ : ∃ o, o = a * b - Y * a := ⟨_, rfl⟩
    rw [← ho] at cr c0 c1 c2 c3
    rw [← hcp] at cr
    clear ho hcp
    have i1 : (X : Int) < (a : Nat) := by omega
    have i2 : (Y : Int) < (b : Nat) := by omega
    go_wp2
    exact bodyPost_ret (results_BoxC rfl _ _ _ q rfl (HBz2.out.put q)) rfl ⟨rfl, BoxC.stay_put HS2.out (by omega) _ _ _ _⟩

end Go.Proofs.Yticccknocjnkpaa

namespace Go.Proofs.Yticccknocjnkpaa
open Go.RowKit

/-- A grid's cells with one that is set. -/
def setF (w h : Nat) (f : Nat → Cl) (x y : Int) (c : Cl) : Nat → Cl := fun i => if insB w h x y = true ∧ i = (y * w + x).toNat then c else f i

theorem setF_nat {w h X Y : Nat} (f : Nat → Cl) (c : Cl) (hx : X < w) (hy : Y < h) : setF w h f X Y c = fun i => if i = Y * w + X then c else f i := by
  funext i
  unfold setF
  have e : ((Y : Int) * (w : Nat) + (X : Int)).toNat = Y * w + X := by
    rw [show ((Y : Int) * (w : Nat) + (X : Int)) = ((Y * w + X : Nat) : Int) by simp]
    rfl
  rw [e]
  by_cases hi : i = Y * w + X
  · rw [if_pos ⟨ins_nat hx hy, hi⟩, if_pos hi]
  · rw [if_neg (fun h => hi h.2), if_neg hi]

theorem setF_out {w h : Nat} {x y : Int} (f : Nat → Cl) (c : Cl) (hi : insB w h x y = false) : setF w h f x y c = f := by
  funext i
  unfold setF
  rw [if_neg (fun h => by rw [hi] at h; cases h.1)]

/-- A grid's cells have turned, and nothing else. -/
def Turns (v : Value) (G : Gr) (f : Nat → Cl) (w : World) (e : Ending) (w' : World) : Prop := e = .returned v ∧ Stay (fun k => k = G.bc) w w' ∧ GridAt w' G f

theorem stay_any {S : Nat → Prop} {w w' : World} (h : Stay (fun _ => False) w w') : Stay S w w' := h.mono (fun _ _ h => h.elim)

theorem set84 (G : Gr) (f : Nat → Cl) (x y : Int) (c : Cl) (w : World) (hG : GridAt w G f) (hx : I64 x) (hy : I64 y) :
    Calls Try.prog 84 #[.pointer (some ⟨G.g, 0, none⟩), .int .i64 x, .int .i64 y, .agg #[.int .i32 c.r, .int .i64 c.fg, .int .i64 c.bg, .int .i64 c.fl]] w (Turns (.bool (insB G.w G.h x y)) G (setF G.w G.h f x y c) w) := by
  have hs0 : Stay (fun _ => False) w (w.alloc (.cells #[.int .i32 c.r, .int .i64 c.fg, .int .i64 c.bg, .int .i64 c.fl] 53)) := (Stay.refl _ _).alloc _
  have HS := hide' hs0
  have HG := hide' (hG.keep hs0)
  have HN : Hid (G.bc ≠ w.heap.size) := fun h => by have := hG.lt.2.2; omega
  have HW := hide' (fun w h => whole60 G f w h)
  have HI := hide' (fun w => in47 (⟨0, 0, (G.w : Nat), (G.h : Nat)⟩ : R) x y w i64_zero i64_zero (i64_nat hG.w2) (i64_nat hG.h2) hx hy)
  obtain ⟨F, hF⟩ : ∃ F, F = setF G.w G.h f x y c := ⟨_, rfl⟩
  rw [← hF]
  have HFF := hide' hF
  obtain ⟨q, hc⟩ : ∃ c, c = insB G.w G.h x y := ⟨_, rfl⟩
  have hc' : inB (⟨0, 0, (G.w : Nat), (G.h : Nat)⟩ : R) x y = q := hc.symm
  rw [hc'] at HI
  rw [← hc]
  have HC := hide' hc
  clear hs0 hG hx hy hF hc hc'
  go_enter Try.func84, Try.ntmps84
  go_wp2_with fail
  refine (HW.out _ HG.out).mono ?_
  rintro e w1 ⟨rfl, hs⟩
  have HS1 := hide' (HS.out.trans hs)
  have HG1 := hide' (HG.out.keep hs)
  have HB := hide' (BoxC.keep (BoxC.new (w := w) c rfl) hs)
  clear hs HS HG
  go_wp2_with fail
  refine (HI.out _).mono ?_
  rintro e w2 ⟨rfl, hs⟩
  have HS2 := hide' (HS1.out.trans hs)
  have HG2 := hide' (HG1.out.keep hs)
  have HB2 := hide' (HB.out.keep hs)
  clear hs HS1 HG1 HB HW HI
  cases q
  · have hq : F = f := by rw [HFF.out]; exact setF_out f c HC.out.symm
    have HQ2 := hide' hq
    clear hq HFF
    go_wp2
    go_ret
    exact ⟨rfl, stay_any HS2.out, by rw [HQ2.out]; exact HG2.out⟩
  · obtain ⟨X, Y, rfl, rfl, hX, hY⟩ := ins_true HC.out.symm
    have hq : F = _ := HFF.out.trans (setF_nat f c hX hY)
    have HQ2 := hide' hq
    have ct := HG2.out.top
    have cr := HG2.out.rows Y hY
    have HTH := hide' (HG2.out.cells hX hY).2
    have HP := hide' ((HG2.out.keep (Stay.refl _ _).drew).put (Y * G.w + X) c)
    rw [← hq, Nat.add_mul] at HP
    have HSP : Hid (Stay (fun k => k = G.bc) w (w2.drew.setCells G.bc (Y * G.w * 4 + X * 4) c.parts)) := (stay_any HS2.out.drew).setCells _ _ _ rfl
    clear HFF HC hq HQ2
    obtain ⟨g, br, bc, a, b⟩ := G
    simp only at ct cr hX hY HTH HP HSP HN
    have hgn := HG2.out.ne1
    have hbn := HG2.out.ne2
    simp only at hgn hbn
    obtain ⟨o, ho⟩ : ∃ o, o = Y * a * 4 := ⟨_, rfl⟩
    obtain ⟨cp, hcp⟩ : ∃ o, o = a * b - Y * a := ⟨_, rfl⟩
    rw [← ho] at cr HTH HP HSP
    rw [← hcp] at cr
    have i1 : (X : Int) < (a : Nat) := by omega
    have i2 : (Y : Int) < (b : Nat) := by omega
    have HF : Hid (∀ w3, Stay (fun k => k = bc) w2 w3 → w3.cell? ⟨g, 0, none⟩ = some (.slice (some ⟨br, 0, none⟩) b b) ∧ w3.cell? ⟨br, Y, none⟩ = some (.slice (some ⟨bc, o, none⟩) a cp) ∧ BoxC w3 w.heap.size c) := fun w3 hs =>
      ⟨(hs.cell (World.block_lt_of_cell? _ _ ct) hgn).trans ct, (hs.cell (World.block_lt_of_cell? _ _ cr) hbn).trans cr, HB2.out.stay hs (fun h => HN.out h.symm)⟩
    clear ho hcp hgn hbn ct cr hX hY HG2 HB2
    go_upto_region 3 with fail
    have hS0 : Stay (fun k => k = bc) w2 w2.drew := (Stay.refl _ _).drew
    have hS : (fun w' => Stay (fun k => k = bc) w2 w' ∧ w'.cell? ⟨g, 0, none⟩ = some (.slice (some ⟨br, 0, none⟩) b b) ∧ w'.cell? ⟨br, Y, none⟩ = some (.slice (some ⟨bc, o, none⟩) a cp) ∧ BoxC w' w.heap.size c) w2.drew := ⟨hS0, HF.out _ hS0⟩
    refine wp_region_mix (fun w' => Stay (fun k => k = bc) w2 w' ∧ w'.cell? ⟨g, 0, none⟩ = some (.slice (some ⟨br, 0, none⟩) b b) ∧ w'.cell? ⟨br, Y, none⟩ = some (.slice (some ⟨bc, o, none⟩) a cp) ∧ BoxC w' w.heap.size c) [(0, true), (1, true), (2, true), (3, true), (4, true), (5, true), (6, true), (7, true), (8, true), (9, true), (10, false)] (by kernel_rfl) (by kernel_rfl) (fun _ d _ _ _ h => by cases d <;> exact h) hS ?_
    refine mix_begin (fun K0 hK0 => ?_)
    refine mix_take hK0 (some 15) (.move (.tmp 0)) 47 _ (by kernel_rfl) (by kernel_rfl) (fun w' hS' => by (obtain ⟨_, s1, s2, s3⟩ := hS'; obtain ⟨b0, b1, b2, b3, _⟩ := s3; simp only [opr]; go_simp; try with_reducible rfl)) (fun K1 hK1 => ?_)
    clear hK0 K0
    simp only [Act.put, List.setIfInBounds_toArray, List.set_cons_zero, List.set_cons_succ]
    refine mix_take hK1 (some 16) (.nilCheck (.tmp 15)) 0 _ (by kernel_rfl) (by kernel_rfl) (fun w' hS' => by (obtain ⟨_, s1, s2, s3⟩ := hS'; obtain ⟨b0, b1, b2, b3, _⟩ := s3; simp only [opr]; go_simp; try with_reducible rfl)) (fun K2 hK2 => ?_)
    clear hK1 K1
    simp only [Act.put, List.setIfInBounds_toArray, List.set_cons_zero, List.set_cons_succ]
    refine mix_take hK2 (some 17) (.fieldAddr 106 (.tmp 16) 0) 0 _ (by kernel_rfl) (by kernel_rfl) (fun w' hS' => by (obtain ⟨_, s1, s2, s3⟩ := hS'; obtain ⟨b0, b1, b2, b3, _⟩ := s3; simp only [opr]; go_simp; try with_reducible rfl)) (fun K3 hK3 => ?_)
    clear hK2 K2
    simp only [Act.put, List.setIfInBounds_toArray, List.set_cons_zero, List.set_cons_succ]
    refine mix_take hK3 (some 18) (.load 104 (.tmp 17)) 104 _ (by kernel_rfl) (by kernel_rfl) (fun w' hS' => by (obtain ⟨_, s1, s2, s3⟩ := hS'; obtain ⟨b0, b1, b2, b3, _⟩ := s3; simp only [opr]; go_simp; try with_reducible rfl)) (fun K4 hK4 => ?_)
    clear hK3 K3
    simp only [Act.put, List.setIfInBounds_toArray, List.set_cons_zero, List.set_cons_succ]
    refine mix_take hK4 (some 19) (.move (.tmp 2)) 3 _ (by kernel_rfl) (by kernel_rfl) (fun w' hS' => by (obtain ⟨_, s1, s2, s3⟩ := hS'; obtain ⟨b0, b1, b2, b3, _⟩ := s3; simp only [opr]; go_simp; try with_reducible rfl)) (fun K5 hK5 => ?_)
    clear hK4 K4
    simp only [Act.put, List.setIfInBounds_toArray, List.set_cons_zero, List.set_cons_succ]
    refine mix_take hK5 (some 20) (.indexAddr 104 (.tmp 18) (.tmp 19)) 0 _ (by kernel_rfl) (by kernel_rfl) (fun w' hS' => by (obtain ⟨_, s1, s2, s3⟩ := hS'; obtain ⟨b0, b1, b2, b3, _⟩ := s3; simp only [opr]; go_simp; try with_reducible rfl)) (fun K6 hK6 => ?_)
    clear hK5 K5
    simp only [Act.put, List.setIfInBounds_toArray, List.set_cons_zero, List.set_cons_succ]
    refine mix_take hK6 (some 21) (.load 33 (.tmp 20)) 33 _ (by kernel_rfl) (by kernel_rfl) (fun w' hS' => by (obtain ⟨_, s1, s2, s3⟩ := hS'; obtain ⟨b0, b1, b2, b3, _⟩ := s3; simp only [opr]; go_simp; try with_reducible rfl)) (fun K7 hK7 => ?_)
    clear hK6 K6
    simp only [Act.put, List.setIfInBounds_toArray, List.set_cons_zero, List.set_cons_succ]
    refine mix_take hK7 (some 22) (.move (.tmp 1)) 3 _ (by kernel_rfl) (by kernel_rfl) (fun w' hS' => by (obtain ⟨_, s1, s2, s3⟩ := hS'; obtain ⟨b0, b1, b2, b3, _⟩ := s3; simp only [opr]; go_simp; try with_reducible rfl)) (fun K8 hK8 => ?_)
    clear hK7 K7
    simp only [Act.put, List.setIfInBounds_toArray, List.set_cons_zero, List.set_cons_succ]
    refine mix_take hK8 (some 23) (.load 53 (.tmp 7)) 53 _ (by kernel_rfl) (by kernel_rfl) (fun w' hS' => by (obtain ⟨_, s1, s2, s3⟩ := hS'; obtain ⟨b0, b1, b2, b3, _⟩ := s3; simp only [opr]; go_simp; try with_reducible rfl)) (fun K9 hK9 => ?_)
    clear hK8 K8
    simp only [Act.put, List.setIfInBounds_toArray, List.set_cons_zero, List.set_cons_succ]
    refine mix_take hK9 (some 24) (.indexAddr 33 (.tmp 21) (.tmp 22)) 0 _ (by kernel_rfl) (by kernel_rfl) (fun w' hS' => by (obtain ⟨_, s1, s2, s3⟩ := hS'; obtain ⟨b0, b1, b2, b3, _⟩ := s3; simp only [opr]; go_simp; try with_reducible rfl)) (fun K10 hK10 => ?_)
    clear hK9 K9
    simp only [Act.put, List.setIfInBounds_toArray, List.set_cons_zero, List.set_cons_succ]
    refine mix_chain hK10 (fun K10c hK10c => ?_)
    clear hK10 K10
    refine op_plain none (.store 53 (.tmp 24) (.tmp 23)) 0 (by kernel_rfl) (by kernel_rfl) ?_
    refine wpList_store_mid rfl 53 (.tmp 24) (.tmp 23) rfl bc (o + X * 4) #[.int .i32 c.r, .int .i64 c.fg, .int .i64 c.bg, .int .i64 c.fl] rfl rfl HTH.out (by kernel_rfl) (Cl.all_one _) ?_
    refine wpList_nil ?_
    have hSf : (fun w' => Stay (fun k => k = bc) w2 w' ∧ w'.cell? ⟨g, 0, none⟩ = some (.slice (some ⟨br, 0, none⟩) b b) ∧ w'.cell? ⟨br, Y, none⟩ = some (.slice (some ⟨bc, o, none⟩) a cp) ∧ BoxC w' w.heap.size c) (w2.drew.setCells bc (o + X * 4) c.parts) := ⟨hS.1.setCells bc _ _ rfl, HF.out _ (hS.1.setCells bc _ _ rfl)⟩
    refine hK10c _ _ hSf (mix_begin fun K11 hK11 => ?_)
    clear hK10c K10c
    try simp only [Act.put]
    refine hK11 _ _ (mix_nil ?_)
    clear hK11 K11
    clear hSf hS hS0
    go_wp2
    go_ret
    exact ⟨rfl, HSP.out, HP.out⟩

end Go.Proofs.Yticccknocjnkpaa

namespace Go.Proofs.Yticccknocjnkpaa
open Go.RowKit

theorem right_of {x y a b : Int} (h : -1073741824 ≤ x ∧ x ≤ 1073741824 ∧ -1073741824 ≤ y ∧ y ≤ 1073741824 ∧ 0 ≤ a ∧ a ≤ 1073741824 ∧ 0 ≤ b ∧ b ≤ 1073741824) : rightB ⟨x, y, a, b⟩ = true := by
  unfold rightB nearB
  simp
  omega

/-- What is in both, of a rectangle and a whole grid: its numbers, and its cells. -/
theorem both_whole (r : R) (w h : Nat) (w2 : w ≤ 512) (h2 : h ≤ 512) : ∃ x0 y0 a0 b0 : Nat, bothR r ⟨0, 0, w, h⟩ = ⟨x0, y0, a0, b0⟩ ∧ x0 + a0 ≤ w ∧ y0 + b0 ≤ h ∧
    ∀ X Y : Nat, X < w → Y < h → ((rightB r = true ∧ inB r X Y = true) ↔ (x0 ≤ X ∧ X < x0 + a0 ∧ y0 ≤ Y ∧ Y < y0 + b0)) := by
  have hw : rightB ⟨0, 0, w, h⟩ = true := right_of (by omega)
  unfold bothR
  rw [hw, Bool.and_true]
  by_cases hr : rightB r = true
  · rw [if_pos hr]
    obtain ⟨⟨p1, p2⟩, ⟨p3, p4⟩, ⟨p5, p6⟩, p7, p8⟩ := right_bd hr
    obtain ⟨x, y, a, b⟩ := r
    simp only at p1 p2 p3 p4 p5 p6 p7 p8
    unfold orNoneR
    by_cases he : emptyB (interR ⟨x, y, a, b⟩ ⟨0, 0, w, h⟩) = true
    · rw [if_pos he]
      refine ⟨0, 0, 0, 0, rfl, by omega, by omega, fun X Y hX hY => ?_⟩
      unfold emptyB interR at he
      unfold inB
      simp at he ⊢
      omega
    · rw [if_neg he]
      unfold emptyB interR at he
      simp at he
      obtain ⟨x0, hx0⟩ : ∃ n : Nat, (n : Int) = max x 0 := ⟨(max x 0).toNat, by omega⟩
      obtain ⟨y0, hy0⟩ : ∃ n : Nat, (n : Int) = max y 0 := ⟨(max y 0).toNat, by omega⟩
      obtain ⟨a0, ha0⟩ : ∃ n : Nat, (n : Int) = min (x + a) w - max x 0 := ⟨(min (x + a) w - max x 0).toNat, by omega⟩
      obtain ⟨b0, hb0⟩ : ∃ n : Nat, (n : Int) = min (y + b) h - max y 0 := ⟨(min (y + b) h - max y 0).toNat, by omega⟩
      refine ⟨x0, y0, a0, b0, ?_, by omega, by omega, fun X Y hX hY => ?_⟩
      · show (⟨max x 0, max y 0, min (x + a) (0 + w) - max x 0, min (y + b) (0 + h) - max y 0⟩ : R) = _
        simp only [R.mk.injEq]
        refine ⟨?_, ?_, ?_, ?_⟩ <;> omega
      · unfold inB
        simp only [Bool.and_eq_true, decide_eq_true_eq, hr, true_and]
        omega
  · rw [if_neg hr]
    refine ⟨0, 0, 0, 0, rfl, by omega, by omega, fun X Y hX hY => ?_⟩
    simp [hr]

theorem area_nat (x y a b : Nat) (h : x + a ≤ 512 ∧ y + b ≤ 512) : areaI ⟨x, y, a, b⟩ = ((a * b : Nat) : Int) := by
  unfold areaI
  rw [if_pos (right_of (by omega))]
  simp

/-- A rectangle's cells have turned: so many rows are done, and so many cells of the next one. -/
def Filled (w h : Nat) (x0 y0 a0 : Nat) (c : Cl) (f g : Nat → Cl) (k j : Nat) : Prop := ∀ X Y : Nat, X < w → Y < h →
  g (Y * w + X) = if (x0 ≤ X ∧ X < x0 + a0 ∧ y0 ≤ Y ∧ (Y < y0 + k ∨ (Y = y0 + k ∧ X < x0 + j))) then c else f (Y * w + X)

theorem Filled.none (w h x0 y0 a0 : Nat) (c : Cl) (f : Nat → Cl) : Filled w h x0 y0 a0 c f f 0 0 := fun X Y _ _ => by
  rw [if_neg (by omega)]

theorem Filled.one {w h x0 y0 a0 k j : Nat} {c : Cl} {f g : Nat → Cl} (hf : Filled w h x0 y0 a0 c f g k j) (hx : x0 + a0 ≤ w) (hj : j < a0) : Filled w h x0 y0 a0 c f (fun i => if i = (y0 + k) * w + (x0 + j) then c else g i) k (j + 1) := fun X Y hX hY => by
  have e := idx_iff (w := w) (x := X) (y := Y) (x' := x0 + j) (y' := y0 + k) hX (by omega)
  simp only
  rw [hf X Y hX hY]
  by_cases h1 : X = x0 + j ∧ Y = y0 + k
  · rw [if_pos (e.2 h1), if_pos (by omega)]
  · rw [if_neg (fun h => h1 (e.1 h))]
    by_cases h2 : (x0 ≤ X ∧ X < x0 + a0 ∧ y0 ≤ Y ∧ (Y < y0 + k ∨ (Y = y0 + k ∧ X < x0 + j)))
    · rw [if_pos h2, if_pos (by omega)]
    · rw [if_neg h2, if_neg (by omega)]

theorem Filled.next {w h x0 y0 a0 k j : Nat} {c : Cl} {f g : Nat → Cl} (hf : Filled w h x0 y0 a0 c f g k j) (hj : a0 ≤ j) : Filled w h x0 y0 a0 c f g (k + 1) 0 := fun X Y hX hY => by
  rw [hf X Y hX hY]
  by_cases h2 : (x0 ≤ X ∧ X < x0 + a0 ∧ y0 ≤ Y ∧ (Y < y0 + k ∨ (Y = y0 + k ∧ X < x0 + j)))
  · rw [if_pos h2, if_pos (by omega)]
  · rw [if_neg h2, if_neg (by omega)]

/-- All cells of a rectangle have turned. -/
def Fills (w h : Nat) (r : R) (c : Cl) (f g : Nat → Cl) : Prop := ∀ X Y : Nat, X < w → Y < h → g (Y * w + X) = if rightB r = true ∧ inB r X Y = true then c else f (Y * w + X)

theorem Filled.all {w h x0 y0 a0 b0 : Nat} {c : Cl} {f g : Nat → Cl} {r : R} (hf : Filled w h x0 y0 a0 c f g b0 0) (hr : ∀ X Y : Nat, X < w → Y < h → ((rightB r = true ∧ inB r X Y = true) ↔ (x0 ≤ X ∧ X < x0 + a0 ∧ y0 ≤ Y ∧ Y < y0 + b0))) : Fills w h r c f g := fun X Y hX hY => by
  rw [hf X Y hX hY]
  by_cases h2 : rightB r = true ∧ inB r X Y = true
  · have := (hr X Y hX hY).1 h2
    rw [if_pos h2, if_pos (by omega)]
  · have := mt (hr X Y hX hY).2 h2
    rw [if_neg h2, if_neg (by omega)]

end Go.Proofs.Yticccknocjnkpaa
