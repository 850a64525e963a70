/-
  A cell of a grid is asked for: walked. No conditions.
-/
import Derived.Test.YtcealbdinbfegaaD0
namespace Go.Proofs.Ytcealbdinbfegaa
open Go.RowKit

/-- Is there a cell at x and y? -/
def insB (w h : Nat) (x y : Int) : Bool := inB ⟨0, 0, w, h⟩ x y

theorem ins_true {w h : Nat} {x y : Int} (hi : insB w h x y = true) : ∃ X Y : Nat, x = X ∧ y = Y ∧ X < w ∧ Y < h := by
  unfold insB inB at hi
  simp at hi
  exact ⟨x.toNat, y.toNat, by omega, by omega, by omega, by omega⟩

theorem ins_nat {w h X Y : Nat} (hx : X < w) (hy : Y < h) : insB w h X Y = true := by
  unfold insB inB
  simp
  omega

theorem ins_false {w h : Nat} {x y : Int} (hi : insB w h x y = false) : ∀ X Y : Nat, X < w → Y < h → ¬ (x = X ∧ y = Y) := by
  rintro X Y hx hy ⟨rfl, rfl⟩
  rw [ins_nat hx hy] at hi
  cases hi

/-- The cell at x and y; the blank one, if there is none. -/
def atF (w h : Nat) (f : Nat → Cl) (x y : Int) : Cl := if insB w h x y = true then f (y * w + x).toNat else Cl.zero

theorem atF_nat {w h X Y : Nat} (f : Nat → Cl) (hx : X < w) (hy : Y < h) : atF w h f X Y = f (Y * w + X) := by
  unfold atF
  rw [if_pos (ins_nat hx hy)]
  congr 1

theorem GridAt.cells {W : World} {G : Gr} {f : Nat → Cl} (h : GridAt W G f) {X Y : Nat} (hx : X < G.w) (hy : Y < G.h) : CAt W G.bc (Y * G.w * 4 + X * 4) (f (Y * G.w + X)) := by
  have := h.pix (Y * G.w + X) (idx_lt hx hy)
  rwa [Nat.add_mul] at this

theorem CAt.four {W : World} {b o : Nat} {c : Cl} (h : CAt W b o c) : W.cell? ⟨b, o, none⟩ = some (.int .i32 c.r) ∧ W.cell? ⟨b, o + 1, none⟩ = some (.int .i64 c.fg) ∧ W.cell? ⟨b, o + 2, none⟩ = some (.int .i64 c.bg) ∧ W.cell? ⟨b, o + 3, none⟩ = some (.int .i64 c.fl) :=
  ⟨h.1 0 _ rfl, h.1 1 _ rfl, h.1 2 _ rfl, h.1 3 _ rfl⟩

theorem i64_nat {n : Nat} (h : n ≤ 512) : I64 (n : Int) := by unfold I64; omega

theorem i64_zero : I64 0 := by unfold I64; omega

theorem at18 (G : Gr) (f : Nat → Cl) (x y : Int) (w : World) (hG : GridAt w G f) (hx : I64 x) (hy : I64 y) : Calls Try.prog 18 #[.pointer (some ⟨G.g, 0, none⟩), .int .i64 x, .int .i64 y] w (Gives (.agg #[.int .i32 (atF G.w G.h f x y).r, .int .i64 (atF G.w G.h f x y).fg, .int .i64 (atF G.w G.h f x y).bg, .int .i64 (atF G.w G.h f x y).fl]) w) := by
  have hs0 : Stay (fun _ => False) w (w.alloc (.cells #[.int .i32 0, .int .i64 0, .int .i64 0, .int .i64 0] 34)) := (Stay.refl _ _).alloc _
  have HS := hide' hs0
  have HG := hide' (hG.keep hs0)
  have HW := hide' (fun w h => whole27 G f w h)
  have HI := hide' (fun w => in26 (⟨0, 0, (G.w : Nat), (G.h : Nat)⟩ : R) x y w i64_zero i64_zero (i64_nat hG.w2) (i64_nat hG.h2) hx hy)
  obtain ⟨q, hq⟩ : ∃ q, q = atF G.w G.h f x y := ⟨_, rfl⟩
  rw [← hq]
  have HQ := hide' hq
  obtain ⟨c, hc⟩ : ∃ c, c = insB G.w G.h x y := ⟨_, rfl⟩
  have hc' : inB (⟨0, 0, (G.w : Nat), (G.h : Nat)⟩ : R) x y = c := hc.symm
  rw [hc'] at HI
  have HC := hide' hc
  clear hs0 hG hx hy hq hc hc'
  go_enter Try.func18, Try.ntmps18
  go_wp2_with fail
  refine (HW.out _ HG.out).mono ?_
  rintro e w1 ⟨rfl, hs⟩
  have HS1 := hide' (HS.out.trans hs)
  have HG1 := hide' (HG.out.keep hs)
  have HBz := hide' (BoxC.keep (BoxC.new (w := w) Cl.zero rfl) hs)
  clear hs HS HG
  go_wp2_with fail
  refine (HI.out _).mono ?_
  rintro e w2 ⟨rfl, hs⟩
  have HS2 := hide' (HS1.out.trans hs)
  have HG2 := hide' (HG1.out.keep hs)
  have HBz2 := hide' (HBz.out.keep hs)
  clear hs HS1 HG1 HBz HW HI
  obtain ⟨z0, z1, z2, z3, f0, f1, f2, f3⟩ := HBz2.out
  cases c
  · have hq : q = Cl.zero := by rw [HQ.out]; unfold atF; rw [← HC.out]; rfl
    have HQ2 := hide' hq
    clear hq HQ
    go_wp2
    exact bodyPost_ret (results_BoxC rfl _ _ _ Cl.zero rfl (HBz2.out.put Cl.zero)) rfl ⟨Cl.ret HQ2.out.symm, BoxC.stay_put HS2.out (by omega) _ _ _ _⟩
  · obtain ⟨X, Y, rfl, rfl, hX, hY⟩ := ins_true HC.out.symm
    have hq : q = f (Y * G.w + X) := by rw [HQ.out, atF_nat f hX hY]
    have HQ2 := hide' hq
    have ct := HG2.out.top
    have cr := HG2.out.rows Y hY
    obtain ⟨c0, c1, c2, c3⟩ := (HG2.out.cells hX hY).four
    have HW2 := hide' HG2.out.h2
    rw [← hq] at c0 c1 c2 c3
    clear HQ HC hq
    obtain ⟨g, br, bc, a, b⟩ := G
    simp only at ct cr c0 c1 c2 c3 hX hY
    obtain ⟨o, ho⟩ : ∃ o, o = Y * a * 4 := ⟨_, rfl⟩
    obtain ⟨cp, hcp⟩ : ∃ o, o = a * b - Y * a := ⟨_, rfl⟩
    rw [← ho] at cr c0 c1 c2 c3
    rw [← hcp] at cr
    clear ho hcp
    have i1 : (X : Int) < (a : Nat) := by omega
    have i2 : (Y : Int) < (b : Nat) := by omega
    go_wp2
    exact bodyPost_ret (results_BoxC rfl _ _ _ q rfl (HBz2.out.put q)) rfl ⟨rfl, BoxC.stay_put HS2.out (by omega) _ _ _ _⟩

end Go.Proofs.Ytcealbdinbfegaa
