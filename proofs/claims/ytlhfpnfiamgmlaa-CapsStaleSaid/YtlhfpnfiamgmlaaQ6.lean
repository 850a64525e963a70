/-
  Numbers are sorted by insertion: walked. No conditions.
-/
import Derived.Test.YtlhfpnfiamgmlaaQ5
import Derived.Deep.DeepCutAuto
import Derived.BigQuiet
namespace Go.Proofs.Ytlhfpnfiamgmlaa
open Go.RowKit

/-- A row of numbers that may be written. -/
def IRow (w : World) (g n : Nat) (h : Nat → Int) : Prop := ∀ i, i < n → w.cell? ⟨g, i, none⟩ = some (.int .i64 (h i)) ∧ w.frozen? ⟨g, i, none⟩ = false

theorem IRow.keepN {w : World} {g n : Nat} {h : Nat → Int} (H : IRow w g n h) (m : Nat) : IRow (w.drewN m) g n h := H

theorem IRow.stay {S : Nat → Prop} {w w1 : World} {g n : Nat} {h : Nat → Int} (H : IRow w g n h) (hs : Stay S w w1) (hn : ¬ S g) : IRow w1 g n h := fun i hi => by
  have hb : g < w.heap.size := World.block_lt_of_cell? _ _ (H i hi).1
  exact ⟨(hs.cell (p := ⟨g, i, none⟩) hb hn).trans (H i hi).1, (hs.frozen (p := ⟨g, i, none⟩) hb hn).trans (H i hi).2⟩

theorem IRow.set {w : World} {g n : Nat} {h : Nat → Int} (H : IRow w g n h) {k : Nat} (hk : k < n) (x : Int) : IRow (w.setCell ⟨g, k, none⟩ (.int .i64 x)) g n (fun i => if i = k then x else h i) := by
  intro i hi
  refine ⟨?_, (World.frozen?_setCells g [.int .i64 x] k w _).trans (H i hi).2⟩
  by_cases e : i = k
  · subst e
    simp only [if_pos]
    exact World.cell?_setCell_same _ _ _ (H i hi).1
  · simp only [if_neg e]
    exact (World.cell?_setCells_out g [.int .i64 x] k w ⟨g, i, none⟩ (fun _ _ => by show i < k ∨ k + 1 ≤ i; omega)).trans (H i hi).1

theorem IRow.congr {w : World} {g n : Nat} {h h' : Nat → Int} (H : IRow w g n h) (e : ∀ i, i < n → h i = h' i) : IRow w g n h' := fun i hi => by rw [← e i hi]; exact H i hi

/-- The same numbers. -/
def MemN (n : Nat) (g h : Nat → Int) : Prop := ∀ v, (∃ k, k < n ∧ g k = v) ↔ (∃ k, k < n ∧ h k = v)

def swf (g : Nat → Int) (a b : Nat) : Nat → Int := fun k => if k = a then g b else if k = b then g a else g k

theorem MemN.swap {n : Nat} {g h : Nat → Int} (H : MemN n g h) {a b : Nat} (ha : a < n) (hb : b < n) : MemN n g (swf h a b) := by
  intro v
  rw [H v]
  constructor
  · rintro ⟨k, hk, e⟩
    by_cases h1 : k = a
    · subst h1
      by_cases h2 : b = k
      · subst h2; exact ⟨b, hk, by unfold swf; rw [if_pos rfl]; exact e⟩
      · exact ⟨b, hb, by unfold swf; rw [if_neg h2, if_pos rfl]; exact e⟩
    · by_cases h2 : k = b
      · subst h2; exact ⟨a, ha, by unfold swf; rw [if_pos rfl]; exact e⟩
      · exact ⟨k, hk, by unfold swf; rw [if_neg h1, if_neg h2]; exact e⟩
  · rintro ⟨k, hk, e⟩
    unfold swf at e
    by_cases h1 : k = a
    · rw [if_pos h1] at e; exact ⟨b, hb, e⟩
    · rw [if_neg h1] at e
      by_cases h2 : k = b
      · rw [if_pos h2] at e; exact ⟨a, ha, e⟩
      · rw [if_neg h2] at e; exact ⟨k, hk, e⟩

/-- The first ones are in order. -/
def Upto (g : Nat → Int) (i : Nat) : Prop := ∀ p q, p < q → q < i → g p ≤ g q

/-- All are in order but one, which those behind it are not below. -/
def But (g : Nat → Int) (i j : Nat) : Prop := (∀ p q, p < q → q ≤ i → p ≠ j → q ≠ j → g p ≤ g q) ∧ ∀ q, j < q → q ≤ i → g j ≤ g q

theorem Upto.but {g : Nat → Int} {i : Nat} (h : Upto g i) : But g i i := ⟨fun p q h1 h2 _ h4 => h p q h1 (by omega), fun q h1 h2 => by omega⟩

theorem But.done {g : Nat → Int} {i j : Nat} (h : But g i j) (hj : j = 0 ∨ ∃ l, j = l + 1 ∧ g l ≤ g j) : Upto g (i + 1) := by
  intro p q h1 h2
  by_cases hp : p = j
  · subst hp; exact h.2 q h1 (by omega)
  · by_cases hq : q = j
    · subst hq
      rcases hj with hj | ⟨l, hl, hle⟩
      · omega
      · by_cases hpl : p = l
        · subst hpl; exact hle
        · have := h.1 p l (by omega) (by omega) hp (by omega)
          omega
    · exact h.1 p q h1 (by omega) hp hq

theorem But.step {g : Nat → Int} {i j : Nat} (h : But g i (j + 1)) (hj : j + 1 ≤ i) (hlt : g (j + 1) < g j) : But (swf g (j + 1) j) i j := by
  have v1 : swf g (j + 1) j (j + 1) = g j := by unfold swf; rw [if_pos rfl]
  have v0 : swf g (j + 1) j j = g (j + 1) := by unfold swf; rw [if_neg (by omega), if_pos rfl]
  have vo : ∀ k, k ≠ j → k ≠ j + 1 → swf g (j + 1) j k = g k := fun k h1 h2 => by unfold swf; rw [if_neg h2, if_neg h1]
  refine ⟨fun p q h1 h2 h3 h4 => ?_, fun q h1 h2 => ?_⟩
  · by_cases hp : p = j + 1
    · subst hp
      rw [v1, vo q (by omega) (by omega)]
      exact h.1 j q (by omega) h2 (by omega) (by omega)
    · by_cases hq : q = j + 1
      · subst hq
        rw [v1, vo p h3 hp]
        exact h.1 p j (by omega) (by omega) (by omega) (by omega)
      · rw [vo p h3 hp, vo q h4 hq]
        exact h.1 p q h1 h2 hp hq
  · rw [v0]
    by_cases hq : q = j + 1
    · subst hq; rw [v1]; omega
    · rw [vo q (by omega) hq]
      exact h.2 q (by omega) h2

theorem nan64 (x : Int) (w : World) : Calls Try.prog 64 #[.int .i64 x] w fun e w' => e = .returned (.bool false) ∧ w = w' := by
  go_enter Try.func64, Try.ntmps64
  go_wp2
  go_ret
  exact ⟨by simp, rfl⟩

theorem less54 (x y : Int) (w : World) : Calls Try.prog 54 #[.int .i64 x, .int .i64 y] w fun e w' => e = .returned (.bool (decide (x < y))) ∧ w = w' := by
  go_enter Try.func54, Try.ntmps54
  go_wp2_with fail
  refine (nan64 x w).mono ?_
  rintro _ w1 ⟨rfl, rfl⟩
  go_wp2
  go_ret
  exact ⟨rfl, rfl⟩

/-- While a row is sorted. -/
def Srt (w : World) (B n : Nat) (g0 : Nat → Int) (wr : World) (g : Nat → Int) : Prop := Stay (fun j => j = B) w wr ∧ IRow wr B n g ∧ MemN n g0 g

theorem Srt.swap {w wr : World} {B n : Nat} {g0 g : Nat → Int} (h : Srt w B n g0 wr g) {j : Nat} (hj : j + 1 < n) : Srt w B n g0 ((wr.setCell ⟨B, j + 1, none⟩ (.int .i64 (g j))).setCell ⟨B, j, none⟩ (.int .i64 (g (j + 1)))) (swf g (j + 1) j) :=
  ⟨(h.1.setCell (p := ⟨B, j + 1, none⟩) rfl _).setCell (p := ⟨B, j, none⟩) rfl _, ((h.2.1.set hj (g j)).set (k := j) (by omega) (g (j + 1))).congr (fun i _ => by
    unfold swf
    by_cases h1 : i = j
    · subst h1; rw [if_pos rfl, if_neg (by omega), if_pos rfl]
    · rw [if_neg h1]
      by_cases h2 : i = j + 1
      · rw [if_pos h2, if_pos h2]
      · rw [if_neg h2, if_neg h2, if_neg h1]), h.2.2.swap hj (by omega)⟩

theorem Srt.drewN {w wr : World} {B n : Nat} {g0 g : Nat → Int} (h : Srt w B n g0 wr g) (m : Nat) : Srt w B n g0 (wr.drewN m) g := ⟨h.1.drewN m, h.2.1, h.2.2⟩

/-- What comes of sorting. -/
def SOut (B n : Nat) (g0 : Nat → Int) (w : World) (e : Ending) (w' : World) : Prop := e = .returned (.tuple #[]) ∧ ∃ g, Srt w B n g0 w' g ∧ Upto g n

set_option maxHeartbeats 2000000 in
theorem insertion48 (B n cap : Nat) (g0 : Nat → Int) (w : World) (hr : IRow w B n g0) (hn : n ≤ 20) : Calls Try.prog 48 #[.slice (some ⟨B, 0, none⟩) n cap, .int .i64 0, .int .i64 (n : Nat)] w (SOut B n g0 w) := by
  have HS : Hid (Srt w B n g0 w g0) := ⟨Stay.refl _ _, hr, fun _ => Iff.rfl⟩
  have HN := hide' hn
  have hnz : (n : Int) ≤ 20 := by omega
  clear hr hn
  go_enter Try.func48, Try.ntmps48
  go_wp2
  go_loopg [6] n (fun gg v6 wr => ∃ (i : Nat) (g : Nat → Int), v6 = .int .i64 (i : Int) ∧ 0 < i ∧ i ≤ n + 1 ∧ n + 1 - i ≤ gg + 1 ∧ Hid (Srt w B n g0 wr g) ∧ Hid (Upto g i))
  case atStart => exact ⟨1, g0, rfl, by omega, by omega, by omega, HS, fun p q h1 h2 => by omega⟩
  case round =>
    clear HS
    obtain ⟨i, g, rfl, hi0, hin, hgg, HW, HO⟩ := hrel
    by_cases hlt : i < n
    · have hltz : (i : Int) < (n : Int) := by omega
      go_wp2
      go_loopg [7] i (fun g2 v7 wr => ∃ (j : Nat) (g : Nat → Int), v7 = .int .i64 (j : Int) ∧ j ≤ i ∧ j ≤ g2 ∧ Hid (Srt w B n g0 wr g) ∧ Hid (But g i j))
      case atStart => exact ⟨i, g, rfl, Nat.le_refl _, Nat.le_refl _, HW, HO.out.but⟩
      case round =>
        clear HW HO
        obtain ⟨j, g, rfl, hji, hg2, HW, HI⟩ := hrel
        by_cases hj0 : 0 < j
        · obtain ⟨jp, rfl⟩ : ∃ jp, j = jp + 1 := ⟨j - 1, by omega⟩
          have hjaz : (0 : Int) < (jp : Int) + 1 := by omega
          have hwp : IntKind.i64.wrap (jp : Int) = (jp : Int) := by rw [IntKind.wrap_i64]; omega
          have jz : (jp : Int) + 1 < (n : Int) := by omega
          have jz1 : (jp : Int) < (n : Int) := by omega
          have p0 : (0 : Int) ≤ (jp : Int) + 1 := by omega
          have e0 : ((jp : Int) + 1).toNat = jp + 1 := by omega
          obtain ⟨cj, fj⟩ := HW.out.2.1 (jp + 1) (by omega)
          obtain ⟨cp, fp⟩ := HW.out.2.1 jp (by omega)
          by_cases hlv : g (jp + 1) < g jp
          · have dlv : decide (g (jp + 1) < g jp) = true := decide_eq_true hlv
            go_wp2_with fail
            go_quiet ((go_at_call 54; exact Calls.quiet_of_same ((less54 _ _ _).mono fun _ _ h => ⟨h.1, h.2.symm⟩)))
            go_wp2_with fail
            have HW2 : Hid (Srt w B n g0 (wr.drewN nq) g) := HW.out.drewN nq
            have cj2 : (wr.drewN nq).cell? ⟨B, jp + 1, none⟩ = some (.int .i64 (g (jp + 1))) := cj
            have cp2 : (wr.drewN nq).cell? ⟨B, jp, none⟩ = some (.int .i64 (g jp)) := cp
            have fj2 : (wr.drewN nq).frozen? ⟨B, jp + 1, none⟩ = false := fj
            have fp2 : (wr.drewN nq).frozen? ⟨B, jp, none⟩ = false := fp
            have HLV := hide' hlv
            clear cj cp fj fp HW hlv dlv
            generalize wr.drewN nq = wq at HW2 cj2 cp2 fj2 fp2 ⊢
            obtain ⟨j1, hj1⟩ : ∃ j1, j1 = jp + 1 := ⟨_, rfl⟩
            obtain ⟨x1, hx1⟩ : ∃ x, x = g (jp + 1) := ⟨_, rfl⟩
            obtain ⟨x0, hx0⟩ : ∃ x, x = g jp := ⟨_, rfl⟩
            rw [← hx1] at cj2 HLV ⊢
            rw [← hx0] at cp2 HLV ⊢
            rw [← hj1] at cj2 fj2 e0
            have J1 : Hid (j1 = jp + 1) := hj1
            have X1 : Hid (x1 = g (jp + 1)) := hx1
            have X0 : Hid (x0 = g jp) := hx0
            clear hj1 hx1 hx0
            go_region
            all_goals go_wp2
            go_roundg jp
            case measure => omega
            case rel =>
              refine ⟨jp, swf g (jp + 1) jp, by first | rfl | go_num | (congr 1; omega), by omega, Nat.le_refl _, ?_, ?_⟩
              · have hs := HW2.out.swap (j := jp) (by omega)
                rw [← X1.out, ← X0.out, ← J1.out] at hs
                rw [← J1.out]
                exact hs.drewN 1
              · exact HI.out.step (by omega) (by rw [← X1.out, ← X0.out]; exact HLV.out)
          · have dlv : decide (g (jp + 1) < g jp) = false := decide_eq_false hlv
            have HIN : Hid (Upto g (i + 1)) := HI.out.done (.inr ⟨jp, rfl, by omega⟩)
            go_wp2_with fail
            go_quiet ((go_at_call 54; exact Calls.quiet_of_same ((less54 _ _ _).mono fun _ _ h => ⟨h.1, h.2.symm⟩)))
            go_wp2
            go_roundg (n - (i + 1))
            case measure => omega
            case rel => exact ⟨i + 1, g, by first | rfl | go_num | (congr 1; omega), by omega, by omega, by omega, HW.out.drewN _, HIN⟩
        · have hf : decide ((0 : Int) < (j : Int)) = false := decide_eq_false (by omega)
          have HIN : Hid (Upto g (i + 1)) := HI.out.done (Or.inl (by omega))
          go_wp2_with fail
          go_quiet (fail)
          go_wp2
          go_roundg (n - (i + 1))
          case measure => omega
          case rel => exact ⟨i + 1, g, by first | rfl | go_num | (congr 1; omega), by omega, by omega, by omega, HW.out.drewN _, HIN⟩
    · go_wp2
      go_returns
      exact ⟨rfl, g, HW.out, fun p q h1 h2 => HO.out p q h1 (by omega)⟩

end Go.Proofs.Ytlhfpnfiamgmlaa
