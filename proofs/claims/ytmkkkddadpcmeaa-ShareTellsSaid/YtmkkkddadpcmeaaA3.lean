/-
  The comparison of two places by their rests, and the sort by insertion: what the calls do, in whatever world in which the row lies by itself.
-/
import Derived.Test.YtmkkkddadpcmeaaA2
import Derived.Test.YtmkkkddadpcmeaaC0
import Derived.Deep.QuietTactic
import Derived.BigQuiet
import Derived.BigRegion
import Derived.Deep.Draws
namespace Go.Proofs.Ytmkkkddadpcmeaa
open Go.RowKit

/-- The whole numbers of a row, by the index. -/
abbrev il (f : Nat → Nat) : Nat → Value := fun j => .int .i64 (f j : Int)

set_option maxRecDepth 100000 in
set_option maxHeartbeats 400000 in
theorem cmp_any (rs : Nat → Nat) (n x y C R cap : Nat) (w : World) (hx : x < n) (hy : y < n) (hC : w.cell? ⟨C, 0, none⟩ = some (.slice (some ⟨R, 0, none⟩) n cap))
    (hR : ∀ j, j < n → w.cell? ⟨R, j, none⟩ = some (.float .f64 (rs j))) :
    Calls Try.prog 44 #[.int .i64 (x : Int), .int .i64 (y : Int), .pointer (some ⟨C, 0, none⟩)] w fun e w' => e = .returned (.int .i64 (ordI (rs y) (rs x))) ∧ ∃ q, w' = w.drewN q := by
  have cx := hR x hx
  have cy := hR y hy
  have bx : (x : Int) < n := by omega
  have bY : (y : Int) < n := by omega
  clear hR hx hy
  go_enter Try.func44, Try.ntmps44
  go_wp2_with fail
  go_quiet ((go_at_call 8; exact Calls.quiet_of_same ((order_any _ _ _).mono fun _ _ h => ⟨h.1, h.2.symm⟩)))
  go_wp2
  go_ret
  exact ⟨rfl, _, rfl⟩

/-- In the midst of a sort: block B is the row, and nothing else that was there has turned. -/
structure SW (w wr : World) (B n : Nat) (D : Nat → Nat) : Prop where
  row : wr.rowIs B 3 n (il D)
  only : w.grownBy wr (some B)

theorem SW.drewN {w wr : World} {B n : Nat} {D : Nat → Nat} (h : SW w wr B n D) (q : Nat) : SW w (wr.drewN q) B n D :=
  ⟨h.row, h.only.os, h.only.tape, h.only.output, h.only.size, h.only.block⟩

theorem only_set {w wr : World} {B : Nat} (h : w.grownBy wr (some B)) (k : Nat) (v : Value) : w.grownBy (wr.setCell ⟨B, k, none⟩ v) (some B) :=
  ⟨h.os, h.tape, h.output, by simpa [World.setCell] using h.size, fun i hi hne => (Below.heap_setCell wr ⟨B, k, none⟩ v i (fun e => hne (by rw [e]))).trans (h.block i hi hne)⟩

theorem SW.swap {w wr : World} {B n : Nat} {D : Nat → Nat} (h : SW w wr B n D) (i j : Nat) (hij : i ≠ j) :
    SW w ((wr.setCell ⟨B, i, none⟩ (.int .i64 (D j : Int))).setCell ⟨B, j, none⟩ (.int .i64 (D i : Int))) B n (swf D i j) := by
  refine ⟨((h.row.set i _).set j _).congr fun k hk => ?_, only_set (only_set h.only _ _) _ _⟩
  show (if k = j then _ else if k = i then _ else il D k) = il (swf D i j) k
  unfold il swf
  by_cases e1 : k = j
  · subst e1
    rw [if_pos rfl, if_neg (fun e => hij e.symm), if_pos rfl]
  · rw [if_neg e1]
    by_cases e2 : k = i
    · subst e2; rw [if_pos rfl, if_pos rfl]
    · rw [if_neg e2, if_neg e2, if_neg e1]

/-- What is asked of the comparison: in every world that the sort comes to, called with two numbers below m. -/
def CmpOk (g : Nat) (lb : Array Value) (cf : Nat → Nat → Int) (B m : Nat) (w : World) : Prop :=
  ∀ wr, w.grownBy wr (some B) → ∀ x y, x < m → y < m → Calls Try.prog g (#[.int .i64 (x : Int), .int .i64 (y : Int)] ++ lb) wr fun e w' => e = .returned (.int .i64 (cf x y)) ∧ ∃ q, w' = wr.drewN q

theorem PermW.one {a : Nat} {D E : Nat → Nat} (h : PermW a (a + 1) D E) : PermW a a D E := by
  have e : E a = D a := by
    obtain ⟨k, h1, h2, h3⟩ := (h.mem (E a)).1 ⟨a, Nat.le_refl _, by omega, rfl⟩
    have : k = a := by omega
    subst this
    exact h3.symm
  have all : ∀ k, E k = D k := fun k => by
    by_cases hk : k = a
    · subst hk; exact e
    · exact h.out k (by omega)
  exact ⟨fun v => ⟨fun ⟨k, h1, h2, _⟩ => by omega, fun ⟨k, h1, h2, _⟩ => by omega⟩, fun k _ => all k⟩

set_option maxHeartbeats 1000000 in
set_option maxRecDepth 1000000 in
theorem insertion_any (g : Nat) (lb : Array Value) (cf : Nat → Nat → Int) (B n m a b cap : Nat) (D : Nat → Nat) (w w0 : World) (hab : a ≤ b) (hb : b ≤ n) (hn : n ≤ 64)
    (eg : ∀ args w, (callFunc g args).run Try.prog w = .ok (.enter g args) w) (hcf : Cmp cf) (hcmp : CmpOk g lb cf B m w) (hSW : SW w w0 B n D) (hm : ∀ k, a ≤ k → k < b → D k < m)
    (hD : ∀ k l, a ≤ k → k < l → l < b → D k < D l) :
    Calls Try.prog 49 #[.slice (some ⟨B, 0, none⟩) n cap, .int .i64 (a : Int), .int .i64 (b : Int), .func (.func g) #[] lb] w0 fun e w' =>
      e = .returned (.tuple #[]) ∧ ∃ E, SW w w' B n E ∧ PermW a b D E ∧ Chain cf a b E := by
  have HC := Lib.hid hcf
  have HM := Lib.hid hcmp
  have HS := Lib.hid hSW
  have HL := Lib.hid hm
  have HD := Lib.hid hD
  clear hcf hcmp hSW hm hD
  go_enter Try.func49, Try.ntmps49
  go_wp2
  go_loopg [8] (b - a) (fun g1 vi wr => ∃ (i : Nat) (E : Nat → Nat), vi = .int .i64 (i : Int) ∧ a < i ∧ i ≤ b + 1 ∧ b + 1 - i ≤ g1 + 1 ∧ Hid (SW w wr B n E) ∧ Hid (Outer cf a b i D E) ∧ Hid (b < i → a = b))
  case atStart => exact ⟨a + 1, D, by go_num, by omega, by omega, by omega, HS.out, Outer.start cf a b D, fun _ => by omega⟩
  case round =>
    obtain ⟨i, E, rfl, hai, hib, hg1, HW, HO, HB⟩ := hrel
    by_cases hlt : i < b
    · have hltz : (i : Int) < (b : Int) := by omega
      go_wp2
      go_loopg [9] i (fun g2 vj wr2 => ∃ (j : Nat) (E2 : Nat → Nat), vj = .int .i64 (j : Int) ∧ a ≤ j ∧ j ≤ i ∧ j ≤ g2 ∧ Hid (SW w wr2 B n E2) ∧ Hid (Inner cf a i j D E2))
      case atStart => exact ⟨i, E, rfl, by omega, Nat.le_refl _, Nat.le_refl _, HW, HO.out.inner (fun k h1 h2 => HD.out k i h1 h2 hlt)⟩
      case round =>
        clear HW HO
        obtain ⟨j, E2, rfl, haj, hji, hg2, HW, HI⟩ := hrel
        by_cases hja : a < j
        · obtain ⟨jp, rfl⟩ : ∃ jp, j = jp + 1 := ⟨j - 1, by omega⟩
          have hjaz : (a : Int) < (jp : Int) + 1 := by omega
          have hwp : IntKind.i64.wrap (jp : Int) = (jp : Int) := by rw [IntKind.wrap_i64]; omega
          have jz : (jp : Int) + 1 < (n : Int) := by omega
          have jz1 : (jp : Int) < (n : Int) := by omega
          have p0 : (0 : Int) ≤ (jp : Int) + 1 := by omega
          have e0 : ((jp : Int) + 1).toNat = jp + 1 := by omega
          have cj : wr.cell? ⟨B, jp + 1, none⟩ = some (.int .i64 (E2 (jp + 1) : Int)) := HW.out.row.cell (by omega)
          have cp : wr.cell? ⟨B, jp, none⟩ = some (.int .i64 (E2 jp : Int)) := HW.out.row.cell (by omega)
          have fj : wr.frozen? ⟨B, jp + 1, none⟩ = false := HW.out.row.frozen _
          have fp : wr.frozen? ⟨B, jp, none⟩ = false := HW.out.row.frozen _
          have hc := fun q => HM.out (wr.drewN q) (HW.out.drewN q).only (E2 (jp + 1)) (E2 jp) (HI.out.perm.all (· < m) (fun k h1 h2 => HL.out k h1 (by omega)) _ (by omega) (by omega)) (HI.out.perm.all (· < m) (fun k h1 h2 => HL.out k h1 (by omega)) _ (by omega) (by omega))
          by_cases hlv : cf (E2 (jp + 1)) (E2 jp) < 0
          · go_wp2_with fail
            go_quiet ((go_at_fn g; exact Calls.quiet_of (hc _)))
            go_wp2_with fail
            have HW2 : Hid (SW w (wr.drewN nq) B n E2) := HW.out.drewN nq
            have cj2 : (wr.drewN nq).cell? ⟨B, jp + 1, none⟩ = some (.int .i64 (E2 (jp + 1) : Int)) := cj
            have cp2 : (wr.drewN nq).cell? ⟨B, jp, none⟩ = some (.int .i64 (E2 jp : Int)) := cp
            have fj2 : (wr.drewN nq).frozen? ⟨B, jp + 1, none⟩ = false := fj
            have fp2 : (wr.drewN nq).frozen? ⟨B, jp, none⟩ = false := fp
            have HLV := Lib.hid hlv
            clear cj cp fj fp hc HW hlv
            generalize wr.drewN nq = wq at HW2 cj2 cp2 fj2 fp2 ⊢
            obtain ⟨j1, hj1⟩ : ∃ j1, j1 = jp + 1 := ⟨_, rfl⟩
            obtain ⟨x1, hx1⟩ : ∃ x, x = E2 (jp + 1) := ⟨_, rfl⟩
            obtain ⟨x0, hx0⟩ : ∃ x, x = E2 jp := ⟨_, rfl⟩
            rw [← hx1] at cj2 HLV ⊢
            rw [← hx0] at cp2 HLV ⊢
            rw [← hj1] at cj2 fj2 e0
            have J1 : Hid (j1 = jp + 1) := hj1
            have X1 : Hid (x1 = E2 (jp + 1)) := hx1
            have X0 : Hid (x0 = E2 jp) := hx0
            clear hj1 hx1 hx0
            go_region
            all_goals go_wp2
            go_roundg jp
            case measure => omega
            case rel =>
              refine ⟨jp, swf E2 (jp + 1) jp, by first | rfl | go_num | (congr 1; omega), by omega, by omega, Nat.le_refl _, ?_, ?_⟩
              · have hs := HW2.out.swap (jp + 1) jp (by omega)
                rw [← X1.out, ← X0.out, ← J1.out] at hs
                rw [← J1.out]
                exact hs.drewN 1
              · exact HI.out.step (by omega) (by omega) (by rw [← X1.out, ← X0.out]; exact HLV.out)
          · have HIN : Hid (Outer cf a b (i + 1) D E2) := HI.out.done HC.out hji (Or.inr hlv)
            go_wp2_with fail
            go_quiet ((go_at_fn g; exact Calls.quiet_of (hc _)))
            go_wp2
            go_roundg (b - (i + 1))
            case measure => omega
            case rel => exact ⟨i + 1, E2, by first | rfl | go_num | (congr 1; omega), by omega, by omega, by omega, HW.out.drewN _, HIN.out, fun h => absurd h (by omega)⟩
        · have hf : decide ((a : Int) < (j : Int)) = false := decide_eq_false (by omega)
          have HIN : Hid (Outer cf a b (i + 1) D E2) := HI.out.done HC.out hji (Or.inl (by omega))
          go_wp2_with fail
          go_quiet (fail)
          go_wp2
          go_roundg (b - (i + 1))
          case measure => omega
          case rel => exact ⟨i + 1, E2, by first | rfl | go_num | (congr 1; omega), by omega, by omega, by omega, HW.out.drewN _, HIN.out, fun h => absurd h (by omega)⟩
    · go_wp2
      go_end0
      refine ⟨rfl, E, HW.out, ?_⟩
      by_cases e : i = b
      · subst e; exact ⟨HO.out.perm, HO.out.chain⟩
      · have e2 := HB.out (by omega)
        subst e2
        have e3 : i = a + 1 := by omega
        subst e3
        exact ⟨HO.out.perm.one, fun k l h1 h2 h3 => by omega⟩

end Go.Proofs.Ytmkkkddadpcmeaa
