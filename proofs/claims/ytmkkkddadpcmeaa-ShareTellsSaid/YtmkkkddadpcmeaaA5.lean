/-
  The quotas, and the rests with the places: what the calls do, in whatever world; every sum, product, quotient and difference on the way is one that the numbers fix.
-/
import Derived.Test.YtmkkkddadpcmeaaA3
import Derived.Test.YtmkkkddadpcmeaaA4
namespace Go.Proofs.Ytmkkkddadpcmeaa
open Go.RowKit

def sumTo (C : Nat → Nat) : Nat → Nat
  | 0 => 0
  | k + 1 => (floatBits .add .f64 (sumTo C k) (C k)).getD 0

set_option maxHeartbeats 400000 in
theorem p1_any (N c s p q : Nat) (A B : Addr) (w : World) (hA : w.cell? A = some (.int .i64 (N : Int))) (hB : w.cell? B = some (.float .f64 s))
    (h1 : floatBits .mul .f64 (floatOfInt .f64 (N : Int)) c = some p) (h2 : floatBits .quo .f64 p s = some q) :
    Calls Try.prog 40 #[.float .f64 c, .pointer (some A), .pointer (some B)] w fun e w' => e = .returned (.float .f64 q) ∧ w = w' := by
  have e1 : ∀ W : World, (binOp .mul 22 (.float .f64 (floatOfInt .f64 (N : Int))) (.float .f64 c)).run Try.prog W = .ok (.float .f64 p) W := fun W => run_float_arith W .mul 22 .f64 _ _ p h1
  have e2 : ∀ W : World, (binOp .quo 22 (.float .f64 p) (.float .f64 s)).run Try.prog W = .ok (.float .f64 q) W := fun W => run_float_arith W .quo 22 .f64 _ _ q h2
  clear h1 h2
  go_enter Try.func40, Try.ntmps40
  go_wp2
  all_goals (go_ret; exact ⟨rfl, rfl⟩)

/-- What is known in the midst of the adding. -/
structure AddIn (w wr : World) (N s : Nat) : Prop where
  box : wr.cell? ⟨w.heap.size, 0, none⟩ = some (.int .i64 (N : Int))
  sum : wr.cell? ⟨w.heap.size + 1, 0, none⟩ = some (.float .f64 s)
  free : wr.frozen? ⟨w.heap.size + 1, 0, none⟩ = false
  size : wr.heap.size = w.heap.size + 2
  below : Below w.heap.size w wr

theorem AddIn.step {w wr : World} {N s t : Nat} (h : AddIn w wr N s) : AddIn w (wr.setCell ⟨w.heap.size + 1, 0, none⟩ (.float .f64 t)) N t where
  box := by
    rw [World.cell?_setCell_other _ _ _ _ (by simp)]
    exact h.box
  sum := World.cell?_setCell_same _ _ _ h.sum
  free := by rw [World.frozen?_setCell]; exact h.free
  size := by simpa [World.setCell] using h.size
  below := h.below.setCell (by simp) _

/-- A fact of whatever make, kept from the walk as it stands. -/
theorem hide' {p : Prop} (h : p) : Hid p := h

set_option maxHeartbeats 1000000 in
theorem parted_any (C Q : Nat → Nat) (b off n N cap : Nat) (w : World) (hn : n ≤ 64)
    (hc : ∀ j, j < n → w.cell? ⟨b, off + j, none⟩ = some (.float .f64 (C j)))
    (hadd : ∀ j, j < n → floatBits .add .f64 (sumTo C j) (C j) = some (sumTo C (j + 1)))
    (hquo : ∀ j, j < n → ∃ p, floatBits .mul .f64 (floatOfInt .f64 (N : Int)) (C j) = some p ∧ floatBits .quo .f64 p (sumTo C n) = some (Q j)) :
    Calls Try.prog 34 #[.int .i64 (N : Int), .slice (some ⟨b, off, none⟩) n cap] w fun e w' =>
      ∃ B, w.heap.size ≤ B ∧ e = .returned (.slice (some ⟨B, 0, none⟩) n n) ∧ w'.rowIs B 22 n (fl Q) ∧ Below w.heap.size w w' := by
  have hb : 0 < n → b < w.heap.size := fun h => World.block_lt_of_cell? _ _ (hc 0 h)
  have HC := Lib.hid hc
  have HB := Lib.hid hb
  have HA := Lib.hid hadd
  have HQ := Lib.hid hquo
  clear hc hb hadd hquo
  have hst := store_f
  go_enter Try.func34, Try.ntmps34
  go_wp2
  go_loopg [10] n (fun g i wr => ∃ j : Nat, j ≤ n ∧ g = n - j ∧ i = .int .i64 (j : Int) ∧ AddIn w wr N (sumTo C j))
  case atStart =>
    refine ⟨0, Nat.zero_le _, rfl, rfl, ?_⟩
    show AddIn w _ N 0
    exact ⟨by go_simp, by go_simp, by go_simp, by simp, by go_grown⟩
  case round =>
    obtain ⟨j, hj, rfl, rfl, hI⟩ := hrel
    by_cases hlt : j < n
    · have hcell : wr.cell? ⟨b, off + j, none⟩ = some (.float .f64 (C j)) := by rw [hI.below.cell (p := ⟨b, off + j, none⟩) (HB.out (by omega))]; exact HC.out j hlt
      have hs := hI.sum
      have hf := hI.free
      have ha : ∀ W : World, (binOp .add 22 (.float .f64 (sumTo C j)) (.float .f64 (C j))).run Try.prog W = .ok (.float .f64 (sumTo C (j + 1))) W := fun W => run_float_arith W .add 22 .f64 _ _ _ (HA.out j hlt)
      have HI := Lib.hid hI
      clear hI
      go_wp2
      go_roundg (n - (j + 1))
      case measure => omega
      case rel => exact ⟨j + 1, by omega, rfl, by go_num, HI.out.step⟩
    · have : j = n := by omega
      subst this
      have HI := Lib.hid hI
      clear hI
      have hE := each_any 40 #[.pointer (some ⟨w.heap.size, 0, none⟩), .pointer (some ⟨w.heap.size + 1, 0, none⟩)] Q C b off j cap wr hn
        (fun i hi => by rw [HI.out.below.cell (p := ⟨b, off + i, none⟩) (HB.out (by omega))]; exact HC.out i hi) (enters_of Try.func40 (by kernel_rfl) rfl)
        (fun W hW i hi => by
          obtain ⟨p, h1, h2⟩ := HQ.out i hi
          have hs := HI.out.size
          exact p1_any N (C i) (sumTo C j) p (Q i) ⟨w.heap.size, 0, none⟩ ⟨w.heap.size + 1, 0, none⟩ W ((hW.cell (p := ⟨w.heap.size, 0, none⟩) (by show w.heap.size < wr.heap.size; omega)).trans HI.out.box) ((hW.cell (p := ⟨w.heap.size + 1, 0, none⟩) (by show w.heap.size + 1 < wr.heap.size; omega)).trans HI.out.sum) h1 h2)
      have HE := hide' hE
      clear hE
      go_wp2_with fail
      refine HE.out.mono ?_
      rintro e w' ⟨rfl, hrow, hbel⟩
      go_wp2
      go_ret
      have hsz := HI.out.size
      exact ⟨wr.heap.size, by omega, rfl, hrow, HI.out.below.trans (hbel.mono (by omega))⟩

end Go.Proofs.Ytmkkkddadpcmeaa
