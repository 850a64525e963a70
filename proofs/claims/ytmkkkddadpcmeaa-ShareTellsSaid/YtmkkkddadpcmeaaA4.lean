/-
  The floor of a float, the quotas' whole parts and what is left: what the calls do, in whatever world; each quota is a number whose floor is a whole number below 2^31.
-/
import Derived.Test.YtmkkkddadpcmeaaA2
namespace Go.Proofs.Ytmkkkddadpcmeaa
open Go.RowKit

abbrev il' (f : Nat → Nat) : Nat → Value := fun j => .int .i64 (f j : Int)

/-- The floor, a float. -/
def flo (x : Nat) : Nat := FloatKind.f64.encode ((FloatKind.f64.decode x).integral .down)

theorem integral_at (x : Nat) (d : Ieee.Datum) (hd : FloatKind.f64.decode x = d) (h : d.isNaN = false) : Extern.MathFloor.toIntegral "math.archFloor" .down #[.float .f64 x] = pure (.float .f64 (FloatKind.f64.encode (d.integral .down))) := by
  subst hd
  unfold Extern.MathFloor.toIntegral
  show (match FloatKind.f64.decode x with | .nan .. => _ | d => _) = _
  split
  · rename_i s t e
    rw [e] at h
    simp [Ieee.Datum.isNaN] at h
  · rfl

theorem call45 (x : Nat) (h : (FloatKind.f64.decode x).isNaN = false) (w : World) : (callFunc 45 #[.float .f64 x]).run Try.prog w = .ok (.value (.float .f64 (flo x))) w := by
  rw [run_callFunc_extern Try.func45 (by kernel_rfl) (by kernel_rfl) (by kernel_rfl) (e := Extern.MathFloor.toIntegral "math.archFloor" .down) (by kernel_rfl), integral_at x _ rfl h]
  rfl

set_option maxHeartbeats 400000 in
theorem floor_any (x : Nat) (w : World) (h : (FloatKind.f64.decode x).isNaN = false) : Calls Try.prog 41 #[.float .f64 x] w fun e w' => e = .returned (.float .f64 (flo x)) ∧ w = w' := by
  have c45 := call45 x h
  clear h
  go_enter Try.func41, Try.ntmps41
  go_wp2
  all_goals (go_ret; exact ⟨rfl, rfl⟩)

/-- The whole parts, as far as N goes, and what is left. -/
def leftAt (N : Nat) (k : Nat → Nat) : Nat → Nat
  | 0 => N
  | j + 1 => leftAt N k j - min (k j) (leftAt N k j)
def outAt (N : Nat) (k : Nat → Nat) (j : Nat) : Nat := min (k j) (leftAt N k j)

structure WhoIn (w wr : World) (n j N : Nat) (k : Nat → Nat) : Prop where
  row : wr.rowIs w.heap.size 3 n (il' fun i => if i < j then outAt N k i else 0)
  below : Below w.heap.size w wr

theorem WhoIn.start (w : World) (n N : Nat) (k : Nat → Nat) : WhoIn w (w.alloc (.cells (madeCells #[.int .i64 0] n) 3)) n 0 N k :=
  ⟨(World.rowIs_made w _ n 3).congr fun i _ => by simp [il'], (Below.refl _ _).alloc (Nat.le_refl _) _⟩

theorem WhoIn.step {w wr : World} {n j N : Nat} {k : Nat → Nat} (h : WhoIn w wr n j N k) : WhoIn w (wr.setCell ⟨w.heap.size, j, none⟩ (.int .i64 (outAt N k j : Int))) n (j + 1) N k :=
  ⟨(h.row.set j _).congr fun i _ => by
      show (if i = j then _ else _) = _
      by_cases e : i = j
      · subst e; simp
      · simp only [e, if_false, il']
        by_cases hl : i < j
        · rw [if_pos hl, if_pos (by omega)]
        · rw [if_neg hl, if_neg (by omega)],
   h.below.setCell (Nat.le_refl _) _⟩

set_option maxHeartbeats 1000000 in
theorem wholes_any (q k : Nat → Nat) (b off n N cap : Nat) (w : World) (hn : n ≤ 64) (hN : N ≤ 512)
    (hc : ∀ j, j < n → w.cell? ⟨b, off + j, none⟩ = some (.float .f64 (q j)))
    (hq : ∀ j, j < n → (FloatKind.f64.decode (q j)).isNaN = false ∧ floatToIntVal .f64 (flo (q j)) .i64 = some (k j : Int) ∧ k j < 2147483648) :
    Calls Try.prog 35 #[.int .i64 (N : Int), .slice (some ⟨b, off, none⟩) n cap] w fun e w' =>
      e = .returned (.tuple #[.slice (some ⟨w.heap.size, 0, none⟩) n n, .int .i64 (leftAt N k n : Int)]) ∧ w'.rowIs w.heap.size 3 n (il' (outAt N k)) ∧ Below w.heap.size w w' := by
  have hmk := run_make_row' (P := Try.prog) 30 3 (.int .i64 0) 8 Try.underlying30 info3 rfl .i64 .i64 n (by omega) (by omega)
  have hb : 0 < n → b < w.heap.size := fun h => World.block_lt_of_cell? _ _ (hc 0 h)
  have hle : ∀ j, leftAt N k j ≤ N := by
    intro j
    induction j with
    | zero => exact Nat.le_refl _
    | succ j ih => unfold leftAt; omega
  have HC := Lib.hid hc
  have HB := Lib.hid hb
  have HQ := Lib.hid hq
  have HL := Lib.hid hle
  clear hc hb hq hle
  go_enter Try.func35, Try.ntmps35
  go_wp2
  go_loopg [5, 14] n (fun g lv i wr => ∃ j : Nat, j ≤ n ∧ g = n - j ∧ i = .int .i64 (j : Int) ∧ lv = .int .i64 (leftAt N k j : Int) ∧ WhoIn w wr n j N k)
  case atStart => exact ⟨0, Nat.zero_le _, rfl, rfl, rfl, WhoIn.start w n N k⟩
  case round =>
    obtain ⟨j, hj, rfl, rfl, rfl, hI⟩ := hrel
    clear hmk
    by_cases hlt : j < n
    · have hcell : wr.cell? ⟨b, off + j, none⟩ = some (.float .f64 (q j)) := by rw [hI.below.cell (p := ⟨b, off + j, none⟩) (HB.out (by omega))]; exact HC.out j hlt
      have hout : wr.cell? ⟨w.heap.size, j, none⟩ = some (.int .i64 (((if j < j then outAt N k j else 0 : Nat)) : Int)) := hI.row.cell hlt
      have hfr : wr.frozen? ⟨w.heap.size, j, none⟩ = false := hI.row.frozen j
      obtain ⟨h1, h2, h3⟩ := HQ.out j hlt
      have hcv : ∀ W : World, (convert 22 3 (.float .f64 (flo (q j)))).run Try.prog W = .ok (.int .i64 (k j : Int)) W := fun W => run_convert_float_int W 22 3 .f64 .i64 (flo (q j)) (k j : Int) (by kernel_rfl) Try.underlying3 h2
      have H1 := Lib.hid h1
      have HI := Lib.hid hI
      have hle := HL.out j
      have L1 := Lib.hid (show leftAt N k (j + 1) = leftAt N k j - min (k j) (leftAt N k j) from rfl)
      have L2 := Lib.hid (show outAt N k j = min (k j) (leftAt N k j) from rfl)
      clear hI h1 h2
      by_cases hmin : leftAt N k j < k j
      · have hmz : ((leftAt N k j : Nat) : Int) < (k j : Int) := by omega
        go_wp2_with (go_at_call 41; refine (floor_any _ _ H1.out).mono ?_; rintro e w' ⟨rfl, rfl⟩)
        go_roundg (n - (j + 1))
        case measure => omega
        case rel =>
          have e2 : outAt N k j = leftAt N k j := by rw [L2.out]; omega
          refine ⟨j + 1, by omega, rfl, by go_num, ?_, by have := HI.out.step; rw [e2] at this; exact this⟩
          first | rfl | (congr 1; rw [L1.out]; omega)
      · have hmz : ¬ ((leftAt N k j : Nat) : Int) < (k j : Int) := by omega
        go_wp2_with (go_at_call 41; refine (floor_any _ _ H1.out).mono ?_; rintro e w' ⟨rfl, rfl⟩)
        go_roundg (n - (j + 1))
        case measure => omega
        case rel =>
          have e2 : outAt N k j = k j := by rw [L2.out]; omega
          refine ⟨j + 1, by omega, rfl, by go_num, ?_, by have := HI.out.step; rw [e2] at this; exact this⟩
          first | rfl | (congr 1; rw [L1.out]; omega)
    · have : j = n := by omega
      subst this
      go_wp2
      go_ret2
      exact ⟨rfl, hI.row.congr fun i hi => by simp [il', hi], hI.below⟩

end Go.Proofs.Ytmkkkddadpcmeaa
