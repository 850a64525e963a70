/-
  A new list of what a function makes of a list's numbers, and the greatest of a list: what the two calls hand back, in whatever world; the list has 1 to 64 numbers, and for the greatest each is a number.
-/
import Derived.Test.YtmkkkddadpcmeaaA1
import Derived.Deep.OwnRows
import Derived.Deep.LoopGhost
import Derived.Lib.Hide
import Derived.Shelf.Abstract
namespace Go.Proofs.Ytmkkkddadpcmeaa
open Go.RowKit

theorem info22 : (Try.prog.info? 22).map (fun i => (i.zero, i.size, i.bytes)) = some (some (.float .f64 0), 1, 8) := by kernel_rfl
theorem info3 : (Try.prog.info? 3).map (fun i => (i.zero, i.size, i.bytes)) = some (some (.int .i64 0), 1, 8) := by kernel_rfl

theorem store_f (W : World) (a : Addr) (m : Mode) (b : Nat) : Sem.run Try.prog (store a (.float .f64 b) m) W = stored Try.prog W a (.float .f64 b) m := run_store Try.prog W a _ m rfl

/-- The floats of a row, by the index. -/
abbrev fl (f : Nat → Nat) : Nat → Value := fun j => .float .f64 (f j)

/-- What is known of the world in the midst of the list's making: the new row, its first k cells made, and all that was there as it was. -/
structure EachIn (w wr : World) (n k : Nat) (F : Nat → Nat) : Prop where
  row : wr.rowIs w.heap.size 22 n (fl fun j => if j < k then F j else 0)
  below : Below w.heap.size w wr

theorem EachIn.step {w wr : World} {n k : Nat} {F : Nat → Nat} (h : EachIn w wr n k F) : EachIn w (wr.setCell ⟨w.heap.size, k, none⟩ (.float .f64 (F k))) n (k + 1) F :=
  ⟨(h.row.set k _).congr fun i _ => by
      show (if i = k then _ else _) = _
      by_cases e : i = k
      · subst e; simp
      · simp only [e, if_false, fl]
        by_cases hl : i < k
        · rw [if_pos hl, if_pos (by omega)]
        · rw [if_neg hl, if_neg (by omega)],
   h.below.setCell (Nat.le_refl _) _⟩

theorem EachIn.start (w : World) (n : Nat) (F : Nat → Nat) : EachIn w (w.alloc (.cells (madeCells #[.float .f64 0] n) 22)) n 0 F :=
  ⟨(World.rowIs_made w _ n 22).congr fun i _ => by simp [fl], (Below.refl _ _).alloc (Nat.le_refl _) _⟩

set_option maxHeartbeats 400000 in
theorem each_any (g : Nat) (lb : Array Value) (F f : Nat → Nat) (b off n cap : Nat) (w : World) (hn : n ≤ 64)
    (hc : ∀ j, j < n → w.cell? ⟨b, off + j, none⟩ = some (.float .f64 (f j)))
    (eg : ∀ args w, (callFunc g args).run Try.prog w = .ok (.enter g args) w)
    (hf : ∀ W, Below w.heap.size w W → ∀ j, j < n → Calls Try.prog g (#[.float .f64 (f j)] ++ lb) W fun e W' => e = .returned (.float .f64 (F j)) ∧ W = W') :
    Calls Try.prog 27 #[.slice (some ⟨b, off, none⟩) n cap, .func (.func g) #[] lb] w fun e w' =>
      e = .returned (.slice (some ⟨w.heap.size, 0, none⟩) n n) ∧ w'.rowIs w.heap.size 22 n (fl F) ∧ Below w.heap.size w w' := by
  have hmk := run_make_row' (P := Try.prog) 27 22 (.float .f64 0) 8 Try.underlying27 info22 rfl .i64 .i64 n (by omega) (by omega)
  have hb : 0 < n → b < w.heap.size := fun h => World.block_lt_of_cell? _ _ (hc 0 h)
  have HC := Lib.hid hc
  have HB := Lib.hid hb
  have HF := Lib.hid hf
  clear hc hb hf
  have hst := store_f
  go_enter Try.func27, Try.ntmps27
  go_wp2
  go_loopg [13] n (fun g i wr => ∃ k : Nat, k ≤ n ∧ g = n - k ∧ i = .int .i64 k ∧ EachIn w wr n k F)
  case atStart => exact ⟨0, Nat.zero_le _, rfl, rfl, EachIn.start w n F⟩
  case round =>
    obtain ⟨k, hk, rfl, rfl, hI⟩ := hrel
    clear hmk
    by_cases hlt : k < n
    · have hcell : wr.cell? ⟨b, off + k, none⟩ = some (.float .f64 (f k)) := by rw [hI.below.cell (p := ⟨b, off + k, none⟩) (HB.out (by omega))]; exact HC.out k hlt
      have hout : wr.cell? ⟨w.heap.size, k, none⟩ = some (.float .f64 (if k < k then F k else 0)) := hI.row.cell hlt
      have hfr : wr.frozen? ⟨w.heap.size, k, none⟩ = false := hI.row.frozen k
      have HI := Lib.hid hI
      clear hI
      go_wp2_with (go_at_fn g; refine (HF.out _ HI.out.below k hlt).mono ?_; rintro e w' ⟨rfl, rfl⟩)
      go_roundg (n - (k + 1))
      case measure => omega
      case rel => exact ⟨k + 1, by omega, rfl, by go_num, HI.out.step⟩
    · have : k = n := by omega
      subst this
      go_wp2
      go_ret
      exact ⟨rfl, hI.row.congr fun i hi => by simp [fl, hi], hI.below⟩

/-- The greater of two, as the language's max has it. -/
def mx (x y : Nat) : Nat :=
  match fo x y with
  | some .lt => y
  | some .gt => x
  | some .eq => if (FloatKind.f64.decode x).neg then y else x
  | none => 0

theorem run_max_f (W : World) (ts : Array TypeId) (t : TypeId) (x y : Nat) (h : (fo x y).isSome = true) : (Builtin.max_ ts t #[.float .f64 x, .float .f64 y]).run Try.prog W = .ok (.float .f64 (mx x y)) W := by
  obtain ⟨o, ho⟩ := Option.isSome_iff_exists.1 h
  cases o <;> simp [Builtin.max_, Builtin.max2, mx, fo] at ho ⊢ <;> simp [ho]

def maxTo (f : Nat → Nat) : Nat → Nat
  | 0 => f 0
  | k + 1 => mx (maxTo f k) (f (k + 1))

set_option maxHeartbeats 400000 in
theorem max_any (f : Nat → Nat) (b off n cap : Nat) (w : World) (hn : n ≤ 64) (h0 : 0 < n)
    (hc : ∀ j, j < n → w.cell? ⟨b, off + j, none⟩ = some (.float .f64 (f j)))
    (ho : ∀ k, k + 1 < n → (fo (maxTo f k) (f (k + 1))).isSome = true) :
    Calls Try.prog 28 #[.slice (some ⟨b, off, none⟩) n cap] w fun e w' => e = .returned (.float .f64 (maxTo f (n - 1))) ∧ w = w' := by
  have c0 : w.cell? ⟨b, off, none⟩ = some (.float .f64 (f 0)) := hc 0 h0
  have HC := Lib.hid hc
  have HO := Lib.hid ho
  clear hc ho
  go_enter Try.func28, Try.ntmps28
  go_wp2
  go_loopg [3, 4] (n - 1) (fun g m i wr => w = wr ∧ ∃ k : Nat, k < n ∧ g = n - 1 - k ∧ i = .int .i64 ((k + 1 : Nat) : Int) ∧ m = .float .f64 (maxTo f k))
  case atStart => exact ⟨rfl, 0, by omega, rfl, rfl, rfl⟩
  case round =>
    obtain ⟨rfl, k, hk, rfl, rfl, rfl⟩ := hrel
    clear c0
    by_cases hlt : k + 1 < n
    · have hcell : w.cell? ⟨b, off + (k + 1), none⟩ = some (.float .f64 (f (k + 1))) := HC.out (k + 1) hlt
      have hm : ∀ W ts t, (Builtin.max_ ts t #[.float .f64 (maxTo f k), .float .f64 (f (k + 1))]).run Try.prog W = .ok (.float .f64 (maxTo f (k + 1))) W := fun W ts t => run_max_f W ts t _ _ (HO.out k hlt)
      go_wp2
      go_roundg (n - 1 - (k + 1))
      case measure => omega
      case rel => exact ⟨rfl, k + 1, hlt, rfl, by go_num, rfl⟩
    · have : k = n - 1 := by omega
      subst this
      go_wp2
      go_ret
      exact ⟨rfl, rfl⟩

end Go.Proofs.Ytmkkkddadpcmeaa
