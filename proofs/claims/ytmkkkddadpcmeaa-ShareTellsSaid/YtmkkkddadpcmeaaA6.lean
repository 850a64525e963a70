/-
  The stable sort of fewer than twenty places, and the places by their rests: what the calls do, in whatever world.
-/
import Derived.Test.YtmkkkddadpcmeaaA5
import Derived.Test.YtmkkkddadpcmeaaB0
namespace Go.Proofs.Ytmkkkddadpcmeaa
open Go.RowKit

/-- What the library's stable sort of n places does, said of one length. -/
def SortAt (n : Nat) : Prop :=
  ∀ (g : Nat) (lb : Array Value) (cf : Nat → Nat → Int) (B m cap : Nat) (D : Nat → Nat) (w w0 : World), (∀ args w, (callFunc g args).run Try.prog w = .ok (.enter g args) w) → Cmp cf → CmpOk g lb cf B m w →
    SW w w0 B n D → (∀ k, 0 ≤ k → k < n → D k < m) → (∀ k l, 0 ≤ k → k < l → l < n → D k < D l) →
    Calls Try.prog 43 #[.slice (some ⟨B, 0, none⟩) n cap, .func (.func g) #[] lb] w0 fun e w' => e = .returned (.tuple #[]) ∧ ∃ E, SW w w' B n E ∧ PermW 0 n D E ∧ Chain cf 0 n E

set_option maxHeartbeats 1000000 in
set_option maxRecDepth 100000 in
theorem stable_small (n g cap : Nat) (lb : Array Value) (B : Nat) (w0 : World) (hn : n < 20) (R : World → Prop)
    (hI : Calls Try.prog 49 #[.slice (some ⟨B, 0, none⟩) n cap, .int .i64 ((0 : Nat) : Int), .int .i64 (n : Int), .func (.func g) #[] lb] w0 fun e w' => e = .returned (.tuple #[]) ∧ R w') :
    Calls Try.prog 47 #[.slice (some ⟨B, 0, none⟩) n cap, .int .i64 (n : Int), .func (.func g) #[] lb] w0 fun e w' => e = .returned (.tuple #[]) ∧ Hid (R w') := by
  have HI := hide' hI
  clear hI
  go_enter Try.func47, Try.ntmps47
  go_wp2_with fail
  go_loopg [7, 8] 0 (fun g1 va vb wr => wr = w0 ∧ va = .int .i64 0 ∧ vb = .int .i64 20)
  case atStart => exact ⟨rfl, rfl, rfl⟩
  case round =>
    obtain ⟨rfl, rfl, rfl⟩ := hrel
    go_wp2_with fail
    refine HI.out.mono ?_
    rintro e w' ⟨rfl, hE⟩
    have HE := hide' hE
    clear hE
    go_wp2_with fail
    go_loopg [6] 0 (fun g1 vb wr => wr = w' ∧ vb = .int .i64 20)
    case atStart => exact ⟨rfl, rfl⟩
    case round =>
      obtain ⟨rfl, rfl⟩ := hrel
      go_wp2
      go_end0
      exact ⟨rfl, HE⟩

set_option maxHeartbeats 1000000 in
theorem sort_small (n : Nat) (hn : n < 20) : SortAt n := by
  intro g lb cf B m cap D w w0 eg hcf hcmp hSW hm hD
  have hI := stable_small n g cap lb B w0 hn _ (insertion_any g lb cf B n m 0 n cap D w w0 (Nat.zero_le _) (Nat.le_refl _) (by omega) eg hcf hcmp hSW hm hD)
  have HI := hide' hI
  clear hI eg hcf hcmp hSW hm hD
  go_enter Try.func43, Try.ntmps43
  go_wp2_with fail
  refine HI.out.mono ?_
  rintro e w' ⟨rfl, hE⟩
  go_wp2
  go_end0
  exact ⟨rfl, hE⟩

set_option maxHeartbeats 400000 in
theorem p2_any (x r : Nat) (w : World) (h : (FloatKind.f64.decode x).isNaN = false) (h1 : floatBits .sub .f64 x (flo x) = some r) :
    Calls Try.prog 42 #[.float .f64 x] w fun e w' => e = .returned (.float .f64 r) ∧ w = w' := by
  have e1 : ∀ W : World, (binOp .sub 22 (.float .f64 x) (.float .f64 (flo x))).run Try.prog W = .ok (.float .f64 r) W := fun W => run_float_arith W .sub 22 .f64 _ _ r h1
  have H := Lib.hid h
  clear h1 h
  go_enter Try.func42, Try.ntmps42
  go_wp2_with (go_at_call 41; refine (floor_any _ _ H.out).mono ?_; rintro e w' ⟨rfl, rfl⟩)
  go_ret
  exact ⟨rfl, rfl⟩

/-- In the midst of the places' laying. -/
structure TurnIn (w0 wr : World) (n k : Nat) : Prop where
  row : wr.rowIs w0.heap.size 3 n (il fun j => if j < k then j else 0)
  below : Below w0.heap.size w0 wr

theorem TurnIn.start (w : World) (n : Nat) : TurnIn w (w.alloc (.cells (madeCells #[.int .i64 0] n) 3)) n 0 :=
  ⟨(World.rowIs_made w _ n 3).congr fun i _ => by simp [il], (Below.refl _ _).alloc (Nat.le_refl _) _⟩

theorem TurnIn.step {w wr : World} {n k : Nat} (h : TurnIn w wr n k) : TurnIn w (wr.setCell ⟨w.heap.size, k, none⟩ (.int .i64 (k : Int))) n (k + 1) :=
  ⟨(h.row.set k _).congr fun i _ => by
      show (if i = k then _ else _) = _
      by_cases e : i = k
      · subst e; simp
      · simp only [e, if_false, il]
        by_cases hl : i < k
        · rw [if_pos hl, if_pos (by omega)]
        · rw [if_neg hl, if_neg (by omega)],
   h.below.setCell (Nat.le_refl _) _⟩

/-- By the rests: the greater first. -/
def cfR (R : Nat → Nat) (x y : Nat) : Int := ordI (R y) (R x)

theorem cfR_cmp (R : Nat → Nat) (h : ∀ j, R j < 18446744073709551616) : Cmp (cfR R) := by
  refine ⟨fun x y => ?_, fun x y z => ?_⟩
  · unfold cfR
    rw [ordI_key _ _ (h _) (h _), ordI_key _ _ (h _) (h _)]
    unfold cmpI
    split <;> split <;> (try split) <;> omega
  · unfold cfR
    rw [ordI_key _ _ (h _) (h _), ordI_key _ _ (h _) (h _), ordI_key _ _ (h _) (h _)]
    have a1 := cmpI_bounds (ky (R y)) (ky (R x))
    have a2 := cmpI_bounds (ky (R z)) (ky (R y))
    have a3 := cmpI_bounds (ky (R z)) (ky (R x))
    omega

set_option maxHeartbeats 1000000 in
set_option maxRecDepth 100000 in
theorem byrest_any (q R : Nat → Nat) (b off n cap : Nat) (w : World) (hn : n ≤ 64) (hS : SortAt n)
    (hc : ∀ j, j < n → w.cell? ⟨b, off + j, none⟩ = some (.float .f64 (q j)))
    (hq : ∀ j, j < n → (FloatKind.f64.decode (q j)).isNaN = false ∧ floatBits .sub .f64 (q j) (flo (q j)) = some (R j)) (hR : ∀ j, R j < 18446744073709551616) :
    Calls Try.prog 36 #[.slice (some ⟨b, off, none⟩) n cap] w fun e w' =>
      ∃ B E, w.heap.size ≤ B ∧ e = .returned (.slice (some ⟨B, 0, none⟩) n n) ∧ w'.rowIs B 3 n (il E) ∧ (∀ v, (∃ k, k < n ∧ E k = v) ↔ v < n) ∧ Chain (cfR R) 0 n E ∧ Below w.heap.size w w' := by
  have hE := each_any 42 #[] R q b off n cap w hn hc (enters_of Try.func42 (by kernel_rfl) rfl) (fun W _ i hi => p2_any (q i) (R i) W (hq i hi).1 (hq i hi).2)
  have HE := hide' hE
  have HS := hide' hS
  have HR := hide' hR
  have hmk := run_make_row' (P := Try.prog) 30 3 (.int .i64 0) 8 Try.underlying30 info3 rfl .i64 .i64 n (by omega) (by omega)
  clear hE hS hR hq hc
  go_enter Try.func36, Try.ntmps36
  go_wp2_with fail
  refine HE.out.mono ?_
  rintro e w1 ⟨rfl, hrow, hbel⟩
  have HW := hide' hrow
  have HB := hide' hbel
  clear hrow hbel
  go_wp2_with fail
  go_loopg [13] n (fun g i wr => ∃ k : Nat, k ≤ n ∧ g = n - k ∧ i = .int .i64 (k : Int) ∧ TurnIn (w1.alloc (.cells #[.slice (some ⟨w.heap.size, 0, none⟩) n n] 27)) wr n k)
  case atStart => exact ⟨0, Nat.zero_le _, rfl, rfl, TurnIn.start _ n⟩
  case round =>
    obtain ⟨k, hk, rfl, rfl, hI⟩ := hrel
    clear hmk
    have HI := hide' hI
    by_cases hlt : k < n
    · have hout : wr.cell? ⟨w1.heap.size + 1, k, none⟩ = some (.int .i64 ((if k < k then k else 0 : Nat) : Int)) := by have := hI.row.cell hlt; simpa [il] using this
      have hfr : wr.frozen? ⟨w1.heap.size + 1, k, none⟩ = false := by have := hI.row.frozen k; simpa using this
      clear hI
      go_wp2
      go_roundg (n - (k + 1))
      case measure => omega
      case rel => exact ⟨k + 1, by omega, rfl, by go_num, by have := HI.out.step; simpa using this⟩
    · have : k = n := by omega
      subst this
      have hl1 := HW.out.lt
      have cC : wr.cell? ⟨w1.heap.size, 0, none⟩ = some (.slice (some ⟨w.heap.size, 0, none⟩) k k) := by
        rw [hI.below.cell (p := ⟨w1.heap.size, 0, none⟩) (by simp)]
        go_simp
      have cR : ∀ j, j < k → wr.cell? ⟨w.heap.size, j, none⟩ = some (.float .f64 (R j)) := fun j hj => by
        rw [hI.below.cell (p := ⟨w.heap.size, j, none⟩) (by simp; omega)]
        exact (HW.out.alloc _).cell hj
      have hz : (w1.alloc (.cells #[.slice (some ⟨w.heap.size, 0, none⟩) k k] 27)).heap.size = w1.heap.size + 1 := by simp
      have hsw : SW wr wr (w1.heap.size + 1) k (fun j => if j < k then j else 0) := ⟨by have := hI.row; rwa [hz] at this, World.grownBy.refl _ _⟩
      have hlt2 := hsw.row.lt
      have hE2 := HS.out 44 #[.pointer (some ⟨w1.heap.size, 0, none⟩)] (cfR R) (w1.heap.size + 1) k k (fun j => if j < k then j else 0) wr wr (enters_of Try.func44 (by kernel_rfl) rfl) (cfR_cmp R HR.out)
        (fun wr' hg x y hx hy => cmp_any R k x y w1.heap.size w.heap.size k wr' hx hy
          ((World.cell?_of_block (w := wr) (a := ⟨w1.heap.size, 0, none⟩) (hg.block w1.heap.size (by omega) (by simp))).trans cC)
          (fun j hj => (World.cell?_of_block (w := wr) (a := ⟨w.heap.size, j, none⟩) (hg.block w.heap.size (by omega) (by simp; omega))).trans (cR j hj)))
        hsw (fun j _ hj => by show (if j < k then j else 0) < k; rw [if_pos hj]; exact hj) (fun j l _ h1 h2 => by show (if j < k then j else 0) < (if l < k then l else 0); rw [if_pos (by omega), if_pos h2]; exact h1)
      have HE2 := hide' hE2
      clear hI cC cR hz hsw hE2
      go_wp2_with fail
      refine HE2.out.mono ?_
      rintro e w3 ⟨rfl, E, hF⟩
      have HF := hide' hF
      clear hF
      go_wp2
      go_ret
      obtain ⟨h1, h2, h3⟩ := HF.out
      have hbw := HI.out.below
      refine ⟨w1.heap.size + 1, E, by omega, rfl, h1.row, fun v => ⟨?_, ?_⟩, h3, ?_⟩
      · rintro ⟨j, a2, a3⟩
        obtain ⟨l, b1, b2, b3⟩ := (h2.mem v).1 ⟨j, Nat.zero_le _, a2, a3⟩
        rw [if_pos b2] at b3
        omega
      · intro hv
        obtain ⟨l, b1, b2, b3⟩ := (h2.mem v).2 ⟨v, Nat.zero_le _, hv, by rw [if_pos hv]⟩
        exact ⟨l, b2, b3⟩
      · refine (HB.out.trans ((((Below.refl _ _).alloc (Nat.le_refl _) _).trans (hbw.mono (by simp))).mono (by omega))).trans ?_
        exact ⟨h1.only.os, h1.only.tape, h1.only.output, h1.only.size, fun j hj => h1.only.block j (by omega) (by simp; omega)⟩

end Go.Proofs.Ytmkkkddadpcmeaa
