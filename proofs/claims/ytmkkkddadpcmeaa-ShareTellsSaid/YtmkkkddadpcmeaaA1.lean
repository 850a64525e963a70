/-
  The order of two floats, what a weight counts, and the small functions of package math that they call: what each call hands back, in whatever world; no conditions but that a float's bits fit 64 bits where its sign is asked.
-/
import Derived.Test.YtmkkkddadpcmeaaRows
import Derived.WalkKit
import Derived.WalkSpells
import Derived.WalkLawsBesides
import Derived.Handy
namespace Go.Proofs.Ytmkkkddadpcmeaa
open Go.RowKit

/-- The comparison of the model. -/
abbrev fo (a b : Nat) : Option Ordering := FloatKind.f64.format.order a b

def isN (a : Nat) : Bool := fo a a != some .eq
def sgn (a : Nat) : Bool := decide (wrap64 (a : Int) < 0)
def aft (a b : Bool) : Int := if a = b then 0 else if a then 1 else -1
def ordI (a b : Nat) : Int :=
  if isN a || isN b then aft (isN a) (isN b) else if fo a b == some .lt then -1 else if fo a b == some .gt then 1 else aft (!sgn a) (!sgn b)

set_option maxHeartbeats 400000 in
theorem isnan_any (a : Nat) (w : World) : Calls Try.prog 20 #[.float .f64 a] w fun e w' => e = .returned (.bool (isN a)) ∧ w = w' := by
  go_enter Try.func20, Try.ntmps20
  go_wp2
  all_goals (go_ret; exact ⟨rfl, rfl⟩)

set_option maxHeartbeats 400000 in
theorem after_any (a b : Bool) (w : World) : Calls Try.prog 21 #[.bool a, .bool b] w fun e w' => e = .returned (.int .i64 (aft a b)) ∧ w = w' := by
  cases a <;> cases b <;>
  · go_enter Try.func21, Try.ntmps21
    go_wp2
    go_ret
    exact ⟨rfl, rfl⟩

theorem call37 (a : Nat) (w : World) : (callFunc 37 #[.float .f64 a]).run Try.prog w = .ok (.value (.int .u64 a)) w := by
  rw [run_callFunc_extern Try.func37 (by kernel_rfl) (by kernel_rfl) (by kernel_rfl) (e := Extern.MathFloatBits.float64bits) (by kernel_rfl)]
  rfl
theorem call38 (n : Int) (w : World) : (callFunc 38 #[.int .u64 n]).run Try.prog w = .ok (.value (.float .f64 n.toNat)) w := by
  rw [run_callFunc_extern Try.func38 (by kernel_rfl) (by kernel_rfl) (by kernel_rfl) (e := Extern.MathFloatBits.float64frombits) (by kernel_rfl)]
  rfl

set_option maxHeartbeats 400000 in
theorem signbit_any (a : Nat) (w : World) : Calls Try.prog 22 #[.float .f64 a] w fun e w' => e = .returned (.bool (sgn a)) ∧ w = w' := by
  have c37 := call37
  go_enter Try.func22, Try.ntmps22
  go_wp2
  all_goals (go_ret; exact ⟨rfl, rfl⟩)

set_option maxHeartbeats 400000 in
theorem order_any (a b : Nat) (w : World) : Calls Try.prog 8 #[.float .f64 a, .float .f64 b] w fun e w' => e = .returned (.int .i64 (ordI a b)) ∧ w = w' := by
  go_enter Try.func8, Try.ntmps8
  go_wp2_with (first | (go_at_call 20; refine (isnan_any _ _).mono ?_; rintro e w' ⟨rfl, rfl⟩) | (go_at_call 21; refine (after_any _ _ _).mono ?_; rintro e w' ⟨rfl, rfl⟩) | (go_at_call 22; refine (signbit_any _ _).mono ?_; rintro e w' ⟨rfl, rfl⟩))
  all_goals (go_ret; refine ⟨?_, rfl⟩; simp_all [ordI])

set_option maxHeartbeats 400000 in
theorem same_any (a b : Nat) (w : World) : Calls Try.prog 10 #[.float .f64 a, .float .f64 b] w fun e w' => e = .returned (.bool (ordI a b == 0)) ∧ w = w' := by
  go_enter Try.func10, Try.ntmps10
  go_wp2_with (first | (go_at_call 8; refine (order_any _ _ _).mono ?_; rintro e w' ⟨rfl, rfl⟩))
  all_goals (go_ret; exact ⟨rfl, rfl⟩)

/-- What a weight counts. -/
def cnt (a : Nat) : Nat := if isN a || (fo a 0 == some .lt || fo a 0 == some .eq) then 0 else a

set_option maxHeartbeats 400000 in
theorem count_any (a : Nat) (w : World) : Calls Try.prog 11 #[.float .f64 a] w fun e w' => e = .returned (.float .f64 (cnt a)) ∧ w = w' := by
  go_enter Try.func11, Try.ntmps11
  go_wp2_with (first | (go_at_call 20; refine (isnan_any _ _).mono ?_; rintro e w' ⟨rfl, rfl⟩))
  all_goals (go_ret; refine ⟨?_, rfl⟩; simp_all [cnt])

theorem nan_any (w : World) : Calls Try.prog 25 #[] w fun e w' => e = .returned (.float .f64 9221120237041090561) ∧ w = w' := by
  have c38 := call38
  go_enter Try.func25, Try.ntmps25
  go_wp2
  all_goals (go_ret; exact ⟨rfl, rfl⟩)

theorem inf_one (w : World) : Calls Try.prog 26 #[.int .i64 1] w fun e w' => e = .returned (.float .f64 9218868437227405312) ∧ w = w' := by
  have c38 := call38
  go_enter Try.func26, Try.ntmps26
  go_wp2
  all_goals (go_ret; exact ⟨rfl, rfl⟩)

theorem inf_minus (w : World) : Calls Try.prog 26 #[.int .i64 (-1)] w fun e w' => e = .returned (.float .f64 18442240474082181120) ∧ w = w' := by
  have c38 := call38
  go_enter Try.func26, Try.ntmps26
  go_wp2
  all_goals (go_ret; exact ⟨rfl, rfl⟩)

def isI (a : Nat) : Bool := fo a 9218868437227405311 == some .gt

set_option maxHeartbeats 400000 in
theorem isinf_any (a : Nat) (w : World) : Calls Try.prog 29 #[.float .f64 a, .int .i64 1] w fun e w' => e = .returned (.bool (isI a)) ∧ w = w' := by
  go_enter Try.func29, Try.ntmps29
  go_wp2
  all_goals (go_ret; exact ⟨rfl, rfl⟩)

/-- '1'. -/
def one : Nat := 4607182418800017408

set_option maxHeartbeats 400000 in
theorem t1_any (a : Nat) (w : World) : Calls Try.prog 30 #[.float .f64 a] w fun e w' => e = .returned (.float .f64 (if isI a then one else 0)) ∧ w = w' := by
  go_enter Try.func30, Try.ntmps30
  go_wp2_with (first | (go_at_call 29; refine (isinf_any _ _).mono ?_; rintro e w' ⟨rfl, rfl⟩))
  all_goals (go_ret; refine ⟨?_, rfl⟩; simp_all [one])

set_option maxHeartbeats 400000 in
theorem t2_any (a : Nat) (w : World) : Calls Try.prog 31 #[.float .f64 a] w fun e w' => e = .returned (.float .f64 one) ∧ w = w' := by
  go_enter Try.func31, Try.ntmps31
  go_wp2
  all_goals (go_ret; exact ⟨rfl, rfl⟩)

set_option maxHeartbeats 400000 in
theorem t3_any (a g r : Nat) (p : Addr) (w : World) (hp : w.cell? p = some (.float .f64 g)) (hd : floatBits .quo .f64 a g = some r) : Calls Try.prog 32 #[.float .f64 a, .pointer (some p)] w fun e w' => e = .returned (.float .f64 r) ∧ w = w' := by
  have hq : ∀ W : World, (binOp .quo 22 (.float .f64 a) (.float .f64 g)).run Try.prog W = .ok (.float .f64 r) W := fun W => run_float_arith W .quo 22 .f64 a g r hd
  clear hd
  go_enter Try.func32, Try.ntmps32
  go_wp2
  all_goals (go_ret; exact ⟨rfl, rfl⟩)

end Go.Proofs.Ytmkkkddadpcmeaa
