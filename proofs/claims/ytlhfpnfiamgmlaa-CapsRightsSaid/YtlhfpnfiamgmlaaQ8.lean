/-
  Numbers are sorted: walked. No conditions.
-/
import Derived.Test.YtlhfpnfiamgmlaaQ6
import Derived.Deep.DeepCutAuto
import Derived.BigQuiet
import Derived.Lib.BitFns
import Derived.Lib.Strings
import Derived.Lib.Small
namespace Go.Proofs.Ytlhfpnfiamgmlaa
open Go.RowKit

set_option maxHeartbeats 4000000 in
set_option maxRecDepth 100000 in
theorem len64 (x : Int) (w : World) (h0 : 0 ≤ x) (h1 : x < 13) : Calls Try.prog 58 #[.int .u64 x] w fun e w' => (∃ v, e = .returned (.int .i64 v)) ∧ w = w' := by
  have d1 : decide ((4294967296 : Int) ≤ x) = false := decide_eq_false (by omega)
  have d2 : decide ((65536 : Int) ≤ x) = false := decide_eq_false (by omega)
  have d3 : decide ((256 : Int) ≤ x) = false := decide_eq_false (by omega)
  have hz : Lib.len8tab.size = 256 := by kernel_rfl
  have hx : x < ((Lib.len8tab.size : Nat) : Int) := by rw [hz]; omega
  clear hz
  go_enter Try.func58, Try.ntmps58
  go_wp2
  go_ret
  exact ⟨⟨_, rfl⟩, rfl⟩

theorem len47 (x : Int) (w : World) (h0 : 0 ≤ x) (h1 : x < 13) : Calls Try.prog 47 #[.int .u64 x] w fun e w' => (∃ v, e = .returned (.int .i64 v)) ∧ w = w' := by
  go_enter Try.func47, Try.ntmps47
  go_wp2_with fail
  refine (len64 x w h0 h1).mono ?_
  rintro _ w1 ⟨⟨v, rfl⟩, rfl⟩
  go_wp2
  go_ret
  exact ⟨⟨_, rfl⟩, rfl⟩

set_option maxHeartbeats 2000000 in
set_option maxRecDepth 100000 in
theorem pdq46 (B n cap : Nat) (g0 : Nat → Int) (v : Int) (w : World) (hr : IRow w B n g0) (hn : n ≤ 12) : Calls Try.prog 46 #[.slice (some ⟨B, 0, none⟩) n cap, .int .i64 0, .int .i64 (n : Nat), .int .i64 v] w (SOut B n g0 w) := by
  have HI := hide' (insertion48 B n cap g0 w hr (by omega))
  have hnz : (n : Int) ≤ 12 := by omega
  have dn : decide ((n : Int) ≤ 12) = true := decide_eq_true hnz
  clear hr hn
  go_enter Try.func46, Try.ntmps46
  go_wp2
  go_loopg [1, 2, 3, 8, 9] 0 (fun gg v1 v2 v3 v8 v9 wr => v1 = .int .i64 0 ∧ v2 = .int .i64 (n : Nat) ∧ Hid (w = wr))
  case atStart => exact ⟨rfl, rfl, hide' rfl⟩
  case round =>
    obtain ⟨rfl, rfl, HE⟩ := hrel
    have he := HE.out
    subst he
    clear HE
    go_wp2_with fail
    refine HI.out.mono ?_
    rintro _ w1 ⟨rfl, hx⟩
    have HX := hide' hx
    clear hx HI
    go_wp2
    go_returns
    exact ⟨rfl, HX.out⟩

theorem insertion48_nil (w : World) : Calls Try.prog 48 #[.slice none 0 0, .int .i64 0, .int .i64 0] w (Gives (.tuple #[]) w) := by
  have HS := hide' (Stay.refl (fun _ => False) w)
  go_enter Try.func48, Try.ntmps48
  go_wp2
  go_loopg [6] 0 (fun gg v6 wr => v6 = .int .i64 1 ∧ Hid (Stay (fun _ => False) w wr))
  case atStart => exact ⟨rfl, HS⟩
  case round =>
    clear HS
    obtain ⟨rfl, HS⟩ := hrel
    go_wp2
    go_returns
    exact ⟨rfl, HS.out⟩

set_option maxRecDepth 100000 in
theorem pdq46_nil (v : Int) (w : World) : Calls Try.prog 46 #[.slice none 0 0, .int .i64 0, .int .i64 0, .int .i64 v] w (Gives (.tuple #[]) w) := by
  go_enter Try.func46, Try.ntmps46
  go_wp2
  go_loopg [1, 2, 3, 8, 9] 0 (fun gg v1 v2 v3 v8 v9 wr => v1 = .int .i64 0 ∧ v2 = .int .i64 0 ∧ Hid (w = wr))
  case atStart => exact ⟨rfl, rfl, hide' rfl⟩
  case round =>
    obtain ⟨rfl, rfl, HE⟩ := hrel
    have he := HE.out
    subst he
    clear HE
    go_wp2_with fail
    refine (insertion48_nil w).mono ?_
    rintro _ w1 ⟨rfl, hx⟩
    have HX := hide' hx
    clear hx
    go_wp2
    go_returns
    exact ⟨rfl, HX.out⟩

theorem sort42 (B n cap : Nat) (g0 : Nat → Int) (w : World) (hr : IRow w B n g0) (hn : n ≤ 12) : Calls Try.prog 42 #[.slice (some ⟨B, 0, none⟩) n cap] w (SOut B n g0 w) := by
  have HP := hide' (fun v => pdq46 B n cap g0 v w hr hn)
  have hnz : (n : Int) ≤ 12 := by omega
  clear hr hn
  go_enter Try.func42, Try.ntmps42
  go_wp2_with fail
  refine (len47 _ w (by omega) (by omega)).mono ?_
  rintro _ w1 ⟨⟨v, rfl⟩, rfl⟩
  go_wp2_with fail
  refine (HP.out _).mono ?_
  rintro _ w2 ⟨rfl, hx⟩
  have HX := hide' hx
  clear hx HP
  go_wp2
  go_returns
  exact ⟨rfl, HX.out⟩

theorem sort42_nil (w : World) : Calls Try.prog 42 #[.slice none 0 0] w (Gives (.tuple #[]) w) := by
  go_enter Try.func42, Try.ntmps42
  go_wp2_with fail
  refine (len47 _ w (by omega) (by omega)).mono ?_
  rintro _ w1 ⟨⟨v, rfl⟩, rfl⟩
  go_wp2_with fail
  refine (pdq46_nil _ w).mono ?_
  rintro _ w2 ⟨rfl, hx⟩
  have HX := hide' hx
  clear hx
  go_wp2
  go_returns
  exact ⟨rfl, HX.out⟩

end Go.Proofs.Ytlhfpnfiamgmlaa
