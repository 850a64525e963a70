/-
  Whatever is done with a table: the short ways; acts that came in, opened. No conditions.
-/
import Derived.Test.YtlhfpnfiamgmlaaR8
import Derived.Deep.DeepCutAuto
namespace Go.Proofs.Ytlhfpnfiamgmlaa
open Go.RowKit

set_option maxHeartbeats 8000000 in
set_option maxRecDepth 100000 in
theorem plays_out (x y : Int) (ad : Option Addr) (n cap : Nat) (w : World) (hle : (n : Int) ≤ 9223372036854775807) (h : 40 < n ∨ 12 < x ∨ 12 < y) : Calls Try.prog 3 #[.int .i64 x, .int .i64 y, .slice ad n cap] w (LawTrue w) := by
  by_cases h1 : 40 < n
  · have l40 : (40 : Int) < (n : Nat) := by omega
    have d40 : decide ((40 : Int) < (n : Nat)) = true := decide_eq_true l40
    clear h
    go_enter Try.func3, Try.ntmps3
    go_wp2_with fail
    refine (awake7 w).mono ?_
    rintro _ w3 ⟨rfl, hs3⟩
    have HS3 := hide' hs3
    clear hs3
    go_wp2
    go_ret
    exact ⟨rfl, HS3.out⟩
  · have d40 : decide ((40 : Int) < (n : Nat)) = false := decide_eq_false (by omega)
    by_cases h2 : 12 < x
    · have d12 : decide (12 < x) = true := decide_eq_true h2
      clear h
      go_enter Try.func3, Try.ntmps3
      go_wp2_with fail
      refine (awake7 w).mono ?_
      rintro _ w3 ⟨rfl, hs3⟩
      have HS3 := hide' hs3
      clear hs3
      go_wp2
      go_ret
      exact ⟨rfl, HS3.out⟩
    · have d12 : decide (12 < x) = false := decide_eq_false h2
      have h3 : 12 < y := by omega
      have dq12 : decide (12 < y) = true := decide_eq_true h3
      clear h
      go_enter Try.func3, Try.ntmps3
      go_wp2_with fail
      refine (awake7 w).mono ?_
      rintro _ w3 ⟨rfl, hs3⟩
      have HS3 := hide' hs3
      clear hs3
      go_wp2
      go_ret
      exact ⟨rfl, HS3.out⟩

set_option maxHeartbeats 8000000 in
set_option maxRecDepth 100000 in
theorem plays_nil (x y : Int) (ad : Option Addr) (n cap : Nat) (w : World) (hl : n ≤ 40) (hx : x ≤ 12) (hy : y ≤ 12) (h : x < 1 ∨ y < 1) : Calls Try.prog 3 #[.int .i64 x, .int .i64 y, .slice ad n cap] w (LawTrue w) := by
  have l40 : ¬ (40 : Int) < (n : Nat) := by omega
  have d40 : decide ((40 : Int) < (n : Nat)) = false := decide_eq_false l40
  have d12 : decide (12 < x) = false := decide_eq_false (by omega)
  have dq12 : decide (12 < y) = false := decide_eq_false (by omega)
  have hlz : (n : Int) ≤ 40 := by omega
  by_cases h1 : x < 1
  · have e1 : decide (1 ≤ x) = false := decide_eq_false (by omega)
    have HN := hide' (new8_nil x y w (by omega))
    go_enter Try.func3, Try.ntmps3
    go_wp2_with fail
    refine HN.out.mono ?_
    rintro _ w1 ⟨rfl, hs1⟩
    have HS1 := hide' hs1
    clear hs1 HN
    go_wp2_with fail
    refine (awake7 _).mono ?_
    rintro _ w3 ⟨rfl, hs3⟩
    have HS3 := hide' (HS1.out.trans hs3)
    clear hs3 HS1
    go_wp2
    go_ret
    exact ⟨rfl, HS3.out⟩
  · have e1 : decide (1 ≤ x) = true := decide_eq_true (by omega)
    have e2 : decide (1 ≤ y) = false := decide_eq_false (by omega)
    have HN := hide' (new8_nil x y w (by omega))
    go_enter Try.func3, Try.ntmps3
    go_wp2_with fail
    refine HN.out.mono ?_
    rintro _ w1 ⟨rfl, hs1⟩
    have HS1 := hide' hs1
    clear hs1 HN
    go_wp2_with fail
    refine (awake7 _).mono ?_
    rintro _ w3 ⟨rfl, hs3⟩
    have HS3 := hide' (HS1.out.trans hs3)
    clear hs3 HS1
    go_wp2
    go_ret
    exact ⟨rfl, HS3.out⟩

/-- The kinds of a type's parts. -/
def kindsOf (t : TypeId) : List IntKind := if t = 3 then [.i64] else if t = 30 then [.i64, .i64] else if t = 32 then [.i64, .i64, .i64, .i64, .i64, .i64, .i64, .i64, .i64] else []

section
variable {H : Type} {enc : TypeId × Value → H} {w : World} {base : Nat} {sp : Nat → Bool} {held : Bool}

theorem k3 (cs : List Value) (x : DataW H × List MemPlace) (fuel : Nat) (h : DataW.trod enc Try.prog w base sp held fuel 3 cs = some x) : KInts (kindsOf 3) cs := kints_int Try.underlying3 cs x fuel h

theorem k30 (cs : List Value) (x : DataW H × List MemPlace) (fuel : Nat) (h : DataW.trod enc Try.prog w base sp held fuel 30 cs = some x) : KInts (kindsOf 30) cs :=
  kints_struct Try.underlying30 (fun f => kindsOf f.type) (by kernel_rfl) (by kernel_rfl) (fun f hf => by
    simp only [List.mem_cons, List.not_mem_nil, or_false] at hf
    rcases hf with rfl | rfl <;> exact k3) cs x fuel h

theorem k32 (cs : List Value) (x : DataW H × List MemPlace) (fuel : Nat) (h : DataW.trod enc Try.prog w base sp held fuel 32 cs = some x) : KInts (kindsOf 32) cs :=
  kints_struct Try.underlying32 (fun f => kindsOf f.type) (by kernel_rfl) (by kernel_rfl) (fun f hf => by
    simp only [List.mem_cons, List.not_mem_nil, or_false] at hf
    rcases hf with rfl | rfl | rfl | rfl | rfl | rfl | rfl | rfl
    all_goals first | exact k3 | exact k30) cs x fuel h

end

theorem acts_of {w : World} {ad : Option Addr} {n : Nat} {F : Nat → Nat → Int} (h : Rows' (kindsOf 32) w ad n F) : ARows w ad n (fun i => ⟨F i 0, F i 1, F i 2, F i 3, F i 4, F i 5, F i 6, F i 7, F i 8⟩) := by
  intro i hi
  obtain ⟨b, o, e, hc⟩ := h.at' i hi
  have wf := h.wf i hi
  exact ⟨b, o, e, ⟨hc 0 .i64 rfl, hc 1 .i64 rfl, hc 2 .i64 rfl, hc 3 .i64 rfl, hc 4 .i64 rfl, hc 5 .i64 rfl, hc 6 .i64 rfl, hc 7 .i64 rfl, hc 8 .i64 rfl⟩, wf_i64 (wf 7 .i64 rfl), wf_i64 (wf 5 .i64 rfl)⟩

end Go.Proofs.Ytlhfpnfiamgmlaa
