/-
  The decoder's small ones, walked: what holds a byte, which form it begins. No conditions.
-/
import Derived.Test.YtofecgjlghfnlaaDoorB0
import Derived.WalkKit
import Derived.WalkSpells
import Derived.WalkLawsBesides
import Derived.Handy
import Derived.Lib.Hide
import Derived.Deep.LoopGhost
import Derived.StillTailTactics
namespace Go.Proofs.YtofecgjlghfnlaaDoor
open Go.RowKit

theorem hold_any (lo hi b : Int) (r : Bool) (w : World) (hr : (decide (lo ≤ b) && decide (b ≤ hi)) = r) :
    Calls Tryd.prog 26 #[.agg #[.int .u8 lo, .int .u8 hi], .int .u8 b] w fun e w' => e = .returned (.bool r) ∧ Below w.heap.size w w' := by
  have HR := hide' hr
  clear hr
  by_cases h1 : lo ≤ b
  · go_enter Tryd.func26, Tryd.ntmps26
    go_wp2
    go_ret
    exact ⟨by rw [← HR.out]; simp [h1], (Below.refl _ _).alloc (Nat.le_refl _) _⟩
  · have h1' : decide (lo ≤ b) = false := by simpa using h1
    go_enter Tryd.func26, Tryd.ntmps26
    go_wp2
    go_ret
    exact ⟨by rw [← HR.out, h1']; rfl, (Below.refl _ _).alloc (Nat.le_refl _) _⟩

/-- Does form i begin with b? -/
def holds (i b : Nat) : Bool := decide (tabN.getD (9 * i + 1) 0 ≤ b) && decide (b ≤ tabN.getD (9 * i + 2) 0)

/-- The form that b begins: 9, if none. -/
def idx (b : Nat) : Nat := ((List.range 9).find? fun i => holds i b).getD 9

theorem idx_le (b : Nat) : idx b ≤ 9 := by
  unfold idx
  cases h : (List.range 9).find? fun i => holds i b with
  | none => simp
  | some i => have := List.mem_of_find?_eq_some h; simp at this; simp; omega

theorem idx_holds {b : Nat} (h : idx b < 9) : holds (idx b) b = true := by
  unfold idx at h ⊢
  cases e : (List.range 9).find? fun i => holds i b with
  | none => rw [e] at h; simp at h
  | some i => simpa using List.find?_some e

theorem idx_not {b i : Nat} (h : i < idx b) : holds i b = false := by
  unfold idx at h
  cases e : (List.range 9).find? fun i => holds i b with
  | none =>
    rw [e] at h
    have := List.find?_eq_none.1 e i (by simpa using h)
    simpa using this
  | some j =>
    rw [e] at h
    rw [List.find?_range_eq_some] at e
    have := e.2.2 i (by simpa using h)
    simpa using this

/-- The place, and whether there is one. -/
def formE (b : Nat) : Ending := if idx b < 9 then .returned (.tuple #[.int .i64 (idx b : Nat), .bool true]) else .returned (.tuple #[.int .i64 0, .bool false])

theorem Tbl.at {w wr : World} (hT : Tbl w) (hb : Below w.heap.size w wr) (hl : 0 < w.heap.size) (i : Nat) (hi : i < 81) {v : Value} (hv : tabV i = v) : wr.cell? ⟨0, i, none⟩ = some v :=
  (hb.cell (p := ⟨0, i, none⟩) hl).trans ((hT i hi).trans (congrArg some hv))

theorem formE_yes {b k : Nat} (h : idx b = k) (hk : k < 9) : formE b = .returned (.tuple #[.int .i64 (k : Nat), .bool true]) := by
  unfold formE; rw [h, if_pos hk]

theorem formE_no {b : Nat} (h : idx b = 9) : formE b = .returned (.tuple #[.int .i64 0, .bool false]) := by
  unfold formE; rw [h, if_neg (by decide)]

theorem idx_of {b k : Nat} (h : k ≤ idx b) (hk : k < 9) (hh : holds k b = true) : idx b = k := by
  rcases Nat.lt_or_ge k (idx b) with h1 | h1
  · rw [idx_not h1] at hh; cases hh
  · omega

theorem idx_next {b k : Nat} (h : k ≤ idx b) (hk : k < 9) (hh : holds k b = false) : k + 1 ≤ idx b := by
  rcases Nat.lt_or_ge k (idx b) with h1 | h1
  · exact h1
  · have e : idx b = k := by omega
    have := idx_holds (b := b) (by omega)
    rw [e, hh] at this
    cases this

theorem holds_int (i b : Nat) (lo hi : Int) (h1 : (tabN.getD (9 * i + 1) 0 : Nat) = lo) (h2 : (tabN.getD (9 * i + 2) 0 : Nat) = hi) : (decide (lo ≤ (b : Int)) && decide ((b : Int) ≤ hi)) = holds i b := by
  unfold holds
  rw [← h1, ← h2, Bool.eq_iff_iff]
  simp

set_option maxHeartbeats 1000000 in
theorem formOf_any (b : Nat) (w : World) (hT : Tbl w) (hlt : 0 < w.heap.size) :
    Calls Tryd.prog 28 #[.int .u8 (b : Int)] w fun e w' => e = formE b ∧ Below w.heap.size w w' := by
  have HT := hide' hT
  have HL := hide' hlt
  clear hT hlt
  have hix := idx_le b
  go_enter Tryd.func28, Tryd.ntmps28
  go_wp2
  go_loopg [4, 5] 9 (fun g u v wr => ∃ k : Nat, k ≤ idx b ∧ g = 9 - k ∧ v = .int .i64 (k : Int) ∧ Hid (Below w.heap.size w wr))
  case atStart => exact ⟨0, Nat.zero_le _, rfl, rfl, Below.refl _ _⟩
  case round =>
    obtain ⟨k, hk, rfl, rfl, HB⟩ := hrel
    have hk9 : k = 0 ∨ k = 1 ∨ k = 2 ∨ k = 3 ∨ k = 4 ∨ k = 5 ∨ k = 6 ∨ k = 7 ∨ k = 8 ∨ k = 9 := by omega
    rcases hk9 with rfl | rfl | rfl | rfl | rfl | rfl | rfl | rfl | rfl | rfl
    · have c1 := HT.out.at HB.out HL.out 1 (by decide) (v := .int .u8 0) rfl
      have c2 := HT.out.at HB.out HL.out 2 (by decide) (v := .int .u8 127) rfl
      have hi := @idx_of b 0 hk (by decide)
      have hn := @idx_next b 0 hk (by decide)
      have HH := hide' (hold_any 0 127 b (holds 0 b) · (holds_int 0 b _ _ rfl rfl))
      cases hh : holds 0 b
      · rw [hh] at HH
        have hk' := hn hh
        clear hi hn hh
        go_wp2_with fail
        refine (HH.out _).mono ?_
        rintro e w1 ⟨rfl, hb⟩
        have HB1 : Hid (Below w.heap.size w w1) := HB.out.trans (hb.mono HB.out.size)
        clear hb
        go_wp2
        go_roundg (9 - (0 + 1))
        case rel => exact ⟨_, hk', rfl, rfl, HB1⟩
        case measure => omega
      · rw [hh] at HH
        have hk' := formE_yes (hi hh) (by decide)
        have HK := hide' hk'
        clear hi hn hh hk'
        go_wp2_with fail
        refine (HH.out _).mono ?_
        rintro e w1 ⟨rfl, hb⟩
        have HB1 : Hid (Below w.heap.size w w1) := HB.out.trans (hb.mono HB.out.size)
        clear hb
        go_wp2
        go_ret2
        exact ⟨HK.out.symm, HB1.out⟩
    · have c1 := HT.out.at HB.out HL.out 10 (by decide) (v := .int .u8 194) rfl
      have c2 := HT.out.at HB.out HL.out 11 (by decide) (v := .int .u8 223) rfl
      have hi := @idx_of b 1 hk (by decide)
      have hn := @idx_next b 1 hk (by decide)
      have HH := hide' (hold_any 194 223 b (holds 1 b) · (holds_int 1 b _ _ rfl rfl))
      cases hh : holds 1 b
      · rw [hh] at HH
        have hk' := hn hh
        clear hi hn hh
        go_wp2_with fail
        refine (HH.out _).mono ?_
        rintro e w1 ⟨rfl, hb⟩
        have HB1 : Hid (Below w.heap.size w w1) := HB.out.trans (hb.mono HB.out.size)
        clear hb
        go_wp2
        go_roundg (9 - (1 + 1))
        case rel => exact ⟨_, hk', rfl, rfl, HB1⟩
        case measure => omega
      · rw [hh] at HH
        have hk' := formE_yes (hi hh) (by decide)
        have HK := hide' hk'
        clear hi hn hh hk'
        go_wp2_with fail
        refine (HH.out _).mono ?_
        rintro e w1 ⟨rfl, hb⟩
        have HB1 : Hid (Below w.heap.size w w1) := HB.out.trans (hb.mono HB.out.size)
        clear hb
        go_wp2
        go_ret2
        exact ⟨HK.out.symm, HB1.out⟩
    · have c1 := HT.out.at HB.out HL.out 19 (by decide) (v := .int .u8 224) rfl
      have c2 := HT.out.at HB.out HL.out 20 (by decide) (v := .int .u8 224) rfl
      have hi := @idx_of b 2 hk (by decide)
      have hn := @idx_next b 2 hk (by decide)
      have HH := hide' (hold_any 224 224 b (holds 2 b) · (holds_int 2 b _ _ rfl rfl))
      cases hh : holds 2 b
      · rw [hh] at HH
        have hk' := hn hh
        clear hi hn hh
        go_wp2_with fail
        refine (HH.out _).mono ?_
        rintro e w1 ⟨rfl, hb⟩
        have HB1 : Hid (Below w.heap.size w w1) := HB.out.trans (hb.mono HB.out.size)
        clear hb
        go_wp2
        go_roundg (9 - (2 + 1))
        case rel => exact ⟨_, hk', rfl, rfl, HB1⟩
        case measure => omega
      · rw [hh] at HH
        have hk' := formE_yes (hi hh) (by decide)
        have HK := hide' hk'
        clear hi hn hh hk'
        go_wp2_with fail
        refine (HH.out _).mono ?_
        rintro e w1 ⟨rfl, hb⟩
        have HB1 : Hid (Below w.heap.size w w1) := HB.out.trans (hb.mono HB.out.size)
        clear hb
        go_wp2
        go_ret2
        exact ⟨HK.out.symm, HB1.out⟩
    · have c1 := HT.out.at HB.out HL.out 28 (by decide) (v := .int .u8 225) rfl
      have c2 := HT.out.at HB.out HL.out 29 (by decide) (v := .int .u8 236) rfl
      have hi := @idx_of b 3 hk (by decide)
      have hn := @idx_next b 3 hk (by decide)
      have HH := hide' (hold_any 225 236 b (holds 3 b) · (holds_int 3 b _ _ rfl rfl))
      cases hh : holds 3 b
      · rw [hh] at HH
        have hk' := hn hh
        clear hi hn hh
        go_wp2_with fail
        refine (HH.out _).mono ?_
        rintro e w1 ⟨rfl, hb⟩
        have HB1 : Hid (Below w.heap.size w w1) := HB.out.trans (hb.mono HB.out.size)
        clear hb
        go_wp2
        go_roundg (9 - (3 + 1))
        case rel => exact ⟨_, hk', rfl, rfl, HB1⟩
        case measure => omega
      · rw [hh] at HH
        have hk' := formE_yes (hi hh) (by decide)
        have HK := hide' hk'
        clear hi hn hh hk'
        go_wp2_with fail
        refine (HH.out _).mono ?_
        rintro e w1 ⟨rfl, hb⟩
        have HB1 : Hid (Below w.heap.size w w1) := HB.out.trans (hb.mono HB.out.size)
        clear hb
        go_wp2
        go_ret2
        exact ⟨HK.out.symm, HB1.out⟩
    · have c1 := HT.out.at HB.out HL.out 37 (by decide) (v := .int .u8 237) rfl
      have c2 := HT.out.at HB.out HL.out 38 (by decide) (v := .int .u8 237) rfl
      have hi := @idx_of b 4 hk (by decide)
      have hn := @idx_next b 4 hk (by decide)
      have HH := hide' (hold_any 237 237 b (holds 4 b) · (holds_int 4 b _ _ rfl rfl))
      cases hh : holds 4 b
      · rw [hh] at HH
        have hk' := hn hh
        clear hi hn hh
        go_wp2_with fail
        refine (HH.out _).mono ?_
        rintro e w1 ⟨rfl, hb⟩
        have HB1 : Hid (Below w.heap.size w w1) := HB.out.trans (hb.mono HB.out.size)
        clear hb
        go_wp2
        go_roundg (9 - (4 + 1))
        case rel => exact ⟨_, hk', rfl, rfl, HB1⟩
        case measure => omega
      · rw [hh] at HH
        have hk' := formE_yes (hi hh) (by decide)
        have HK := hide' hk'
        clear hi hn hh hk'
        go_wp2_with fail
        refine (HH.out _).mono ?_
        rintro e w1 ⟨rfl, hb⟩
        have HB1 : Hid (Below w.heap.size w w1) := HB.out.trans (hb.mono HB.out.size)
        clear hb
        go_wp2
        go_ret2
        exact ⟨HK.out.symm, HB1.out⟩
    · have c1 := HT.out.at HB.out HL.out 46 (by decide) (v := .int .u8 238) rfl
      have c2 := HT.out.at HB.out HL.out 47 (by decide) (v := .int .u8 239) rfl
      have hi := @idx_of b 5 hk (by decide)
      have hn := @idx_next b 5 hk (by decide)
      have HH := hide' (hold_any 238 239 b (holds 5 b) · (holds_int 5 b _ _ rfl rfl))
      cases hh : holds 5 b
      · rw [hh] at HH
        have hk' := hn hh
        clear hi hn hh
        go_wp2_with fail
        refine (HH.out _).mono ?_
        rintro e w1 ⟨rfl, hb⟩
        have HB1 : Hid (Below w.heap.size w w1) := HB.out.trans (hb.mono HB.out.size)
        clear hb
        go_wp2
        go_roundg (9 - (5 + 1))
        case rel => exact ⟨_, hk', rfl, rfl, HB1⟩
        case measure => omega
      · rw [hh] at HH
        have hk' := formE_yes (hi hh) (by decide)
        have HK := hide' hk'
        clear hi hn hh hk'
        go_wp2_with fail
        refine (HH.out _).mono ?_
        rintro e w1 ⟨rfl, hb⟩
        have HB1 : Hid (Below w.heap.size w w1) := HB.out.trans (hb.mono HB.out.size)
        clear hb
        go_wp2
        go_ret2
        exact ⟨HK.out.symm, HB1.out⟩
    · have c1 := HT.out.at HB.out HL.out 55 (by decide) (v := .int .u8 240) rfl
      have c2 := HT.out.at HB.out HL.out 56 (by decide) (v := .int .u8 240) rfl
      have hi := @idx_of b 6 hk (by decide)
      have hn := @idx_next b 6 hk (by decide)
      have HH := hide' (hold_any 240 240 b (holds 6 b) · (holds_int 6 b _ _ rfl rfl))
      cases hh : holds 6 b
      · rw [hh] at HH
        have hk' := hn hh
        clear hi hn hh
        go_wp2_with fail
        refine (HH.out _).mono ?_
        rintro e w1 ⟨rfl, hb⟩
        have HB1 : Hid (Below w.heap.size w w1) := HB.out.trans (hb.mono HB.out.size)
        clear hb
        go_wp2
        go_roundg (9 - (6 + 1))
        case rel => exact ⟨_, hk', rfl, rfl, HB1⟩
        case measure => omega
      · rw [hh] at HH
        have hk' := formE_yes (hi hh) (by decide)
        have HK := hide' hk'
        clear hi hn hh hk'
        go_wp2_with fail
        refine (HH.out _).mono ?_
        rintro e w1 ⟨rfl, hb⟩
        have HB1 : Hid (Below w.heap.size w w1) := HB.out.trans (hb.mono HB.out.size)
        clear hb
        go_wp2
        go_ret2
        exact ⟨HK.out.symm, HB1.out⟩
    · have c1 := HT.out.at HB.out HL.out 64 (by decide) (v := .int .u8 241) rfl
      have c2 := HT.out.at HB.out HL.out 65 (by decide) (v := .int .u8 243) rfl
      have hi := @idx_of b 7 hk (by decide)
      have hn := @idx_next b 7 hk (by decide)
      have HH := hide' (hold_any 241 243 b (holds 7 b) · (holds_int 7 b _ _ rfl rfl))
      cases hh : holds 7 b
      · rw [hh] at HH
        have hk' := hn hh
        clear hi hn hh
        go_wp2_with fail
        refine (HH.out _).mono ?_
        rintro e w1 ⟨rfl, hb⟩
        have HB1 : Hid (Below w.heap.size w w1) := HB.out.trans (hb.mono HB.out.size)
        clear hb
        go_wp2
        go_roundg (9 - (7 + 1))
        case rel => exact ⟨_, hk', rfl, rfl, HB1⟩
        case measure => omega
      · rw [hh] at HH
        have hk' := formE_yes (hi hh) (by decide)
        have HK := hide' hk'
        clear hi hn hh hk'
        go_wp2_with fail
        refine (HH.out _).mono ?_
        rintro e w1 ⟨rfl, hb⟩
        have HB1 : Hid (Below w.heap.size w w1) := HB.out.trans (hb.mono HB.out.size)
        clear hb
        go_wp2
        go_ret2
        exact ⟨HK.out.symm, HB1.out⟩
    · have c1 := HT.out.at HB.out HL.out 73 (by decide) (v := .int .u8 244) rfl
      have c2 := HT.out.at HB.out HL.out 74 (by decide) (v := .int .u8 244) rfl
      have hi := @idx_of b 8 hk (by decide)
      have hn := @idx_next b 8 hk (by decide)
      have HH := hide' (hold_any 244 244 b (holds 8 b) · (holds_int 8 b _ _ rfl rfl))
      cases hh : holds 8 b
      · rw [hh] at HH
        have hk' := hn hh
        clear hi hn hh
        go_wp2_with fail
        refine (HH.out _).mono ?_
        rintro e w1 ⟨rfl, hb⟩
        have HB1 : Hid (Below w.heap.size w w1) := HB.out.trans (hb.mono HB.out.size)
        clear hb
        go_wp2
        go_roundg (9 - (8 + 1))
        case rel => exact ⟨_, hk', rfl, rfl, HB1⟩
        case measure => omega
      · rw [hh] at HH
        have hk' := formE_yes (hi hh) (by decide)
        have HK := hide' hk'
        clear hi hn hh hk'
        go_wp2_with fail
        refine (HH.out _).mono ?_
        rintro e w1 ⟨rfl, hb⟩
        have HB1 : Hid (Below w.heap.size w w1) := HB.out.trans (hb.mono HB.out.size)
        clear hb
        go_wp2
        go_ret2
        exact ⟨HK.out.symm, HB1.out⟩
    · have HK : Hid (idx b = 9) := Nat.le_antisymm hix hk
      go_wp2
      go_ret2
      exact ⟨(formE_no HK.out).symm, HB.out⟩

end Go.Proofs.YtofecgjlghfnlaaDoor
