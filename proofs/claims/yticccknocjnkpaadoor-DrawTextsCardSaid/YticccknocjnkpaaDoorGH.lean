/-
  The decoder's small ones, walked: what holds a byte, which form it begins. No conditions.
  The decoder's end and its taking of a byte, walked. No conditions.
  The decoder takes a byte, walked. No conditions.
-/
import Derived.Test.YticccknocjnkpaaDoorGG
import Derived.WalkKit
import Derived.WalkSpells
import Derived.WalkLawsBesides
import Derived.Handy
import Derived.Lib.Hide
import Derived.Deep.LoopGhost
import Derived.StillTailTactics
import Derived.Maps.AppendAt
namespace Go.Proofs.YticccknocjnkpaaDoor.Utf
open Go.RowKit

theorem hold_any (lo hi b : Int) (r : Bool) (w : World) (hr : (decide (lo ≤ b) && decide (b ≤ hi)) = r) :
    Calls Tryd.prog 46 #[.agg #[.int .u8 lo, .int .u8 hi], .int .u8 b] w fun e w' => e = .returned (.bool r) ∧ Below w.heap.size w w' := by
  have HR := hide' hr
  clear hr
  by_cases h1 : lo ≤ b
  · go_enter Tryd.func46, Tryd.ntmps46
    go_wp2
    go_ret
    exact ⟨by rw [← HR.out]; simp [h1], (Below.refl _ _).alloc (Nat.le_refl _) _⟩
  · have h1' : decide (lo ≤ b) = false := by simpa using h1
    go_enter Tryd.func46, Tryd.ntmps46
    go_wp2
    go_ret
    exact ⟨by rw [← HR.out, h1']; rfl, (Below.refl _ _).alloc (Nat.le_refl _) _⟩

/-- Does form i begin with b? -/
def holds (i b : Nat) : Bool := decide (tabN.getD (9 * i + 1) 0 ≤ b) && decide (b ≤ tabN.getD (9 * i + 2) 0)

/-- The form that b begins: 9, if none. -/
def idx (b : Nat) : Nat := ((List.range 9).find? fun i => holds i b).getD 9

theorem idx_le (b : Nat) : idx b ≤ 9 := by
  unfold idx
  cases h : (List.range 9).find? fun i => holds i b with
  | none => simp
  | some i => have := List.mem_of_find?_eq_some h; simp at this; simp; omega

theorem idx_holds {b : Nat} (h : idx b < 9) : holds (idx b) b = true := by
  unfold idx at h ⊢
  cases e : (List.range 9).find? fun i => holds i b with
  | none => rw [e] at h; simp at h
  | some i => simpa using List.find?_some e

theorem idx_not {b i : Nat} (h : i < idx b) : holds i b = false := by
  unfold idx at h
  cases e : (List.range 9).find? fun i => holds i b with
  | none =>
    rw [e] at h
    have := List.find?_eq_none.1 e i (by simpa using h)
    simpa using this
  | some j =>
    rw [e] at h
    rw [List.find?_range_eq_some] at e
    have := e.2.2 i (by simpa using h)
    simpa using this

/-- The place, and whether there is one. -/
def formE (b : Nat) : Ending := if idx b < 9 then .returned (.tuple #[.int .i64 (idx b : Nat), .bool true]) else .returned (.tuple #[.int .i64 0, .bool false])

theorem Tbl.at {w wr : World} (hT : Tbl w) (hb : Below w.heap.size w wr) (hl : 1 < w.heap.size) (i : Nat) (hi : i < 81) {v : Value} (hv : tabV i = v) : wr.cell? ⟨1, i, none⟩ = some v :=
  (hb.cell (p := ⟨1, i, none⟩) hl).trans ((hT i hi).trans (congrArg some hv))

theorem formE_yes {b k : Nat} (h : idx b = k) (hk : k < 9) : formE b = .returned (.tuple #[.int .i64 (k : Nat), .bool true]) := by
  unfold formE; rw [h, if_pos hk]

theorem formE_no {b : Nat} (h : idx b = 9) : formE b = .returned (.tuple #[.int .i64 0, .bool false]) := by
  unfold formE; rw [h, if_neg (by decide)]

theorem idx_of {b k : Nat} (h : k ≤ idx b) (_hk : k < 9) (hh : holds k b = true) : idx b = k := by
  rcases Nat.lt_or_ge k (idx b) with h1 | h1
  · rw [idx_not h1] at hh; cases hh
  · omega

theorem idx_next {b k : Nat} (h : k ≤ idx b) (hk : k < 9) (hh : holds k b = false) : k + 1 ≤ idx b := by
  rcases Nat.lt_or_ge k (idx b) with h1 | h1
  · exact h1
  · have e : idx b = k := by omega
    have := idx_holds (b := b) (by omega)
    rw [e, hh] at this
    cases this

theorem holds_int (i b : Nat) (lo hi : Int) (h1 : (tabN.getD (9 * i + 1) 0 : Nat) = lo) (h2 : (tabN.getD (9 * i + 2) 0 : Nat) = hi) : (decide (lo ≤ (b : Int)) && decide ((b : Int) ≤ hi)) = holds i b := by
  unfold holds
  rw [← h1, ← h2, Bool.eq_iff_iff]
  simp

set_option maxHeartbeats 1000000 in
theorem formOf_any (b : Nat) (w : World) (hT : Tbl w) (hlt : 1 < w.heap.size) :
    Calls Tryd.prog 48 #[.int .u8 (b : Int)] w fun e w' => e = formE b ∧ Below w.heap.size w w' := by
  have HT := hide' hT
  have HL := hide' hlt
  clear hT hlt
  have hix := idx_le b
  go_enter Tryd.func48, Tryd.ntmps48
  go_wp2
  go_loopg [4, 5] 9 (fun g u v wr => ∃ k : Nat, k ≤ idx b ∧ g = 9 - k ∧ v = .int .i64 (k : Int) ∧ Hid (Below w.heap.size w wr))
  case atStart => exact ⟨0, Nat.zero_le _, rfl, rfl, Below.refl _ _⟩
  case round =>
    obtain ⟨k, hk, rfl, rfl, HB⟩ := hrel
    have hk9 : k = 0 ∨ k = 1 ∨ k = 2 ∨ k = 3 ∨ k = 4 ∨ k = 5 ∨ k = 6 ∨ k = 7 ∨ k = 8 ∨ k = 9 := by omega
    rcases hk9 with rfl | rfl | rfl | rfl | rfl | rfl | rfl | rfl | rfl | rfl
    · have c1 := HT.out.at HB.out HL.out 1 (by decide) (v := .int .u8 0) rfl
      have c2 := HT.out.at HB.out HL.out 2 (by decide) (v := .int .u8 127) rfl
      have hi := @idx_of b 0 hk (by decide)
      have hn := @idx_next b 0 hk (by decide)
      have HH := hide' (hold_any 0 127 b (holds 0 b) · (holds_int 0 b _ _ rfl rfl))
      cases hh : holds 0 b
      · rw [hh] at HH
        have hk' := hn hh
        clear hi hn hh
        go_wp2_with fail
        refine (HH.out _).mono ?_
        rintro e w1 ⟨rfl, hb⟩
        have HB1 : Hid (Below w.heap.size w w1) := HB.out.trans (hb.mono HB.out.size)
        clear hb
        go_wp2
        go_roundg (9 - (0 + 1))
        case rel => exact ⟨_, hk', rfl, rfl, HB1⟩
        case measure => omega
      · rw [hh] at HH
        have hk' := formE_yes (hi hh) (by decide)
        have HK := hide' hk'
        clear hi hn hh hk'
        go_wp2_with fail
        refine (HH.out _).mono ?_
        rintro e w1 ⟨rfl, hb⟩
        have HB1 : Hid (Below w.heap.size w w1) := HB.out.trans (hb.mono HB.out.size)
        clear hb
        go_wp2
        go_ret2
        exact ⟨HK.out.symm, HB1.out⟩
    · have c1 := HT.out.at HB.out HL.out 10 (by decide) (v := .int .u8 194) rfl
      have c2 := HT.out.at HB.out HL.out 11 (by decide) (v := .int .u8 223) rfl
      have hi := @idx_of b 1 hk (by decide)
      have hn := @idx_next b 1 hk (by decide)
      have HH := hide' (hold_any 194 223 b (holds 1 b) · (holds_int 1 b _ _ rfl rfl))
      cases hh : holds 1 b
      · rw [hh] at HH
        have hk' := hn hh
        clear hi hn hh
        go_wp2_with fail
        refine (HH.out _).mono ?_
        rintro e w1 ⟨rfl, hb⟩
        have HB1 : Hid (Below w.heap.size w w1) := HB.out.trans (hb.mono HB.out.size)
        clear hb
        go_wp2
        go_roundg (9 - (1 + 1))
        case rel => exact ⟨_, hk', rfl, rfl, HB1⟩
        case measure => omega
      · rw [hh] at HH
        have hk' := formE_yes (hi hh) (by decide)
        have HK := hide' hk'
        clear hi hn hh hk'
        go_wp2_with fail
        refine (HH.out _).mono ?_
        rintro e w1 ⟨rfl, hb⟩
        have HB1 : Hid (Below w.heap.size w w1) := HB.out.trans (hb.mono HB.out.size)
        clear hb
        go_wp2
        go_ret2
        exact ⟨HK.out.symm, HB1.out⟩
    · have c1 := HT.out.at HB.out HL.out 19 (by decide) (v := .int .u8 224) rfl
      have c2 := HT.out.at HB.out HL.out 20 (by decide) (v := .int .u8 224) rfl
      have hi := @idx_of b 2 hk (by decide)
      have hn := @idx_next b 2 hk (by decide)
      have HH := hide' (hold_any 224 224 b (holds 2 b) · (holds_int 2 b _ _ rfl rfl))
      cases hh : holds 2 b
      · rw [hh] at HH
        have hk' := hn hh
        clear hi hn hh
        go_wp2_with fail
        refine (HH.out _).mono ?_
        rintro e w1 ⟨rfl, hb⟩
        have HB1 : Hid (Below w.heap.size w w1) := HB.out.trans (hb.mono HB.out.size)
        clear hb
        go_wp2
        go_roundg (9 - (2 + 1))
        case rel => exact ⟨_, hk', rfl, rfl, HB1⟩
        case measure => omega
      · rw [hh] at HH
        have hk' := formE_yes (hi hh) (by decide)
        have HK := hide' hk'
        clear hi hn hh hk'
        go_wp2_with fail
        refine (HH.out _).mono ?_
        rintro e w1 ⟨rfl, hb⟩
        have HB1 : Hid (Below w.heap.size w w1) := HB.out.trans (hb.mono HB.out.size)
        clear hb
        go_wp2
        go_ret2
        exact ⟨HK.out.symm, HB1.out⟩
    · have c1 := HT.out.at HB.out HL.out 28 (by decide) (v := .int .u8 225) rfl
      have c2 := HT.out.at HB.out HL.out 29 (by decide) (v := .int .u8 236) rfl
      have hi := @idx_of b 3 hk (by decide)
      have hn := @idx_next b 3 hk (by decide)
      have HH := hide' (hold_any 225 236 b (holds 3 b) · (holds_int 3 b _ _ rfl rfl))
      cases hh : holds 3 b
      · rw [hh] at HH
        have hk' := hn hh
        clear hi hn hh
        go_wp2_with fail
        refine (HH.out _).mono ?_
        rintro e w1 ⟨rfl, hb⟩
        have HB1 : Hid (Below w.heap.size w w1) := HB.out.trans (hb.mono HB.out.size)
        clear hb
        go_wp2
        go_roundg (9 - (3 + 1))
        case rel => exact ⟨_, hk', rfl, rfl, HB1⟩
        case measure => omega
      · rw [hh] at HH
        have hk' := formE_yes (hi hh) (by decide)
        have HK := hide' hk'
        clear hi hn hh hk'
        go_wp2_with fail
        refine (HH.out _).mono ?_
        rintro e w1 ⟨rfl, hb⟩
        have HB1 : Hid (Below w.heap.size w w1) := HB.out.trans (hb.mono HB.out.size)
        clear hb
        go_wp2
        go_ret2
        exact ⟨HK.out.symm, HB1.out⟩
    · have c1 := HT.out.at HB.out HL.out 37 (by decide) (v := .int .u8 237) rfl
      have c2 := HT.out.at HB.out HL.out 38 (by decide) (v := .int .u8 237) rfl
      have hi := @idx_of b 4 hk (by decide)
      have hn := @idx_next b 4 hk (by decide)
      have HH := hide' (hold_any 237 237 b (holds 4 b) · (holds_int 4 b _ _ rfl rfl))
      cases hh : holds 4 b
      · rw [hh] at HH
        have hk' := hn hh
        clear hi hn hh
        go_wp2_with fail
        refine (HH.out _).mono ?_
        rintro e w1 ⟨rfl, hb⟩
        have HB1 : Hid (Below w.heap.size w w1) := HB.out.trans (hb.mono HB.out.size)
        clear hb
        go_wp2
        go_roundg (9 - (4 + 1))
        case rel => exact ⟨_, hk', rfl, rfl, HB1⟩
        case measure => omega
      · rw [hh] at HH
        have hk' := formE_yes (hi hh) (by decide)
        have HK := hide' hk'
        clear hi hn hh hk'
        go_wp2_with fail
        refine (HH.out _).mono ?_
        rintro e w1 ⟨rfl, hb⟩
        have HB1 : Hid (Below w.heap.size w w1) := HB.out.trans (hb.mono HB.out.size)
        clear hb
        go_wp2
        go_ret2
        exact ⟨HK.out.symm, HB1.out⟩
    · have c1 := HT.out.at HB.out HL.out 46 (by decide) (v := .int .u8 238) rfl
      have c2 := HT.out.at HB.out HL.out 47 (by decide) (v := .int .u8 239) rfl
      have hi := @idx_of b 5 hk (by decide)
      have hn := @idx_next b 5 hk (by decide)
      have HH := hide' (hold_any 238 239 b (holds 5 b) · (holds_int 5 b _ _ rfl rfl))
      cases hh : holds 5 b
      · rw [hh] at HH
        have hk' := hn hh
        clear hi hn hh
        go_wp2_with fail
        refine (HH.out _).mono ?_
        rintro e w1 ⟨rfl, hb⟩
        have HB1 : Hid (Below w.heap.size w w1) := HB.out.trans (hb.mono HB.out.size)
        clear hb
        go_wp2
        go_roundg (9 - (5 + 1))
        case rel => exact ⟨_, hk', rfl, rfl, HB1⟩
        case measure => omega
      · rw [hh] at HH
        have hk' := formE_yes (hi hh) (by decide)
        have HK := hide' hk'
        clear hi hn hh hk'
        go_wp2_with fail
        refine (HH.out _).mono ?_
        rintro e w1 ⟨rfl, hb⟩
        have HB1 : Hid (Below w.heap.size w w1) := HB.out.trans (hb.mono HB.out.size)
        clear hb
        go_wp2
        go_ret2
        exact ⟨HK.out.symm, HB1.out⟩
    · have c1 := HT.out.at HB.out HL.out 55 (by decide) (v := .int .u8 240) rfl
      have c2 := HT.out.at HB.out HL.out 56 (by decide) (v := .int .u8 240) rfl
      have hi := @idx_of b 6 hk (by decide)
      have hn := @idx_next b 6 hk (by decide)
      have HH := hide' (hold_any 240 240 b (holds 6 b) · (holds_int 6 b _ _ rfl rfl))
      cases hh : holds 6 b
      · rw [hh] at HH
        have hk' := hn hh
        clear hi hn hh
        go_wp2_with fail
        refine (HH.out _).mono ?_
        rintro e w1 ⟨rfl, hb⟩
        have HB1 : Hid (Below w.heap.size w w1) := HB.out.trans (hb.mono HB.out.size)
        clear hb
        go_wp2
        go_roundg (9 - (6 + 1))
        case rel => exact ⟨_, hk', rfl, rfl, HB1⟩
        case measure => omega
      · rw [hh] at HH
        have hk' := formE_yes (hi hh) (by decide)
        have HK := hide' hk'
        clear hi hn hh hk'
        go_wp2_with fail
        refine (HH.out _).mono ?_
        rintro e w1 ⟨rfl, hb⟩
        have HB1 : Hid (Below w.heap.size w w1) := HB.out.trans (hb.mono HB.out.size)
        clear hb
        go_wp2
        go_ret2
        exact ⟨HK.out.symm, HB1.out⟩
    · have c1 := HT.out.at HB.out HL.out 64 (by decide) (v := .int .u8 241) rfl
      have c2 := HT.out.at HB.out HL.out 65 (by decide) (v := .int .u8 243) rfl
      have hi := @idx_of b 7 hk (by decide)
      have hn := @idx_next b 7 hk (by decide)
      have HH := hide' (hold_any 241 243 b (holds 7 b) · (holds_int 7 b _ _ rfl rfl))
      cases hh : holds 7 b
      · rw [hh] at HH
        have hk' := hn hh
        clear hi hn hh
        go_wp2_with fail
        refine (HH.out _).mono ?_
        rintro e w1 ⟨rfl, hb⟩
        have HB1 : Hid (Below w.heap.size w w1) := HB.out.trans (hb.mono HB.out.size)
        clear hb
        go_wp2
        go_roundg (9 - (7 + 1))
        case rel => exact ⟨_, hk', rfl, rfl, HB1⟩
        case measure => omega
      · rw [hh] at HH
        have hk' := formE_yes (hi hh) (by decide)
        have HK := hide' hk'
        clear hi hn hh hk'
        go_wp2_with fail
        refine (HH.out _).mono ?_
        rintro e w1 ⟨rfl, hb⟩
        have HB1 : Hid (Below w.heap.size w w1) := HB.out.trans (hb.mono HB.out.size)
        clear hb
        go_wp2
        go_ret2
        exact ⟨HK.out.symm, HB1.out⟩
    · have c1 := HT.out.at HB.out HL.out 73 (by decide) (v := .int .u8 244) rfl
      have c2 := HT.out.at HB.out HL.out 74 (by decide) (v := .int .u8 244) rfl
      have hi := @idx_of b 8 hk (by decide)
      have hn := @idx_next b 8 hk (by decide)
      have HH := hide' (hold_any 244 244 b (holds 8 b) · (holds_int 8 b _ _ rfl rfl))
      cases hh : holds 8 b
      · rw [hh] at HH
        have hk' := hn hh
        clear hi hn hh
        go_wp2_with fail
        refine (HH.out _).mono ?_
        rintro e w1 ⟨rfl, hb⟩
        have HB1 : Hid (Below w.heap.size w w1) := HB.out.trans (hb.mono HB.out.size)
        clear hb
        go_wp2
        go_roundg (9 - (8 + 1))
        case rel => exact ⟨_, hk', rfl, rfl, HB1⟩
        case measure => omega
      · rw [hh] at HH
        have hk' := formE_yes (hi hh) (by decide)
        have HK := hide' hk'
        clear hi hn hh hk'
        go_wp2_with fail
        refine (HH.out _).mono ?_
        rintro e w1 ⟨rfl, hb⟩
        have HB1 : Hid (Below w.heap.size w w1) := HB.out.trans (hb.mono HB.out.size)
        clear hb
        go_wp2
        go_ret2
        exact ⟨HK.out.symm, HB1.out⟩
    · have HK : Hid (idx b = 9) := Nat.le_antisymm hix hk
      go_wp2
      go_ret2
      exact ⟨(formE_no HK.out).symm, HB.out⟩

end Go.Proofs.YticccknocjnkpaaDoor.Utf

namespace Go.Proofs.YticccknocjnkpaaDoor.Utf
open Go.RowKit

theorem info21 : (Tryd.prog.info? 21).map (fun i => (i.zero, i.size, i.bytes)) = some (some (.int .i32 0), 1, 4) := by kernel_rfl

/-- A rune is added to an own row. -/
theorem app1 {ops : Array Oper} {rest : List Oper} {o : Oper} {a : Act} {Q : Exit → Act → World → Prop} (hgd : o.guard = none) (s x : Operand)
    (ho : o.op = .call { callee := .builtin .append, args := #[s, x], argTypes := #[42, 42] }) {w : World} {base n B : Nat} {v : Value} {xs : List Value} (z : Int)
    (hs : a.eval s = v) (hown : w.ownsRow base 21 1 v n xs) (hx : a.eval x = .slice (some ⟨B, 0, none⟩) 1 1) (hB : w.heap.size = B) (hn : n < 1000000) (hbase : base ≤ w.heap.size)
    (h : ∀ v' w', w'.ownsRow base 21 1 v' (n + 1) (xs ++ [.int .i32 z]) → Stay (fun k => base ≤ k) w w' → wpList Tryd.prog ops Q rest (a.put o.dst v') w') :
    wpList Tryd.prog ops Q (o :: rest) a (w.alloc (.cells #[.int .i32 z] 21)) := by
  subst hB
  obtain ⟨i, hi, hzz⟩ := Option.map_eq_some_iff.1 info21
  simp only [Prod.mk.injEq] at hzz
  obtain ⟨h1, h2, h3⟩ := hzz
  refine wpList_append_own _ hgd s x 42 ho base 21 i (.int .i32 0) 1 4 Tryd.underlying42 hi h1 h2 h3 rfl (by decide) v n xs hs (hown.alloc _) ⟨w.heap.size, 0, none⟩ 1 1 [.int .i32 z] hx rfl (cell_one_new _ _ _)
    (fun y hy => by simp at hy; subst hy; rfl) (by unfold maxLen; omega) (by omega) (by simp; omega) ?_
  intro v' w' hown' hg _
  refine h v' w' hown' (((Stay.refl _ w).alloc _).grown hg fun k hk _ => ?_)
  exact (hown.lt k hk).1

/-- The cells of a decoder. -/
def decF (f k v : Nat) (i : Nat) : Value := if i = 0 then .int .i64 (f : Nat) else if i = 1 then .int .i64 (k : Nat) else .int .i32 (v : Nat)

def Dec (w : World) (D f k v : Nat) : Prop := w.rowIs D 72 3 (decF f k v)

/-- Three stores into a decoder. -/
theorem Dec.set3 {w : World} {D f k v : Nat} (h : Dec w D f k v) (f' k' v' : Nat) : Dec (((w.setCell ⟨D, 0, none⟩ (.int .i64 (f' : Nat))).setCell ⟨D, 1, none⟩ (.int .i64 (k' : Nat))).setCell ⟨D, 2, none⟩ (.int .i32 (v' : Nat))) D f' k' v' :=
  (((h.set 0 _).set 1 _).set 2 _).congr fun i hi => by
    have : i = 0 ∨ i = 1 ∨ i = 2 := by omega
    rcases this with rfl | rfl | rfl <;> rfl

theorem Dec.clear {w : World} {D f k v : Nat} (h : Dec w D f k v) : Dec (((w.setCell ⟨D, 0, none⟩ (.int .i64 0)).setCell ⟨D, 1, none⟩ (.int .i64 0)).setCell ⟨D, 2, none⟩ (.int .i32 0)) D 0 0 0 := h.set3 0 0 0

theorem stay3 {w : World} {D : Nat} (a b c : Value) {S : Nat → Prop} (h : S D) : Stay S w (((w.setCell ⟨D, 0, none⟩ a).setCell ⟨D, 1, none⟩ b).setCell ⟨D, 2, none⟩ c) :=
  (((Stay.refl S w).setCell (p := ⟨D, 0, none⟩) h _).setCell (p := ⟨D, 1, none⟩) h _).setCell (p := ⟨D, 2, none⟩) h _

theorem own_ne {w : World} {base D n : Nat} {t : Value} {xs : List Value} (ht : w.ownsRow base 21 1 t n xs) (hb : D < base) : ∀ k, t.ownBlock = some k → ¬ (k = D) := fun k hk e => by
  have := (ht.lt k hk).1
  omega

theorem end_any (D f k v base n : Nat) (t : Value) (xs : List Value) (w : World) (hD : Dec w D f k v) (hb : D < base) (hbw : base ≤ w.heap.size) (ht : w.ownsRow base 21 1 t n xs) (hn : n < 1000000) (hk : 0 < k) (hk3 : k ≤ 3) :
    Calls Tryd.prog 27 #[.pointer (some ⟨D, 0, none⟩), t] w fun e w' => ∃ t', e = .returned t' ∧ w'.ownsRow base 21 1 t' (n + 1) (xs ++ [.int .i32 65533]) ∧ Dec w' D 0 0 0 ∧ Stay (fun k => k = D ∨ base ≤ k) w w' := by
  have hkz : ((k : Int) == 0) = false := by simp; omega
  have c1 : w.cell? ⟨D, 1, none⟩ = some (.int .i64 (k : Nat)) := hD.cell (i := 1) (by decide)
  have c0 : w.cell? ⟨D, 0, none⟩ = some (.int .i64 (f : Nat)) := hD.cell (i := 0) (by decide)
  have c2 : w.cell? ⟨D, 2, none⟩ = some (.int .i32 (v : Nat)) := hD.cell (i := 2) (by decide)
  have f0 := hD.frozen 0
  have f1 := hD.frozen 1
  have f2 := hD.frozen 2
  have h3 := hD.clear
  have hs := stay3 (w := w) (D := D) (.int .i64 0) (.int .i64 0) (.int .i32 0) (S := fun k => k = D) rfl
  have ho := hs.owns ht (own_ne ht hb)
  have HD := hide' h3
  have HT := hide' ho
  have HS := hide' hs
  clear hD ht h3 hs ho
  go_enter Tryd.func27, Tryd.ntmps27
  go_wp2_with (at_builtin; refine app1 rfl _ _ rfl 65533 rfl HT.out rfl (by simp) hn (by simp; omega) ?_; intro t' w1 ho1 hs1)
  go_ret
  exact ⟨t', rfl, ho1, hs1.row HD.out (by simp; omega), (HS.out.mono fun k _ h => Or.inl h).trans (hs1.mono fun k _ h => Or.inr h)⟩

theorem end_none (D f v : Nat) (t : Value) (w : World) (hD : Dec w D f 0 v) :
    Calls Tryd.prog 27 #[.pointer (some ⟨D, 0, none⟩), t] w fun e w' => e = .returned t ∧ w = w' := by
  have c1 : w.cell? ⟨D, 1, none⟩ = some (.int .i64 0) := hD.cell (i := 1) (by decide)
  go_enter Tryd.func27, Tryd.ntmps27
  go_wp2
  go_ret
  exact ⟨rfl, rfl⟩

end Go.Proofs.YticccknocjnkpaaDoor.Utf

namespace Go.Proofs.YticccknocjnkpaaDoor.Utf
open Go.RowKit

theorem Tbl.size {w : World} (hT : Tbl w) {f s : Nat} (hf : f < 9) (hs : tabN.getD (9 * f) 0 = s) : w.cell? ⟨1, f * 9, none⟩ = some (.int .i64 (s : Nat)) := by
  rw [Nat.mul_comm, hT (9 * f) (by omega)]
  unfold tabV
  rw [if_pos (by omega), hs]

/-- Two stores into a decoder, as a taken byte makes them. -/
theorem Dec.set2 {w : World} {D f k v : Nat} (h : Dec w D f k v) {y : Nat} {X K : Int} (hX : X = (y : Nat)) (hK : K = (k + 1 : Nat)) :
    Dec ((w.setCell ⟨D, 2, none⟩ (.int .i32 X)).setCell ⟨D, 1, none⟩ (.int .i64 K)) D f (k + 1) y := by
  subst hX hK
  exact ((h.set 2 _).set 1 _).congr fun i hi => by
    have : i = 0 ∨ i = 1 ∨ i = 2 := by omega
    rcases this with rfl | rfl | rfl <;> rfl

theorem stay2 {w : World} {D : Nat} (a b : Value) {S : Nat → Prop} (h : S D) : Stay S w ((w.setCell ⟨D, 2, none⟩ a).setCell ⟨D, 1, none⟩ b) :=
  ((Stay.refl S w).setCell (p := ⟨D, 2, none⟩) h _).setCell (p := ⟨D, 1, none⟩) h _

set_option maxHeartbeats 400000 in
theorem take_more (D f k v x y s : Nat) (t : Value) (w : World) (hT : Tbl w) (hD : Dec w D f k v) (h0 : 1 < D)
    (hf : f < 9) (hs : tabN.getD (9 * f) 0 = s) (hk : k + 1 < s) (hk4 : k < 4) (hv : v < 65536) (hx : x < 256) (hy : bits .or .i32 ((v : Int) * 64) (x : Int) = (y : Nat)) :
    Calls Tryd.prog 47 #[.pointer (some ⟨D, 0, none⟩), t, .int .u8 (x : Nat)] w fun e w' => e = .returned t ∧ Dec w' D f (k + 1) y ∧ Stay (fun k => k = D) w w' := by
  have c1 : w.cell? ⟨D, 1, none⟩ = some (.int .i64 (k : Nat)) := hD.cell (i := 1) (by decide)
  have c0 : w.cell? ⟨D, 0, none⟩ = some (.int .i64 (f : Nat)) := hD.cell (i := 0) (by decide)
  have c2 : w.cell? ⟨D, 2, none⟩ = some (.int .i32 (v : Nat)) := hD.cell (i := 2) (by decide)
  have f0 := hD.frozen 0
  have f1 := hD.frozen 1
  have f2 := hD.frozen 2
  have ct := hT.size hf hs
  have n1 : ¬ D = 1 := by omega
  have n2 : ¬ 0 = D := by omega
  have z1 : (0 : Int) ≤ f := by omega
  have z2 : (f : Int) < 9 := by omega
  have hlt : decide ((k : Int) + 1 < s) = true := by simp; omega
  have HS := hide' hs
  have HY := hide' hy
  have H0 := hide' h0
  have HTB := hide' hT
  have HD := hide' hD
  clear hT hs hy h0 hD hk
  go_enter Tryd.func47, Tryd.ntmps47
  go_wp2
  go_quiet (fail)
  go_wp2
  go_ret
  exact ⟨rfl, HD.out.set2 HY.out rfl, (stay2 (S := fun k => k = D) _ _ rfl).drewN _⟩

set_option maxHeartbeats 400000 in
theorem take_full (D f k v base n x y s : Nat) (t : Value) (xs : List Value) (w : World) (hT : Tbl w) (hD : Dec w D f k v) (h0 : 1 < D) (hb : D < base) (hbw : base ≤ w.heap.size) (ht : w.ownsRow base 21 1 t n xs) (hn : n < 1000000)
    (hf : f < 9) (hs : tabN.getD (9 * f) 0 = s) (hk : s = k + 1) (hk4 : k < 4) (hv : v < 65536) (hx : x < 256) (hy : bits .or .i32 ((v : Int) * 64) (x : Int) = (y : Nat)) :
    Calls Tryd.prog 47 #[.pointer (some ⟨D, 0, none⟩), t, .int .u8 (x : Nat)] w fun e w' => ∃ t', e = .returned t' ∧ w'.ownsRow base 21 1 t' (n + 1) (xs ++ [.int .i32 (y : Nat)]) ∧ Dec w' D 0 0 0 ∧ Stay (fun k => k = D ∨ base ≤ k) w w' := by
  have c1 : w.cell? ⟨D, 1, none⟩ = some (.int .i64 (k : Nat)) := hD.cell (i := 1) (by decide)
  have c0 : w.cell? ⟨D, 0, none⟩ = some (.int .i64 (f : Nat)) := hD.cell (i := 0) (by decide)
  have c2 : w.cell? ⟨D, 2, none⟩ = some (.int .i32 (v : Nat)) := hD.cell (i := 2) (by decide)
  have f0 := hD.frozen 0
  have f1 := hD.frozen 1
  have f2 := hD.frozen 2
  have ct := hT.size hf hs
  have n1 : ¬ D = 1 := by omega
  have n2 : ¬ 0 = D := by omega
  have z1 : (0 : Int) ≤ f := by omega
  have z2 : (f : Int) < 9 := by omega
  have hlt : decide ((k : Int) + 1 < s) = false := by simp; omega
  have HS := hide' hs
  have HY := hide' hy
  have H0 := hide' h0
  have HTB := hide' hT
  have HD := hide' hD
  have HT := hide' ht
  clear hT hs hy h0 hD hk ht
  go_enter Tryd.func47, Tryd.ntmps47
  go_wp2
  go_quiet (fail)
  generalize hW : World.drewN _ nq = W
  have hDW : Dec W D f (k + 1) y := by rw [← hW]; exact HD.out.set2 HY.out rfl
  have hSW : Stay (fun k => k = D) w W := by rw [← hW]; exact (stay2 (S := fun k => k = D) _ _ rfl).drewN _
  have HDW := hide' hDW
  have HSW := hide' hSW
  have HTW := hide' (hSW.owns HT.out (own_ne HT.out hb))
  have d0 : W.cell? ⟨D, 0, none⟩ = some (.int .i64 (f : Nat)) := hDW.cell (i := 0) (by decide)
  have d1 : W.cell? ⟨D, 1, none⟩ = some (.int .i64 (k + 1 : Nat)) := hDW.cell (i := 1) (by decide)
  have d2 : W.cell? ⟨D, 2, none⟩ = some (.int .i32 (y : Nat)) := hDW.cell (i := 2) (by decide)
  have g0 := hDW.frozen 0
  have g1 := hDW.frozen 1
  have g2 := hDW.frozen 2
  have hs2 := stay3 (w := W) (D := D) (.int .i64 0) (.int .i64 0) (.int .i32 0) (S := fun k => k = D) rfl
  have HS2 := hide' hs2
  have HO2 := hide' (hs2.owns HTW.out (own_ne HT.out hb))
  have hsz := hSW.size
  clear hW hDW hSW hs2 c0 c1 c2 f0 f1 f2
  go_wp2_with (at_builtin; refine app1 rfl _ _ rfl (y : Nat) rfl HO2.out rfl (by simp) hn (by simp; omega) ?_; intro t' w1 ho1 hs1)
  go_ret
  exact ⟨t', rfl, ho1, hs1.row HDW.out.clear (by simp; omega), ((HSW.out.trans HS2.out).mono fun k _ h => Or.inl h).trans (hs1.mono fun k _ h => Or.inr h)⟩

end Go.Proofs.YticccknocjnkpaaDoor.Utf
