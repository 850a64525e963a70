/-
  ScanTypes: walked. No conditions.
-/
import Derived.Test.YtjficpcfdpbegaaF1
namespace Go.Proofs.Ytjficpcfdpbegaa
open Go.RowKit

/-- The one byte that a key has, or none. -/
def oneI (code mods : Nat) : Int := if code = 37 then -1 else match kbL code mods false with
  | [x] => x
  | _ => -1

def cntN (c : Int) : Nat → Nat
  | 0 => 0
  | i + 1 => cntN c i + (if oneI (i / 2 + 1) (i % 2) = c then 1 else 0)

theorem cnt_le (c : Int) : ∀ i, cntN c i ≤ i
  | 0 => Nat.le_refl _
  | i + 1 => by
    have := cnt_le c i
    unfold cntN
    split <;> omega

def cntL (c : Int) : List Int → Nat
  | [] => 0
  | x :: r => (if x = c then 1 else 0) + cntL c r

theorem cntL_append (c : Int) : ∀ (l r : List Int), cntL c (l ++ r) = cntL c l + cntL c r
  | [], r => by simp [cntL]
  | x :: l, r => by
    rw [List.cons_append, cntL, cntL, cntL_append c l r]
    omega

theorem cnt_list (c : Int) : ∀ n, cntN c n = cntL c ((List.range n).map fun i => oneI (i / 2 + 1) (i % 2))
  | 0 => rfl
  | n + 1 => by
    rw [List.range_succ, List.map_append, cntL_append, ← cnt_list c n]
    simp [cntN, cntL]

def onesT : List Int := [97, 65, 98, 66, 99, 67, 100, 68, 101, 69, 102, 70, 103, 71, 104, 72, 105, 73, 106, 74, 107, 75, 108, 76, 109, 77, 110, 78, 111, 79, 112, 80, 113, 81, 114, 82, 115, 83, 116, 84, 117, 85, 118, 86, 119, 87, 120, 88, 121, 89, 122, 90, 49, 33, 50, 64, 51, 35, 52, 36, 53, 37, 54, 94, 55, 38, 56, 42, 57, 40, 48, 41, -1, -1, 13, 13, 127, 127, 9, -1, 27, 27, 45, 95, 61, 43, 91, 123, 93, 125, 92, 124, 59, 58, 39, 34, 44, 60, 46, 62, 47, 63, 96, 126]


theorem ones_are : ((List.range 104).map fun i => oneI (i / 2 + 1) (i % 2)) = onesT := by decide +kernel

theorem cnt_all (c : Int) (h1 : 0 ≤ c) (h2 : c < 256) : (32 < c ∧ c < 127 → cntN c 104 = 1) ∧ cntN c 104 ≤ 2 := by
  rw [cnt_list c 104, ones_are]
  revert h1 h2
  exact fun h1 h2 => all_keys (fun c => (32 < c ∧ c < 127 → cntL c onesT = 1) ∧ cntL c onesT ≤ 2) 0 256 (by decide +kernel) c h1 h2

theorem one_of {k j : Nat} {x : Int} (h : kbL ((k : Int) + 1) j false = [x]) (hk : k ≠ 36) : oneI (k + 1) j = x := by
  unfold oneI
  rw [if_neg (by omega), show (((k + 1 : Nat) : Int)) = (k : Int) + 1 by omega, h]

theorem one_no {k j : Nat} (h : (kbL ((k : Int) + 1) j false).length ≠ 1 ∨ k = 36) : oneI (k + 1) j = -1 := by
  unfold oneI
  split
  · rfl
  rw [show (((k + 1 : Nat) : Int)) = (k : Int) + 1 by omega]
  split
  · rename_i x hx
    rw [hx] at h
    simp at h
    omega
  · rfl

theorem cnt_hit {c : Int} {k j : Nat} (hj : j < 2) (h : oneI (k + 1) j = c) : cntN c (2 * k + (j + 1)) = cntN c (2 * k + j) + 1 := by
  rw [show 2 * k + (j + 1) = (2 * k + j) + 1 by omega, cntN, show (2 * k + j) / 2 + 1 = k + 1 by omega, show (2 * k + j) % 2 = j by omega, if_pos h]

theorem cnt_miss {c : Int} {k j : Nat} (hj : j < 2) (h : oneI (k + 1) j ≠ c) : cntN c (2 * k + (j + 1)) = cntN c (2 * k + j) := by
  rw [show 2 * k + (j + 1) = (2 * k + j) + 1 by omega, cntN, show (2 * k + j) / 2 + 1 = k + 1 by omega, show (2 * k + j) % 2 = j by omega, if_neg h]
  rfl

set_option maxHeartbeats 1000000 in
theorem types_run7 (c : Int) (w : World) (hc0 : 0 ≤ c) (hc1 : c < 256) : Calls Try.prog 7 #[.int .u8 c] w (LawTrue w) := by
  have HC := hide' (And.intro hc0 hc1)
  have HA := hide' (cnt_all c hc0 hc1)
  go_enter Try.func7, Try.ntmps7
  go_wp2_with fail
  go_loopg [3, 4] 52 (fun g v3 v4 wr => ∃ k : Nat, k ≤ 52 ∧ g = 52 - k ∧ v3 = .int .i64 ((cntN c (2 * k) : Nat) : Int) ∧ v4 = .int .i64 ((k : Int) + 1) ∧ Hid (Newer w wr))
  case atStart => exact ⟨0, by omega, rfl, rfl, rfl, hide' (Newer.refl w)⟩
  case round =>
    obtain ⟨k, hk, rfl, rfl, rfl, HW⟩ := hrel
    by_cases hlt : k < 52
    · have k0 : (0 : Int) ≤ k := by omega
      have k1 : (k : Int) ≤ 51 := by omega
      have dk : decide ((k : Int) + 1 ≤ 52) = true := by simp; omega
      go_wp2_with fail
      go_loopg [3, 5] 2 (fun g v3 v5 wr => ∃ j : Nat, j ≤ 2 ∧ g = 2 - j ∧ v3 = .int .i64 ((cntN c (2 * k + j) : Nat) : Int) ∧ v5 = .int .i64 (j : Int) ∧ Hid (Newer w wr))
      case atStart => exact ⟨0, by omega, rfl, rfl, rfl, HW⟩
      case round =>
        obtain ⟨j, hj, rfl, rfl, rfl, HX⟩ := hrel
        by_cases hjt : j < 2
        · have j0 : (0 : Int) ≤ j := by omega
          have j1 : (j : Int) < 2 := by omega
          have HB := hide' (bytes13 ((k : Int) + 1) j false)
          obtain ⟨z, hz⟩ : ∃ z, z = cntN c (2 * k + j) := ⟨_, rfl⟩
          have hz1 : (z : Int) ≤ 200 := by have := cnt_le c (2 * k + j); omega
          have HZ := hide' hz
          rw [← hz]
          clear hz
          by_cases hl : (kbL ((k : Int) + 1) j false).length = 1
          · obtain ⟨x, hx⟩ : ∃ x, kbL ((k : Int) + 1) j false = [x] := List.length_eq_one_iff.1 hl
            have HO := hide' (fun h : k ≠ 36 => one_of hx h)
            rw [hx] at HB
            have HN := hide' (fun h : k = 36 => one_no (j := j) (.inr h))
            clear hl hx
            by_cases hxc : x = c
            · subst hxc
              by_cases h36 : k = 36
              · subst h36
                have HM := hide' (cnt_miss (c := x) hjt (by rw [HN.out rfl]; have := HC.out; omega))
                go_wp2_with fail
                refine (HB.out _).mono ?_
                rintro e w' ⟨v, rfl, hb, hs⟩
                have HY := hide' (HX.out.keep hs)
                obtain ⟨a, cp, rfl, h2, h3⟩ := hb
                obtain ⟨b, off, rfl, h4⟩ := h3 (by simp)
                have a1 : w'.cell? ⟨b, off, none⟩ = some (.int .u8 x) := h4 0 (by simp)
                clear hs h2 h3 h4 HX HB
                go_wp2
                go_roundg (2 - (j + 1))
                case measure => omega
                case rel => exact ⟨j + 1, by omega, rfl, by rw [HM.out, ← HZ.out], by go_num, HY⟩
              · have HM := hide' (cnt_hit (c := x) hjt (HO.out h36))
                have e36 : ((k : Int) + 1 == 37) = false := beq_f (by omega)
                have f36 : ((k : Int) == 36) = false := beq_f (by omega)
                go_wp2_with fail
                refine (HB.out _).mono ?_
                rintro e w' ⟨v, rfl, hb, hs⟩
                have HY := hide' (HX.out.keep hs)
                obtain ⟨a, cp, rfl, h2, h3⟩ := hb
                obtain ⟨b, off, rfl, h4⟩ := h3 (by simp)
                have a1 : w'.cell? ⟨b, off, none⟩ = some (.int .u8 x) := h4 0 (by simp)
                clear hs h2 h3 h4 HX HB
                go_wp2
                go_roundg (2 - (j + 1))
                case measure => omega
                case rel => exact ⟨j + 1, by omega, rfl, by rw [HM.out, ← HZ.out]; go_num, by go_num, HY⟩
            · have HM : Hid (cntN c (2 * k + (j + 1)) = cntN c (2 * k + j)) := by
                show _ = _
                refine cnt_miss hjt ?_
                by_cases h36 : k = 36
                · rw [HN.out h36]; have := HC.out; omega
                · rw [HO.out h36]; exact hxc
              have exc := beq_f hxc
              clear hxc HO HN
              go_wp2_with fail
              refine (HB.out _).mono ?_
              rintro e w' ⟨v, rfl, hb, hs⟩
              have HY := hide' (HX.out.keep hs)
              obtain ⟨a, cp, rfl, h2, h3⟩ := hb
              obtain ⟨b, off, rfl, h4⟩ := h3 (by simp)
              have a1 : w'.cell? ⟨b, off, none⟩ = some (.int .u8 x) := h4 0 (by simp)
              clear hs h2 h3 h4 HX HB
              go_wp2
              go_roundg (2 - (j + 1))
              case measure => omega
              case rel => exact ⟨j + 1, by omega, rfl, by rw [HM.out, ← HZ.out], by go_num, HY⟩
          · have HM := hide' (cnt_miss (c := c) hjt (by rw [one_no (.inl hl)]; have := HC.out; omega))
            obtain ⟨m, hm⟩ : ∃ m, m = (kbL ((k : Int) + 1) j false).length := ⟨_, rfl⟩
            rw [← hm] at hl
            have em : ((m : Int) == 1) = false := beq_f (by omega)
            have HMM := hide' hm
            clear hl hm
            go_wp2_with fail
            refine (HB.out _).mono ?_
            rintro e w' ⟨v, rfl, hb, hs⟩
            have HY := hide' (HX.out.keep hs)
            obtain ⟨a, cp, rfl, h2, h3⟩ := hb
            rw [← HMM.out]
            clear hs h2 h3 HX HB
            go_wp2
            go_roundg (2 - (j + 1))
            case measure => omega
            case rel => exact ⟨j + 1, by omega, rfl, by rw [HM.out, ← HZ.out], by go_num, HY⟩
        · have : j = 2 := by omega
          subst this
          go_wp2
          go_roundg (52 - (k + 1))
          case measure => omega
          case rel => exact ⟨k + 1, by omega, rfl, rfl, by go_num, HX⟩
    · have : k = 52 := by omega
      subst this
      have HX := hide' (fun wx => awake8 wx)
      obtain ⟨z, hz⟩ : ∃ z, z = cntN c (2 * 52) := ⟨_, rfl⟩
      have HB := HA.out
      rw [show (104 : Nat) = 2 * 52 from rfl, ← hz] at HB
      rw [← hz]
      clear hz
      obtain ⟨hb1, hb2⟩ := HB
      by_cases h1 : 32 < c
      · by_cases h2 : c < 127
        · have := hb1 ⟨h1, h2⟩
          subst this
          clear hb1 hb2
          go_wp2_with fail
          refine (HX.out _).mono ?_
          rintro e w' ⟨rfl, hs⟩
          have HY := hide' (HW.out.keep hs)
          clear hs
          go_wp2
          go_ret
          exact ⟨by simp, HY.out.out⟩
        · have d2 : decide (c < 127) = false := by simpa using h2
          have z2 : (z : Int) ≤ 2 := by omega
          clear hb1 hb2
          go_wp2_with fail
          refine (HX.out _).mono ?_
          rintro e w' ⟨rfl, hs⟩
          have HY := hide' (HW.out.keep hs)
          clear hs
          go_wp2
          go_ret
          exact ⟨by simp, HY.out.out⟩
      · have d1 : decide (32 < c) = false := by simpa using h1
        have z2 : (z : Int) ≤ 2 := by omega
        clear hb1 hb2
        go_wp2_with fail
        refine (HX.out _).mono ?_
        rintro e w' ⟨rfl, hs⟩
        have HY := hide' (HW.out.keep hs)
        clear hs
        go_wp2
        go_ret
        exact ⟨by simp, HY.out.out⟩

end Go.Proofs.Ytjficpcfdpbegaa
