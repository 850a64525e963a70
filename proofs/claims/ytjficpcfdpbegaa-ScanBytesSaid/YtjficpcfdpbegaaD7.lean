/-
  The bytes of a key but Alt, whatever the key: walked. No conditions.
-/
import Derived.Test.YtjficpcfdpbegaaD2
import Derived.Test.YtjficpcfdpbegaaD3
import Derived.Test.YtjficpcfdpbegaaD4
import Derived.Test.YtjficpcfdpbegaaD5
import Derived.Test.YtjficpcfdpbegaaD6
namespace Go.Proofs.Ytjficpcfdpbegaa
open Go.RowKit

theorem getD_byte (l : List Int) (h : (l.all fun x => decide (0 ≤ x) && decide (x < 256)) = true) (i : Nat) : 0 ≤ l.getD i 0 ∧ l.getD i 0 < 256 := by
  rw [List.getD_eq_getElem?_getD]
  rcases Nat.lt_or_ge i l.length with hi | hi
  · rw [List.getElem?_eq_getElem hi]
    have := List.all_eq_true.1 h _ (List.getElem_mem hi)
    simpa using this
  · rw [List.getElem?_eq_none hi]
    simp

theorem wa_byte (c : Int) (sh ct app : Bool) : ∀ x ∈ waL c sh ct app, 0 ≤ x ∧ x < 256 := by
  have t1 := getD_byte typedT (by decide)
  have t2 := getD_byte shiftT (by decide)
  have t3 := getD_byte [65, 66, 67, 68, 72, 70] (by decide)
  have t4 := getD_byte [53, 54, 50, 51] (by decide)
  intro x hx
  unfold waL at hx
  by_cases h1 : 1 ≤ c ∧ c ≤ 26
  · rw [if_pos h1] at hx
    cases ct <;> cases sh <;> simp at hx <;> omega
  rw [if_neg h1] at hx
  by_cases h2 : c = 37
  · rw [if_pos h2] at hx
    cases ct <;> simp at hx <;> omega
  rw [if_neg h2] at hx
  by_cases h3 : c = 40
  · rw [if_pos h3] at hx
    cases sh <;> simp at hx <;> omega
  rw [if_neg h3] at hx
  by_cases h4 : 27 ≤ c ∧ c ≤ 52
  · rw [if_pos h4] at hx
    cases sh
    · obtain rfl : x = _ := List.mem_singleton.1 hx
      exact t1 _
    · obtain rfl : x = _ := List.mem_singleton.1 hx
      exact t2 _
  rw [if_neg h4] at hx
  by_cases h5 : 64 ≤ c ∧ c ≤ 69
  · rw [if_pos h5] at hx
    rcases List.mem_cons.1 hx with rfl | hx
    · omega
    rcases List.mem_cons.1 hx with rfl | hx
    · cases app <;> decide
    obtain rfl : x = _ := List.mem_singleton.1 hx
    exact t3 _
  rw [if_neg h5] at hx
  by_cases h6 : 70 ≤ c ∧ c ≤ 73
  · rw [if_pos h6] at hx
    rcases List.mem_cons.1 hx with rfl | hx
    · omega
    rcases List.mem_cons.1 hx with rfl | hx
    · omega
    rcases List.mem_cons.1 hx with rfl | hx
    · exact t4 _
    obtain rfl : x = _ := List.mem_singleton.1 hx
    omega
  rw [if_neg h6] at hx
  by_cases h7 : 80 ≤ c ∧ c ≤ 83
  · rw [if_pos h7] at hx
    simp at hx
    omega
  rw [if_neg h7] at hx
  simp at hx

theorem wa_len (c : Int) (sh ct app : Bool) : (waL c sh ct app).length ≤ 4 := by
  unfold waL
  repeat' split
  all_goals simp

theorem withoutAlt17 (c m : Int) (app : Bool) (w : World) : Calls Try.prog 17 #[.agg #[.int .i64 c, .int .i64 m], .bool app] w (Gives (.string (bsOf (waL c (bitB m 1) (bitB m 2) app))) w) := by
  have hc : (1 ≤ c ∧ c ≤ 26) ∨ (27 ≤ c ∧ c ≤ 52 ∧ c ≠ 37 ∧ c ≠ 40) ∨ c = 37 ∨ c = 40 ∨ (64 ≤ c ∧ c ≤ 69) ∨ (70 ≤ c ∧ c ≤ 73) ∨ (80 ≤ c ∧ c ≤ 83) ∨ c ≤ 0 ∨ (53 ≤ c ∧ c ≤ 63) ∨ (74 ≤ c ∧ c ≤ 79) ∨ 84 ≤ c := by omega
  cases h1 : bitB m 1 <;> cases h2 : bitB m 2
  · rcases hc with g | g | rfl | rfl | g | g | g | g | g | g | g
    · exact wa17_A_nn c m app w g.1 g.2 h1 h2
    · exact wa17_B_nn c m app w g.1 g.2.1 g.2.2.1 g.2.2.2 h1 h2
    · exact wa17_C_nn m app w  h1 h2
    · exact wa17_D_nn m app w  h1 h2
    · cases app
      · exact wa17_E_nnn c m w g.1 g.2 h1 h2
      · exact wa17_E_nna c m w g.1 g.2 h1 h2
    · cases app
      · exact wa17_F_nnn c m w g.1 g.2 h1 h2
      · exact wa17_F_nna c m w g.1 g.2 h1 h2
    · cases app
      · exact wa17_G_nnn c m w g.1 g.2 h1 h2
      · exact wa17_G_nna c m w g.1 g.2 h1 h2
    · cases app
      · exact wa17_H0_nnn c m w g h1 h2
      · exact wa17_H0_nna c m w g h1 h2
    · cases app
      · exact wa17_H1_nnn c m w g.1 g.2 h1 h2
      · exact wa17_H1_nna c m w g.1 g.2 h1 h2
    · cases app
      · exact wa17_H2_nnn c m w g.1 g.2 h1 h2
      · exact wa17_H2_nna c m w g.1 g.2 h1 h2
    · cases app
      · exact wa17_H3_nnn c m w g h1 h2
      · exact wa17_H3_nna c m w g h1 h2
  · rcases hc with g | g | rfl | rfl | g | g | g | g | g | g | g
    · exact wa17_A_nc c m app w g.1 g.2 h1 h2
    · exact wa17_B_nc c m app w g.1 g.2.1 g.2.2.1 g.2.2.2 h1 h2
    · exact wa17_C_nc m app w  h1 h2
    · exact wa17_D_nc m app w  h1 h2
    · cases app
      · exact wa17_E_ncn c m w g.1 g.2 h1 h2
      · exact wa17_E_nca c m w g.1 g.2 h1 h2
    · cases app
      · exact wa17_F_ncn c m w g.1 g.2 h1 h2
      · exact wa17_F_nca c m w g.1 g.2 h1 h2
    · cases app
      · exact wa17_G_ncn c m w g.1 g.2 h1 h2
      · exact wa17_G_nca c m w g.1 g.2 h1 h2
    · cases app
      · exact wa17_H0_ncn c m w g h1 h2
      · exact wa17_H0_nca c m w g h1 h2
    · cases app
      · exact wa17_H1_ncn c m w g.1 g.2 h1 h2
      · exact wa17_H1_nca c m w g.1 g.2 h1 h2
    · cases app
      · exact wa17_H2_ncn c m w g.1 g.2 h1 h2
      · exact wa17_H2_nca c m w g.1 g.2 h1 h2
    · cases app
      · exact wa17_H3_ncn c m w g h1 h2
      · exact wa17_H3_nca c m w g h1 h2
  · rcases hc with g | g | rfl | rfl | g | g | g | g | g | g | g
    · exact wa17_A_sn c m app w g.1 g.2 h1 h2
    · exact wa17_B_sn c m app w g.1 g.2.1 g.2.2.1 g.2.2.2 h1 h2
    · exact wa17_C_sn m app w  h1 h2
    · exact wa17_D_sn m app w  h1 h2
    · cases app
      · exact wa17_E_snn c m w g.1 g.2 h1 h2
      · exact wa17_E_sna c m w g.1 g.2 h1 h2
    · cases app
      · exact wa17_F_snn c m w g.1 g.2 h1 h2
      · exact wa17_F_sna c m w g.1 g.2 h1 h2
    · cases app
      · exact wa17_G_snn c m w g.1 g.2 h1 h2
      · exact wa17_G_sna c m w g.1 g.2 h1 h2
    · cases app
      · exact wa17_H0_snn c m w g h1 h2
      · exact wa17_H0_sna c m w g h1 h2
    · cases app
      · exact wa17_H1_snn c m w g.1 g.2 h1 h2
      · exact wa17_H1_sna c m w g.1 g.2 h1 h2
    · cases app
      · exact wa17_H2_snn c m w g.1 g.2 h1 h2
      · exact wa17_H2_sna c m w g.1 g.2 h1 h2
    · cases app
      · exact wa17_H3_snn c m w g h1 h2
      · exact wa17_H3_sna c m w g h1 h2
  · rcases hc with g | g | rfl | rfl | g | g | g | g | g | g | g
    · exact wa17_A_sc c m app w g.1 g.2 h1 h2
    · exact wa17_B_sc c m app w g.1 g.2.1 g.2.2.1 g.2.2.2 h1 h2
    · exact wa17_C_sc m app w  h1 h2
    · exact wa17_D_sc m app w  h1 h2
    · cases app
      · exact wa17_E_scn c m w g.1 g.2 h1 h2
      · exact wa17_E_sca c m w g.1 g.2 h1 h2
    · cases app
      · exact wa17_F_scn c m w g.1 g.2 h1 h2
      · exact wa17_F_sca c m w g.1 g.2 h1 h2
    · cases app
      · exact wa17_G_scn c m w g.1 g.2 h1 h2
      · exact wa17_G_sca c m w g.1 g.2 h1 h2
    · cases app
      · exact wa17_H0_scn c m w g h1 h2
      · exact wa17_H0_sca c m w g h1 h2
    · cases app
      · exact wa17_H1_scn c m w g.1 g.2 h1 h2
      · exact wa17_H1_sca c m w g.1 g.2 h1 h2
    · cases app
      · exact wa17_H2_scn c m w g.1 g.2 h1 h2
      · exact wa17_H2_sca c m w g.1 g.2 h1 h2
    · cases app
      · exact wa17_H3_scn c m w g h1 h2
      · exact wa17_H3_sca c m w g h1 h2

end Go.Proofs.Ytjficpcfdpbegaa
