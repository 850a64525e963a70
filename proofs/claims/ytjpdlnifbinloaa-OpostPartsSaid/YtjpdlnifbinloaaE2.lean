/-
  OpostStays walked: true of any arguments. No conditions.
-/
import Derived.Test.YtjpdlnifbinloaaE1
import Derived.Deep.RegionHeld3
namespace Go.Proofs.Ytjpdlnifbinloaa
open Go.RowKit

attribute [local go_sem] extract0 extract1

theorem stays_out (o col : Int) (a : Option Addr) (n c : Nat) (w : World) (hle : (n : Int) ≤ 9223372036854775807) (hn : 300 < n ∨ col < 0 ∨ 1048576 < col) : Calls Try.prog 4 #[.int .i64 o, .int .i64 col, .slice a n c] w (LawTrue w) := by
  have HAW := hide' awake7
  by_cases h1 : 300 < n
  · have i1 : (300 : Int) < (n : Nat) := by omega
    clear hn
    go_enter Try.func4, Try.ntmps4
    go_wp2_with fail
    refine (HAW.out _).mono ?_
    rintro e w9 ⟨rfl, hs⟩
    have HE := hide' hs
    clear hs
    go_wp2
    go_ret
    exact ⟨rfl, HE.out⟩
  · have i1 : ¬ (300 : Int) < (n : Nat) := by omega
    by_cases h2 : col < 0
    · clear hn
      go_enter Try.func4, Try.ntmps4
      go_wp2_with fail
      refine (HAW.out _).mono ?_
      rintro e w9 ⟨rfl, hs⟩
      have HE := hide' hs
      clear hs
      go_wp2
      go_ret
      exact ⟨rfl, HE.out⟩
    · have h3 : 1048576 < col := by omega
      clear hn
      go_enter Try.func4, Try.ntmps4
      go_wp2_with fail
      refine (HAW.out _).mono ?_
      rintro e w9 ⟨rfl, hs⟩
      have HE := hide' hs
      clear hs
      go_wp2
      go_ret
      exact ⟨rfl, HE.out⟩

theorem has_andNot (o : Int) : has (bits .andNot .i64 o 1) 1 = false := by
  unfold has
  have h : bits .and .i64 (bits .andNot .i64 o 1) 1 = 0 := by
    have e : BitVec.ofInt 64 (bits .andNot .i64 o 1) = BitVec.ofInt 64 o &&& ~~~ (BitVec.ofInt 64 1) := by
      show BitVec.ofInt 64 (IntKind.i64.wrap ((BitVec.ofInt 64 o &&& ~~~ (BitVec.ofInt 64 1)).toNat : Nat)) = _
      generalize (BitVec.ofInt 64 o &&& ~~~ (BitVec.ofInt 64 1)) = z
      apply BitVec.eq_of_toNat_eq
      rw [BitVec.toNat_ofInt, IntKind.wrap_i64]
      have := z.isLt
      omega
    show IntKind.i64.wrap ((BitVec.ofInt 64 (bits .andNot .i64 o 1) &&& BitVec.ofInt 64 1).toNat : Nat) = 0
    rw [e]
    have : BitVec.ofInt 64 o &&& ~~~ (BitVec.ofInt 64 1) &&& BitVec.ofInt 64 1 = 0#64 := by
      rw [BitVec.and_assoc, BitVec.and_comm (~~~ _)]
      simp
    rw [this]
    decide
  rw [h]
  rfl

theorem has_or (o : Int) : has (bits .or .i64 o 1) 1 = true := by
  unfold has
  have h : bits .and .i64 (bits .or .i64 o 1) 1 = 1 := by
    have e : BitVec.ofInt 64 (bits .or .i64 o 1) = BitVec.ofInt 64 o ||| BitVec.ofInt 64 1 := by
      show BitVec.ofInt 64 (IntKind.i64.wrap ((BitVec.ofInt 64 o ||| BitVec.ofInt 64 1).toNat : Nat)) = _
      generalize (BitVec.ofInt 64 o ||| BitVec.ofInt 64 1) = z
      apply BitVec.eq_of_toNat_eq
      rw [BitVec.toNat_ofInt, IntKind.wrap_i64]
      have := z.isLt
      omega
    show IntKind.i64.wrap ((BitVec.ofInt 64 (bits .or .i64 o 1) &&& BitVec.ofInt 64 1).toNat : Nat) = 1
    rw [e]
    have : (BitVec.ofInt 64 o ||| BitVec.ofInt 64 1) &&& BitVec.ofInt 64 1 = BitVec.ofInt 64 1 := by
      ext i hi
      simp only [BitVec.getElem_and, BitVec.getElem_or]
      cases (BitVec.ofInt 64 o)[i] <;> simp
    rw [this]
    decide
  rw [h]
  rfl

set_option maxHeartbeats 2000000 in
theorem stays_go (o col : Int) (a : Option Addr) (n c : Nat) (S : List Int) (w : World) (hA : IArg .u8 w (.slice a n c) S a c) (hl : S.length = n) (hn : n ≤ 300) (h0 : 0 ≤ col) (h1 : col ≤ 1048576) : Calls Try.prog 4 #[.int .i64 o, .int .i64 col, .slice a n c] w (LawTrue w) := by
  have i1 : ¬ (300 : Int) < (n : Nat) := by omega
  have HAW := hide' awake7
  obtain ⟨o1, ho1⟩ : ∃ z, z = bits .andNot .i64 o 1 := ⟨_, rfl⟩
  obtain ⟨o2, ho2⟩ : ∃ z, z = bits .or .i64 o 1 := ⟨_, rfl⟩
  have e1 : bits .andNot .i64 o 1 = o1 := ho1.symm
  have e2 : bits .or .i64 o 1 = o2 := ho2.symm
  obtain ⟨k1, hk1⟩ : ∃ k, k = (bytesM 0 (plc col) S).2 := ⟨_, rfl⟩
  obtain ⟨k2, hk2⟩ : ∃ k : Int, k = col + n := ⟨_, rfl⟩
  have HLL : Hid (S.length ≤ 300) := by show S.length ≤ 300; omega
  have H8 : Hid (∀ w', Stay (fun _ => False) w w' → Calls Try.prog 8 #[.int .i64 o1, .int .i64 col, .slice a n c] w' (Adds w' [] (S, k1))) := fun w' hs => by
    have h := bytes8 o1 col _ S a c w' (by omega) (hA.stay0 hs)
    rw [cnt_zero (by rw [ho1]; exact has_andNot o)] at h
    refine adds_eq h ?_
    rw [hk1]
    exact Prod.ext (bytesM_zero S _).symm rfl
  have H82 : Hid ((∀ x ∈ S, 32 ≤ x ∧ x ≤ 126) → ∀ w', Stay (fun _ => False) w w' → Calls Try.prog 8 #[.int .i64 o2, .int .i64 col, .slice a n c] w' (Adds w' [] (S, k2))) := fun hp w' hs => by
    have h := bytes8 o2 col _ S a c w' (by omega) (hA.stay0 hs)
    rw [cnt_same (by rw [ho2]; exact has_or o), plc_id h0 (by omega), bytesM_plain o2 S col hp h0 (by omega)] at h
    refine adds_eq h ?_
    rw [hk2, hl]
  have HS0 := hide' (Stay.refl (fun _ => False) w)
  have HA := hide' hA
  have HN := hide' hl
  have wk : IntKind.i64.wrap (col + n) = k2 := by rw [hk2, IntKind.wrap_i64]; omega
  clear hA hl hk1 hk2 ho1 ho2
  go_enter Try.func4, Try.ntmps4
  go_wp2_with fail
  refine (H8.out _ (Stay.refl _ _)).mono ?_
  rintro e w1 ⟨v1, rfl, ha⟩
  have HSM := hide' (sameB _ _ S w1 ha.bs (bs_arg (HA.out.stay0 ha.stay)) (by have := HLL.out; omega))
  have HS1 := hide' ha.stay
  clear ha H8 e1
  go_wp2_with fail
  refine HSM.out.mono ?_
  rintro e w2 ⟨rfl, hs⟩
  have HS2 := hide' (HS1.out.trans hs)
  clear hs HSM HS1
  go_wp2_with fail
  go_loopg [9] n (fun gg v9 wr => ∃ j : Nat, j ≤ n ∧ gg = n - j ∧ v9 = .int .i64 (j : Int) ∧ Hid (Stay (fun _ => False) w wr ∧ ∀ i, i < j → 32 ≤ S.getD i 0 ∧ S.getD i 0 ≤ 126))
  case atStart => exact ⟨0, Nat.zero_le _, rfl, rfl, HS2.out, fun i hi => by omega⟩
  case round =>
    clear HS2
    obtain ⟨j, hj, rfl, rfl, HR⟩ := hrel
    by_cases hlt : j < n
    · have jz : (j : Int) < n := by omega
      have j0 : (0 : Int) ≤ j := by omega
      have hjl : j < S.length := by have := HN.out; omega
      have hne : S ≠ [] := fun e => by rw [e] at hjl; simp at hjl
      obtain ⟨b, off, rfl, _, hI⟩ := (HA.out.stay0 HR.out.1).cells hne
      obtain ⟨x, hx⟩ : ∃ x, x = S.getD j 0 := ⟨_, rfl⟩
      have a1 : wr.cell? ⟨b, off + j, none⟩ = some (.int .u8 x) := by rw [hx]; exact hI j hjl
      have HX := hide' hx
      have HSR := hide' HR.out.1
      clear hx hI hne hjl
      by_cases hx1 : x < 32
      · clear H82 wk
        go_wp2_with fail
        refine (HAW.out _).mono ?_
        rintro e w9 ⟨rfl, hs⟩
        have HE := hide' (HSR.out.trans hs)
        clear hs
        go_wp2
        go_ret
        exact ⟨rfl, HE.out⟩
      · by_cases hx2 : 126 < x
        · clear H82 wk
          go_wp2_with fail
          refine (HAW.out _).mono ?_
          rintro e w9 ⟨rfl, hs⟩
          have HE := hide' (HSR.out.trans hs)
          clear hs
          go_wp2
          go_ret
          exact ⟨rfl, HE.out⟩
        · have HXR : Hid (32 ≤ x ∧ x ≤ 126) := by show _ ∧ _; omega
          go_wp2
          go_roundg (n - (j + 1))
          case measure => omega
          case rel =>
            refine ⟨j + 1, by omega, rfl, by go_num, ?_, fun i hi => ?_⟩
            · first | exact HSR.out | exact HSR.out.drew | exact HSR.out.drewN _
            · by_cases e : i = j
              · subst e; rw [← HX.out]; exact HXR.out
              · exact HR.out.2 i (by omega)
    · have e : j = n := by omega
      subst e
      have hp : ∀ x ∈ S, 32 ≤ x ∧ x ≤ 126 := by
        intro x hx
        obtain ⟨i, hi, rfl⟩ := List.getElem_of_mem hx
        have h := HR.out.2 i (by have := HN.out; omega)
        rw [List.getD_eq_getElem?_getD, List.getElem?_eq_getElem hi] at h
        exact h
      have H83 := hide' (H82.out hp)
      have HSR := hide' HR.out.1
      clear hp H82 HR
      go_wp2_with fail
      refine (H83.out _ HSR.out).mono ?_
      rintro e w3 ⟨v3, rfl, ha⟩
      have HS3 := hide' (HSR.out.trans ha.stay)
      have HSM := hide' (sameB _ _ S w3 ha.bs (bs_arg (HA.out.stay0 HS3.out)) (by have := HLL.out; omega))
      clear ha H83 HSR
      go_wp2_with fail
      refine HSM.out.mono ?_
      rintro e w4 ⟨rfl, hs⟩
      have HS4 := hide' (HS3.out.trans hs)
      clear hs HSM HS3
      go_wp2_with fail
      refine (HAW.out _).mono ?_
      rintro e w9 ⟨rfl, hs⟩
      have HE := hide' (HS4.out.trans hs)
      clear hs
      go_wp2
      go_ret
      exact ⟨rfl, HE.out⟩

end Go.Proofs.Ytjpdlnifbinloaa
