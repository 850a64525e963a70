/-
  OpostParts walked: true of any arguments. No conditions.
-/
import Derived.Test.YtjpdlnifbinloaaE2
namespace Go.Proofs.Ytjpdlnifbinloaa
open Go.RowKit

attribute [local go_sem] extract0 extract1

theorem parts_out (o col : Int) (a1 a2 : Option Addr) (n1 c1 n2 c2 : Nat) (w : World) (h1 : (n1 : Int) ≤ 9223372036854775807) (h2 : (n2 : Int) ≤ 9223372036854775807) (hn : 200 < n1 ∨ 200 < n2) : Calls Try.prog 5 #[.int .i64 o, .int .i64 col, .slice a1 n1 c1, .slice a2 n2 c2] w (LawTrue w) := by
  have HAW := hide' awake7
  by_cases h1 : 200 < n1
  · have i1 : (200 : Int) < (n1 : Nat) := by omega
    clear hn
    go_enter Try.func5, Try.ntmps5
    go_wp2_with fail
    refine (HAW.out _).mono ?_
    rintro e w9 ⟨rfl, hs⟩
    have HE := hide' hs
    clear hs
    go_wp2
    go_ret
    exact ⟨rfl, HE.out⟩
  · have i1 : ¬ (200 : Int) < (n1 : Nat) := by omega
    have i2 : (200 : Int) < (n2 : Nat) := by omega
    clear hn
    go_enter Try.func5, Try.ntmps5
    go_wp2_with fail
    refine (HAW.out _).mono ?_
    rintro e w9 ⟨rfl, hs⟩
    have HE := hide' hs
    clear hs
    go_wp2
    go_ret
    exact ⟨rfl, HE.out⟩

set_option maxHeartbeats 2000000 in
theorem parts_go (o col : Int) (a1 a2 : Option Addr) (n1 c1 n2 c2 : Nat) (A B : List Int) (w : World) (hA : IArg .u8 w (.slice a1 n1 c1) A a1 c1) (hB : IArg .u8 w (.slice a2 n2 c2) B a2 c2) (hlA : A.length = n1) (hlB : B.length = n2) (hn1 : n1 ≤ 200) (hn2 : n2 ≤ 200) : Calls Try.prog 5 #[.int .i64 o, .int .i64 col, .slice a1 n1 c1, .slice a2 n2 c2] w (LawTrue w) := by
  have i1 : ¬ (200 : Int) < (n1 : Nat) := by omega
  have i2 : ¬ (200 : Int) < (n2 : Nat) := by omega
  have HAW := hide' awake7
  obtain ⟨X, kn, hX⟩ : ∃ L k, (L, k) = bytesM (cnt o) (plc col) A := ⟨_, _, rfl⟩
  obtain ⟨Y, km, hY⟩ : ∃ L k, (L, k) = bytesM (cnt o) (plc kn) B := ⟨_, _, rfl⟩
  obtain ⟨kk, hkk⟩ : ∃ k, k = (bytesM (cnt o) kn B).2 := ⟨_, rfl⟩
  have hZ : bytesM (cnt o) (plc col) (A ++ B) = (X ++ Y, kk) := by
    rw [bytesM_append, ← hX, hkk]
    have h := bytesM_plc_bytes (cnt o) kn B
    rw [← hY] at h
    simp only at h
    simp only [h]
  have HKM : Hid (kk = km ∨ 1073741824 < kn) := by
    by_cases hb : B = []
    · subst hb
      rw [bytesM_nil] at hkk hY
      have e1 : kk = kn := hkk
      have e2 : km = plc kn := (Prod.mk.inj hY).2
      have h0 : 0 ≤ kn := by have h := bytesM_range (cnt o) A (plc col) (plc_range col).1; rw [← hX] at h; exact h
      by_cases h1 : kn ≤ 1073741824
      · exact .inl (by rw [e1, e2, plc_id h0 h1])
      · exact .inr (by omega)
    · refine .inl ?_
      have h := bytesM_plc_col (cnt o) kn B hb
      rw [← hY] at h
      rw [hkk]
      exact h.symm
  have HLX : Hid (X.length ≤ 1600 ∧ Y.length ≤ 1600) := by
    have h1 := bytesM_len (cnt o) A (plc col)
    have h2 := bytesM_len (cnt o) B (plc kn)
    rw [← hX] at h1
    rw [← hY] at h2
    simp only at h1 h2
    exact ⟨by omega, by omega⟩
  have H8 : Hid (∀ w', Stay (fun _ => False) w w' → Calls Try.prog 8 #[.int .i64 o, .int .i64 col, .slice a1 n1 c1] w' (Adds w' [] (X, kn))) := fun w' hs => adds_eq (bytes8 o col _ A a1 c1 w' (by omega) (hA.stay0 hs)) hX
  have H82 : Hid (∀ w', Stay (fun _ => False) w w' → Calls Try.prog 8 #[.int .i64 o, .int .i64 kn, .slice a2 n2 c2] w' (Adds w' [] (Y, km))) := fun w' hs => adds_eq (bytes8 o kn _ B a2 c2 w' (by omega) (hB.stay0 hs)) hY
  have H83 : Hid (∀ W0 w' v, Acc W0 w' v ([] ++ A ++ B) → Calls Try.prog 8 #[.int .i64 o, .int .i64 col, v] w' (Adds w' [] (X ++ Y, kk))) := fun W0 w' v ha => by
    obtain ⟨ad, cp, h⟩ := ha.arg
    refine adds_eq (bytes8 o col _ _ ad cp w' (by simp; omega) h) ?_
    rw [List.nil_append]
    exact hZ.symm
  have HA := hide' hA
  have HB := hide' hB
  have HLN : Hid (A.length = n1 ∧ B.length = n2 ∧ n1 ≤ 200 ∧ n2 ≤ 200) := ⟨hlA, hlB, hn1, hn2⟩
  clear hA hB hX hY hZ hkk hlA hlB
  go_enter Try.func5, Try.ntmps5
  go_wp2_with fail
  refine (H8.out _ (Stay.refl _ _)).mono ?_
  rintro e w1 ⟨vx, rfl, ha⟩
  have HX1 := hide' ha
  have HS1 := hide' ha.stay
  clear ha H8
  go_wp2_with fail
  refine (H82.out _ HS1.out).mono ?_
  rintro e w2 ⟨vy, rfl, ha⟩
  have HX2 := hide' (HX1.out.keep ha.stay)
  have HY2 := hide' ha
  have HS2 := hide' (HS1.out.trans ha.stay)
  clear ha H82 HS1 HX1
  have HE3 := hide' (Acc.new w2 #[] [] 0 rfl rfl (fun x hx => by simp at hx) (by omega))
  have HI3 : Hid (∀ w', Stay (fun _ => False) w2 w' → IArg .u8 w' (.slice a1 n1 c1) A a1 c1) := fun w' hs => HA.out.stay0 (HS2.out.trans hs)
  have HJ3 : Hid (∀ w', Stay (fun _ => False) w2 w' → IArg .u8 w' (.slice a2 n2 c2) B a2 c2) := fun w' hs => HB.out.stay0 (HS2.out.trans hs)
  have HL3 : Hid (([] : List Int).length + A.length ≤ 1000000) := by show ([] : List Int).length + A.length ≤ 1000000; have := HLN.out; simp; omega
  have HM3 : Hid ((([] : List Int) ++ A).length + B.length ≤ 1000000) := by show (([] : List Int) ++ A).length + B.length ≤ 1000000; have := HLN.out; simp; omega
  go_wp2_with (at_builtin; go_must (refine acc_app rfl _ _ rfl HE3.out rfl (HI3.out _ ((Stay.refl _ _).alloc _)) rfl HL3.out ?_; intro v3 w3 ha; have HF3 := hide' ha; clear ha; have HJ3' := hide' (HJ3.out _ HF3.out.stay); go_wp2_with (at_builtin; go_must (refine acc_app rfl _ _ rfl HF3.out rfl HJ3'.out rfl HM3.out ?_; intro vz w3b ha; have HG3 := hide' ha; clear ha; go_wp2_with fail))))
  refine (H83.out _ _ _ HG3.out).mono ?_
  rintro e w4 ⟨vz2, rfl, ha⟩
  have hst : Stay (fun _ => False) w2 w4 := HG3.out.stay.trans ha.stay
  have HZ4 := hide' ha
  have HX4 := hide' (HX2.out.keep hst)
  have HY4 := hide' (HY2.out.keep hst)
  have HS4 := hide' (HS2.out.trans hst)
  obtain ⟨xa, xc, hXI⟩ := HX4.out.arg
  obtain ⟨ya, yc, hYI⟩ := HY4.out.arg
  clear ha hst H83 HE3 HI3 HJ3 HL3 HM3 HF3 HG3 HX2 HY2 HS2
  have HE5 := hide' (Acc.new w4 #[] [] 0 rfl rfl (fun x hx => by simp at hx) (by omega))
  have HI5 : Hid (∀ w', Stay (fun _ => False) w4 w' → IArg .u8 w' vx ([] ++ X) xa xc) := fun w' hs => hXI.stay0 hs
  have HJ5 : Hid (∀ w', Stay (fun _ => False) w4 w' → IArg .u8 w' vy ([] ++ Y) ya yc) := fun w' hs => hYI.stay0 hs
  have HL5 : Hid (([] : List Int).length + ([] ++ X).length ≤ 1000000) := by show ([] : List Int).length + ([] ++ X).length ≤ 1000000; have := HLX.out; simp; omega
  have HM5 : Hid ((([] : List Int) ++ ([] ++ X)).length + ([] ++ Y).length ≤ 1000000) := by show (([] : List Int) ++ ([] ++ X)).length + ([] ++ Y).length ≤ 1000000; have := HLX.out; simp; omega
  clear hXI hYI
  go_wp2_with (at_builtin; go_must (refine acc_app rfl _ _ rfl HE5.out rfl (HI5.out _ ((Stay.refl _ _).alloc _)) rfl HL5.out ?_; intro v5 w5 ha; have HF5 := hide' ha; clear ha; have HJ5' := hide' (HJ5.out _ HF5.out.stay); go_wp2_with (at_builtin; go_must (refine acc_app rfl _ _ rfl HF5.out rfl HJ5'.out rfl HM5.out ?_; intro vr w5b ha; have HG5 := hide' ha; clear ha; go_wp2_with fail))))
  have HSM := hide' (sameB _ _ (X ++ Y) w5b (HZ4.out.bs.keep HG5.out.stay) (by have h := HG5.out.bs; simpa using h) (by have := HLX.out; rw [List.length_append]; omega))
  have HS5 := hide' (HS4.out.trans HG5.out.stay)
  clear HE5 HI5 HJ5 HL5 HM5 HF5
  refine HSM.out.mono ?_
  rintro e w6 ⟨rfl, hs⟩
  have HS6 := hide' (HS5.out.trans hs)
  clear hs HSM HG5 HZ4 HX4 HY4
  by_cases hek : kk = km
  · have ek : (kk == km) = true := beq_t hek
    clear hek
    go_wp2_with fail
    refine (HAW.out _).mono ?_
    rintro e w9 ⟨rfl, hs⟩
    have HE := hide' (HS6.out.trans hs)
    clear hs
    go_wp2
    go_ret
    exact ⟨rfl, HE.out⟩
  · have ek : (kk == km) = false := beq_f hek
    have ek2 : 1073741824 < kn := by rcases HKM.out with h | h; exact absurd h hek; exact h
    clear hek
    go_wp2_with fail
    refine (HAW.out _).mono ?_
    rintro e w9 ⟨rfl, hs⟩
    have HE := hide' (HS6.out.trans hs)
    clear hs
    go_wp2
    go_ret
    exact ⟨rfl, HE.out⟩

end Go.Proofs.Ytjpdlnifbinloaa
