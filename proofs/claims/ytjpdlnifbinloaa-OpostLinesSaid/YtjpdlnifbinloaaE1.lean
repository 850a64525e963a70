/-
  OpostTells walked: true of any arguments. No conditions.
-/
import Derived.Test.YtjpdlnifbinloaaD5
namespace Go.Proofs.Ytjpdlnifbinloaa
open Go.RowKit

attribute [local go_sem] extract0 extract1

theorem adds_eq {W0 : World} {l : List Int} {r r2 : List Int × Int} {w : World} {f : Nat} {xs : Array Value} (h : Calls Try.prog f xs w (Adds W0 l r)) (e : r2 = r) : Calls Try.prog f xs w (Adds W0 l r2) := by subst e; exact h

theorem tells_long (o col : Int) (a : Option Addr) (n c : Nat) (w : World) (hle : (n : Int) ≤ 9223372036854775807) (hn : 300 < n) : Calls Try.prog 3 #[.int .i64 o, .int .i64 col, .slice a n c] w (LawTrue w) := by
  have i1 : (300 : Int) < (n : Nat) := by omega
  have HAW := hide' awake7
  go_enter Try.func3, Try.ntmps3
  go_wp2_with fail
  refine (HAW.out _).mono ?_
  rintro e w9 ⟨rfl, hs⟩
  have HE := hide' hs
  clear hs
  go_wp2
  go_ret
  exact ⟨rfl, HE.out⟩

/-- A post that is kept in a box. -/
theorem keep_box {w : World} (v : Value) (k : Int) (h : w.heap.size = w.heap.size) : PBox (w.alloc (.cells #[v, .int .i64 k] 27)) w.heap.size ⟨v, k⟩ := PBox.new ⟨v, k⟩ h

set_option maxHeartbeats 2000000 in
theorem tells_go (o col : Int) (a : Option Addr) (n c : Nat) (S : List Int) (w : World) (hA : IArg .u8 w (.slice a n c) S a c) (hl : S.length = n) (hn : n ≤ 300) : Calls Try.prog 3 #[.int .i64 o, .int .i64 col, .slice a n c] w (LawTrue w) := by
  have i1 : ¬ (300 : Int) < (n : Nat) := by omega
  have HAW := hide' awake7
  obtain ⟨L, k, hr⟩ : ∃ L k, (L, k) = bytesM (cnt o) (plc col) S := ⟨_, _, rfl⟩
  have hk0 : 0 ≤ k := by have h := bytesM_range (cnt o) S (plc col) (plc_range col).1; rw [← hr] at h; exact h
  have d0 : decide (k < 0) = false := by simp; omega
  have HLL : Hid (L.length ≤ 2400) := by show L.length ≤ 2400; have h := bytesM_len (cnt o) S (plc col); rw [← hr] at h; simp only at h; omega
  have H8 : Hid (∀ w', Stay (fun _ => False) w w' → Calls Try.prog 8 #[.int .i64 o, .int .i64 col, .slice a n c] w' (Adds w' [] (L, k))) := fun w' hs => by rw [hr]; exact bytes8 o col _ S a c w' (by omega) (hA.stay0 hs)
  have H9 : Hid (∀ w', Stay (fun _ => False) w w' → Calls Try.prog 9 #[.int .i64 o, .int .i64 col, .slice a n c] w' (Posts L k w')) := fun w' hs => by have h := rbytes9 o col _ S a c w' (by omega) (hA.stay0 hs); rw [← hr] at h; exact h
  have HS0 := hide' (Stay.refl (fun _ => False) w)
  have HR := hide' hr
  have HA := hide' hA
  have HN := hide' hl
  clear hr hk0 hA hl
  by_cases hz : n = 0
  · subst hz
    have HLZ : Hid (L = []) := by
      have h := HR.out
      rw [List.eq_nil_of_length_eq_zero HN.out, bytesM_nil] at h
      exact (Prod.mk.inj h).1
    go_enter Try.func3, Try.ntmps3
    go_wp2_with fail
    refine (H8.out _ (Stay.refl _ _)).mono ?_
    rintro e w1 ⟨v1, rfl, ha⟩
    obtain ⟨va, vc, hv⟩ := ha.shape
    obtain ⟨vn, hvn⟩ : ∃ z, z = ([] ++ L).length := ⟨_, rfl⟩
    rw [← hvn] at hv
    subst hv
    have HV1 := hide' ha.bs
    have HS1 := hide' ha.stay
    have HVN := hide' hvn
    clear ha hvn H8
    go_wp2_with fail
    refine (H9.out _ HS1.out).mono ?_
    rintro e w2 ⟨v2, rfl, ha⟩
    obtain ⟨xa, xc, hv⟩ := ha.shape
    obtain ⟨xn, hxn⟩ : ∃ z, z = L.length := ⟨_, rfl⟩
    rw [← hxn] at hv
    subst hv
    obtain ⟨g, hg⟩ : ∃ g, g = w2.heap.size := ⟨_, rfl⟩
    obtain ⟨W, hW⟩ : ∃ W, W = w2.alloc (.cells #[.slice xa xn xc, .int .i64 k] 27) := ⟨_, rfl⟩
    have hst : Stay (fun _ => False) w2 W := by rw [hW]; exact (Stay.refl _ _).alloc _
    have HB := hide' (PBox.new (w := w2) ⟨.slice xa xn xc, k⟩ hg.symm)
    rw [← hW] at HB
    have HV2 := hide' ((ha.bs).keep hst)
    have HV1' := hide' ((HV1.out.keep ha.stay).keep hst)
    clear HV1
    have HS2 := hide' ((HS1.out.trans ha.stay).trans hst)
    have HSM := hide' (sameB _ _ L W HV1'.out HV2.out (by have := HLL.out; omega))
    have HWG : Hid (W = w2.alloc (.cells #[.slice xa xn xc, .int .i64 k] 27) ∧ g = w2.heap.size) := ⟨hW, hg⟩
    clear ha hxn hg hW hst H9 HS1
    go_upto_region 5 with fail
    obtain ⟨hW, hg⟩ := HWG.out
    rw [← hW, ← hg]
    clear hW hg
    obtain ⟨c0, c1, f0, f1⟩ := HB.out
    simp only at c0 c1
    go_wp2_with fail
    refine HSM.out.mono ?_
    rintro e w3 ⟨rfl, hs⟩
    have HS3 := hide' (HS2.out.trans hs)
    have HB3 := hide' (HB.out.keep hs)
    clear hs HSM c0 c1 f0 f1 HB
    obtain ⟨c0, c1, f0, f1⟩ := HB3.out
    simp only at c0 c1
    have hv0 : vn = 0 := by rw [HVN.out, HLZ.out]; rfl
    subst hv0
    go_wp2_with fail
    refine (HAW.out _).mono ?_
    rintro e w9 ⟨rfl, hs⟩
    have HE := hide' (HS3.out.trans hs)
    clear hs
    go_wp2
    go_ret
    exact ⟨rfl, HE.out⟩
  · have hnz : (decide (n = 0)) = false := by simpa using hz
    have hnz2 : ((n : Int) == 0) = false := by simp; omega
    go_enter Try.func3, Try.ntmps3
    go_wp2_with fail
    refine (H8.out _ (Stay.refl _ _)).mono ?_
    rintro e w1 ⟨v1, rfl, ha⟩
    obtain ⟨va, vc, hv⟩ := ha.shape
    obtain ⟨vn, hvn⟩ : ∃ z, z = ([] ++ L).length := ⟨_, rfl⟩
    rw [← hvn] at hv
    subst hv
    have HV1 := hide' ha.bs
    have HS1 := hide' ha.stay
    have HVN := hide' hvn
    clear ha hvn H8
    go_wp2_with fail
    refine (H9.out _ HS1.out).mono ?_
    rintro e w2 ⟨v2, rfl, ha⟩
    obtain ⟨xa, xc, hv⟩ := ha.shape
    obtain ⟨xn, hxn⟩ : ∃ z, z = L.length := ⟨_, rfl⟩
    rw [← hxn] at hv
    subst hv
    obtain ⟨g, hg⟩ : ∃ g, g = w2.heap.size := ⟨_, rfl⟩
    obtain ⟨W, hW⟩ : ∃ W, W = w2.alloc (.cells #[.slice xa xn xc, .int .i64 k] 27) := ⟨_, rfl⟩
    have hst : Stay (fun _ => False) w2 W := by rw [hW]; exact (Stay.refl _ _).alloc _
    have HB := hide' (PBox.new (w := w2) ⟨.slice xa xn xc, k⟩ hg.symm)
    rw [← hW] at HB
    have HV2 := hide' ((ha.bs).keep hst)
    have HV1' := hide' ((HV1.out.keep ha.stay).keep hst)
    clear HV1
    have HS2 := hide' ((HS1.out.trans ha.stay).trans hst)
    have HSM := hide' (sameB _ _ L W HV1'.out HV2.out (by have := HLL.out; omega))
    have HWG : Hid (W = w2.alloc (.cells #[.slice xa xn xc, .int .i64 k] 27) ∧ g = w2.heap.size) := ⟨hW, hg⟩
    clear ha hxn hg hW hst H9 HS1
    go_upto_region 5 with fail
    obtain ⟨hW, hg⟩ := HWG.out
    rw [← hW, ← hg]
    clear hW hg
    obtain ⟨c0, c1, f0, f1⟩ := HB.out
    simp only at c0 c1
    go_wp2_with fail
    refine HSM.out.mono ?_
    rintro e w3 ⟨rfl, hs⟩
    have HS3 := hide' (HS2.out.trans hs)
    have HB3 := hide' (HB.out.keep hs)
    clear hs HSM c0 c1 f0 f1 HB
    obtain ⟨c0, c1, f0, f1⟩ := HB3.out
    simp only at c0 c1
    have HA3 := hide' (HA.out.stay0 HS3.out)
    have hne : S ≠ [] := fun e => by have := HN.out; rw [e] at this; simp at this; omega
    obtain ⟨b, off, rfl, _, hI⟩ := HA3.out.cells hne
    obtain ⟨x, hx⟩ : ∃ x, x = S.getD 0 0 := ⟨_, rfl⟩
    have a1 : w3.cell? ⟨b, off, none⟩ = some (.int .u8 x) := by rw [hx]; exact hI 0 (List.length_pos_iff.2 hne)
    have HXW : Hid ((Lit.int .u8 x).wf = true) := by rw [hx]; exact HA.out.wf _ (getD_mem (List.length_pos_iff.2 hne))
    have HT1 : Hid (S.take 1 = [x]) := by
      rw [hx]
      obtain ⟨y, ys, rfl⟩ := List.exists_cons_of_ne_nil hne
      rfl
    obtain ⟨L1, k1, hr1⟩ : ∃ L k, (L, k) = addM (cnt o) (plc col) x := ⟨_, _, rfl⟩
    have H11 : Hid (∀ w', Calls Try.prog 11 #[.int .i64 o, .int .i64 col, .int .u8 x] w' (Adds w' [] (L1, k1))) := fun w' => by rw [hr1]; exact byte11 o col x w' HXW.out
    have H91 : Hid (∀ w', Stay (fun _ => False) w w' → Calls Try.prog 9 #[.int .i64 o, .int .i64 col, .slice (some ⟨b, off, none⟩) 1 c] w' (Posts L1 k1 w')) := fun w' hs => by
      have h1 := (HA.out.stay0 hs).take 1 (by have := List.length_pos_iff.2 hne; omega)
      rw [HT1.out] at h1
      have h := rbytes9 o col _ [x] _ c w' (by simp) h1
      rw [bytesM_cons, bytesM_nil, plc_plc, ← hr1] at h
      simpa using h
    have HL1 : Hid (L1.length ≤ 8) := by show L1.length ≤ 8; have h := addM_len (cnt o) (plc col) x; rw [← hr1] at h; exact h
    have hcap : n ≤ c := by have := HA3.out.lenLe; rw [HN.out] at this; exact this
    clear hx hI hne HT1 hr1
    go_wp2_with fail
    refine (H11.out _).mono ?_
    rintro e w4 ⟨v4, rfl, ha⟩
    obtain ⟨ya, yc, hv⟩ := ha.shape
    obtain ⟨yn, hyn⟩ : ∃ z, z = ([] ++ L1).length := ⟨_, rfl⟩
    rw [← hyn] at hv
    subst hv
    have HV4 := hide' ha.bs
    have HS4 := hide' (HS3.out.trans ha.stay)
    clear ha hyn H11 a1 c0 c1 f0 f1 HB3
    go_wp2_with fail
    refine (H91.out _ HS4.out).mono ?_
    rintro e w5 ⟨v5, rfl, ha⟩
    obtain ⟨za, zc, hv⟩ := ha.shape
    obtain ⟨zn, hzn⟩ : ∃ z, z = L1.length := ⟨_, rfl⟩
    rw [← hzn] at hv
    subst hv
    obtain ⟨g, hg⟩ : ∃ g, g = w5.heap.size := ⟨_, rfl⟩
    obtain ⟨W, hW⟩ : ∃ W, W = w5.alloc (.cells #[.slice za zn zc, .int .i64 k1] 27) := ⟨_, rfl⟩
    have hst : Stay (fun _ => False) w5 W := by rw [hW]; exact (Stay.refl _ _).alloc _
    have HB := hide' (PBox.new (w := w5) ⟨.slice za zn zc, k1⟩ hg.symm)
    rw [← hW] at HB
    have HV5 := hide' ((ha.bs).keep hst)
    have HV4' := hide' ((HV4.out.keep ha.stay).keep hst)
    have HS5 := hide' ((HS4.out.trans ha.stay).trans hst)
    have HSM := hide' (sameB _ _ L1 W HV4'.out HV5.out (by have := HL1.out; omega))
    have HWG : Hid (W = w5.alloc (.cells #[.slice za zn zc, .int .i64 k1] 27) ∧ g = w5.heap.size) := ⟨hW, hg⟩
    clear ha hzn hg hW hst H91 HS4
    go_upto_region 11 with fail
    obtain ⟨hW, hg⟩ := HWG.out
    rw [← hW, ← hg]
    clear hW hg
    obtain ⟨c0, c1, f0, f1⟩ := HB.out
    simp only at c0 c1
    go_wp2_with fail
    refine HSM.out.mono ?_
    rintro e w6 ⟨rfl, hs⟩
    have HS6 := hide' (HS5.out.trans hs)
    have HB6 := hide' (HB.out.keep hs)
    clear hs HSM c0 c1 f0 f1 HB
    obtain ⟨c0, c1, f0, f1⟩ := HB6.out
    simp only at c0 c1
    go_wp2_with fail
    refine (HAW.out _).mono ?_
    rintro e w9 ⟨rfl, hs⟩
    have HE := hide' (HS6.out.trans hs)
    clear hs
    go_wp2
    go_ret
    exact ⟨rfl, HE.out⟩

end Go.Proofs.Ytjpdlnifbinloaa
