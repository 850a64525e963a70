/-
  PatienceMore walked: true of any arguments. No conditions.
-/
import Derived.Test.YtdhlgjkjdmejfaaE1
namespace Go.Proofs.Ytdhlgjkjdmejfaa
open Go.RowKit

theorem more_out (mi ti wa : Int) (a c : Option Addr) (n na m mc : Nat) (w : World) (hn : (n : Int) ≤ 9223372036854775807) (hm : (m : Int) ≤ 9223372036854775807) (h : 40 < n ∨ 40 < m) : Calls Try.prog 5 #[.int .u8 mi, .int .u8 ti, .int .u16 wa, .slice a n na, .slice c m mc] w (LawTrue w) := by
  have HAW := hide' awake6
  by_cases h1 : 40 < n
  · have i1 : (40 : Int) < (n : Nat) := by omega
    clear h
    go_enter Try.func5, Try.ntmps5
    go_wp2_with fail
    refine (HAW.out _).mono ?_
    rintro e w9 ⟨rfl, hs⟩
    have HE := hide' hs
    clear hs
    go_wp2
    go_ret
    exact ⟨rfl, HE.out⟩
  · have i1 : ¬ (40 : Int) < (n : Nat) := by omega
    have i2 : (40 : Int) < (m : Nat) := by omega
    clear h
    go_enter Try.func5, Try.ntmps5
    go_wp2_with fail
    refine (HAW.out _).mono ?_
    rintro e w9 ⟨rfl, hs⟩
    have HE := hide' hs
    clear hs
    go_wp2
    go_ret
    exact ⟨rfl, HE.out⟩

set_option maxHeartbeats 1000000 in
theorem more_go (mi ti wa : Int) (a c : Option Addr) (n na m mc : Nat) (L M : List Int) (w : World) (m0 : 0 ≤ mi) (m1 : mi ≤ 255) (t0 : 0 ≤ ti) (t1 : ti ≤ 255) (a0 : 0 ≤ wa) (a1 : wa ≤ 65535) (hL : IArg .i64 w (.slice a n na) L a na) (hM : IArg .i64 w (.slice c m mc) M c mc) (hln : L.length = n) (hmn : M.length = m) (hn : n ≤ 40) (hm : m ≤ 40) : Calls Try.prog 5 #[.int .u8 mi, .int .u8 ti, .int .u16 wa, .slice a n na, .slice c m mc] w (LawTrue w) := by
  have HAW := hide' awake6
  have hr : rightW mi ti wa 0 := ⟨m0, m1, t0, t1, a0, by omega, by decide, by decide⟩
  have HN := hide' (new7 mi ti wa 0 w hr)
  have HO := hide' (okW_new hr)
  have i1 : ¬ (40 : Int) < (n : Nat) := by omega
  have i2 : ¬ (40 : Int) < (m : Nat) := by omega
  obtain ⟨r0, hr0⟩ : ∃ r, r = newW mi ti wa 0 := ⟨_, rfl⟩
  obtain ⟨r, hrr⟩ : ∃ r, r = L.foldl stepW r0 := ⟨_, rfl⟩
  rw [← hr0] at HO
  have HO1 : Hid (OkW 40 r) := by
    rw [hrr]
    exact (foldW_ok L 0 r0 HO.out).more (by omega)
  have HWA : Hid (r.wa = wa) := by
    have h := (foldW_same L r0).2.2
    rw [hrr, h, hr0]
    rfl
  have HR0 : Hid (r0 = newW mi ti wa 0) := hr0
  have e1 : IntKind.i64.wrap mi = mi := by rw [IntKind.wrap_i64]; omega
  have e2 : IntKind.i64.wrap ti = ti := by rw [IntKind.wrap_i64]; omega
  have e3 : IntKind.i64.wrap wa = wa := by rw [IntKind.wrap_i64]; omega
  have HST : Hid (∀ W b, At w W b r0 → Calls Try.prog 13 #[.pointer (some ⟨b, 0, none⟩), .slice a n na] W (Does w b r (.tuple #[]))) := fun W b hA => by rw [hrr]; exact steps13 w b r0 0 a n na L W hA HO.out (by decide) (fun w' hs => hL.stay0 hs) hln (by omega)
  have HSU : Hid (∀ W b, At w W b r → Calls Try.prog 13 #[.pointer (some ⟨b, 0, none⟩), .slice c m mc] W (Does w b (M.foldl stepW r) (.tuple #[]))) := fun W b hA => steps13 w b r 40 c m mc M W hA HO1.out (by decide) (fun w' hs => hM.stay0 hs) hmn (by omega)
  obtain ⟨d, hd⟩ : ∃ d, d = doneW r := ⟨_, rfl⟩
  have HD : Hid (doneW r = d) := hd.symm
  obtain ⟨h, hh⟩ : ∃ h, h = r.ha := ⟨_, rfl⟩
  have HH : Hid (r.ha = h) := hh.symm
  obtain ⟨x, hx⟩ : ∃ x, x = max 1 wa := ⟨_, rfl⟩
  have e4 : max 1 wa = x := hx.symm
  have HX : Hid (d = false → h < x) := fun e => by
    have := doneW_lt HO1.out (by rw [← hd]; exact e)
    rw [HWA.out] at this
    rw [hh, hx]
    exact this
  unfold Made at HN
  clear hr hr0 m0 m1 t0 t1 a0 a1 hrr hL hM hln hmn hn hm hd hh hx
  cases d
  · have hlt : h < x := HX.out rfl
    have hdc : decide (h < x) = true := decide_eq_true hlt
    clear HX HSU
    go_enter Try.func5, Try.ntmps5
    go_wp2_with fail
    refine HN.out.mono ?_
    rintro e w1 ⟨b, rfl, hs⟩
    rw [← HR0.out] at hs
    have HA1 := hide' hs
    clear hs HN
    go_wp2_with fail
    refine (HST.out _ _ HA1.out).mono ?_
    rintro e w2 ⟨rfl, hs⟩
    have HA2 := hide' hs
    clear hs HST
    have HY : Hid (Calls Try.prog 9 #[.pointer (some ⟨b, 0, none⟩)] w2 (Gives (.bool false) w2)) := by rw [← HD.out]; exact done9 b r w2 HA2.out.box
    go_wp2_with fail
    refine HY.out.mono ?_
    rintro e w3 ⟨rfl, hs⟩
    have HA3 := hide' (HA2.out.keep hs)
    clear hs HY
    have HY : Hid (Calls Try.prog 10 #[.pointer (some ⟨b, 0, none⟩)] w3 (Gives (.int .i64 h) w3)) := by rw [← HH.out]; exact count10 b r w3 HA3.out.box
    go_wp2_with fail
    refine HY.out.mono ?_
    rintro e w4 ⟨rfl, hs⟩
    have HA4 := hide' (HA3.out.keep hs)
    clear hs HY
    go_wp2_with fail
    refine (HAW.out _).mono ?_
    rintro e w9 ⟨rfl, hs⟩
    have HE := hide' (HA4.out.stay.trans hs)
    clear hs
    go_wp2
    go_ret
    exact ⟨rfl, HE.out⟩
  · have HSU2 : Hid (∀ W b, At w W b r → Calls Try.prog 13 #[.pointer (some ⟨b, 0, none⟩), .slice c m mc] W (Does w b r (.tuple #[]))) := fun W b hA => by
      have h := HSU.out W b hA
      rwa [foldW_over HD.out] at h
    clear HX HSU
    go_enter Try.func5, Try.ntmps5
    go_wp2_with fail
    refine HN.out.mono ?_
    rintro e w1 ⟨b, rfl, hs⟩
    rw [← HR0.out] at hs
    have HA1 := hide' hs
    clear hs HN
    go_wp2_with fail
    refine (HST.out _ _ HA1.out).mono ?_
    rintro e w2 ⟨rfl, hs⟩
    have HA2 := hide' hs
    clear hs HST
    have HY : Hid (Calls Try.prog 9 #[.pointer (some ⟨b, 0, none⟩)] w2 (Gives (.bool true) w2)) := by rw [← HD.out]; exact done9 b r w2 HA2.out.box
    go_wp2_with fail
    refine HY.out.mono ?_
    rintro e w3 ⟨rfl, hs⟩
    have HA3 := hide' (HA2.out.keep hs)
    clear hs HY
    have HY : Hid (Calls Try.prog 10 #[.pointer (some ⟨b, 0, none⟩)] w3 (Gives (.int .i64 h) w3)) := by rw [← HH.out]; exact count10 b r w3 HA3.out.box
    go_wp2_with fail
    refine HY.out.mono ?_
    rintro e w4 ⟨rfl, hs⟩
    have HA4 := hide' (HA3.out.keep hs)
    clear hs HY
    go_wp2_with fail
    refine (HSU2.out _ _ HA4.out).mono ?_
    rintro e w5 ⟨rfl, hs⟩
    have HA5 := hide' hs
    clear hs HSU2
    have HY : Hid (Calls Try.prog 9 #[.pointer (some ⟨b, 0, none⟩)] w5 (Gives (.bool true) w5)) := by rw [← HD.out]; exact done9 b r w5 HA5.out.box
    go_wp2_with fail
    refine HY.out.mono ?_
    rintro e w6 ⟨rfl, hs⟩
    have HA6 := hide' (HA5.out.keep hs)
    clear hs HY
    have HY : Hid (Calls Try.prog 10 #[.pointer (some ⟨b, 0, none⟩)] w6 (Gives (.int .i64 h) w6)) := by rw [← HH.out]; exact count10 b r w6 HA6.out.box
    go_wp2_with fail
    refine HY.out.mono ?_
    rintro e w7 ⟨rfl, hs⟩
    have HA7 := hide' (HA6.out.keep hs)
    clear hs HY
    go_wp2_with fail
    refine (HAW.out _).mono ?_
    rintro e w9 ⟨rfl, hs⟩
    have HE := hide' (HA7.out.stay.trans hs)
    clear hs
    go_wp2
    go_ret
    exact ⟨rfl, HE.out⟩

end Go.Proofs.Ytdhlgjkjdmejfaa
