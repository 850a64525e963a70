/-
  What the program writes of a byte, and of bytes: walked. No conditions.
-/
import Derived.Test.YtjpdlnifbinloaaC2
namespace Go.Proofs.Ytjpdlnifbinloaa
open Go.RowKit

attribute [local go_sem] extract0 extract1

theorem byte11 (o col c : Int) (w : World) (hc : (Lit.int .u8 c).wf = true) : Calls Try.prog 11 #[.int .i64 o, .int .i64 col, .int .u8 c] w (Adds w [] (addM (cnt o) (plc col) c)) := by
  have HA0 := hide' (Acc.nil w)
  have HC := hide' (counts14 o)
  have HP := hide' (place12 col)
  obtain ⟨p, hp⟩ : ∃ p, p = plc col := ⟨_, rfl⟩
  have HR : Hid (0 ≤ p ∧ p ≤ 1073741824) := by rw [hp]; exact plc_range col
  obtain ⟨f, hf⟩ : ∃ f, f = cnt o := ⟨_, rfl⟩
  rw [← hp] at HP ⊢
  rw [← hf] at HC ⊢
  clear hp hf
  have HX : Hid (∀ w1, Acc w w1 (.slice none 0 0) [] → Calls Try.prog 13 #[.slice none 0 0, .int .i64 f, .int .i64 p, .int .u8 c] w1 (Adds w [] (addM f p c))) := fun w1 h => add13 w w1 _ [] f p c h (by simp) HR.out.1 HR.out.2 hc
  obtain ⟨r, hr⟩ : ∃ r, r = addM f p c := ⟨_, rfl⟩
  rw [← hr] at HX ⊢
  clear hr HR
  go_enter Try.func11, Try.ntmps11
  go_wp2_with fail
  refine (HC.out _).mono ?_
  rintro e w1 ⟨rfl, hs⟩
  have HA1 := hide' (HA0.out.keep hs)
  clear hs HC
  go_wp2_with fail
  refine (HP.out _).mono ?_
  rintro e w2 ⟨rfl, hs⟩
  have HA2 := hide' (HA1.out.keep hs)
  clear hs HP
  go_wp2_with fail
  refine (HX.out _ HA2.out).mono ?_
  rintro e w3 ⟨v, rfl, ha⟩
  have HA3 := hide' ha
  clear ha HX
  go_wp2
  go_returns
  exact ⟨_, rfl, HA3.out⟩

theorem bytes_nil (o col : Int) (a : Option Addr) (c : Nat) (w : World) : Calls Try.prog 8 #[.int .i64 o, .int .i64 col, .slice a 0 c] w (Adds w [] (bytesM (cnt o) (plc col) [])) := by
  have HA0 := hide' (Acc.nil w)
  have HP := hide' (place12 col)
  rw [bytesM_nil]
  obtain ⟨p, hp⟩ : ∃ p, p = plc col := ⟨_, rfl⟩
  rw [← hp] at HP ⊢
  clear hp
  go_enter Try.func8, Try.ntmps8
  go_wp2_with fail
  refine (HP.out _).mono ?_
  rintro e w1 ⟨rfl, hs⟩
  have HA1 := hide' (HA0.out.keep hs)
  clear hs HP
  go_wp2
  go_loopg [6, 7, 14] 0 (fun g v6 v7 v14 wr => g = 0 ∧ v14 = .int .i64 0 ∧ v7 = .int .i64 p ∧ Hid (Acc w wr v6 []))
  case atStart => exact ⟨rfl, rfl, rfl, HA1⟩
  case round =>
    obtain ⟨rfl, rfl, rfl, HB⟩ := hrel
    go_wp2
    go_returns
    exact ⟨_, rfl, HB.out⟩

theorem take_snoc (S : List Int) (i : Nat) (h : i < S.length) : S.take (i + 1) = S.take i ++ [S.getD i 0] := by
  rw [List.getD_eq_getElem?_getD, List.getElem?_eq_getElem h]
  exact List.take_succ_eq_append_getElem h

set_option maxHeartbeats 1000000 in
theorem bytes_some (o col : Int) (S : List Int) (b off c n : Nat) (w : World) (hn : n ≤ 10000) (hl : S.length = n) (h1 : Ints .u8 w b off S) (hb : b < w.heap.size) (hw : ∀ x ∈ S, (Lit.int .u8 x).wf = true) : Calls Try.prog 8 #[.int .i64 o, .int .i64 col, .slice (some ⟨b, off, none⟩) n c] w (Adds w [] (bytesM (cnt o) (plc col) S)) := by
  have HA0 := hide' (Acc.nil w)
  have HC := hide' (counts14 o)
  have HP := hide' (place12 col)
  have HP2 := hide' place12
  have HI := hide' h1
  have HL := hide' hl
  have HBB := hide' hb
  have HW := hide' hw
  have hnz : (n : Int) ≤ 10000 := by omega
  obtain ⟨p, hp⟩ : ∃ p, p = plc col := ⟨_, rfl⟩
  obtain ⟨f, hf⟩ : ∃ f, f = cnt o := ⟨_, rfl⟩
  rw [← hp] at HP ⊢
  rw [← hf] at HC ⊢
  obtain ⟨r, hr⟩ : ∃ r, r = bytesM f p S := ⟨_, rfl⟩
  have HR := hide' hr
  rw [← hr]
  clear hp hf hr h1 hl hb hw hn
  go_enter Try.func8, Try.ntmps8
  go_wp2_with fail
  refine (HP.out _).mono ?_
  rintro e w1 ⟨rfl, hs⟩
  have HA1 := hide' (HA0.out.keep hs)
  clear hs HP HA0
  go_wp2
  go_loopg [6, 7, 14] n (fun g v6 v7 v14 wr => ∃ j : Nat, j ≤ n ∧ g = n - j ∧ v14 = .int .i64 (j : Int) ∧ ∃ k, v7 = .int .i64 k ∧ ∃ v, v = v6 ∧ Hid (k = (bytesM f p (S.take j)).2 ∧ Acc w wr v (bytesM f p (S.take j)).1))
  case atStart => exact ⟨0, Nat.zero_le _, rfl, rfl, p, rfl, _, rfl, rfl, HA1.out⟩
  case round =>
    obtain ⟨j, hj, rfl, rfl, k, rfl, v6, rfl, HB⟩ := hrel
    by_cases hlt : j < n
    · have jz : (j : Int) < n := by omega
      have j0 : (0 : Int) ≤ j := by omega
      have hjl : j < S.length := by have := HL.out; omega
      obtain ⟨x, hx⟩ : ∃ x, x = S.getD j 0 := ⟨_, rfl⟩
      have a1 : wr.cell? ⟨b, off + j, none⟩ = some (.int .u8 x) := by rw [hx]; exact (HB.out.2.stay.cell (p := ⟨b, off + j, none⟩) HBB.out (fun h => h)).trans (HI.out j hjl)
      have HXW : Hid ((Lit.int .u8 x).wf = true) := by rw [hx]; exact HW.out _ (getD_mem hjl)
      have HTS : Hid (S.take (j + 1) = S.take j ++ [x]) := by rw [hx]; exact take_snoc S j hjl
      obtain ⟨l, hl⟩ : ∃ l, l = (bytesM f p (S.take j)).1 := ⟨_, rfl⟩
      have HLN : Hid (l.length ≤ 900000) := by
        show l.length ≤ 900000
        rw [hl]
        have h1 := bytesM_len f (S.take j) p
        rw [List.length_take] at h1
        have := HL.out
        omega
      have HNEXT : Hid (bytesM f p (S.take (j + 1)) = (l ++ (addM f (plc k) x).1, (addM f (plc k) x).2)) := by rw [HTS.out, bytesM_snoc, ← HB.out.1, ← hl]; rfl
      have HA2 : Hid (Acc w wr v6 l) := by rw [hl]; exact HB.out.2
      have HPK := hide' (HP2.out k)
      obtain ⟨q, hq⟩ : ∃ q, q = plc k := ⟨_, rfl⟩
      have HQ : Hid (0 ≤ q ∧ q ≤ 1073741824) := by rw [hq]; exact plc_range k
      rw [← hq] at HPK HNEXT
      clear hx hl hq HTS hjl HB
      have HX : Hid (∀ w1, Acc w w1 v6 l → Calls Try.prog 13 #[v6, .int .i64 f, .int .i64 q, .int .u8 x] w1 (Adds w l (addM f q x))) := fun w1 h => add13 w w1 _ l f q x h HLN.out HQ.out.1 HQ.out.2 HXW.out
      obtain ⟨r2, hr2⟩ : ∃ r, r = addM f q x := ⟨_, rfl⟩
      rw [← hr2] at HX HNEXT
      clear hr2 HQ HXW HLN
      go_wp2_with fail
      refine (HC.out _).mono ?_
      rintro e w3 ⟨rfl, hs⟩
      have HA3 := hide' (HA2.out.keep ((Stay.refl _ _).trans hs))
      clear hs
      go_wp2_with fail
      refine (HPK.out _).mono ?_
      rintro e w4 ⟨rfl, hs⟩
      have HA4 := hide' (HA3.out.keep hs)
      clear hs
      go_wp2_with fail
      refine (HX.out _ HA4.out).mono ?_
      rintro e w5 ⟨v5, rfl, ha⟩
      have HA5 := hide' ha
      clear ha HX
      go_wp2
      go_roundg (n - (j + 1))
      case measure => omega
      case rel => exact ⟨j + 1, by omega, rfl, by go_num, r2.2, rfl, v5, rfl, by rw [HNEXT.out], by rw [HNEXT.out]; exact HA5.out⟩
    · have e : j = n := by omega
      subst e
      have ht : S.take j = S := by rw [← HL.out]; exact List.take_length
      have HK : Hid (k = r.2) := by rw [HR.out]; have := HB.out.1; rw [ht] at this; exact this
      have HZ : Hid (Acc w wr v6 r.1) := by rw [HR.out]; have := HB.out.2; rw [ht] at this; exact this
      clear ht HB
      go_wp2
      go_returns
      exact ⟨_, tup HK.out, HZ.out⟩

/-- What the program writes of bytes. -/
theorem bytes8 (o col : Int) (v : Value) (S : List Int) (a : Option Addr) (c : Nat) (w : World) (hn : S.length ≤ 10000) (h : IArg .u8 w v S a c) : Calls Try.prog 8 #[.int .i64 o, .int .i64 col, v] w (Adds w [] (bytesM (cnt o) (plc col) S)) := by
  have hs := h.shape
  subst hs
  by_cases hne : S = []
  · subst hne
    exact bytes_nil o col a c w
  · obtain ⟨b, off, rfl, hb, hI⟩ := h.cells hne
    exact bytes_some o col S b off c S.length w hn rfl hI hb h.wf

end Go.Proofs.Ytjpdlnifbinloaa
