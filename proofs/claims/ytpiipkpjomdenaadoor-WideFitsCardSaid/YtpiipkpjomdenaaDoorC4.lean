/-
  How many runes fit, of the code and of the document, walked. No conditions.
-/
import Derived.Test.YtpiipkpjomdenaaDoorC3
namespace Go.Proofs.YtpiipkpjomdenaaDoor
open Go.RowKit

/-- As many as fit. -/
def FitE (l : List Int) (n : Int) (w : World) (e : Ending) (w' : World) : Prop := ∃ k : Nat, e = .returned (.int .i64 (k : Int)) ∧ IsFit l n k ∧ Stay (fun _ => False) w w'

theorem isFit_nil (n : Int) : IsFit [] n 0 := ⟨Nat.le_refl _, fun j h1 h2 => by omega, Or.inl rfl⟩

theorem fit9_nil (a : Option Addr) (cap : Nat) (m : Int) (w : World) : Calls Tryd.prog 9 #[.slice a 0 cap, .int .i64 m] w (FitE [] m w) := by
  go_enter Tryd.func9, Tryd.ntmps9
  go_wp2
  go_loopg [5, 10] 0 (fun g t i wr => g = 0 ∧ t = .int .i64 0 ∧ i = .int .i64 0 ∧ wr = w)
  case atStart => exact ⟨rfl, rfl, rfl, rfl⟩
  case round =>
    obtain ⟨rfl, rfl, rfl, rfl⟩ := hrel
    go_wp2
    go_ret
    exact ⟨0, rfl, isFit_nil m, Stay.refl _ _⟩

theorem refFit12_nil (a : Option Addr) (cap : Nat) (m : Int) (w : World) : Calls Tryd.prog 12 #[.slice a 0 cap, .int .i64 m] w (FitE [] m w) := by
  go_enter Tryd.func12, Tryd.ntmps12
  go_wp2
  go_loopg [5] 0 (fun g i wr => g = 0 ∧ i = .int .i64 0 ∧ wr = w)
  case atStart => exact ⟨rfl, rfl, rfl⟩
  case round =>
    obtain ⟨rfl, rfl, rfl⟩ := hrel
    go_wp2
    go_ret
    exact ⟨0, rfl, isFit_nil m, Stay.refl _ _⟩

theorem upto_next {l : List Int} {m : Int} {k : Nat} (h : Hid (∀ j, 0 < j → j ≤ k → sumC (l.take j) ≤ m)) (h2 : sumC (l.take (k + 1)) ≤ m) : Hid (∀ j, 0 < j → j ≤ k + 1 → sumC (l.take j) ≤ m) := fun j h3 h4 => by
  rcases Nat.lt_or_ge j (k + 1) with h5 | h5
  · exact h.out j h3 (by omega)
  · obtain rfl : j = k + 1 := by omega
    exact h2

set_option maxHeartbeats 1000000 in
theorem fit9 (l : List Int) (b off cap : Nat) (m : Int) (w : World) (hl : l.length ≤ 1000) (hb : b < w.heap.size) (hT : Tbl w) (hB : Ints .i32 w b off l) :
    Calls Tryd.prog 9 #[.slice (some ⟨b, off, none⟩) l.length cap, .int .i64 m] w (FitE l m w) := by
  obtain ⟨n, hn⟩ : ∃ n, n = l.length := ⟨_, rfl⟩
  rw [← hn] at hl ⊢
  have HN := hide' hn
  have HB := hide' hB
  have HT := hide' hT
  have n1 : (n : Int) ≤ 1000 := by omega
  have HL : Hid (b < w.heap.size) := hb
  clear hn hB hT hb
  go_enter Tryd.func9, Tryd.ntmps9
  go_wp2
  go_loopg [5, 10] n (fun g t i wr => ∃ (k : Nat) (s : Int), k ≤ n ∧ g = n - k ∧ i = .int .i64 (k : Int) ∧ t = .int .i64 s ∧ 0 ≤ s ∧ s ≤ 2 * k ∧ Hid (s = sumC (l.take k)) ∧ Hid (Stay (fun _ => False) w wr) ∧ Hid (∀ j, 0 < j → j ≤ k → sumC (l.take j) ≤ m))
  case atStart => exact ⟨0, 0, Nat.zero_le _, rfl, rfl, rfl, by omega, by omega, rfl, Stay.refl _ _, fun j h1 h2 => by omega⟩
  case round =>
    obtain ⟨k, s, hk, rfl, rfl, rfl, s0, s1, HS, HW, HU⟩ := hrel
    by_cases hlt : k < n
    · have c0 : wr.cell? ⟨b, off + k, none⟩ = some (.int .i32 (l.getD k 0)) := by
        have := HB.out k (by rw [← HN.out]; omega)
        rw [HW.out.cell HL.out (fun h => h)]; exact this
      have HTk := hide' (sumC_take l k (by rw [← HN.out]; exact hlt))
      obtain ⟨x, hx⟩ : ∃ x, x = l.getD k 0 := ⟨_, rfl⟩
      rw [← hx] at c0 HTk
      have HC := hide' (cells16 x wr (HT.out.stay HW.out))
      obtain ⟨c1, c2⟩ := cel_bd x
      obtain ⟨y, hy⟩ : ∃ y, y = cel x := ⟨_, rfl⟩
      rw [← hy] at HTk HC c1 c2
      have k0 : (0 : Int) ≤ k := by omega
      have kn : (k : Int) < n := by omega
      have HSU : Hid (sumC (l.take (k + 1)) = s + y) := by have := HS.out; have := HTk.out; show _ = _; omega
      clear hx hy HTk
      by_cases hgt : m < s + y
      · have d1 : decide (m < s + y) = true := by simpa using hgt
        have HF : Hid (IsFit l m k) := ⟨by rw [← HN.out]; exact hk, HU.out, Or.inr (by rw [HSU.out]; exact hgt)⟩
        go_wp2_with (go_at_call 16; refine HC.out.mono ?_; rintro e w' ⟨rfl, hs⟩; have HS2 := hide' hs; clear hs)
        go_ret
        exact ⟨k, rfl, HF.out, HW.out.trans HS2.out⟩
      · have d1 : decide (m < s + y) = false := by simpa using hgt
        have HU2 := upto_next HU (by rw [HSU.out]; omega)
        go_wp2_with (go_at_call 16; refine HC.out.mono ?_; rintro e w' ⟨rfl, hs⟩; have HS2 := hide' hs; clear hs)
        go_roundg (n - (k + 1))
        case rel => exact ⟨k + 1, s + y, by omega, rfl, by go_num, rfl, by omega, by omega, HSU.out.symm, HW.out.trans HS2.out, HU2.out⟩
        case measure => omega
    · have hkn : k = n := by omega
      have HF : Hid (IsFit l m n) := by have := HU.out; rw [hkn] at this; exact ⟨by rw [← HN.out]; exact Nat.le_refl _, this, Or.inl HN.out⟩
      clear hkn
      go_wp2
      go_ret
      exact ⟨n, rfl, HF.out, HW.out⟩

set_option maxHeartbeats 1000000 in
theorem refFit12 (l : List Int) (b off cap : Nat) (m : Int) (w : World) (hl : l.length ≤ 900) (h : IArg .i32 w (.slice (some ⟨b, off, none⟩) l.length cap) l (some ⟨b, off, none⟩) cap) :
    Calls Tryd.prog 12 #[.slice (some ⟨b, off, none⟩) l.length cap, .int .i64 m] w (FitE l m w) := by
  obtain ⟨n, hn⟩ : ∃ n, n = l.length := ⟨_, rfl⟩
  have HA := hide' h
  have hcap := h.lenLe
  have hcm := h.capLe
  unfold maxLen at hcm
  rw [← hn] at hl hcap ⊢
  have HN := hide' hn
  have n1 : (n : Int) ≤ 900 := by omega
  have cm : (cap : Int) ≤ 9223372036854775807 := by omega
  clear hn h hcm
  go_enter Tryd.func12, Tryd.ntmps12
  go_wp2
  go_loopg [5] n (fun g i wr => ∃ (k : Nat), k ≤ n ∧ g = n - k ∧ i = .int .i64 (k : Int) ∧ Hid (Stay (fun _ => False) w wr) ∧ Hid (∀ j, 0 < j → j ≤ k → sumC (l.take j) ≤ m))
  case atStart => exact ⟨0, Nat.zero_le _, rfl, rfl, Stay.refl _ _, fun j h1 h2 => by omega⟩
  case round =>
    obtain ⟨k, hk, rfl, rfl, HW, HU⟩ := hrel
    by_cases hlt : k < n
    · have HC := hide' (refText_arg ((HA.out.stay0 HW.out).take (k + 1) (by rw [← HN.out]; omega)) (by rw [List.length_take]; rw [← HN.out]; omega))
      obtain ⟨y, hy⟩ : ∃ y, y = sumC (l.take (k + 1)) := ⟨_, rfl⟩
      have HY := hide' hy
      rw [← hy] at HC
      have k0 : (0 : Int) ≤ k := by omega
      have kn : (k : Int) < n := by omega
      have kc : k + 1 ≤ cap := by omega
      have d0 : decide ((k : Int) < n) = true := by simpa using kn
      clear hy
      by_cases hgt : y ≤ m
      · have d1 : decide (y ≤ m) = true := by simpa using hgt
        have HU2 := upto_next HU (by rw [← HY.out]; exact hgt)
        go_wp2_with (go_at_call 11; refine HC.out.mono ?_; rintro e w' ⟨rfl, hs⟩; have HS2 := hide' hs; clear hs)
        go_roundg (n - (k + 1))
        case rel => exact ⟨k + 1, by omega, rfl, by go_num, HW.out.trans HS2.out, HU2.out⟩
        case measure => omega
      · have d1 : decide (y ≤ m) = false := by simpa using hgt
        have HF : Hid (IsFit l m k) := ⟨by rw [← HN.out]; exact hk, HU.out, Or.inr (by rw [← HY.out]; omega)⟩
        go_wp2_with (go_at_call 11; refine HC.out.mono ?_; rintro e w' ⟨rfl, hs⟩; have HS2 := hide' hs; clear hs)
        go_ret
        exact ⟨k, rfl, HF.out, HW.out.trans HS2.out⟩
    · have hkn : k = n := by omega
      have d0 : decide ((k : Int) < n) = false := by simp; omega
      have HF : Hid (IsFit l m k) := by have := HU.out; exact ⟨by rw [← HN.out]; omega, this, Or.inl (by rw [← HN.out]; omega)⟩
      clear hkn
      go_wp2
      go_ret
      exact ⟨k, rfl, HF.out, HW.out⟩

theorem fit_arg {W : World} {v : Value} {l : List Int} {a : Option Addr} {cap : Nat} (m : Int) (h : IArg .i32 W v l a cap) (hT : Tbl W) (hl : l.length ≤ 1000) : Calls Tryd.prog 9 #[v, .int .i64 m] W (FitE l m W) := by
  rw [h.shape]
  by_cases hne : l = []
  · subst hne; exact fit9_nil a cap m W
  · obtain ⟨b, off, rfl, hb, hB⟩ := h.cells hne
    exact fit9 l b off cap m W hl hb hT hB

theorem refFit_arg {W : World} {v : Value} {l : List Int} {a : Option Addr} {cap : Nat} (m : Int) (h : IArg .i32 W v l a cap) (hl : l.length ≤ 900) : Calls Tryd.prog 12 #[v, .int .i64 m] W (FitE l m W) := by
  have hs := h.shape
  subst hs
  by_cases hne : l = []
  · subst hne; exact refFit12_nil a cap m W
  · obtain ⟨b, off, rfl, hb, hB⟩ := h.cells hne
    exact refFit12 l b off cap m W hl h

end Go.Proofs.YtpiipkpjomdenaaDoor
