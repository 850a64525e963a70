/-
  How many cells runes take, of the code and of the document, walked. No conditions.
-/
import Derived.Test.YtpiipkpjomdenaaDoorC2
namespace Go.Proofs.YtpiipkpjomdenaaDoor
open Go.RowKit

theorem text10_nil (a : Option Addr) (cap : Nat) (w : World) : Calls Tryd.prog 10 #[.slice a 0 cap] w (Gives (.int .i64 0) w) := by
  go_enter Tryd.func10, Tryd.ntmps10
  go_wp2
  go_loopg [3, 8] 0 (fun g t i wr => g = 0 ∧ t = .int .i64 0 ∧ i = .int .i64 0 ∧ wr = w)
  case atStart => exact ⟨rfl, rfl, rfl, rfl⟩
  case round =>
    obtain ⟨rfl, rfl, rfl, rfl⟩ := hrel
    go_wp2
    go_ret
    exact ⟨rfl, Stay.refl _ _⟩

theorem refText11_nil (a : Option Addr) (cap : Nat) (w : World) : Calls Tryd.prog 11 #[.slice a 0 cap] w (Gives (.int .i64 0) w) := by
  go_enter Tryd.func11, Tryd.ntmps11
  go_wp2
  go_loopg [3, 4] 0 (fun g t i wr => g = 0 ∧ t = .int .i64 0 ∧ i = .int .i64 0 ∧ wr = w)
  case atStart => exact ⟨rfl, rfl, rfl, rfl⟩
  case round =>
    obtain ⟨rfl, rfl, rfl, rfl⟩ := hrel
    go_wp2
    go_ret
    exact ⟨rfl, Stay.refl _ _⟩

set_option maxHeartbeats 1000000 in
theorem text10 (l : List Int) (b off cap : Nat) (w : World) (hl : l.length ≤ 1000) (hb : b < w.heap.size) (hT : Tbl w) (hB : Ints .i32 w b off l) :
    Calls Tryd.prog 10 #[.slice (some ⟨b, off, none⟩) l.length cap] w (Gives (.int .i64 (sumC l)) w) := by
  obtain ⟨n, hn⟩ : ∃ n, n = l.length := ⟨_, rfl⟩
  rw [← hn] at hl ⊢
  have HN := hide' hn
  have HB := hide' hB
  have HT := hide' hT
  have n1 : (n : Int) ≤ 1000 := by omega
  have HL : Hid (b < w.heap.size) := hb
  clear hn hB hT hb
  go_enter Tryd.func10, Tryd.ntmps10
  go_wp2
  go_loopg [3, 8] n (fun g t i wr => ∃ (k : Nat) (s : Int), k ≤ n ∧ g = n - k ∧ i = .int .i64 (k : Int) ∧ t = .int .i64 s ∧ 0 ≤ s ∧ s ≤ 2 * k ∧ Hid (s = sumC (l.take k)) ∧ Hid (Stay (fun _ => False) w wr))
  case atStart => exact ⟨0, 0, Nat.zero_le _, rfl, rfl, rfl, by omega, by omega, rfl, Stay.refl _ _⟩
  case round =>
    obtain ⟨k, s, hk, rfl, rfl, rfl, s0, s1, HS, HW⟩ := hrel
    by_cases hlt : k < n
    · have c0 : wr.cell? ⟨b, off + k, none⟩ = some (.int .i32 (l.getD k 0)) := by
        have := HB.out k (by rw [← HN.out]; omega)
        rw [HW.out.cell HL.out (fun h => h)]; exact this
      have HTk := hide' (sumC_take l k (by rw [← HN.out]; exact hlt))
      obtain ⟨x, hx⟩ : ∃ x, x = l.getD k 0 := ⟨_, rfl⟩
      rw [← hx] at c0 HTk
      have HC := hide' (cells16 x wr (HT.out.stay HW.out))
      obtain ⟨c1, c2⟩ := cel_bd x
      obtain ⟨y, hy⟩ : ∃ y, y = cel x := ⟨_, rfl⟩
      rw [← hy] at HTk HC c1 c2
      have k0 : (0 : Int) ≤ k := by omega
      have kn : (k : Int) < n := by omega
      clear hx hy
      go_wp2_with (go_at_call 16; refine HC.out.mono ?_; rintro e w' ⟨rfl, hs⟩; have HS2 := hide' hs; clear hs)
      go_roundg (n - (k + 1))
      case rel => exact ⟨k + 1, s + y, by omega, rfl, by go_num, rfl, by omega, by omega, by have := HS.out; have := HTk.out; show s + y = _; omega, HW.out.trans HS2.out⟩
      case measure => omega
    · have HE : Hid (l.take k = l) := List.take_of_length_le (by rw [← HN.out]; omega)
      go_wp2
      go_ret
      exact ⟨ret_int (by rw [HS.out, HE.out]), HW.out⟩

set_option maxHeartbeats 1000000 in
theorem refText11 (l : List Int) (b off cap : Nat) (w : World) (hl : l.length ≤ 1000) (hb : b < w.heap.size) (hw : ∀ x ∈ l, (Lit.int .i32 x).wf = true) (hB : Ints .i32 w b off l) :
    Calls Tryd.prog 11 #[.slice (some ⟨b, off, none⟩) l.length cap] w (Gives (.int .i64 (sumC l)) w) := by
  obtain ⟨n, hn⟩ : ∃ n, n = l.length := ⟨_, rfl⟩
  rw [← hn] at hl ⊢
  have HN := hide' hn
  have HB := hide' hB
  have HWF := hide' hw
  have n1 : (n : Int) ≤ 1000 := by omega
  have HL : Hid (b < w.heap.size) := hb
  clear hn hB hb hw
  go_enter Tryd.func11, Tryd.ntmps11
  go_wp2
  go_loopg [3, 4] n (fun g t i wr => ∃ (k : Nat) (s : Int), k ≤ n ∧ g = n - k ∧ i = .int .i64 (k : Int) ∧ t = .int .i64 s ∧ 0 ≤ s ∧ s ≤ 2 * k ∧ Hid (s = sumC (l.take k)) ∧ Hid (Stay (fun _ => False) w wr))
  case atStart => exact ⟨0, 0, Nat.zero_le _, rfl, rfl, rfl, by omega, by omega, rfl, Stay.refl _ _⟩
  case round =>
    obtain ⟨k, s, hk, rfl, rfl, rfl, s0, s1, HS, HW⟩ := hrel
    by_cases hlt : k < n
    · have c0 : wr.cell? ⟨b, off + k, none⟩ = some (.int .i32 (l.getD k 0)) := by
        have := HB.out k (by rw [← HN.out]; omega)
        rw [HW.out.cell HL.out (fun h => h)]; exact this
      have HTk := hide' (sumC_take l k (by rw [← HN.out]; exact hlt))
      have hkl : k < l.length := by rw [← HN.out]; exact hlt
      obtain ⟨x1, x2⟩ := wf_i32 (HWF.out (l.getD k 0) (by rw [List.getD_eq_getElem?_getD, List.getElem?_eq_getElem hkl]; exact List.getElem_mem hkl))
      obtain ⟨x, hx⟩ : ∃ x, x = l.getD k 0 := ⟨_, rfl⟩
      rw [← hx] at c0 HTk x1 x2
      have HC := hide' (refWidth7 x wr)
      have HM : Hid (cel x = max 0 (wid x)) := rfl
      obtain ⟨c1, c2⟩ := wid_ge x
      obtain ⟨z, hz⟩ : ∃ z, z = wid x := ⟨_, rfl⟩
      rw [← hz] at HC HM c1 c2
      have k0 : (0 : Int) ≤ k := by omega
      have kn : (k : Int) < n := by omega
      clear hx hz hkl
      by_cases hz0 : 0 ≤ z
      · have HY : Hid (cel x = z) := by have := HM.out; show cel x = z; omega
        go_wp2_with (go_at_call 7; refine HC.out.mono ?_; rintro e w' ⟨rfl, hs⟩; have HS2 := hide' hs; clear hs)
        all_goals
          go_roundg (n - (k + 1))
          case rel => exact ⟨k + 1, s + z, by omega, rfl, by go_num, by go_num, by omega, by omega, by have := HS.out; have := HTk.out; have := HY.out; show s + z = _; omega, HW.out.trans HS2.out⟩
          case measure => omega
      · have HY : Hid (cel x = 0) := by have := HM.out; show cel x = 0; omega
        go_wp2_with (go_at_call 7; refine HC.out.mono ?_; rintro e w' ⟨rfl, hs⟩; have HS2 := hide' hs; clear hs)
        all_goals
          go_roundg (n - (k + 1))
          case rel => exact ⟨k + 1, s, by omega, rfl, by go_num, by go_num, by omega, by omega, by have := HS.out; have := HTk.out; have := HY.out; show s = _; omega, HW.out.trans HS2.out⟩
          case measure => omega
    · have HE : Hid (l.take k = l) := List.take_of_length_le (by rw [← HN.out]; omega)
      go_wp2
      go_ret
      exact ⟨ret_int (by rw [HS.out, HE.out]), HW.out⟩

theorem text_arg {W : World} {v : Value} {l : List Int} {a : Option Addr} {cap : Nat} (h : IArg .i32 W v l a cap) (hT : Tbl W) (hl : l.length ≤ 1000) : Calls Tryd.prog 10 #[v] W (Gives (.int .i64 (sumC l)) W) := by
  rw [h.shape]
  by_cases hne : l = []
  · subst hne; exact text10_nil a cap W
  · obtain ⟨b, off, rfl, hb, hB⟩ := h.cells hne
    exact text10 l b off cap W hl hb hT hB

theorem refText_arg {W : World} {v : Value} {l : List Int} {a : Option Addr} {cap : Nat} (h : IArg .i32 W v l a cap) (hl : l.length ≤ 1000) : Calls Tryd.prog 11 #[v] W (Gives (.int .i64 (sumC l)) W) := by
  rw [h.shape]
  by_cases hne : l = []
  · subst hne; exact refText11_nil a cap W
  · obtain ⟨b, off, rfl, hb, hB⟩ := h.cells hne
    exact refText11 l b off cap W hl hb h.wf hB

end Go.Proofs.YtpiipkpjomdenaaDoor
