/-
  Whether bytes, and messages, are the same; the document's answer to what is sent: walked. No conditions.
-/
import Derived.Test.YtabalnjbfhngnaaC2
namespace Go.Proofs.Ytabalnjbfhngnaa
open Go.RowKit

/-- Bytes that can be read. -/
def Bs (w : World) (v : Value) (l : List Int) : Prop := ∃ a cap, v = .slice a l.length cap ∧ l.length ≤ cap ∧ (l ≠ [] → ∃ b off, a = some ⟨b, off, none⟩ ∧ Ints .u8 w b off l)

theorem Bs.keep {w w' : World} {v : Value} {l : List Int} (h : Bs w v l) (hs : Stay (fun _ => False) w w') : Bs w' v l := by
  obtain ⟨a, cap, h1, h2, h3⟩ := h
  exact ⟨a, cap, h1, h2, fun hn => by obtain ⟨b, o, e, hi⟩ := h3 hn; exact ⟨b, o, e, fun j hj => keep_cell hs (hi j hj)⟩⟩

theorem bs_cell {w : World} {b o : Nat} {l : List Int} (h : ∀ j u, (bys l)[j]? = some u → w.cell? ⟨b, o + j, none⟩ = some u) : Ints .u8 w b o l := fun j hj => h j _ (by
  unfold bys
  rw [List.getElem?_map, List.getElem?_eq_getElem hj, List.getD_eq_getElem?_getD, List.getElem?_eq_getElem hj]; rfl)

theorem bs_owned {w : World} {base e n : Nat} {t : Value} {l : List Int} (h : w.ownsRow base e 1 t n (bys l)) : Bs w t l := by
  obtain ⟨a, cap, e1, hl, hc⟩ := ownsRow_shape h
  have hn : n = l.length := by rw [← hl]; unfold bys; simp
  subst hn
  rcases h.2 with ⟨e2, h0⟩ | ⟨g, cap', cur, e2, _, _, h3, _⟩
  · rw [e2]
    exact ⟨none, 0, by rw [h0], by omega, fun hne => absurd (List.eq_nil_of_length_eq_zero h0) hne⟩
  · rw [e2]
    refine ⟨_, cap', rfl, h3, fun _ => ⟨g, 0, rfl, bs_cell fun j u hu => ?_⟩⟩
    have := h.cells (g := g) (by rw [e2]; rfl) j u hu
    rwa [addr_add] at this

theorem same15_nil (a1 a2 : Option Addr) (k1 k2 : Nat) (w : World) : Calls Try.prog 15 #[.slice a1 0 k1, .slice a2 0 k2] w (Gives (.bool true) w) := by
  go_enter Try.func15, Try.ntmps15
  go_wp2_with fail
  go_loopg [5] 0 (fun g i wr => g = 0 ∧ i = .int .i64 0 ∧ wr = w)
  case atStart => exact ⟨rfl, rfl, rfl⟩
  case round =>
    obtain ⟨rfl, rfl, rfl⟩ := hrel
    go_wp2
    go_ret
    exact ⟨rfl, Stay.refl _ _⟩

set_option maxHeartbeats 1000000 in
theorem same15_some (l : List Int) (b1 o1 k1 b2 o2 k2 n : Nat) (w : World) (hn : n ≤ 5000) (hl : l.length = n) (h1 : Ints .u8 w b1 o1 l) (h2 : Ints .u8 w b2 o2 l) :
    Calls Try.prog 15 #[.slice (some ⟨b1, o1, none⟩) n k1, .slice (some ⟨b2, o2, none⟩) n k2] w (Gives (.bool true) w) := by
  have H1 := hide' h1
  have H2 := hide' h2
  have HL := hide' hl
  have hnz : (n : Int) ≤ 5000 := by omega
  clear h1 h2 hn hl
  go_enter Try.func15, Try.ntmps15
  go_wp2_with fail
  go_loopg [5] n (fun g i wr => ∃ j : Nat, j ≤ n ∧ g = n - j ∧ i = .int .i64 (j : Int) ∧ ∃ q, wr = w.drewN q)
  case atStart => exact ⟨0, Nat.zero_le _, rfl, rfl, 0, rfl⟩
  case round =>
    obtain ⟨j, hj, rfl, rfl, q, rfl⟩ := hrel
    by_cases hlt : j < n
    · have a1 : w.cell? ⟨b1, o1 + j, none⟩ = some (.int .u8 (l.getD j 0)) := H1.out j (by have := HL.out; omega)
      have a2 : w.cell? ⟨b2, o2 + j, none⟩ = some (.int .u8 (l.getD j 0)) := H2.out j (by have := HL.out; omega)
      obtain ⟨x, hx⟩ : ∃ x, x = l.getD j 0 := ⟨_, rfl⟩
      rw [← hx] at a1 a2
      clear hx
      have jz : (j : Int) < n := by omega
      have j0 : (0 : Int) ≤ j := by omega
      go_wp2_with fail
      go_quiet (fail)
      go_wp2
      go_roundg (n - (j + 1))
      case measure => omega
      case rel => exact ⟨j + 1, by omega, rfl, by go_num, _, rfl⟩
    · have : j = n := by omega
      subst this
      go_wp2
      go_ret
      exact ⟨rfl, (Stay.refl _ _).drewN _⟩

theorem same15 (v1 v2 : Value) (l : List Int) (w : World) (h1 : Bs w v1 l) (h2 : Bs w v2 l) (hn : l.length ≤ 5000) : Calls Try.prog 15 #[v1, v2] w (Gives (.bool true) w) := by
  obtain ⟨a1, k1, rfl, _, c1⟩ := h1
  obtain ⟨a2, k2, rfl, _, c2⟩ := h2
  by_cases h : l = []
  · subst h
    exact same15_nil a1 a2 k1 k2 w
  · obtain ⟨b1, o1, rfl, i1⟩ := c1 h
    obtain ⟨b2, o2, rfl, i2⟩ := c2 h
    exact same15_some l b1 o1 k1 b2 o2 k2 l.length w hn rfl i1 i2

theorem Holds.bs {w : World} {v : Value} {l : List Int} (h : Holds w v l) : Bs w v l := bs_owned h

theorem bs_arg {w : World} {v : Value} {l : List Int} {a : Option Addr} {cap : Nat} (h : IArg .u8 w v l a cap) : Bs w v l := ⟨a, cap, h.shape, h.lenLe, fun hne => by
  obtain ⟨b, o, e, _, hi⟩ := h.cells hne
  exact ⟨b, o, e, hi⟩⟩

theorem Bs.slice {w : World} {v : Value} {l : List Int} (h : Bs w v l) : ∃ a k c, v = .slice a k c := by
  obtain ⟨a, c, h, _⟩ := h
  exact ⟨a, _, c, h⟩

set_option maxRecDepth 100000 in
theorem same10 (x : Int) (v1 v2 : Value) (l : List Int) (w : World) (h1 : Bs w v1 l) (h2 : Bs w v2 l) (hn : l.length ≤ 5000) : Calls Try.prog 10 #[.agg #[.int .i64 x, v1], .agg #[.int .i64 x, v2]] w (Gives (.bool true) w) := by
  obtain ⟨B, hB⟩ : ∃ B, B = w.heap.size := ⟨_, rfl⟩
  obtain ⟨W, hW⟩ : ∃ W, W = (w.alloc (.cells #[.int .i64 x, v1] 28)).alloc (.cells #[.int .i64 x, v2] 28) := ⟨_, rfl⟩
  have HBW : Hid (B = w.heap.size ∧ W = (w.alloc (.cells #[.int .i64 x, v1] 28)).alloc (.cells #[.int .i64 x, v2] 28)) := ⟨hB, hW⟩
  have HM1 : Hid (MBox W B ⟨x, v1⟩) := by rw [hW, hB]; exact (MBox.new (w := w) ⟨x, v1⟩ rfl).alloc _
  have HM2 : Hid (MBox W (B + 1) ⟨x, v2⟩) := by rw [hW, hB]; exact MBox.new ⟨x, v2⟩ (by simp)
  have HS : Hid (Stay (fun _ => False) w W) := by rw [hW]; exact ((Stay.refl _ _).alloc _).alloc _
  have HSM := hide' (same15 v1 v2 l W (h1.keep HS.out) (h2.keep HS.out) hn)
  obtain ⟨a1, k1, q1, rfl⟩ := h1.slice
  obtain ⟨a2, k2, q2, rfl⟩ := h2.slice
  clear hB hW h1 h2 hn
  go_enter Try.func10, Try.ntmps10
  go_upto_region 1 with fail
  obtain ⟨hB, hW⟩ := HBW.out
  rw [← hW, ← hB]
  clear hB hW
  obtain ⟨c0, c1, _, _⟩ := HM1.out
  obtain ⟨d0, d1, _, _⟩ := HM2.out
  simp only at c0 c1 d0 d1
  go_wp2_with fail
  refine HSM.out.mono ?_
  rintro e w1 ⟨rfl, hs⟩
  have HS1 := hide' (HS.out.trans hs)
  clear hs
  go_wp2
  go_ret
  exact ⟨rfl, HS1.out⟩

theorem rsend11_long (n r : Int) (a : Option Addr) (m c : Nat) (w : World) (hm : 4096 < m) : Calls Try.prog 11 #[.int .i64 n, .int .i64 r, .slice a m c] w (Gives (.int .i64 10) w) := by
  have i1 : (4096 : Int) < (m : Nat) := by omega
  go_enter Try.func11, Try.ntmps11
  go_wp2
  go_ret
  exact ⟨rfl, Stay.refl _ _⟩

theorem rsend11_full (n r : Int) (a : Option Addr) (m c : Nat) (w : World) (hm : m ≤ 4096) (hn : r ≤ n) : Calls Try.prog 11 #[.int .i64 n, .int .i64 r, .slice a m c] w (Gives (.int .i64 3) w) := by
  have i1 : ¬ (4096 : Int) < (m : Nat) := by omega
  go_enter Try.func11, Try.ntmps11
  go_wp2
  go_ret
  exact ⟨rfl, Stay.refl _ _⟩

theorem rsend11_ok (n r : Int) (a : Option Addr) (m c : Nat) (w : World) (hm : m ≤ 4096) (hn : n < r) : Calls Try.prog 11 #[.int .i64 n, .int .i64 r, .slice a m c] w (Gives (.int .i64 0) w) := by
  have i1 : ¬ (4096 : Int) < (m : Nat) := by omega
  have i2 : ¬ r ≤ n := by omega
  go_enter Try.func11, Try.ntmps11
  go_wp2
  go_ret
  exact ⟨rfl, Stay.refl _ _⟩

end Go.Proofs.Ytabalnjbfhngnaa
