/-
  Rows of integers; what a colour looks like in the document; the same integers: walked. No conditions.
-/
import Derived.Test.YtinikpadbocfaaaC6
namespace Go.Proofs.Ytinikpadbocfaaa
open Go.RowKit

theorem w64_wf {x : Int} (h : W64 x) : (Lit.int .i64 x).wf = true := by
  have z1 : IntKind.i64.min = -9223372036854775808 := by decide
  have z2 : IntKind.i64.max = 9223372036854775807 := by decide
  unfold W64 at h
  simp only [Lit.wf, decide_eq_true_eq, Bool.and_eq_true]
  omega

/-- A row of integers that can be read. -/
def Row (w : World) (t : Value) (l : List Int) : Prop := ∃ a cap, IArg .i64 w t l a cap

/-- A row of integers is handed back, and nothing that was there has turned. -/
def GivesRow (l : List Int) (w : World) (e : Ending) (w' : World) : Prop := ∃ t, e = .returned t ∧ Row w' t l ∧ Stay (fun _ => False) w w'

theorem Row.keep {w w' : World} {t : Value} {l : List Int} (h : Row w t l) (hs : Stay (fun _ => False) w w') : Row w' t l := by
  obtain ⟨a, cap, h⟩ := h
  exact ⟨a, cap, h.stay0 hs⟩

theorem row_nil (w : World) : Row w (.slice none 0 0) [] := ⟨none, 0, rfl, fun h => absurd rfl h, fun _ => rfl, Nat.le_refl _, by unfold maxLen; omega, fun x hx => by simp at hx⟩

theorem row_owned {w : World} {base : Nat} {t : Value} {l : List Int} (h : w.ownsRow base 3 1 t l.length (l.map (.int .i64 ·))) (hw : ∀ x ∈ l, W64 x) : Row w t l := by
  obtain ⟨a, cap, h, _⟩ := owned_arg h (fun x hx => w64_wf (hw x hx))
  exact ⟨a, cap, h⟩

theorem row_new (w : World) (cs : Array Value) (l : List Int) (n : Nat) (hn : cs.size = n) (hl : cs.toList = l.map (.int .i64 ·)) (hw : ∀ x ∈ l, W64 x) (hm : n ≤ maxLen) : Row (w.alloc (.cells cs 3)) (.slice (some ⟨w.heap.size, 0, none⟩) n n) l := by
  subst hn
  have h := owns_new w cs 3 hm
  have e : cs.size = l.length := by rw [← Array.length_toList, hl, List.length_map]
  rw [hl, e] at h
  rw [e]
  exact row_owned h hw

theorem row3 (w : World) {a b c x y z : Int} (h1 : a = x) (h2 : b = y) (h3 : c = z) (w1 : W64 x) (w2 : W64 y) (w3 : W64 z) : Row (w.alloc (.cells #[.int .i64 a, .int .i64 b, .int .i64 c] 3)) (.slice (some ⟨w.heap.size, 0, none⟩) 3 3) [x, y, z] := by
  subst h1 h2 h3
  exact row_new w _ _ 3 rfl rfl (by intro u hu; simp at hu; rcases hu with rfl | rfl | rfl <;> assumption) (by unfold maxLen; omega)

theorem row5 (w : World) {a b c d e x y z u v : Int} (h1 : a = x) (h2 : b = y) (h3 : c = z) (h4 : d = u) (h5 : e = v) (w1 : W64 x) (w2 : W64 y) (w3 : W64 z) (w4 : W64 u) (w5 : W64 v) : Row (w.alloc (.cells #[.int .i64 a, .int .i64 b, .int .i64 c, .int .i64 d, .int .i64 e] 3)) (.slice (some ⟨w.heap.size, 0, none⟩) 5 5) [x, y, z, u, v] := by
  subst h1 h2 h3 h4 h5
  exact row_new w _ _ 5 rfl rfl (by intro u hu; simp at hu; rcases hu with rfl | rfl | rfl | rfl | rfl <;> assumption) (by unfold maxLen; omega)

set_option maxHeartbeats 1000000 in
theorem refLook14 (c : Int) (w : World) (hc : W64 c) : Calls Try.prog 14 #[.int .i64 c] w (GivesRow (lookL c) w) := by
  have HW := hide' hc
  obtain ⟨hc1, hc2⟩ := hc
  by_cases h1 : 16777216 ≤ c
  · by_cases h2 : c ≤ 33554431
    · have HL : Hid (lookL c = [(c - 16777216) / 65536, c / 256 % 256, c % 256]) := by
        show _ = _
        unfold lookL; rw [if_pos ⟨h1, h2⟩]
      go_enter Try.func14, Try.ntmps14
      go_wp2
      go_ret
      refine ⟨_, rfl, ?_, (Stay.refl _ _).alloc _⟩
      rw [HL.out]
      refine row3 w ?_ ?_ ?_ ?_ ?_ ?_
      all_goals try unfold W64
      all_goals omega
    · have HL : Hid (lookL c = []) := by
        show _ = _
        unfold lookL; rw [if_neg (by omega), if_pos (by omega)]
      have d2 : decide (c ≤ 33554431) = false := by simpa using h2
      go_enter Try.func14, Try.ntmps14
      go_wp2
      go_ret
      exact ⟨_, rfl, by rw [HL.out]; exact row_nil _, Stay.refl _ _⟩
  · by_cases h3 : c < 1
    · have HL : Hid (lookL c = []) := by
        show _ = _
        unfold lookL; rw [if_neg (by omega), if_pos (by omega)]
      go_enter Try.func14, Try.ntmps14
      go_wp2
      go_ret
      exact ⟨_, rfl, by rw [HL.out]; exact row_nil _, Stay.refl _ _⟩
    · by_cases h4 : 256 < c
      · have HL : Hid (lookL c = []) := by
          show _ = _
          unfold lookL; rw [if_neg (by omega), if_pos (by omega)]
        go_enter Try.func14, Try.ntmps14
        go_wp2
        go_ret
        exact ⟨_, rfl, by rw [HL.out]; exact row_nil _, Stay.refl _ _⟩
      · by_cases h5 : 233 ≤ c
        · have HL : Hid (lookL c = [8 + 10 * (c - 233), 8 + 10 * (c - 233), 8 + 10 * (c - 233)]) := by
            show _ = _
            unfold lookL; rw [if_neg (by omega), if_neg (by omega), if_pos (by omega)]
          go_enter Try.func14, Try.ntmps14
          go_wp2
          go_ret
          refine ⟨_, rfl, ?_, (Stay.refl _ _).alloc _⟩
          rw [HL.out]
          refine row3 w ?_ ?_ ?_ ?_ ?_ ?_
          all_goals try unfold W64
          all_goals omega
        · by_cases h6 : 17 ≤ c
          · have HL : Hid (lookL c = [51 * ((c - 17) / 36), 51 * ((c - 17) / 6 % 6), 51 * ((c - 17) % 6)]) := by
              show _ = _
              unfold lookL; rw [if_neg (by omega), if_neg (by omega), if_neg (by omega), if_pos (by omega)]
            go_enter Try.func14, Try.ntmps14
            go_wp2
            go_ret
            refine ⟨_, rfl, ?_, (Stay.refl _ _).alloc _⟩
            rw [HL.out]
            refine row3 w ?_ ?_ ?_ ?_ ?_ ?_
            all_goals try unfold W64
            all_goals omega
          · by_cases h7 : 9 ≤ c
            · have HL : Hid (lookL c = [170 * ((c - 1) % 2) + 85, 170 * ((c - 1) / 2 % 2) + 85, 170 * ((c - 1) / 4 % 2) + 85]) := by
                show _ = _
                unfold lookL; rw [if_neg (by omega), if_neg (by omega), if_neg (by omega), if_neg (by omega), if_pos h7]
              go_enter Try.func14, Try.ntmps14
              go_wp2
              go_ret
              refine ⟨_, rfl, ?_, (Stay.refl _ _).alloc _⟩
              rw [HL.out]
              refine row3 w ?_ ?_ ?_ ?_ ?_ ?_
              all_goals try unfold W64
              all_goals omega
            · have HL : Hid (lookL c = [170 * ((c - 1) % 2) + 0, 170 * ((c - 1) / 2 % 2) + 0, 170 * ((c - 1) / 4 % 2) + 0]) := by
                show _ = _
                unfold lookL; rw [if_neg (by omega), if_neg (by omega), if_neg (by omega), if_neg (by omega), if_neg h7]
              go_enter Try.func14, Try.ntmps14
              go_wp2
              go_ret
              refine ⟨_, rfl, ?_, (Stay.refl _ _).alloc _⟩
              rw [HL.out]
              refine row3 w ?_ ?_ ?_ ?_ ?_ ?_
              all_goals try unfold W64
              all_goals omega

theorem same13_nil (a1 a2 : Option Addr) (k1 k2 : Nat) (w : World) : Calls Try.prog 13 #[.slice a1 0 k1, .slice a2 0 k2] w (Gives (.bool true) w) := by
  go_enter Try.func13, Try.ntmps13
  go_wp2_with fail
  go_loopg [5] 0 (fun g i wr => g = 0 ∧ i = .int .i64 0 ∧ wr = w)
  case atStart => exact ⟨rfl, rfl, rfl⟩
  case round =>
    obtain ⟨rfl, rfl, rfl⟩ := hrel
    go_wp2
    go_ret
    exact ⟨rfl, Stay.refl _ _⟩

set_option maxHeartbeats 1000000 in
theorem same13_some (l : List Int) (b1 o1 k1 b2 o2 k2 n : Nat) (w : World) (hn : n ≤ 1000) (hl : l.length = n) (h1 : Ints .i64 w b1 o1 l) (h2 : Ints .i64 w b2 o2 l) :
    Calls Try.prog 13 #[.slice (some ⟨b1, o1, none⟩) n k1, .slice (some ⟨b2, o2, none⟩) n k2] w (Gives (.bool true) w) := by
  have H1 := hide' h1
  have H2 := hide' h2
  have HL := hide' hl
  have hnz : (n : Int) ≤ 1000 := by omega
  clear h1 h2 hn hl
  go_enter Try.func13, Try.ntmps13
  go_wp2_with fail
  go_loopg [5] n (fun g i wr => ∃ j : Nat, j ≤ n ∧ g = n - j ∧ i = .int .i64 (j : Int) ∧ ∃ q, wr = w.drewN q)
  case atStart => exact ⟨0, Nat.zero_le _, rfl, rfl, 0, rfl⟩
  case round =>
    obtain ⟨j, hj, rfl, rfl, q, rfl⟩ := hrel
    by_cases hlt : j < n
    · have a1 : w.cell? ⟨b1, o1 + j, none⟩ = some (.int .i64 (l.getD j 0)) := H1.out j (by have := HL.out; omega)
      have a2 : w.cell? ⟨b2, o2 + j, none⟩ = some (.int .i64 (l.getD j 0)) := H2.out j (by have := HL.out; omega)
      obtain ⟨x, hx⟩ : ∃ x, x = l.getD j 0 := ⟨_, rfl⟩
      rw [← hx] at a1 a2
      clear hx
      have jz : (j : Int) < n := by omega
      have j0 : (0 : Int) ≤ j := by omega
      go_wp2_with fail
      go_quiet (fail)
      go_wp2
      go_roundg (n - (j + 1))
      case measure => omega
      case rel => exact ⟨j + 1, by omega, rfl, by go_num, _, rfl⟩
    · have : j = n := by omega
      subst this
      go_wp2
      go_ret
      exact ⟨rfl, (Stay.refl _ _).drewN _⟩

theorem same13 (v1 v2 : Value) (l : List Int) (w : World) (h1 : Row w v1 l) (h2 : Row w v2 l) (hn : l.length ≤ 1000) : Calls Try.prog 13 #[v1, v2] w (Gives (.bool true) w) := by
  obtain ⟨a1, k1, rfl, c1, _⟩ := h1
  obtain ⟨a2, k2, rfl, c2, _⟩ := h2
  by_cases h : l = []
  · subst h
    exact same13_nil a1 a2 k1 k2 w
  · obtain ⟨b1, o1, rfl, _, i1⟩ := c1 h
    obtain ⟨b2, o2, rfl, _, i2⟩ := c2 h
    exact same13_some l b1 o1 k1 b2 o2 k2 l.length w hn rfl i1 i2

end Go.Proofs.Ytinikpadbocfaaa
