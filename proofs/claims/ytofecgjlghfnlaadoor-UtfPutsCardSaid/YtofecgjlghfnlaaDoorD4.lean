/-
  Whether runes are the same; the document's example: walked. No conditions.
-/
import Derived.Test.YtofecgjlghfnlaaDoorD3
namespace Go.Proofs.YtofecgjlghfnlaaDoor
open Go.RowKit

/-- A slice that reads as a list of runes. -/
theorem owns_nil_or {w : World} {base : Nat} {v : Value} {l : List Nat} (h : w.ownsRow base 21 1 v l.length (l.map rv)) :
    ∃ a cap, v = .slice a l.length cap ∧ (l = [] ∨ ∃ g, a = some ⟨g, 0, none⟩ ∧ ∀ j, j < l.length → w.cell? ⟨g, j, none⟩ = some (rv (l.getD j 0))) := by
  obtain ⟨a, cap, rfl, hl, hc⟩ := ownsRow_shape h
  refine ⟨a, cap, rfl, ?_⟩
  cases l with
  | nil => exact Or.inl rfl
  | cons x r =>
    refine Or.inr ?_
    obtain ⟨g, hg, _, _⟩ := hc 0 (rv x) rfl
    refine ⟨g, hg, fun j hj => ?_⟩
    have : ((x :: r).map rv)[j]? = some (rv ((x :: r).getD j 0)) := by
      rw [List.getElem?_map, List.getElem?_eq_getElem hj, List.getD_eq_getElem?_getD, List.getElem?_eq_getElem hj]; rfl
    obtain ⟨g', hg', _, h2⟩ := hc j _ this
    rw [hg] at hg'
    cases hg'
    exact h2

set_option maxHeartbeats 400000 in
theorem same_true (l : List Nat) (b1 b2 : Nat) (v1 v2 : Value) (w : World) (hl : l.length ≤ 100000) (h1 : w.ownsRow b1 21 1 v1 l.length (l.map rv)) (h2 : w.ownsRow b2 21 1 v2 l.length (l.map rv)) :
    Calls Tryd.prog 9 #[v1, v2] w fun e w' => e = .returned (.bool true) ∧ Stay (fun _ => False) w w' := by
  obtain ⟨a1, c1, rfl, h3⟩ := owns_nil_or h1
  obtain ⟨a2, c2, rfl, h4⟩ := owns_nil_or h2
  by_cases he : l = []
  · subst he
    clear h1 h2 h3 h4
    go_enter Tryd.func9, Tryd.ntmps9
    go_wp2
    go_loopg [5] 0 (fun g i wr => g = 0 ∧ i = .int .i64 0 ∧ wr = w)
    case atStart => exact ⟨rfl, rfl, rfl⟩
    case round =>
      obtain ⟨rfl, rfl, rfl⟩ := hrel
      go_wp2
      go_ret
      exact ⟨rfl, Stay.refl _ _⟩
  · obtain ⟨g1, rfl, k1⟩ := h3.resolve_left he
    obtain ⟨g2, rfl, k2⟩ := h4.resolve_left he
    have H1 := hide' k1
    have H2 := hide' k2
    obtain ⟨n, hn⟩ : ∃ n, n = l.length := ⟨_, rfl⟩
    rw [← hn] at H1 H2 hl ⊢
    have n5 : (n : Int) ≤ 100000 := by omega
    clear h1 h2 h3 h4 k1 k2 he hn
    go_enter Tryd.func9, Tryd.ntmps9
    go_wp2
    go_loopg [5] n (fun g i wr => ∃ k : Nat, k ≤ n ∧ g = n - k ∧ i = .int .i64 (k : Int) ∧ Hid (∃ q, wr = w.drewN q))
    case atStart => exact ⟨0, Nat.zero_le _, rfl, rfl, 0, rfl⟩
    case round =>
      obtain ⟨k, hk, rfl, rfl, HQ⟩ := hrel
      by_cases hlt : k < n
      · obtain ⟨z, hz⟩ : ∃ z, z = l.getD k 0 := ⟨_, rfl⟩
        have a1 : wr.cell? ⟨g1, k, none⟩ = some (.int .i32 (z : Nat)) := by obtain ⟨q, hq⟩ := HQ.out; rw [hq, hz]; exact H1.out k hlt
        have a2 : wr.cell? ⟨g2, k, none⟩ = some (.int .i32 (z : Nat)) := by obtain ⟨q, hq⟩ := HQ.out; rw [hq, hz]; exact H2.out k hlt
        have k0 : (0 : Int) ≤ k := by omega
        have kn : (k : Int) < n := by omega
        clear hz
        go_wp2_with fail
        go_quiet (fail)
        go_wp2
        go_roundg (n - (k + 1))
        case rel => exact ⟨k + 1, by omega, rfl, by go_num, by obtain ⟨q, hq⟩ := HQ.out; exact ⟨q + nq, by rw [hq]; simp [World.drewN, Nat.add_assoc]⟩⟩
        case measure => omega
      · go_wp2
        go_ret
        obtain ⟨q, rfl⟩ := HQ.out
        exact ⟨rfl, (Stay.refl _ _).drewN _⟩

set_option maxHeartbeats 400000 in
theorem awake_any (w : World) (hT : Tbl w) (h0 : 0 < w.heap.size) : Calls Tryd.prog 8 #[] w fun e w' => e = .returned (.bool true) ∧ Stay (fun _ => False) w w' := by
  have hs : Stay (fun _ => False) w (w.alloc (.cells #[.int .u8 226, .int .u8 130, .int .u8 65] 5)) := (Stay.refl _ _).alloc _
  have hB : Bytes (w.alloc (.cells #[.int .u8 226, .int .u8 130, .int .u8 65] 5)) w.heap.size 0 [226, 130, 65] := by
    refine ⟨fun j hj => ?_, fun x hx => ?_⟩
    · have : j = 0 ∨ j = 1 ∨ j = 2 := by simp at hj; omega
      rcases this with rfl | rfl | rfl <;> simp
    · simp at hx; omega
  have hA := all_any [226, 130, 65] w.heap.size 0 3 _ (hs.tbl hT (fun h => h) h0) (by simp) (by simp) hB
  rw [show runes [226, 130, 65] = [65533, 65] from by decide +kernel] at hA
  have HA := hide' hA
  have HS := hide' hs
  clear hA hs hB hT h0
  go_enter Tryd.func8, Tryd.ntmps8
  go_wp2_with fail
  refine HA.out.mono ?_
  rintro e w1 ⟨t, rfl, ho, hs1⟩
  obtain ⟨a, cap, rfl, h⟩ := owns_nil_or ho
  obtain ⟨g, rfl, hc⟩ := h.resolve_left (by simp)
  have c0 : w1.cell? ⟨g, 0, none⟩ = some (.int .i32 65533) := hc 0 (by decide)
  have c1 : w1.cell? ⟨g, 1, none⟩ = some (.int .i32 65) := hc 1 (by decide)
  have HS1 := hide' (HS.out.trans hs1)
  clear ho h hc hs1
  go_wp2
  go_ret
  exact ⟨rfl, HS1.out⟩

end Go.Proofs.YtofecgjlghfnlaaDoor
