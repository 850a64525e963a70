/-
  The document's rows, walked; a rune's width by the document; a rune's width in a text. No conditions.
-/
import Derived.Test.YticccknocjnkpaaDoorGJ
namespace Go.Proofs.YticccknocjnkpaaDoor.Wide
open Go.RowKit

theorem inF_drop (l : List Int) (v : Int) (k : Nat) (h : k + 1 < l.length) : inF (l.drop k) v = ((decide (l.getD k 0 ≤ v) && decide (v ≤ l.getD (k + 1) 0)) || inF (l.drop (k + 2)) v) := by
  rw [List.drop_eq_getElem_cons (by omega : k < l.length), List.drop_eq_getElem_cons (by omega : k + 1 < l.length)]
  simp only [inF, List.getD_eq_getElem?_getD, List.getElem?_eq_getElem (by omega : k < l.length), List.getElem?_eq_getElem h, Option.getD_some]

theorem inF_end (l : List Int) (v : Int) (k : Nat) (h : ¬ k + 1 < l.length) : inF (l.drop k) v = false := by
  have hl : (l.drop k).length ≤ 1 := by rw [List.length_drop]; omega
  match l.drop k, hl with
  | [], _ => rfl
  | [_], _ => rfl

set_option maxHeartbeats 1000000 in
theorem in31 (l : List Int) (v : Int) (b cap : Nat) (w : World) (hl : l.length ≤ 100) (hB : Ints .i64 w b 0 l) :
    Calls Tryd.prog 31 #[.slice (some ⟨b, 0, none⟩) l.length cap, .int .i64 v] w fun e w' => e = .returned (.bool (inF l v)) ∧ w' = w := by
  obtain ⟨n, hn⟩ : ∃ n, n = l.length := ⟨_, rfl⟩
  rw [← hn] at hl ⊢
  have HN := hide' hn
  have HB := hide' hB
  have n100 : (n : Int) ≤ 100 := by omega
  clear hn hB
  go_enter Tryd.func31, Tryd.ntmps31
  go_wp2
  go_loopg [5] n (fun g i wr => ∃ k : Nat, k ≤ n ∧ g = n - k ∧ i = .int .i64 (k : Int) ∧ wr = w ∧ Hid (inF l v = inF (l.drop k) v))
  case atStart => exact ⟨0, Nat.zero_le _, rfl, rfl, rfl, rfl⟩
  case round =>
    obtain ⟨k, hk, rfl, rfl, rfl, HI⟩ := hrel
    by_cases hlt : k + 1 < n
    · have c0 : wr.cell? ⟨b, k, none⟩ = some (.int .i64 (l.getD k 0)) := by have := HB.out k (by rw [← HN.out]; omega); rwa [Nat.zero_add] at this
      have c1 : wr.cell? ⟨b, k + 1, none⟩ = some (.int .i64 (l.getD (k + 1) 0)) := by have := HB.out (k + 1) (by rw [← HN.out]; omega); rwa [Nat.zero_add] at this
      have HS := hide' (inF_drop l v k (by rw [← HN.out]; exact hlt))
      obtain ⟨x, hx⟩ : ∃ x, x = l.getD k 0 := ⟨_, rfl⟩
      obtain ⟨y, hy⟩ : ∃ y, y = l.getD (k + 1) 0 := ⟨_, rfl⟩
      rw [← hx] at c0 HS
      rw [← hy] at c1 HS
      have k0 : (0 : Int) ≤ k := by omega
      have kn : (k : Int) + 1 < n := by omega
      clear hx hy
      by_cases h1 : x ≤ v
      · have d1 : decide (x ≤ v) = true := by simpa using h1
        by_cases h2 : v ≤ y
        · have d2 : decide (v ≤ y) = true := by simpa using h2
          go_wp2
          go_ret
          exact ⟨by rw [HI.out, HS.out, d1, d2]; rfl, rfl⟩
        · have d2 : decide (v ≤ y) = false := by simpa using h2
          have HI2 : Hid (inF l v = inF (l.drop (k + 2)) v) := by have := HI.out; rw [HS.out, d1, d2] at this; simpa [Hid] using this
          clear HI HS
          go_wp2
          go_roundg (n - (k + 2))
          case rel => exact ⟨k + 2, by omega, rfl, by go_num, rfl, HI2.out⟩
          case measure => omega
      · have d1 : decide (x ≤ v) = false := by simpa using h1
        have HI2 : Hid (inF l v = inF (l.drop (k + 2)) v) := by have := HI.out; rw [HS.out, d1] at this; simpa [Hid] using this
        clear HI HS
        go_wp2
        go_roundg (n - (k + 2))
        case rel => exact ⟨k + 2, by omega, rfl, by go_num, rfl, HI2.out⟩
        case measure => omega
    · have HE := hide' (inF_end l v k (by rw [← HN.out]; exact hlt))
      have d1 : decide ((k : Int) + 1 < n) = false := by simp; omega
      go_wp2
      go_ret
      exact ⟨by rw [HI.out, HE.out]; rfl, rfl⟩

/-- A list, laid anew. -/
theorem ints_new (k : IntKind) (w : World) (l : List Int) (t : TypeId) (c : Array Value) (hc : c.toList = l.map (Value.int k ·)) : Ints k (w.alloc (.cells c t)) w.heap.size 0 l := fun j hj => by
  rw [Nat.zero_add, World.cell?_alloc_at _ _ _ _ (by have := congrArg List.length hc; simp at this; omega)]
  have e : c[j]? = some (.int k (l.getD j 0)) := by
    rw [← Array.getElem?_toList, hc, List.getElem?_map, List.getElem?_eq_getElem hj, List.getD_eq_getElem?_getD, List.getElem?_eq_getElem hj]; rfl
  exact e

theorem in31_new (l : List Int) (v : Int) (b cap n : Nat) (w : World) (hn : n = l.length) (hl : l.length ≤ 100) (hB : Ints .i64 w b 0 l) :
    Calls Tryd.prog 31 #[.slice (some ⟨b, 0, none⟩) n cap, .int .i64 v] w fun e w' => e = .returned (.bool (inF l v)) ∧ w' = w := by
  subst hn
  exact in31 l v _ _ _ hl hB

theorem ints_at (k : IntKind) (w : World) (b : Nat) (l : List Int) (t : TypeId) (c : Array Value) (hb : b = w.heap.size) (hc : c.toList = l.map (Value.int k ·)) : Ints k (w.alloc (.cells c t)) b 0 l := by
  subst hb; exact ints_new k w l t c hc

set_option maxHeartbeats 1000000 in
theorem refWidth16 (v : Int) (w : World) : Calls Tryd.prog 16 #[.int .i64 v] w (Gives (.int .i64 (wid v)) w) := by
  by_cases h0 : v < 32 ∨ (127 ≤ v ∧ v ≤ 159) ∨ 1114111 < v
  · have HW : Hid (wid v = -1) := by show wid v = -1; unfold wid; rw [if_pos h0]
    have K : Hid (v < 32 ∨ (127 ≤ v ∧ v ≤ 159) ∨ 1114111 < v) := h0
    clear h0
    rcases K.out with h | ⟨h, h'⟩ | h
    · have d0 : decide (v < 32) = true := by simpa using h
      go_enter Tryd.func16, Tryd.ntmps16
      go_wp2
      go_ret
      exact ⟨ret_int HW.out.symm, Stay.refl _ _⟩
    · have d0 : decide (v < 32) = false := by simp; omega
      have d1 : decide (127 ≤ v) = true := by simpa using h
      have d2 : decide (v ≤ 159) = true := by simpa using h'
      go_enter Tryd.func16, Tryd.ntmps16
      go_wp2
      go_ret
      exact ⟨ret_int HW.out.symm, Stay.refl _ _⟩
    · have d0 : decide (v < 32) = false := by simp; omega
      have d1 : decide (127 ≤ v) = true := by simp; omega
      have d2 : decide (v ≤ 159) = false := by simp; omega
      have d3 : decide (1114111 < v) = true := by simpa using h
      go_enter Tryd.func16, Tryd.ntmps16
      go_wp2
      go_ret
      exact ⟨ret_int HW.out.symm, Stay.refl _ _⟩
  · have HW : Hid (wid v = if inF marksL v then 0 else if inF widesL v then 2 else 1) := by
      show wid v = _
      conv => lhs; unfold wid
      rw [if_neg h0]
    have d0 : decide (v < 32) = false := by simp; omega
    have d3 : decide (1114111 < v) = false := by simp; omega
    have D12 : Hid (decide (127 ≤ v) = false ∨ decide (127 ≤ v) = true ∧ decide (v ≤ 159) = false) := by
      by_cases h : 127 ≤ v
      · right; simp; omega
      · left; simp; omega
    clear h0
    cases hm : inF marksL v
    · cases hw : inF widesL v
      · rw [hm, hw] at HW
        have HM := hide' hm
        have HX := hide' hw
        clear hm hw
        rcases D12.out with d1 | ⟨d1, d2⟩
        all_goals
          go_enter Tryd.func16, Tryd.ntmps16
          go_wp2_with fail
          refine (in31_new marksL v _ _ 18 _ rfl (by decide) (ints_at _ _ _ _ _ _ rfl rfl)).mono ?_
          rintro e w' ⟨rfl, rfl⟩
          rw [HM.out]
          go_wp2_with fail
          refine (in31_new widesL v _ _ 28 _ rfl (by decide) (ints_at _ _ _ _ _ _ (by simp) rfl)).mono ?_
          rintro e w' ⟨rfl, rfl⟩
          rw [HX.out]
          go_wp2
          go_ret
          exact ⟨ret_int HW.out.symm, ((Stay.refl _ _).alloc _).alloc _⟩
      · rw [hm, hw] at HW
        have HM := hide' hm
        have HX := hide' hw
        clear hm hw
        rcases D12.out with d1 | ⟨d1, d2⟩
        all_goals
          go_enter Tryd.func16, Tryd.ntmps16
          go_wp2_with fail
          refine (in31_new marksL v _ _ 18 _ rfl (by decide) (ints_at _ _ _ _ _ _ rfl rfl)).mono ?_
          rintro e w' ⟨rfl, rfl⟩
          rw [HM.out]
          go_wp2_with fail
          refine (in31_new widesL v _ _ 28 _ rfl (by decide) (ints_at _ _ _ _ _ _ (by simp) rfl)).mono ?_
          rintro e w' ⟨rfl, rfl⟩
          rw [HX.out]
          go_wp2
          go_ret
          exact ⟨ret_int HW.out.symm, ((Stay.refl _ _).alloc _).alloc _⟩
    · rw [hm] at HW
      have HM := hide' hm
      clear hm
      rcases D12.out with d1 | ⟨d1, d2⟩
      all_goals
        go_enter Tryd.func16, Tryd.ntmps16
        go_wp2_with fail
        refine (in31_new marksL v _ _ 18 _ rfl (by decide) (ints_at _ _ _ _ _ _ rfl rfl)).mono ?_
        rintro e w' ⟨rfl, rfl⟩
        rw [HM.out]
        go_wp2
        go_ret
        exact ⟨ret_int HW.out.symm, (Stay.refl _ _).alloc _⟩

end Go.Proofs.YticccknocjnkpaaDoor.Wide
