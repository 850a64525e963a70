/-
  Signals to a group: walked. No conditions.
-/
import Derived.Test.YtefpifnfinkbaaaE8
import Derived.Test.YtefpifnfinkbaaaB1
namespace Go.Proofs.Ytefpifnfinkbaaa
open Go.RowKit

variable {q : Tq} {L : List Pr} {md : Int} {f : Int → Int} {c : Nat} {w : World} {i g : Nat} {p : Pr}

/-- The same signals to a group. -/
def sigL (g : Int) (K : List Int) : List Sg := K.map (fun k => ⟨g, k⟩)

theorem sigL_len (g : Int) (K : List Int) : (sigL g K).length = K.length := List.length_map _

theorem sigL_snoc (g : Int) {K : List Int} {k : Nat} (h : k < K.length) : sigL g (K.take (k + 1)) = sigL g (K.take k) ++ [⟨g, K.getD k 0⟩] := by
  unfold sigL
  rw [List.take_add_one, List.map_append, List.getD_eq_getElem?_getD, List.getElem?_eq_getElem h]
  rfl

/-- What stands while signals are gathered. -/
def SigIn (w : World) (g : Int) (K : List Int) (k : Nat) (a : Option Addr) (cap : Nat) (wr : World) : Prop := SV wr a cap (sigL g (K.take k)) ∧ Stay (fun _ => False) w wr ∧ ∀ j, a.map Addr.block = some j → w.heap.size ≤ j

theorem signals39_no (y : Int) (B m : Nat) (h : TM w q L md f c) (hn : L.any (fun p => p.grp == y) = false) : Calls Try.prog 39 #[.pointer (some ⟨q.b, 0, none⟩), .int .i64 y, .slice (some ⟨B, 0, none⟩) m m] w (GivesS [] w) := by
  have HA := hide' (hasAny43 y h)
  rw [hn] at HA
  clear hn h
  go_enter Try.func39, Try.ntmps39
  go_wp2_with fail
  refine HA.out.mono ?_
  rintro _ w1 ⟨rfl, hs⟩
  have HS := hide' hs
  clear hs HA
  go_wp2
  go_ret
  exact ⟨none, 0, rfl, SV.nil _, HS.out, fun j hj => by cases hj⟩

set_option maxHeartbeats 1000000 in
theorem signals39 (y : Int) (B : Nat) (K : List Int) (h : TM w q L md f c) (hn : L.any (fun p => p.grp == y) = true) (hk : ∀ j, j < K.length → w.cell? ⟨B, j, none⟩ = some (.int .i64 (K.getD j 0))) (hl : K.length ≤ 4) :
    Calls Try.prog 39 #[.pointer (some ⟨q.b, 0, none⟩), .int .i64 y, .slice (some ⟨B, 0, none⟩) K.length K.length] w (GivesS (sigL y K) w) := by
  have HA := hide' (hasAny43 y h)
  rw [hn] at HA
  have HK := hide' hk
  have HSRC : Hid (∀ (W : World) (s : Int) ad, (some ⟨W.heap.size, 0, none⟩ : Option Addr) = some ad → ∀ j u, (Sg.parts ⟨y, s⟩)[j]? = some u → (W.alloc (.cells #[.int .i64 y, .int .i64 s] 60)).cell? (ad.add j) = some u) := by
    rintro W s ad e j u hu
    have hN := isRowS_new W #[.int .i64 y, .int .i64 s] 60 2 1 rfl
    rcases hN with ⟨h, _⟩ | ⟨ad', cc, h, _, h3⟩
    · cases h
    · cases h
      cases e
      exact h3 j u hu
  obtain ⟨m, hm⟩ : ∃ m, m = K.length := ⟨_, rfl⟩
  have HM := hide' hm
  rw [← hm]
  have hm4 : (m : Int) ≤ 4 := by omega
  clear hn h hk hm
  go_enter Try.func39, Try.ntmps39
  go_wp2_with fail
  refine HA.out.mono ?_
  rintro _ w1 ⟨rfl, hs⟩
  have HS0 : Hid (SigIn w y K 0 none 0 w1) := ⟨SV.nil _, hs, fun j hj => by cases hj⟩
  clear hs HA
  go_wp2
  go_loopg [7, 16] m (fun gg v7 v16 wr => ∃ (k : Nat) (a : Option Addr) (cap : Nat), k ≤ m ∧ gg = m - k ∧ v7 = .slice a k cap ∧ v16 = .int .i64 (k : Int) ∧ Hid (SigIn w y K k a cap wr))
  case atStart => exact ⟨0, none, 0, Nat.zero_le _, rfl, rfl, rfl, HS0⟩
  case round =>
    clear HS0
    obtain ⟨k, a, cap, hk, rfl, rfl, rfl, HR⟩ := hrel
    by_cases hlt : k < m
    · have kn : (k : Int) < (m : Nat) := by omega
      have hcell : wr.cell? ⟨B, k, none⟩ = some (.int .i64 (K.getD k 0)) := keep_cell HR.out.2.1 (HK.out k (by rw [← HM.out]; exact hlt))
      obtain ⟨s, hs⟩ : ∃ s, s = K.getD k 0 := ⟨_, rfl⟩
      rw [← hs] at hcell
      have HSS := hide' hs
      have HWIN : Hid (∀ o, Win (wr.alloc o) 2 (.slice a k cap) k (sc (sigL y (K.take k)))) := fun o => by
        have := HR.out.1.keep ((Stay.refl (fun _ => False) wr).alloc o)
        unfold SV at this
        rw [sigL_len, List.length_take, Nat.min_eq_left (by have := HM.out; omega)] at this
        exact this
      clear hs
      go_wp2_with (at_builtin; refine wpList_append_win rfl _ _ 35 rfl Try.underlying35 info60 rfl (by decide) (by decide) (HWIN.out _) rfl (m := 1) (news := Sg.parts ⟨y, s⟩) rfl (HSRC.out _ _) (fun e => by cases e) (Sg.parts_one _) (by omega) rfl ?_; intro v2 w2 hw2 hs2 hb2; have HW2 := hide' hw2; have HS2 := hide' hs2; have HB2 := hide' hb2; clear hw2 hs2 hb2; obtain ⟨a2, cap2, hv2, _, _⟩ := HW2.out.shape; subst hv2)
      have HN : Hid (SigIn w y K (k + 1) a2 cap2 w2) := by
        have hz : wr.heap.size < (wr.alloc (.cells #[.int .i64 y, .int .i64 s] 60)).heap.size := by simp
        have hlow : ∀ j, a.map Addr.block = some j → w.heap.size ≤ j := HR.out.2.2
        have hsz := HR.out.2.1.size
        refine ⟨?_, ?_, ?_⟩
        · have h1 := HW2.out
          rw [← sc_one, ← sc_append, HSS.out, ← sigL_snoc y (by rw [← HM.out]; exact hlt)] at h1
          have e : (sigL y (K.take (k + 1))).length = k + 1 := by rw [sigL_len, List.length_take, Nat.min_eq_left (by have := HM.out; omega)]
          unfold SV
          rw [e]
          exact h1
        · exact (HR.out.2.1.trans ((Stay.refl (fun _ => False) wr).alloc _)).trans2 HS2.out (fun j hj e => by
            have h1 := hlow j (by cases a <;> exact e)
            omega)
        · intro j hj
          have hj2 : (Value.slice a2 (k + 1) cap2).ownBlock = some j := by cases a2 <;> exact hj
          rcases HB2.out with e | e
          · rw [e] at hj2
            exact hlow j (by cases a <;> exact hj2)
          · rw [e] at hj2
            cases hj2
            omega
      clear HR HWIN hcell
      go_wp2
      go_roundg (m - (k + 1))
      case measure => omega
      case rel => exact ⟨k + 1, a2, cap2, by omega, rfl, rfl, by go_num, HN⟩
    · have e : k = m := by omega
      subst e
      go_wp2
      go_ret
      obtain ⟨h1, h2, h3⟩ := HR.out
      rw [List.take_of_length_le (by rw [← HM.out]; exact Nat.le_refl _)] at h1
      exact ⟨a, cap, by rw [sigL_len, ← HM.out]; rfl, h1, h2, h3⟩

/-- The signals that come to a group. -/
def sigsTo (L : List Pr) (y : Int) (K : List Int) : List Sg := if L.any (fun p => p.grp == y) then sigL y K else []

theorem signals (y : Int) (B : Nat) (K : List Int) (h : TM w q L md f c) (hk : ∀ j, j < K.length → w.cell? ⟨B, j, none⟩ = some (.int .i64 (K.getD j 0))) (hl : K.length ≤ 4) :
    Calls Try.prog 39 #[.pointer (some ⟨q.b, 0, none⟩), .int .i64 y, .slice (some ⟨B, 0, none⟩) K.length K.length] w (GivesS (sigsTo L y K) w) := by
  unfold sigsTo
  by_cases hn : L.any (fun p => p.grp == y) = true
  · rw [if_pos hn]; exact signals39 y B K h hn hk hl
  · rw [if_neg hn]; exact signals39_no y B _ h (by simpa using hn)

end Go.Proofs.Ytefpifnfinkbaaa
