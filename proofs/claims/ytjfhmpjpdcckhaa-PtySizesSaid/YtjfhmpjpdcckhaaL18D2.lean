/-
  The program: a byte's picture; it is shown; what is lost: walked. No conditions.
-/
import Derived.Test.YtjfhmpjpdcckhaaL18D1
namespace Go.Proofs.Ytjfhmpjpdcckhaa.L18
open Go.RowKit

open L17

variable {w : World} {q : Pl} {x : PS} {ec : List Int} {sg : Int}

theorem s_in (h : SAt w q x ec sg) (f : Int) : Calls Try.prog 41 #[.pointer (some ⟨q.p, 0, none⟩), .int .i64 f] w (Gives (.bool (hasB x.t.fi f)) w) := by
  obtain ⟨r, e, h⟩ := h
  exact p_in h.core f

theorem s_local (h : SAt w q x ec sg) (ht : rightB x.t = true) (f : Int) (hf : f ∈ [(1 : Int), 2, 4, 8, 16, 32, 64, 128, 256, 512]) : Calls Try.prog 31 #[.pointer (some ⟨q.p, 0, none⟩), .int .i64 f] w (Gives (.bool (hasB x.t.fl f)) w) := by
  obtain ⟨r, e, h⟩ := h
  exact p_local h.core ht f hf

theorem s_local2 (h : SAt w q x ec sg) (f : Int) (b : Bool) (hb : (bits .and .i64 x.t.fl f == f) = b) : Calls Try.prog 31 #[.pointer (some ⟨q.p, 0, none⟩), .int .i64 f] w (Gives (.bool b) w) := by
  obtain ⟨r, e, h⟩ := h
  rw [← hb]
  exact p_local0 h.core f

theorem s_is (h : SAt w q x ec sg) (k c : Int) (h0 : 0 ≤ c) (h1 : c < 256) : Calls Try.prog 56 #[.pointer (some ⟨q.p, 0, none⟩), .int .i64 k, .int .u8 c] w (Gives (.bool (isB x.t k c)) w) := by
  obtain ⟨r, e, h⟩ := h
  exact p_is h.core k c h0 h1

theorem s_line (h : SAt w q x ec sg) (hn : x.rd ≤ x.all.length) (hm : x.all.length ≤ 100000) : Calls Try.prog 61 #[.pointer (some ⟨q.p, 0, none⟩)] w (LineR q.U (fun _ => True) x w) := by
  obtain ⟨r, e, h⟩ := h
  refine (p_line h.core hn hm).mono ?_
  rintro e1 w1 ⟨a, cap, h1, h2, h3, _, h4⟩
  exact ⟨a, cap, h1, h2, fun ad e => (h.m2 _ (.inr (.inl (h3 ad e)))).1, trivial, h4⟩

/-- The step's own cells. -/
theorem SAt.dp (h : SAt w q x ec sg) : w.cell? ⟨q.b, 0, none⟩ = some (.pointer (some ⟨q.p, 0, none⟩)) := by
  obtain ⟨r, e, h⟩ := h
  have := h.box.c0
  rw [h.dp] at this
  exact this

/-- The picture, as the program writes it. -/
theorem xor_64 (c : Int) (h0 : 0 ≤ c) (h1 : c < 256) : (c < 32 → bits .xor .u8 c 64 = c + 64) ∧ (c = 127 → bits .xor .u8 c 64 = 63) := by
  obtain ⟨n, rfl⟩ := Int.eq_ofNat_of_zero_le h0
  have hn : n < 256 := by omega
  have : ∀ m : Fin 256, (((m : Nat) : Int) < 32 → bits .xor .u8 ((m : Nat) : Int) 64 = ((m : Nat) : Int) + 64) ∧ (((m : Nat) : Int) = 127 → bits .xor .u8 ((m : Nat) : Int) 64 = 63) := by decide +kernel
  exact this ⟨n, hn⟩

def picP (fl c : Int) : List Int := if hasB fl 32 = true ∧ ((c < 32 ∧ ¬ c = 9 ∧ ¬ c = 10) ∨ c = 127) then [94, bits .xor .u8 c 64] else [c]

theorem picP_eq (d : DS) (c : Int) (h0 : 0 ≤ c) (h1 : c < 256) : d.pic c = picP d.t.fl c := by
  obtain ⟨a1, a2⟩ := xor_64 c h0 h1
  have e : d.loc 32 = hasB d.t.fl 32 := rfl
  unfold DS.pic picP
  rw [e]
  by_cases h : hasB d.t.fl 32 = true
  · by_cases k1 : c < 32 ∧ ¬ c = 9 ∧ ¬ c = 10
    · rw [if_pos ⟨h, k1⟩, if_pos ⟨h, .inl k1⟩, a1 k1.1]
    · by_cases k2 : c = 127
      · rw [if_neg (fun z => k1 z.2), if_pos ⟨h, k2⟩, if_pos ⟨h, .inr k2⟩, a2 k2]
      · rw [if_neg (fun z => k1 z.2), if_neg (fun z => k2 z.2), if_neg (fun z => z.2.elim k1 k2)]
  · rw [if_neg (fun z => h z.1), if_neg (fun z => h z.1), if_neg (fun z => h z.1)]

theorem picP_len (fl c : Int) : (picP fl c).length ≤ 2 := by unfold picP; split <;> simp

/-- A row of bytes in a block of its own. -/
def GivesN (l : List Int) (w : World) (e : Ending) (w' : World) : Prop := ∃ v, e = .returned v ∧ Win w' 1 v l.length (bys l) ∧ (∀ y ∈ l, (Lit.int .u8 y).wf = true) ∧ (∀ j, v.ownBlock = some j → w.heap.size ≤ j) ∧ Stay (fun _ => False) w w'

theorem givesN (w0 w : World) (cs : Array Value) (l : List Int) (n : Nat) (hl : cs.toList = l.map (.int .u8 ·)) (hn : cs.size = n) (hw : ∀ y ∈ l, (Lit.int .u8 y).wf = true) (hm : n ≤ 1000) (hs : Stay (fun _ => False) w0 w) : GivesN l w0 (.returned (.slice (some ⟨w.heap.size, 0, none⟩) n n)) (w.alloc (.cells cs 5)) := by
  have ha := Acc.new w cs l n hl hn hw hm
  refine ⟨_, rfl, Win.of_owns ha.own (by simp [bys]), hw, fun j hj => ?_, hs.trans ha.stay⟩
  cases hj
  exact hs.size

set_option maxHeartbeats 1000000 in
theorem s_picture (c : Int) (h : SAt w q x ec sg) (ht : rightB x.t = true) (h0 : 0 ≤ c) (h1 : c < 256) : Calls Try.prog 62 #[.pointer (some ⟨q.b, 0, none⟩), .int .u8 c] w (GivesN (picP x.t.fl c) w) := by
  have HL := hide' (s_local h ht 32 (by simp))
  have HS0 := hide' (Stay.refl (fun _ => False) w)
  have HX := hide' (xor_64 c h0 h1)
  have HW0 := hide' (wf_u8_of h0 h1)
  have hdp := h.dp
  have HP : Hid (picP x.t.fl c = if hasB x.t.fl 32 = true ∧ ((c < 32 ∧ ¬ c = 9 ∧ ¬ c = 10) ∨ c = 127) then [94, bits .xor .u8 c 64] else [c]) := rfl
  obtain ⟨u, hu⟩ : ∃ u, u = hasB x.t.fl 32 := ⟨_, rfl⟩
  obtain ⟨l, hl⟩ : ∃ l, l = picP x.t.fl c := ⟨_, rfl⟩
  obtain ⟨z, hz⟩ : ∃ z, z = bits .xor .u8 c 64 := ⟨_, rfl⟩
  have e64 := hz.symm
  rw [← hu, ← hl, ← hz] at HP
  rw [← hu] at HL
  rw [← hl]
  have HZ : Hid ((c < 32 → z = c + 64) ∧ (c = 127 → z = 63)) := by rw [hz]; exact HX.out
  have hr : 0 ≤ c ∧ c < 256 := ⟨h0, h1⟩
  clear hu hl hz h ht h0 h1 HX
  cases u
  · go_enter Try.func62, Try.ntmps62
    go_wp2_with fail
    refine HL.out.mono ?_
    rintro e w1 ⟨rfl, hs⟩
    have HS1 := hide' (HS0.out.trans hs)
    clear hs
    go_wp2
    go_ret
    have e : l = [c] := by rw [HP.out]; simp
    rw [e]
    exact givesN w w1 #[.int .u8 c] _ 1 rfl rfl (by intro x hx; simp at hx; subst hx; exact HW0.out) (by omega) HS1.out
  · by_cases h9 : c = 9
    · subst h9
      go_enter Try.func62, Try.ntmps62
      go_wp2_with fail
      refine HL.out.mono ?_
      rintro e w1 ⟨rfl, hs⟩
      have HS1 := hide' (HS0.out.trans hs)
      clear hs
      go_wp2
      go_ret
      have e : l = [9] := by rw [HP.out]; simp
      rw [e]
      exact givesN w w1 #[.int .u8 9] _ 1 rfl rfl (by intro x hx; simp at hx; subst hx; exact HW0.out) (by omega) HS1.out
    · by_cases h10 : c = 10
      · subst h10
        go_enter Try.func62, Try.ntmps62
        go_wp2_with fail
        refine HL.out.mono ?_
        rintro e w1 ⟨rfl, hs⟩
        have HS1 := hide' (HS0.out.trans hs)
        clear hs
        go_wp2
        go_ret
        have e : l = [10] := by rw [HP.out]; simp
        rw [e]
        exact givesN w w1 #[.int .u8 10] _ 1 rfl rfl (by intro x hx; simp at hx; subst hx; exact HW0.out) (by omega) HS1.out
      · have e9 : (c != 9) = true := by simpa using h9
        have e10 : (c != 10) = true := by simpa using h10
        by_cases h32 : c < 32
        · have hzz : z = c + 64 := HZ.out.1 h32
          have HZR : Hid (0 ≤ z ∧ z < 256) := by show _ ∧ _; omega
          clear hzz
          go_enter Try.func62, Try.ntmps62
          go_wp2_with fail
          refine HL.out.mono ?_
          rintro e w1 ⟨rfl, hs⟩
          have HS1 := hide' (HS0.out.trans hs)
          clear hs
          go_wp2
          go_ret
          have e : l = [94, z] := by rw [HP.out]; simp [*]
          rw [e]
          exact givesN w w1 #[.int .u8 94, .int .u8 z] _ 2 rfl rfl (by intro x hx; simp at hx; rcases hx with rfl | rfl; decide; exact wf_u8_of HZR.out.1 HZR.out.2) (by omega) HS1.out
        · by_cases h127 : c = 127
          · subst h127
            have HZR : Hid (0 ≤ z ∧ z < 256) := by have := HZ.out.2 rfl; show _ ∧ _; omega
            go_enter Try.func62, Try.ntmps62
            go_wp2_with fail
            refine HL.out.mono ?_
            rintro e w1 ⟨rfl, hs⟩
            have HS1 := hide' (HS0.out.trans hs)
            clear hs
            go_wp2
            go_ret
            have e : l = [94, z] := by rw [HP.out]; simp
            rw [e]
            exact givesN w w1 #[.int .u8 94, .int .u8 z] _ 2 rfl rfl (by intro x hx; simp at hx; rcases hx with rfl | rfl; decide; exact wf_u8_of HZR.out.1 HZR.out.2) (by omega) HS1.out
          · have e127 : (c == 127) = false := by simpa using h127
            go_enter Try.func62, Try.ntmps62
            go_wp2_with fail
            refine HL.out.mono ?_
            rintro e w1 ⟨rfl, hs⟩
            have HS1 := hide' (HS0.out.trans hs)
            clear hs
            go_wp2
            go_ret
            have e : l = [c] := by rw [HP.out]; simp [*]
            rw [e]
            exact givesN w w1 #[.int .u8 c] _ 1 rfl rfl (by intro x hx; simp at hx; subst hx; exact HW0.out) (by omega) HS1.out

end Go.Proofs.Ytjfhmpjpdcckhaa.L18
