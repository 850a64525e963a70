/-
  The bytes of a key, in a row of its own: walked. No conditions.
-/
import Derived.Test.YtjficpcfdpbegaaD7
import Derived.Laws.IdiomStrings
import Derived.Lib.Strings
namespace Go.Proofs.Ytjficpcfdpbegaa
open Go.RowKit

theorem bsOf_size (l : List Int) : (bsOf l).size = l.length := by simp [bsOf, ByteArray.size]

theorem bsOf_cons (l : List Int) : (⟨#[27]⟩ : ByteArray) ++ bsOf l = bsOf (27 :: l) := by
  apply ByteArray.ext
  rw [ByteArray.data_append]
  simp [bsOf]

theorem bsOf_list (l : List Int) : (bsOf l).toList = l.map fun x => UInt8.ofNat x.toNat := by
  rw [Lib.toList_data]
  simp [bsOf]

/-- The world in which a string's bytes are a row. -/
theorem bs_made (w : World) (l : List Int) (cap : Nat) (hc : l.length ≤ cap) (hb : ∀ x ∈ l, 0 ≤ x ∧ x < 256) (n : Nat) (hn : n = l.length) (fr : Nat × Nat) :
    Bs (w.alloc (.cells (bytesRow (bsOf l) cap) 5 fr)) (.slice (some ⟨w.heap.size, 0, none⟩) n cap) l := by
  subst hn
  refine ⟨_, cap, rfl, hc, fun _ => ⟨_, 0, rfl, fun j hj => ?_⟩⟩
  have hj' : j < (bsOf l).data.size := by simpa [bsOf] using hj
  rw [Nat.zero_add, World.cell?_alloc_mark, bytesRow_at (bsOf l) cap j hj']
  have hx := hb l[j] (List.getElem_mem hj)
  have e : (bsOf l).data[j] = UInt8.ofNat (l[j]).toNat := by simp [bsOf]
  rw [e, List.getD_eq_getElem?_getD, List.getElem?_eq_getElem hj]
  simp
  omega

theorem bs_from (w : World) (l : List Int) (S : ByteArray) (cap n : Nat) (hS : S = bsOf l) (hn : n = l.length) (hc : n ≤ cap) (hb : ∀ x ∈ l, 0 ≤ x ∧ x < 256) (fr : Nat × Nat) :
    Bs (w.alloc (.cells (bytesRow S cap) 5 fr)) (.slice (some ⟨w.heap.size, 0, none⟩) n cap) l := by
  subst hS
  exact bs_made w l cap (by omega) hb n hn fr

theorem kb_byte (c m : Int) (app : Bool) : ∀ x ∈ kbL c m app, 0 ≤ x ∧ x < 256 := by
  intro x hx
  unfold kbL at hx
  split at hx
  · rcases List.mem_cons.1 hx with rfl | hx
    · omega
    · exact wa_byte _ _ _ _ x hx
  · exact wa_byte _ _ _ _ x hx

theorem kb_len (c m : Int) (app : Bool) : (kbL c m app).length ≤ 5 := by
  have := wa_len c (bitB m 1) (bitB m 2) app
  unfold kbL
  split
  · simpa using this
  · omega

set_option maxHeartbeats 1000000 in
theorem bytes13_of (c m : Int) (app : Bool) (l r : List Int) (w : World) (HL : Hid (l.length ≤ 4)) (HY : Hid (∀ x ∈ r, 0 ≤ x ∧ x < 256))
    (H17 : Hid (∀ w, Calls Try.prog 17 #[.agg #[.int .i64 c, .int .i64 m], .bool app] w (Gives (.string (bsOf l)) w))) (hr : r = if bitB m 4 && !l.isEmpty then 27 :: l else l) :
    Calls Try.prog 13 #[.agg #[.int .i64 c, .int .i64 m], .bool app] w (GivesBs r w) := by
  have HS := hide' ((Stay.refl (fun _ => False) w).alloc (.cells #[.int .i64 c, .int .i64 m] 27))
  have HB := hide' (KBox.new (w := w) ⟨c, m⟩ rfl)
  have hconv := fun (w : World) (s : ByteArray) => run_bytes_of_string (P := Try.prog) w 9 22 5 s Try.underlying9 Try.underlying22 Try.underlying5
  by_cases hl : l = []
  · have hr' : r = [] := by rw [hr, hl]; simp
    clear hr
    subst hl hr'
    have e1 : (bsOf []).toList = [] := by rw [bsOf_list]; rfl
    have hz : (bsOf []).size = 0 := by decide
    go_enter Try.func13, Try.ntmps13
    go_wp2_with fail
    refine (H17.out _).mono ?_
    rintro e w1 ⟨rfl, hs⟩
    have HS1 := hide' (HS.out.trans hs)
    have HB1 := hide' (HB.out.keep hs)
    clear hs HS HB H17
    obtain ⟨c0, c1, _⟩ := HB1.out
    go_wp2
    go_ret
    exact ⟨_, rfl, (bs_made _ [] _ (Nat.zero_le _) HY.out _ rfl _).keep ((Stay.refl _ _).drew), (HS1.out.alloc _).drew⟩
  have e1 : (bsOf l).toList.isEmpty = false := by
    rw [bsOf_list]
    cases l with
    | nil => exact absurd rfl hl
    | cons x r => rfl
  have e2 : ¬ (bsOf l).toList = [] := by
    rw [bsOf_list]
    simpa using hl
  have hi : l.isEmpty = false := by simpa using hl
  have HZ := hide' (bsOf_size l)
  cases h4 : bitB m 4
  · have hr' : r = l := by rw [hr, h4]; simp
    clear hr
    subst hr'
    unfold bitB at h4
    go_enter Try.func13, Try.ntmps13
    go_wp2_with fail
    refine (H17.out _).mono ?_
    rintro e w1 ⟨rfl, hs⟩
    have HS1 := hide' (HS.out.trans hs)
    have HB1 := hide' (HB.out.keep hs)
    clear hs HS HB H17
    obtain ⟨c0, c1, _⟩ := HB1.out
    go_wp2
    go_ret
    exact ⟨_, rfl, (bs_made _ r _ (Nat.le_trans (Nat.le_of_eq HZ.out.symm) (grownCap_ge _ _ _ _)) HY.out _ HZ.out _).keep ((Stay.refl _ _).drew), (HS1.out.alloc _).drew⟩
  · have hr' : r = 27 :: l := by rw [hr, h4, hi]; simp
    clear hr hi
    subst hr'
    unfold bitB at h4
    have hz : (bsOf l).size ≤ 4 := by rw [HZ.out]; exact HL.out
    have HA := hide' (bsOf_cons l)
    have HZ2 := hide' (bsOf_size (27 :: l))
    go_enter Try.func13, Try.ntmps13
    go_wp2_with fail
    refine (H17.out _).mono ?_
    rintro e w1 ⟨rfl, hs⟩
    have HS1 := hide' (HS.out.trans hs)
    have HB1 := hide' (HB.out.keep hs)
    clear hs HS HB H17
    obtain ⟨c0, c1, _⟩ := HB1.out
    go_wp2
    go_ret
    refine ⟨_, rfl, (bs_from _ (27 :: l) _ _ _ HA.out ?_ (grownCap_ge _ _ _ _) HY.out _).keep ((Stay.refl _ _).drew), (HS1.out.alloc _).drew⟩
    rw [HZ.out]
    simp <;> omega

theorem bytes13 (c m : Int) (app : Bool) (w : World) : Calls Try.prog 13 #[.agg #[.int .i64 c, .int .i64 m], .bool app] w (GivesBs (kbL c m app) w) :=
  bytes13_of c m app _ _ w (hide' (wa_len _ _ _ _)) (hide' (kb_byte c m app)) (hide' (withoutAlt17 c m app)) rfl

end Go.Proofs.Ytjficpcfdpbegaa
