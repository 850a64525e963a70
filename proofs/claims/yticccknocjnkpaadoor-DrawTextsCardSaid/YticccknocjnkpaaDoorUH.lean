/-
  A decoder is handed any byte; all bytes; what a decoder tells. No conditions.
-/
import Derived.Test.YticccknocjnkpaaDoorUG
namespace Go.Proofs.YticccknocjnkpaaDoor.Utf
open Go.RowKit

theorem feed_any (p : List Nat) (b D base n : Nat) (t : Value) (xs : List Value) (w : World) (hb256 : b < 256) (hp : Right p) (hT : Tbl w) (hD : DecP w D p) (h0 : 1 < D) (hb : D < base)
    (hbw : base ≤ w.heap.size) (ht : w.ownsRow base 21 1 t n xs) (hn : n < 999990) :
    Calls Tryd.prog 26 #[.pointer (some ⟨D, 0, none⟩), t, .int .u8 (b : Nat)] w (Fed D base n xs p b w) := by
  by_cases hst : p = [] ∨ beg (p ++ [b]) = false
  · have hq := feedP_new hst
    by_cases h1 : b < 128
    · rw [if_pos h1] at hq
      exact feed_new1 p b D base n [] [b] 0 t xs w hb256 hp hT hD h0 hb hbw ht hn hst (new_ascii h1) hq (formE_yes (idx_ascii h1) (by decide)) (by decide) rfl
    · by_cases h2 : lead b = true
      · rw [if_neg h1, if_pos h2] at hq
        obtain ⟨i1, i2, _⟩ := idx_lead h2
        have hF := formE_yes (b := b) rfl i1
        have hl := long_bd b
        have hl' : long b = 2 ∨ long b = 3 ∨ long b = 4 := by omega
        rcases hl' with e | e | e
        · exact feed_new2 p b D base n [b] [] _ t xs w hb256 hp hT hD h0 hb hbw ht hn hst (new_lead h2) hq hF i1 (by rw [i2, e])
        · exact feed_new3 p b D base n [b] [] _ t xs w hb256 hp hT hD h0 hb hbw ht hn hst (new_lead h2) hq hF i1 (by rw [i2, e])
        · exact feed_new4 p b D base n [b] [] _ t xs w hb256 hp hT hD h0 hb hbw ht hn hst (new_lead h2) hq hF i1 (by rw [i2, e])
      · rw [if_neg h1, if_neg h2] at hq
        exact feed_bad p b D base n t xs w hp hT hD h0 hb hbw ht hn hst hq (formE_no (idx_bad hb256 h1 (by simpa using h2)))
  · have hne : p ≠ [] := fun h => hst (Or.inl h)
    have hg : beg (p ++ [b]) = true := by
      cases e : beg (p ++ [b]) with
      | true => rfl
      | false => exact absurd (Or.inr e) hst
    exact feed_go p b D base n t xs w hb256 hp hne hg hT hD h0 hb hbw ht hn

/-- Bytes that are read. -/
def Bytes (w : World) (b off : Nat) (l : List Nat) : Prop := (∀ j, j < l.length → w.cell? ⟨b, off + j, none⟩ = some (.int .u8 (l.getD j 0 : Nat))) ∧ ∀ x ∈ l, x < 256

theorem Bytes.lt {w : World} {b off : Nat} {l : List Nat} (h : Bytes w b off l) (j : Nat) (hj : j < l.length) : l.getD j 0 < 256 := by
  rw [List.getD_eq_getElem?_getD, List.getElem?_eq_getElem hj]
  exact h.2 _ (List.getElem_mem hj)

theorem Bytes.block {w : World} {b off : Nat} {l : List Nat} (h : Bytes w b off l) (hne : l ≠ []) : b < w.heap.size :=
  World.block_lt_of_cell? _ _ (h.1 0 (List.length_pos_iff.2 hne))

theorem _root_.Go.Proofs.YticccknocjnkpaaDoor.Stay.bytes {S : Nat → Prop} {w w' : World} (h : Stay S w w') {b off : Nat} {l : List Nat} (hb : Bytes w b off l) (hs : l ≠ [] → ¬ S b) : Bytes w' b off l := by
  refine ⟨fun j hj => ?_, hb.2⟩
  have hc := hb.1 j hj
  rw [h.cell (p := ⟨b, off + j, none⟩) (World.block_lt_of_cell? _ _ hc) (hs (fun h0 => by rw [h0] at hj; simp at hj))]
  exact hc

theorem Bytes.drop {w : World} {b off : Nat} {l : List Nat} (h : Bytes w b off l) (k : Nat) : Bytes w b (off + k) (l.drop k) := by
  refine ⟨fun j hj => ?_, fun x hx => h.2 x (List.mem_of_mem_drop hx)⟩
  rw [List.length_drop] at hj
  have := h.1 (k + j) (by omega)
  rw [← Nat.add_assoc] at this
  rw [this]
  simp [List.getD_eq_getElem?_getD, List.getElem?_drop]

theorem Bytes.take {w : World} {b off : Nat} {l : List Nat} (h : Bytes w b off l) (k : Nat) : Bytes w b off (l.take k) := by
  refine ⟨fun j hj => ?_, fun x hx => h.2 x (List.mem_of_mem_take hx)⟩
  rw [List.length_take] at hj
  rw [h.1 j (by omega)]
  simp [List.getD_eq_getElem?_getD, show j < k by omega]

theorem outP_len : ∀ (p l : List Nat), (outP p l).length ≤ 2 * l.length
  | _, [] => by simp [outP]
  | p, b :: r => by
    have := outP_len (feedP p b).1 r
    have := feedP_two p b
    simp only [outP, List.length_append, List.length_cons]
    omega

theorem take_snoc (l : List Nat) (k : Nat) (h : k < l.length) : l.take (k + 1) = l.take k ++ [l.getD k 0] := by
  rw [List.take_succ_eq_append_getElem h, List.getD_eq_getElem?_getD, List.getElem?_eq_getElem h]; rfl

theorem foldP_snoc (p l : List Nat) (k : Nat) (h : k < l.length) : foldP p (l.take (k + 1)) = (feedP (foldP p (l.take k)) (l.getD k 0)).1 := by
  rw [take_snoc l k h, foldP_append]; rfl

theorem outP_snoc (p l : List Nat) (k : Nat) (h : k < l.length) : outP p (l.take (k + 1)) = outP p (l.take k) ++ (feedP (foldP p (l.take k)) (l.getD k 0)).2 := by
  rw [take_snoc l k h, outP_append]; simp [outP]

/-- A list of runes, new. -/
def Runes (w : World) (l : List Nat) (e : Ending) (w' : World) : Prop :=
  ∃ t, e = .returned t ∧ w'.ownsRow w.heap.size 21 1 t l.length (l.map rv) ∧ Stay (fun _ => False) w w'

/-- What holds at the head of All's round. -/
structure AllIn (w wr : World) (l : List Nat) (k : Nat) (t : Value) : Prop where
  own : wr.ownsRow (w.heap.size + 1) 21 1 t (outP [] (l.take k)).length ((outP [] (l.take k)).map rv)
  dec : DecP wr w.heap.size (foldP [] (l.take k))
  stay : Stay (fun _ => False) w wr
  size : w.heap.size + 1 ≤ wr.heap.size

theorem allIn_start (w : World) (l : List Nat) : AllIn w (w.alloc (.cells #[.int .i64 0, .int .i64 0, .int .i32 0] 72)) l 0 (.slice none 0 0) := by
  refine ⟨?_, ?_, (Stay.refl _ _).alloc _, by simp⟩
  · exact World.ownsRow_nil _ _ _ _
  · exact World.rowIs_alloc w #[.int .i64 0, .int .i64 0, .int .i32 0] 72 (decF 0 0 0) (fun i hi => by
      have : i = 0 ∨ i = 1 ∨ i = 2 := by simp at hi; omega
      rcases this with rfl | rfl | rfl <;> rfl)

set_option maxHeartbeats 1000000 in
theorem all_any (l : List Nat) (b off cap : Nat) (w : World) (hT : Tbl w) (h0 : 1 < w.heap.size) (hl : l.length ≤ 5000) (hB : Bytes w b off l) :
    Calls Tryd.prog 13 #[.slice (some ⟨b, off, none⟩) l.length cap] w (Runes w (runes l)) := by
  have HT := hide' hT
  have HB := hide' hB
  obtain ⟨n, hn⟩ : ∃ n, n = l.length := ⟨_, rfl⟩
  rw [← hn]
  have HN := hide' hn
  have hl' : n ≤ 5000 := by omega
  clear hT hB hn
  go_enter Tryd.func13, Tryd.ntmps13
  go_wp2_with fail
  go_loopg [4, 9, 6] n (fun g t i u wr => ∃ k : Nat, k ≤ n ∧ g = n - k ∧ i = .int .i64 (k : Int) ∧ Hid (AllIn w wr l k t))
  case atStart => exact ⟨0, Nat.zero_le _, rfl, rfl, allIn_start w l⟩
  case round =>
    obtain ⟨k, hk, rfl, rfl, HI⟩ := hrel
    by_cases hlt : k < n
    · have HLT := hide' hlt
      have HB2 := hide' (HI.out.stay.bytes HB.out (fun _ h => h))
      have hT2 := HI.out.stay.tbl HT.out (fun h => h) h0
      have hlk : k < l.length := by have := HN.out; omega
      have c1 : wr.cell? ⟨b, off + k, none⟩ = some (.int .u8 (l.getD k 0 : Nat)) := HB2.out.1 k hlk
      have hF := feed_any (foldP [] (l.take k)) (l.getD k 0) w.heap.size (w.heap.size + 1) _ _ _ wr (HB2.out.lt k hlk) (foldP_right _ _ right_nil) hT2 HI.out.dec h0 (by omega) HI.out.size HI.out.own
        (by have := outP_len [] (l.take k); have : (l.take k).length ≤ l.length := by simp; omega
            have := HN.out; omega)
      have HF := hide' hF
      obtain ⟨z, hz⟩ : ∃ z, z = l.getD k 0 := ⟨_, rfl⟩
      rw [← hz] at c1 HF
      have HZ := hide' hz
      have kz : (k : Int) < n := by omega
      have k0 : (0 : Int) ≤ k := by omega
      have n5 : (n : Int) ≤ 5000 := by omega
      clear hT2 hF hz
      go_wp2_with fail
      refine HF.out.mono ?_
      rintro e w1 ⟨t', rfl, h1, h2, h3⟩
      have HI2 : Hid (AllIn w w1 l (k + 1) t') := by
        refine ⟨?_, ?_, ?_, Nat.le_trans HI.out.size h3.size⟩
        · rw [outP_snoc [] l k (by have := HN.out; have := HLT.out; omega), ← HZ.out, List.length_append, List.map_append]; exact h1
        · rw [foldP_snoc [] l k (by have := HN.out; have := HLT.out; omega), ← HZ.out]; exact h2
        · exact ⟨h3.os.trans HI.out.stay.os, h3.tape.trans HI.out.stay.tape, h3.output.trans HI.out.stay.output, Nat.le_trans HI.out.stay.size h3.size, fun i hi _ =>
            (h3.block i (by have := HI.out.stay.size; omega) (by omega)).trans (HI.out.stay.block i hi (fun h => h))⟩
      clear h1 h2 h3
      go_wp2
      go_roundg (n - (k + 1))
      case rel => exact ⟨k + 1, by omega, rfl, by go_num, HI2⟩
      case measure => omega
    · have hkn : k = n := by omega
      have hlk : l.take k = l := by rw [hkn, HN.out]; exact List.take_length
      have hO := HI.out.own
      have hD := HI.out.dec
      rw [hlk] at hO hD
      have HF := hide' (end_all (foldP [] l) w.heap.size (w.heap.size + 1) _ _ _ wr (right_len (foldP_right _ _ right_nil)) hD (by omega) HI.out.size hO
        (by have := outP_len [] l; have := HN.out; omega))
      clear hkn hlk hO hD
      go_wp2_with fail
      refine HF.out.mono ?_
      rintro e w1 ⟨t', rfl, h1, h2, h3⟩
      have HR : Hid (Runes w (runes l) (.returned t') w1) := by
        refine ⟨t', rfl, ?_, ?_⟩
        · unfold runes
          rw [List.length_append, List.map_append]
          exact ownsRow_base h1 (Nat.le_succ _)
        · exact ⟨h3.os.trans HI.out.stay.os, h3.tape.trans HI.out.stay.tape, h3.output.trans HI.out.stay.output, Nat.le_trans HI.out.stay.size h3.size, fun i hi _ =>
            (h3.block i (by have := HI.out.stay.size; omega) (by omega)).trans (HI.out.stay.block i hi (fun h => h))⟩
      clear h1 h2 h3
      go_wp2
      go_ret
      exact HR.out

/-- Of no bytes. -/
theorem all_nil (a : Option Addr) (cap : Nat) (w : World) :
    Calls Tryd.prog 13 #[.slice a 0 cap] w (Runes w []) := by
  have HD := hide' (end_none w.heap.size 0 0 (.slice none 0 0) _ (allIn_start w []).dec)
  go_enter Tryd.func13, Tryd.ntmps13
  go_wp2_with fail
  go_loopg [4, 9, 6] 0 (fun g t i u wr => g = 0 ∧ t = .slice none 0 0 ∧ i = .int .i64 0 ∧ wr = w.alloc (.cells #[.int .i64 0, .int .i64 0, .int .i32 0] 72))
  case atStart => exact ⟨rfl, rfl, rfl, rfl⟩
  case round =>
    obtain ⟨rfl, rfl, rfl, rfl⟩ := hrel
    go_wp2_with fail
    refine HD.out.mono ?_
    rintro e w1 ⟨rfl, rfl⟩
    go_wp2
    go_ret
    exact ⟨_, rfl, World.ownsRow_nil _ _ _ _, (Stay.refl _ _).alloc _⟩

end Go.Proofs.YticccknocjnkpaaDoor.Utf
