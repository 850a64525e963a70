/-
  What parameters make of a pen, in the document, walked; parameters' Apply of any argument. No conditions.
-/
import Derived.Test.YtinikpadbocfaaaD1
import Derived.Test.YtinikpadbocfaaaD2
import Derived.Test.YtinikpadbocfaaaD3
import Derived.Test.YtinikpadbocfaaaD4
import Derived.Test.YtinikpadbocfaaaD5
import Derived.Test.YtinikpadbocfaaaD6
import Derived.Test.YtinikpadbocfaaaD7
import Derived.Test.YtinikpadbocfaaaD8
import Derived.Test.YtinikpadbocfaaaD9
import Derived.Test.YtinikpadbocfaaaDA
import Derived.Test.YtinikpadbocfaaaDB
import Derived.Test.YtinikpadbocfaaaDC
namespace Go.Proofs.Ytinikpadbocfaaa
open Go.RowKit

theorem Ints.drop {k : IntKind} {W : World} {b off : Nat} {l : List Int} (h : Ints k W b off l) (j : Nat) : Ints k W b (off + j) (l.drop j) := fun i hi => by
  rw [List.length_drop] at hi
  rw [Nat.add_assoc, h (j + i) (by omega)]
  simp [List.getD_eq_getElem?_getD, List.getElem?_drop]

theorem refColour38 (p : Pn) (l r : List Int) (b off n cap : Nat) (w : World) (hn : n ≤ 1000) (h0 : 0 < n) (hc : n ≤ cap) (hB : Ints .i64 w b off l) (hl : l.length = n) (hlr : l = 38 :: r) (hR : Rec w b off n l) (hW : W64 p.fl) :
    Calls Try.prog 12 #[.agg #[.int .i64 p.fg, .int .i64 p.bg, .int .i64 p.fl], .slice (some ⟨b, off, none⟩) n cap] w (Gives (.agg #[.int .i64 (runL p l).fg, .int .i64 (runL p l).bg, .int .i64 (runL p l).fl]) w) := by
  have hr : r.length = n - 1 := by rw [hlr] at hl; simp at hl; omega
  have cx : w.cell? ⟨b, off, none⟩ = some (.int .i64 38) := by
    have := hB 0 (by omega)
    rw [hlr] at this
    exact this
  have kk : ∀ i, i < n - 1 → w.cell? ⟨b, off + (i + 1), none⟩ = some (.int .i64 (r.getD i 0)) := fun i hi => by
    have := hB (i + 1) (by omega)
    rw [hlr] at this
    simpa using this
  have hnone : told r = (0, 0) → runL p l = p := fun e => by rw [hlr, runL_none (.inl rfl) (by rw [e])]
  by_cases h1 : n = 1
  · have e : told r = (0, 0) := by
      unfold told
      rw [if_neg (by simp; omega), if_neg (by simp; omega)]
    rw [hnone e]
    exact step38_n0 p b off n cap w hn h0 hc cx h1
  by_cases h2 : n = 2
  · have e : told r = (0, 0) := by
      unfold told
      rw [if_neg (by simp; omega), if_neg (by simp; omega)]
    rw [hnone e]
    exact step38_n1 p b off n cap w hn h0 hc cx h2
  have k0 := kk 0 (by omega)
  have k1 := kk 1 (by omega)
  by_cases e5 : r.getD 0 0 = 5
  · cases hb : byteB (r.getD 1 0) with
    | true =>
      have e : told r = (1 + r.getD 1 0, 2) := by
        unfold told
        rw [if_pos (by rw [hb, e5]; simp; omega)]
      have hq : runL p l = runL (tint p 38 (1 + r.getD 1 0)) (l.drop 3) := by
        rw [hlr, runL_told (.inl rfl) (by rw [e]; simp), e]
        rfl
      rw [hq]
      exact step38_five p b off n cap _ _ w hn h0 hc cx _ l hR hl hW k0 k1 (by omega) e5 hb (tint p 38 (1 + r.getD 1 0)) (by unfold tint; rfl) (tint_w64 hW) rfl
    | false =>
      have e : told r = (0, 0) := by
        unfold told
        rw [if_neg (by rw [hb]; simp), if_neg (by rw [hb]; simp)]
      rw [hnone e]
      exact step38_n2 p b off n cap _ _ w hn h0 hc cx k0 k1 (by omega) e5 hb
  have h5 : ∀ x, ¬((decide (1 < r.length) && decide (r.getD 0 0 = 5) && x) = true) := fun x => by
    rw [show decide (r.getD 0 0 = 5) = false by simpa using e5]; simp
  by_cases h3 : n < 5
  · have e : told r = (0, 0) := by
      unfold told
      rw [if_neg (h5 _), if_neg (by simp; omega)]
    rw [hnone e]
    exact step38_n3 p b off n cap _ w hn h0 hc cx k0 (by omega) h3 (beq_f e5)
  have k2 := kk 2 (by omega)
  have k3 := kk 3 (by omega)
  by_cases e2 : r.getD 0 0 = 2
  · cases hb1 : byteB (r.getD 1 0) with
    | false =>
      have e : told r = (0, 0) := by
        unfold told
        rw [if_neg (h5 _), if_neg (by rw [hb1]; simp)]
      rw [hnone e]
      exact step38_n5 p b off n cap _ _ w hn h0 hc cx k0 k1 (by omega) e2 hb1
    | true =>
      cases hb2 : byteB (r.getD 2 0) with
      | false =>
        have e : told r = (0, 0) := by
          unfold told
          rw [if_neg (h5 _), if_neg (by rw [hb2]; simp)]
        rw [hnone e]
        exact step38_n6 p b off n cap _ _ _ w hn h0 hc cx k0 k1 k2 (by omega) e2 hb1 hb2
      | true =>
        cases hb3 : byteB (r.getD 3 0) with
        | false =>
          have e : told r = (0, 0) := by
            unfold told
            rw [if_neg (h5 _), if_neg (by rw [hb3]; simp)]
          rw [hnone e]
          exact step38_n7 p b off n cap _ _ _ _ w hn h0 hc cx k0 k1 k2 k3 (by omega) e2 hb1 hb2 hb3
        | true =>
          have e : told r = (16777216 + 65536 * r.getD 1 0 + 256 * r.getD 2 0 + r.getD 3 0, 4) := by
            unfold told
            rw [if_neg (h5 _), if_pos (by rw [hb1, hb2, hb3, e2]; simp; omega)]
          have hq : runL p l = runL (tint p 38 (16777216 + 65536 * r.getD 1 0 + 256 * r.getD 2 0 + r.getD 3 0)) (l.drop 5) := by
            rw [hlr, runL_told (.inl rfl) (by rw [e]; simp), e]
            rfl
          rw [hq]
          exact step38_two p b off n cap _ _ _ _ w hn h0 hc cx _ l hR hl hW k0 k1 k2 k3 (by omega) e2 hb1 hb2 hb3 (tint p 38 (16777216 + 65536 * r.getD 1 0 + 256 * r.getD 2 0 + r.getD 3 0)) (by unfold tint; rfl) (tint_w64 hW) rfl
  · have e : told r = (0, 0) := by
      unfold told
      rw [if_neg (h5 _), if_neg (by rw [show decide (r.getD 0 0 = 2) = false by simpa using e2]; simp)]
    rw [hnone e]
    exact step38_n4 p b off n cap _ w hn h0 hc cx k0 (by omega) (beq_f e5) (beq_f e2)

theorem refColour48 (p : Pn) (l r : List Int) (b off n cap : Nat) (w : World) (hn : n ≤ 1000) (h0 : 0 < n) (hc : n ≤ cap) (hB : Ints .i64 w b off l) (hl : l.length = n) (hlr : l = 48 :: r) (hR : Rec w b off n l) (hW : W64 p.fl) :
    Calls Try.prog 12 #[.agg #[.int .i64 p.fg, .int .i64 p.bg, .int .i64 p.fl], .slice (some ⟨b, off, none⟩) n cap] w (Gives (.agg #[.int .i64 (runL p l).fg, .int .i64 (runL p l).bg, .int .i64 (runL p l).fl]) w) := by
  have hr : r.length = n - 1 := by rw [hlr] at hl; simp at hl; omega
  have cx : w.cell? ⟨b, off, none⟩ = some (.int .i64 48) := by
    have := hB 0 (by omega)
    rw [hlr] at this
    exact this
  have kk : ∀ i, i < n - 1 → w.cell? ⟨b, off + (i + 1), none⟩ = some (.int .i64 (r.getD i 0)) := fun i hi => by
    have := hB (i + 1) (by omega)
    rw [hlr] at this
    simpa using this
  have hnone : told r = (0, 0) → runL p l = p := fun e => by rw [hlr, runL_none (.inr rfl) (by rw [e])]
  by_cases h1 : n = 1
  · have e : told r = (0, 0) := by
      unfold told
      rw [if_neg (by simp; omega), if_neg (by simp; omega)]
    rw [hnone e]
    exact step48_n0 p b off n cap w hn h0 hc cx h1
  by_cases h2 : n = 2
  · have e : told r = (0, 0) := by
      unfold told
      rw [if_neg (by simp; omega), if_neg (by simp; omega)]
    rw [hnone e]
    exact step48_n1 p b off n cap w hn h0 hc cx h2
  have k0 := kk 0 (by omega)
  have k1 := kk 1 (by omega)
  by_cases e5 : r.getD 0 0 = 5
  · cases hb : byteB (r.getD 1 0) with
    | true =>
      have e : told r = (1 + r.getD 1 0, 2) := by
        unfold told
        rw [if_pos (by rw [hb, e5]; simp; omega)]
      have hq : runL p l = runL (tint p 48 (1 + r.getD 1 0)) (l.drop 3) := by
        rw [hlr, runL_told (.inr rfl) (by rw [e]; simp), e]
        rfl
      rw [hq]
      exact step48_five p b off n cap _ _ w hn h0 hc cx _ l hR hl hW k0 k1 (by omega) e5 hb (tint p 48 (1 + r.getD 1 0)) (by unfold tint; rfl) (tint_w64 hW) rfl
    | false =>
      have e : told r = (0, 0) := by
        unfold told
        rw [if_neg (by rw [hb]; simp), if_neg (by rw [hb]; simp)]
      rw [hnone e]
      exact step48_n2 p b off n cap _ _ w hn h0 hc cx k0 k1 (by omega) e5 hb
  have h5 : ∀ x, ¬((decide (1 < r.length) && decide (r.getD 0 0 = 5) && x) = true) := fun x => by
    rw [show decide (r.getD 0 0 = 5) = false by simpa using e5]; simp
  by_cases h3 : n < 5
  · have e : told r = (0, 0) := by
      unfold told
      rw [if_neg (h5 _), if_neg (by simp; omega)]
    rw [hnone e]
    exact step48_n3 p b off n cap _ w hn h0 hc cx k0 (by omega) h3 (beq_f e5)
  have k2 := kk 2 (by omega)
  have k3 := kk 3 (by omega)
  by_cases e2 : r.getD 0 0 = 2
  · cases hb1 : byteB (r.getD 1 0) with
    | false =>
      have e : told r = (0, 0) := by
        unfold told
        rw [if_neg (h5 _), if_neg (by rw [hb1]; simp)]
      rw [hnone e]
      exact step48_n5 p b off n cap _ _ w hn h0 hc cx k0 k1 (by omega) e2 hb1
    | true =>
      cases hb2 : byteB (r.getD 2 0) with
      | false =>
        have e : told r = (0, 0) := by
          unfold told
          rw [if_neg (h5 _), if_neg (by rw [hb2]; simp)]
        rw [hnone e]
        exact step48_n6 p b off n cap _ _ _ w hn h0 hc cx k0 k1 k2 (by omega) e2 hb1 hb2
      | true =>
        cases hb3 : byteB (r.getD 3 0) with
        | false =>
          have e : told r = (0, 0) := by
            unfold told
            rw [if_neg (h5 _), if_neg (by rw [hb3]; simp)]
          rw [hnone e]
          exact step48_n7 p b off n cap _ _ _ _ w hn h0 hc cx k0 k1 k2 k3 (by omega) e2 hb1 hb2 hb3
        | true =>
          have e : told r = (16777216 + 65536 * r.getD 1 0 + 256 * r.getD 2 0 + r.getD 3 0, 4) := by
            unfold told
            rw [if_neg (h5 _), if_pos (by rw [hb1, hb2, hb3, e2]; simp; omega)]
          have hq : runL p l = runL (tint p 48 (16777216 + 65536 * r.getD 1 0 + 256 * r.getD 2 0 + r.getD 3 0)) (l.drop 5) := by
            rw [hlr, runL_told (.inr rfl) (by rw [e]; simp), e]
            rfl
          rw [hq]
          exact step48_two p b off n cap _ _ _ _ w hn h0 hc cx _ l hR hl hW k0 k1 k2 k3 (by omega) e2 hb1 hb2 hb3 (tint p 48 (16777216 + 65536 * r.getD 1 0 + 256 * r.getD 2 0 + r.getD 3 0)) (by unfold tint; rfl) (tint_w64 hW) rfl
  · have e : told r = (0, 0) := by
      unfold told
      rw [if_neg (h5 _), if_neg (by rw [show decide (r.getD 0 0 = 2) = false by simpa using e2]; simp)]
    rw [hnone e]
    exact step48_n4 p b off n cap _ w hn h0 hc cx k0 (by omega) (beq_f e5) (beq_f e2)

theorem val_pos {x : Int} (h : val x ≠ 0) : 0 < val x ∧ 0 < x ∧ x < 10 := by
  have hx : 1 ≤ x ∧ x ≤ 9 := by
    apply Classical.byContradiction
    intro hn
    exact h (val_off (by omega))
  refine ⟨?_, by omega, by omega⟩
  have := val_mem x
  simp at this
  omega

theorem refPlain (p : Pn) (l : List Int) (b off n cap : Nat) (x : Int) (w : World) (hn : n ≤ 1000) (h0 : 0 < n) (hc : n ≤ cap) (cx : w.cell? ⟨b, off, none⟩ = some (.int .i64 x)) (hl : l.length = n) (hx : ¬(x = 38 ∨ x = 48)) (hR : Rec w b off n l) (hW : W64 p.fl) :
    Calls Try.prog 12 #[.agg #[.int .i64 p.fg, .int .i64 p.bg, .int .i64 p.fl], .slice (some ⟨b, off, none⟩) n cap] w (Gives (.agg #[.int .i64 (runL (one p x) (l.drop 1)).fg, .int .i64 (runL (one p x) (l.drop 1)).bg, .int .i64 (runL (one p x) (l.drop 1)).fl]) w) := by
  have hWq : W64 (one p x).fl := one_w64 hW
  by_cases e0 : x = 0
  · exact step_zero p _ l b off n cap x w hn h0 hc cx hR hW e0 (one p x) (by unfold one; rw [if_pos e0]) hWq rfl hl
  by_cases e1 : x = 22
  · exact step_dim p _ l b off n cap x w hn h0 hc cx hR hW e1 (one p x) (by unfold one; rw [if_neg e0, if_pos e1]) hWq rfl hl
  by_cases e2 : 23 ≤ x ∧ x ≤ 29
  · exact step_gone p _ l b off n cap x w hn h0 hc cx hR hW _ rfl e2.1 e2.2 (one p x) (by unfold one; rw [if_neg e0, if_neg e1, if_pos e2]) hWq rfl hl
  by_cases e3 : 90 ≤ x ∧ x ≤ 97
  · exact step_bfg p _ l b off n cap x w hn h0 hc cx hR hW e3.1 e3.2 (one p x) (by unfold one; rw [if_neg e0, if_neg e1, if_neg e2, if_pos e3]) hWq rfl hl
  by_cases e4 : 30 ≤ x ∧ x ≤ 37
  · exact step_fg p _ l b off n cap x w hn h0 hc cx hR hW e4.1 e4.2 (one p x) (by unfold one; rw [if_neg e0, if_neg e1, if_neg e2, if_neg e3, if_pos e4]) hWq rfl hl
  by_cases e5 : 100 ≤ x ∧ x ≤ 107
  · exact step_bbg p _ l b off n cap x w hn h0 hc cx hR hW e5.1 e5.2 (one p x) (by unfold one; rw [if_neg e0, if_neg e1, if_neg e2, if_neg e3, if_neg e4, if_pos e5]) hWq rfl hl
  by_cases e6 : 40 ≤ x ∧ x ≤ 47
  · exact step_bg p _ l b off n cap x w hn h0 hc cx hR hW e6.1 e6.2 (by omega) (one p x) (by unfold one; rw [if_neg e0, if_neg e1, if_neg e2, if_neg e3, if_neg e4, if_neg e5, if_pos e6]) hWq rfl hl
  by_cases e7 : x = 39
  · exact step_nofg p _ l b off n cap x w hn h0 hc cx hR hW e7 (one p x) (by unfold one; rw [if_neg e0, if_neg e1, if_neg e2, if_neg e3, if_neg e4, if_neg e5, if_neg e6, if_pos e7]) hWq rfl hl
  by_cases e8 : x = 49
  · exact step_nobg p _ l b off n cap x w hn h0 hc cx hR hW e8 (one p x) (by unfold one; rw [if_neg e0, if_neg e1, if_neg e2, if_neg e3, if_neg e4, if_neg e5, if_neg e6, if_neg e7, if_pos e8]) hWq rfl hl
  have hone : one p x = ⟨p.fg, p.bg, bits .or .i64 p.fl (val x)⟩ := by unfold one; rw [if_neg e0, if_neg e1, if_neg e2, if_neg e3, if_neg e4, if_neg e5, if_neg e6, if_neg e7, if_neg e8]
  by_cases hv : val x = 0
  · have hp : p = one p x := by rw [hone, hv, or_zero hW]
    by_cases g1 : x < 22
    · exact step_other1 p _ l b off n cap x w hn h0 hc cx hR hW hv g1 e0 (one p x) hp hWq rfl hl
    by_cases g2 : x < 90
    · exact step_other2 p _ l b off n cap x w hn h0 hc cx hR hW hv (by omega) g2 (one p x) hp hWq rfl hl
    by_cases g3 : x < 100
    · exact step_other3 p _ l b off n cap x w hn h0 hc cx hR hW hv (by omega) g3 (one p x) hp hWq rfl hl
    exact step_other4 p _ l b off n cap x w hn h0 hc cx hR hW hv (by omega) (one p x) hp hWq rfl hl
  · obtain ⟨v0, v1, v2⟩ := val_pos hv
    exact step_set p _ l b off n cap x w hn h0 hc cx hR hW _ rfl v0 v1 v2 (one p x) hone.symm hWq rfl hl

theorem refApply12_some : ∀ (n : Nat) (p : Pn) (l : List Int) (b off cap : Nat) (w : World), l.length = n → 0 < n → n ≤ 1000 → n ≤ cap → b < w.heap.size → Ints .i64 w b off l → W64 p.fl →
    Calls Try.prog 12 #[.agg #[.int .i64 p.fg, .int .i64 p.bg, .int .i64 p.fl], .slice (some ⟨b, off, none⟩) n cap] w (Gives (.agg #[.int .i64 (runL p l).fg, .int .i64 (runL p l).bg, .int .i64 (runL p l).fl]) w) := by
  intro n
  induction n using Nat.strongRecOn with
  | _ n ih =>
    intro p l b off cap w hl h0 hn hc hb hB hW
    have hR : Rec w b off n l := fun j hj hjn o ho m hm cc hcc q hq Q hQ W' hs => by
      subst ho hm hQ
      exact ih (n - j) (by omega) q (l.drop j) b (off + j) cc W' (by rw [List.length_drop, hl]) (by omega) (by omega) hcc (Nat.lt_of_lt_of_le hb hs.size) ((hB.keep hb hs).drop j) hq
    cases hlr : l with
    | nil => rw [hlr] at hl; simp at hl; omega
    | cons x r =>
      rw [← hlr]
      by_cases h38 : x = 38
      · subst h38
        exact refColour38 p l r b off n cap w hn h0 hc hB hl hlr hR hW
      by_cases h48 : x = 48
      · subst h48
        exact refColour48 p l r b off n cap w hn h0 hc hB hl hlr hR hW
      have cx : w.cell? ⟨b, off, none⟩ = some (.int .i64 x) := by
        have := hB 0 (by omega)
        rw [hlr] at this
        exact this
      have hq : runL p l = runL (one p x) (l.drop 1) := by rw [hlr, runL_one (by omega)]; rfl
      rw [hq]
      exact refPlain p l b off n cap x w hn h0 hc cx hl (by omega) hR hW

set_option maxRecDepth 100000 in
set_option maxHeartbeats 1000000 in
theorem refApply12_nil (p : Pn) (a : Option Addr) (cap : Nat) (w : World) : Calls Try.prog 12 #[.agg #[.int .i64 p.fg, .int .i64 p.bg, .int .i64 p.fl], .slice a 0 cap] w (Gives (.agg #[.int .i64 0, .int .i64 0, .int .i64 0]) w) := by
  have HS0 := hide' (refStart w p)
  go_enter Try.func12, Try.ntmps12
  go_upto_region 1 with fail
  obtain ⟨W, hW⟩ : ∃ W, W = ((w.alloc (.cells #[.int .i64 p.fg, .int .i64 p.bg, .int .i64 p.fl] 23)).alloc (.cells #[.int .i64 0, .int .i64 0, .int .i64 0] 23)) := ⟨_, rfl⟩
  rw [← hW] at HS0
  rw [← hW]
  clear hW
  have HS := hide' HS0.out.1
  have HBz := hide' HS0.out.2.2
  clear HS0
  obtain ⟨z0, z1, z2, e0, e1, e2⟩ := HBz.out
  go_wp2
  exact one_ends (q := ⟨0, 0, 0⟩) rfl rfl (HBz.out.put ⟨0, 0, 0⟩) rfl (HS.out.put (by omega) _ _ _) rfl

/-- Parameters that came in, or were made. -/
theorem refApply12 (p : Pn) (v : Value) (l : List Int) (a : Option Addr) (cap : Nat) (w : World) (hA : IArg .i64 w v l a cap) (hn : l.length ≤ 1000) (hW : W64 p.fl) : Calls Try.prog 12 #[.agg #[.int .i64 p.fg, .int .i64 p.bg, .int .i64 p.fl], v] w (Gives (.agg #[.int .i64 (applyL p l).fg, .int .i64 (applyL p l).bg, .int .i64 (applyL p l).fl]) w) := by
  obtain ⟨rfl, hC, _, hlc, hcm, hwf⟩ := hA
  by_cases h : l = []
  · subst h
    exact refApply12_nil p a cap w
  · obtain ⟨b, off, rfl, hb, hB⟩ := hC h
    have hl : 0 < l.length := List.length_pos_iff.2 h
    have := refApply12_some l.length p l b off cap w rfl hl hn hlc hb hB hW
    rwa [show runL p l = applyL p l by unfold applyL; rw [if_neg h]] at this

end Go.Proofs.Ytinikpadbocfaaa
