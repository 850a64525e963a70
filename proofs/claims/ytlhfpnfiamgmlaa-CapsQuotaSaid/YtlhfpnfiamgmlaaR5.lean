/-
  Nobody has more than the quota: walked. No conditions.
-/
import Derived.Test.YtlhfpnfiamgmlaaR4
import Derived.Deep.DeepCutAuto
namespace Go.Proofs.Ytlhfpnfiamgmlaa
open Go.RowKit

/-- The names of the first slots. -/
def madeL (m : Nat) : List Nm := (List.range m).map (fun j => ⟨(j : Nat), 1⟩)

theorem madeL_len (m : Nat) : (madeL m).length = m := by unfold madeL; rw [List.length_map, List.length_range]

theorem madeL_get (m k : Nat) (hk : k < m) : (madeL m)[k]? = some ⟨(k : Nat), 1⟩ := by
  unfold madeL
  rw [List.getElem?_map, List.getElem?_range hk]
  rfl

theorem madeL_succ (m : Nat) : madeL (m + 1) = madeL m ++ [⟨(m : Nat), 1⟩] := by
  unfold madeL
  rw [List.range_succ, List.map_append]
  rfl

theorem S5_le {W : List Int} {o : Nat → Int} (h : QI W o) : ∀ k, S5 (fQ W o) k ≤ 4 * k
  | 0 => Nat.le_refl _
  | k + 1 => by
    have h1 := S5_le h k
    have h2 := h.cnt (k : Nat)
    show S5 (fQ W o) k + cnt (isOf (fQ W o) (k : Nat)) 12 ≤ _
    omega

theorem apart_new {v5 mv wv : Value} {s : Nat} (hb : v5.ownBlock = mv.ownBlock ∨ v5.ownBlock = some s) (h : ∀ k, mv.ownBlock = some k → ¬ wv.ownBlock = some k) (hl : ∀ k, wv.ownBlock = some k → k < s) : ∀ k, v5.ownBlock = some k → ¬ wv.ownBlock = some k := by
  intro k hk hw
  rcases hb with hb | hb
  · exact h k (hb.symm.trans hk) hw
  · have h1 := hl k hw
    have h2 : some s = some k := hb.symm.trans hk
    injection h2 with h2
    omega

theorem apart_old {v7 mv wv : Value} {s : Nat} (hb : v7.ownBlock = wv.ownBlock ∨ v7.ownBlock = some s) (h : ∀ k, mv.ownBlock = some k → ¬ wv.ownBlock = some k) (hl : ∀ k, mv.ownBlock = some k → k < s) : ∀ k, mv.ownBlock = some k → ¬ v7.ownBlock = some k := by
  intro k hk hw
  rcases hb with hb | hb
  · exact h k hk (hb.symm.trans hw)
  · have h1 := hl k hk
    have h2 : some s = some k := hb.symm.trans hw
    injection h2 with h2
    omega

/-- While capabilities are minted: the table, the names, whose they are. -/
structure UIn (w w1 : World) (T B : Nat) (W : List Int) (o : Nat → Int) (m : Nat) (mv wv : Value) (wr : World) : Prop where
  tab : TIn w T B 12 4 (fQ W o) 1 wr
  qi : QI W o
  len : W.length = m
  made : wr.ownsRow w1.heap.size 30 2 mv m (nms (madeL m))
  whose : wr.ownsRow w1.heap.size 3 1 wv m (W.map (.int .i64 ·))
  apart : ∀ k, mv.ownBlock = some k → ¬ wv.ownBlock = some k
  size : w1.heap.size ≤ wr.heap.size

theorem UIn.keep {w w1 w2 w3 : World} {T B m : Nat} {W : List Int} {o : Nat → Int} {mv wv : Value} (h : UIn w w1 T B W o m mv wv w2) (hs : Stay (fun _ => False) w2 w3) : UIn w w1 T B W o m mv wv w3 :=
  ⟨h.tab.keep hs, h.qi, h.len, hs.owns h.made (fun _ _ h => h), hs.owns h.whose (fun _ _ h => h), h.apart, Nat.le_trans h.size hs.size⟩

/-- The table has turned. -/
theorem UIn.turn {w w1 w2 w3 : World} {T B m : Nat} {W W' : List Int} {o o' : Nat → Int} {mv wv : Value} (h : UIn w w1 T B W o m mv wv w2) (hB : B < w1.heap.size) (_ht : TIn w T B 12 4 (fQ W' o') 1 w3) (hs : Stay (fun j => j = B) w2 w3) : (wr3 : True) → w3.ownsRow w1.heap.size 30 2 mv m (nms (madeL m)) ∧ w3.ownsRow w1.heap.size 3 1 wv m (W.map (.int .i64 ·)) ∧ w1.heap.size ≤ w3.heap.size := fun _ =>
  ⟨hs.owns h.made (fun k hk e => by have := (h.made.lt k hk).1; omega), hs.owns h.whose (fun k hk e => by have := (h.whose.lt k hk).1; omega), Nat.le_trans h.size hs.size⟩

set_option maxHeartbeats 16000000 in
set_option maxRecDepth 100000 in
theorem quota6 (l : List Int) (a : Option Addr) (cap : Nat) (kil : Int) (w : World) (hA : IArg .u8 w (.slice a l.length cap) l a cap) (k0 : 0 ≤ kil) (k1 : kil < 256) : Calls Try.prog 6 #[.slice a l.length cap, .int .u8 kil] w (LawTrue w) := by
  obtain ⟨ll, hll⟩ : ∃ x, x = l.length := ⟨_, rfl⟩
  have HA := hide' hA
  have HLL := hide' hll
  rw [← hll]
  have HAW := hide' (awake7)
  have hlw : (ll : Int) ≤ 9223372036854775807 := by have h1 := hA.lenLe; have h2 := hA.capLe; unfold maxLen at h2; omega
  obtain ⟨e, he⟩ : ∃ e, kil % 5 = e := ⟨_, rfl⟩
  have HE : Hid (0 ≤ e ∧ e < 5) := ⟨by omega, by omega⟩
  have HN := hide' (new_in (w0 := w) 12 4 (Stay.refl _ w) (by decide) (by decide) (by decide))
  clear hA hll
  by_cases h60 : 60 < ll
  · have l60 : (60 : Int) < (ll : Nat) := by omega
    clear HN HA
    go_enter Try.func6, Try.ntmps6
    go_wp2_with fail
    refine (awake7 w).mono ?_
    rintro _ w3 ⟨rfl, hs3⟩
    have HS3 := hide' hs3
    clear hs3
    go_wp2
    go_ret
    exact ⟨rfl, HS3.out⟩
  · have l60 : ((ll : Nat) : Int) ≤ 60 := by omega
    have L60 : Hid (ll ≤ 60) := by show ll ≤ 60; omega
    clear h60
    go_enter Try.func6, Try.ntmps6
    go_wp2_with fail
    refine HN.out.mono ?_
    rintro _ w1 ⟨T, B, rfl, ht1, _, hT, hB⟩
    have HTB := hide' (show T < w1.heap.size ∧ B < w1.heap.size ∧ w.heap.size ≤ w1.heap.size from ⟨ht1.at'.lt, ht1.at'.ltB, ht1.stay.size⟩)
    have HU0 : Hid (UIn w w1 T B [] (fun _ => 0) 0 (.slice none 0 0) (.slice none 0 0) w1) := ⟨by rw [fQ_nil]; exact ht1, ⟨by decide, fun j hj => absurd hj (Nat.not_lt_zero _), fun k => by
      have h : cnt (isOf (fQ [] (fun _ => 0)) k) 12 = cnt (fun _ => false) 12 := cnt_congr (fun j _ => isOf_hi (Nat.not_lt_zero _) k)
      rw [h]
      decide⟩, rfl, ⟨rfl, .inl ⟨rfl, rfl⟩⟩, ⟨rfl, .inl ⟨rfl, rfl⟩⟩, (fun k h => by cases h), Nat.le_refl _⟩
    clear ht1 hT hB HN
    go_wp2
    go_loopg [6, 7, 8] ll (fun gg v6 v7 v8 wr => ∃ (i m : Nat) (W : List Int) (o : Nat → Int) (mv wv : Value), i ≤ ll ∧ gg = ll - i ∧ v8 = .int .i64 (i : Int) ∧ mv = v6 ∧ wv = v7 ∧ Hid (UIn w w1 T B W o m mv wv wr))
    case atStart => exact ⟨0, 0, [], _, _, _, Nat.zero_le _, rfl, rfl, rfl, rfl, HU0⟩
    case round =>
      clear HU0
      obtain ⟨i, m, W, o, mv, wv, hi, rfl, rfl, hmv, hwv, HU⟩ := hrel
      subst hmv hwv
      by_cases hlt : i < ll
      · have iL : (i : Int) < (ll : Nat) := by omega
        have hcells := (HA.out.stay0 HU.out.tab.stay).cells (fun h => by have := HLL.out; rw [h] at this; simp at this; omega)
        obtain ⟨b, off, hab, _, hints⟩ := hcells
        have hc := hints i (by have := HLL.out; omega)
        obtain ⟨x, hx⟩ : ∃ x, x = l.getD i 0 := ⟨_, rfl⟩
        rw [← hx] at hc
        have hxw : 0 ≤ x ∧ x < 256 := wf_u8 (HA.out.wf x (by
          rw [hx, List.getD_eq_getElem?_getD, List.getElem?_eq_getElem (show i < l.length by have := HLL.out; omega)]
          exact List.getElem_mem _))
        have x0 := hxw.1
        have x1 := hxw.2
        obtain ⟨ev, hev⟩ : ∃ y, x % 5 = y := ⟨_, rfl⟩
        have ev0 : 0 ≤ ev := by omega
        have ev5 : ev < 5 := by omega
        have hm := mint_in ev 3 (i : Nat) 7 HU.out.tab
        subst hab
        clear hints hx hxw
        rcases mint_Q HU.out.qi ev i ev0 ev5 with ⟨er, hne, hr⟩ | ⟨hr, hq⟩
        · rw [hr] at hm
          have HM := hide' hm
          have hne2 : (er == 0) = false := beq_eq_false_iff_ne.2 hne
          clear hm hr
          go_wp2_with fail
          refine HM.out.mono ?_
          rintro _ w2 ⟨rfl, ht2, hs2⟩
          have HT2 : Hid (TIn w T B 12 4 (fQ W o) 1 w2) := ht2
          obtain ⟨hma, hwh, hsz⟩ := HU.out.turn HTB.out.2.1 ht2 hs2 trivial
          have hU2 : UIn w w1 T B W o m mv wv w2 := ⟨ht2, HU.out.qi, HU.out.len, hma, hwh, HU.out.apart, hsz⟩
          go_upto_region 13 with fail
          obtain ⟨w3, hw3⟩ : ∃ W, W = w2.alloc (.cells #[.int .i64 0, .int .i64 0] 30) := ⟨_, rfl⟩
          obtain ⟨bc, hbc⟩ : ∃ b, b = w2.heap.size := ⟨_, rfl⟩
          have HU3 : Hid (UIn w w1 T B W o m mv wv w3) := by rw [hw3]; exact hU2.keep ((Stay.refl _ _).alloc _)
          rw [← hw3, ← hbc]
          clear hw3 hbc hU2 hma hwh hsz ht2 hs2 HT2 HM HU hc
          obtain ⟨ad, cp, rfl⟩ := owns_sliceS HU3.out.made
          go_wp2
          go_loopg [12, 13] 5 (fun gg v12 v13 wr => ∃ k : Nat, k ≤ 5 ∧ gg = 5 - k ∧ v12 = .int .i64 (S5 (fQ W o) k : Nat) ∧ v13 = .int .i64 (k : Int) ∧ Hid (UIn w w1 T B W o m (.slice ad m cp) wv wr))
          case atStart => exact ⟨0, by decide, rfl, rfl, rfl, HU3⟩
          case round =>
            clear HU3
            obtain ⟨k, hk, rfl, rfl, rfl, HU⟩ := hrel
            obtain ⟨sm, hsm⟩ : ∃ x, x = S5 (fQ W o) k := ⟨_, rfl⟩
            have hsl : sm ≤ 4 * k := by rw [hsm]; exact S5_le HU.out.qi k
            have sm0 : (0 : Int) ≤ (sm : Nat) := by omega
            have sm1 : ((sm : Nat) : Int) ≤ 20 := by omega
            rw [← hsm]
            have HSM := hide' hsm
            clear hsm
            by_cases hk5 : k < 5
            · have k5 : (k : Int) < 5 := by omega
              have HSL := hide' hsl
              have hc4 := HU.out.qi.cnt (k : Nat)
              obtain ⟨c, hc⟩ : ∃ x, x = cnt (isOf (fQ W o) (k : Nat)) 12 := ⟨_, rfl⟩
              have hc1 := count_in (k : Nat) HU.out.tab
              rw [← hc] at hc4 hc1
              have HC1 := hide' hc1
              have HSS : Hid (S5 (fQ W o) (k + 1) = sm + c) := by show S5 (fQ W o) k + cnt (isOf (fQ W o) (k : Nat)) 12 = sm + c; rw [HSM.out, hc]
              have c0 : (0 : Int) ≤ (c : Nat) := by omega
              have c4 : ((c : Nat) : Int) ≤ 4 := by omega
              have d4 : decide ((4 : Int) < (c : Nat)) = false := decide_eq_false (by omega)
              have n4 : ¬ (4 : Int) < (c : Nat) := by omega
              have HCE := hide' hc
              clear hc1 hc hc4 hsl
              go_wp2_with fail
              refine HC1.out.mono ?_
              rintro _ wa ⟨rfl, hsa⟩
              have HUA := hide' (HU.out.keep hsa)
              have hc2 := count_in (k : Nat) HUA.out.tab
              rw [← HCE.out] at hc2
              have HC2 := hide' hc2
              clear hc2 hsa HU HC1
              go_wp2_with fail
              refine HC2.out.mono ?_
              rintro _ wb ⟨rfl, hsb⟩
              have HUB := hide' (HUA.out.keep hsb)
              clear hsb HUA HC2
              go_wp2
              go_roundg (5 - (k + 1))
              case measure => omega
              case rel => exact ⟨k + 1, by omega, rfl, by rw [HSS.out]; first | rfl | go_num | (congr 1; omega), by go_num, HUB⟩
            · have hke : k = 5 := by omega
              subst hke
              have hs5 : sm = m := by rw [HSM.out, S5_all HU.out.qi, HU.out.len]
              subst hs5
              have h12 : sm ≤ 12 := by have := HU.out.qi.len; have := HU.out.len; omega
              have d12 : decide ((12 : Int) < (sm : Nat)) = false := decide_eq_false (by omega)
              have n12 : ¬ (12 : Int) < (sm : Nat) := by omega
              have dne : (((sm : Nat) : Int) != (sm : Nat)) = false := by simp
              clear hsl
              go_wp2
              go_roundg (ll - (i + 1))
              case measure => omega
              case rel => exact ⟨i + 1, sm, W, o, _, _, by omega, rfl, by go_num, rfl, rfl, HU⟩
        · have hlen := HU.out.len
          obtain ⟨o2, ho2⟩ : ∃ o2 : Nat → Int, o2 = (fun j => if j = W.length then ((i : Nat) : Int) else o j) := ⟨_, rfl⟩
          rw [← ho2] at hr hq
          rw [hlen] at hr
          rw [hr] at hm
          have HM := hide' hm
          have HQ := hide' hq
          have hm12 : m ≤ 12 := by rw [← hlen]; exact HU.out.qi.len
          have HNM : Hid (m + 1 ≤ 1000000) := by show m + 1 ≤ 1000000; omega
          clear hm hr hq ho2 hm12
          go_wp2_with fail
          refine HM.out.mono ?_
          rintro _ w2 ⟨rfl, ht2, hs2⟩
          obtain ⟨hma, hwh, hsz⟩ := HU.out.turn HTB.out.2.1 ht2 hs2 trivial
          have HT2 : Hid (TIn w T B 12 4 (fQ (W ++ [ev]) o2) 1 w2) := ht2
          have HAP := hide' HU.out.apart
          go_upto_region 13 with fail
          obtain ⟨w3, hw3⟩ : ∃ W, W = w2.alloc (.cells #[.int .i64 (m : Nat), .int .i64 1] 30) := ⟨_, rfl⟩
          obtain ⟨bc, hbc⟩ : ∃ b, b = w2.heap.size := ⟨_, rfl⟩
          have hs3 : Stay (fun _ => False) w2 w3 := by rw [hw3]; exact (Stay.refl _ _).alloc _
          have HC3 : Hid (NBox w3 bc ⟨(m : Nat), 1⟩) := by rw [hw3]; exact NBox.new ⟨(m : Nat), 1⟩ hbc.symm
          rw [← hw3, ← hbc]
          obtain ⟨w4, hw4⟩ : ∃ W, W = w3.alloc (.cells #[.int .i64 (m : Nat), .int .i64 1] 30) := ⟨_, rfl⟩
          obtain ⟨sv, hsv⟩ : ∃ v, v = Value.slice (some ⟨w3.heap.size, 0, none⟩) 1 1 := ⟨_, rfl⟩
          have hs4 : Stay (fun _ => False) w3 w4 := by rw [hw4]; exact (Stay.refl _ _).alloc _
          have HSRC : Hid (IsRowS w4 2 sv 1 [.int .i64 (m : Nat), .int .i64 1]) := by rw [hw4, hsv]; exact isRowS_new w3 #[.int .i64 (m : Nat), .int .i64 1] 30 2 1 rfl
          have HS24 := hide' (hs3.trans hs4)
          have HT4 := hide' (HT2.out.keep HS24.out)
          have HO4 := hide' (HS24.out.owns hma (fun _ _ h => h))
          have HW4 := hide' (HS24.out.owns hwh (fun _ _ h => h))
          have HON : Hid (∀ u ∈ [Value.int .i64 (m : Nat), Value.int .i64 1], u.oneCell' = true) := by
            intro u hu
            simp only [List.mem_cons, List.not_mem_nil, or_false] at hu
            rcases hu with rfl | rfl <;> rfl
          have HBS : Hid (w1.heap.size ≤ w4.heap.size) := Nat.le_trans hsz HS24.out.size
          have HLEN := hide' hlen
          obtain ⟨c0, c1, _, _⟩ := HC3.out
          simp only at c0 c1
          clear hw3 hbc hs3 hs4 ht2 hs2 hma hwh hsz HT2 HM HU hc hlen
          go_upto_region 15 with (rw [← hw4, ← hsv]; clear hw4 hsv; at_builtin; go_must (refine appS rfl _ _ 28 rfl Try.underlying28 info30 rfl (by decide) (by decide) HO4.out rfl HSRC.out rfl HON.out HNM.out HBS.out ?_; intro v5 W5 ho hst hb; have HX5 : Hid (W5.ownsRow w1.heap.size 30 2 v5 (m + 1) (nms (madeL (m + 1))) ∧ W5.ownsRow w1.heap.size 3 1 wv m (W.map (.int .i64 ·)) ∧ TIn w T B 12 4 (fQ (W ++ [ev]) o2) 1 W5 ∧ (∀ k, v5.ownBlock = some k → ¬ wv.ownBlock = some k) ∧ w1.heap.size ≤ W5.heap.size) := ⟨by rw [madeL_succ, nms_append]; exact ho, hst.owns HW4.out (fun k hk h => HAP.out k h hk), HT4.out.beside hst (fun j hj e => by have := (HO4.out.lt j e).1; have := HTB.out; omega) (fun e => by have := (HO4.out.lt T e).1; have := HTB.out; omega) (fun e => by have := (HO4.out.lt B e).1; have := HTB.out; omega), apart_new hb HAP.out (fun k h => (HW4.out.lt k h).2), Nat.le_trans HBS.out hst.size⟩; clear ho hst hb HO4 HW4 HT4 HSRC HON HAP HBS c0 c1))
          obtain ⟨w6, hw6⟩ : ∃ W, W = W5.alloc (.cells #[.int .i64 ev] 3) := ⟨_, rfl⟩
          obtain ⟨sv, hsv⟩ : ∃ v, v = Value.slice (some ⟨W5.heap.size, 0, none⟩) 1 1 := ⟨_, rfl⟩
          have hs6 : Stay (fun _ => False) W5 w6 := by rw [hw6]; exact (Stay.refl _ _).alloc _
          have HSRC : Hid (IsRowS w6 1 sv 1 [.int .i64 ev]) := by rw [hw6, hsv]; exact isRowS_new W5 #[.int .i64 ev] 3 1 1 rfl
          have HON : Hid (∀ u ∈ [Value.int .i64 ev], u.oneCell' = true) := by
            intro u hu
            simp only [List.mem_cons, List.not_mem_nil, or_false] at hu
            subst hu
            rfl
          have HO6 := hide' (hs6.owns HX5.out.1 (fun _ _ h => h))
          have HW6 := hide' (hs6.owns HX5.out.2.1 (fun _ _ h => h))
          have HT6 := hide' (HX5.out.2.2.1.keep hs6)
          have HAP := hide' HX5.out.2.2.2.1
          have HBS : Hid (w1.heap.size ≤ w6.heap.size) := Nat.le_trans HX5.out.2.2.2.2 hs6.size
          clear hs6 HX5
          go_upto_region 16 with (rw [← hw6, ← hsv]; clear hw6 hsv; at_builtin; go_must (refine appS rfl _ _ 53 rfl Try.underlying53 info3 rfl (by decide) (by decide) HW6.out rfl HSRC.out rfl HON.out HNM.out HBS.out ?_; intro v7 w7 ho hst hb; have HU3 : Hid (UIn w w1 T B (W ++ [ev]) o2 (m + 1) v5 v7 w7) := ⟨HT6.out.beside hst (fun j hj e => by have := (HW6.out.lt j e).1; have := HTB.out; omega) (fun e => by have := (HW6.out.lt T e).1; have := HTB.out; omega) (fun e => by have := (HW6.out.lt B e).1; have := HTB.out; omega), HQ.out, by rw [List.length_append, HLEN.out]; rfl, hst.owns HO6.out (fun k hk h => HAP.out k hk h), by rw [List.map_append]; exact ho, apart_old hb HAP.out (fun k h => (HO6.out.lt k h).2), Nat.le_trans HBS.out hst.size⟩; clear ho hst hb HO6 HW6 HT6 HSRC HON HAP HBS))
          obtain ⟨ad, cp, rfl⟩ := owns_sliceS HU3.out.made
          obtain ⟨m2, hm2⟩ : ∃ x, x = m + 1 := ⟨_, rfl⟩
          rw [← hm2] at HU3
          rw [← hm2]
          clear hm2 HLEN HQ HNM
          go_wp2
          go_loopg [12, 13] 5 (fun gg v12 v13 wr => ∃ k : Nat, k ≤ 5 ∧ gg = 5 - k ∧ v12 = .int .i64 (S5 (fQ (W ++ [ev]) o2) k : Nat) ∧ v13 = .int .i64 (k : Int) ∧ Hid (UIn w w1 T B (W ++ [ev]) o2 m2 (.slice ad m2 cp) v7 wr))
          case atStart => exact ⟨0, by decide, rfl, rfl, rfl, HU3⟩
          case round =>
            clear HU3
            obtain ⟨k, hk, rfl, rfl, rfl, HU⟩ := hrel
            obtain ⟨sm, hsm⟩ : ∃ x, x = S5 (fQ (W ++ [ev]) o2) k := ⟨_, rfl⟩
            have hsl : sm ≤ 4 * k := by rw [hsm]; exact S5_le HU.out.qi k
            have sm0 : (0 : Int) ≤ (sm : Nat) := by omega
            have sm1 : ((sm : Nat) : Int) ≤ 20 := by omega
            rw [← hsm]
            have HSM := hide' hsm
            clear hsm
            by_cases hk5 : k < 5
            · have k5 : (k : Int) < 5 := by omega
              have HSL := hide' hsl
              have hc4 := HU.out.qi.cnt (k : Nat)
              obtain ⟨c, hc⟩ : ∃ x, x = cnt (isOf (fQ (W ++ [ev]) o2) (k : Nat)) 12 := ⟨_, rfl⟩
              have hc1 := count_in (k : Nat) HU.out.tab
              rw [← hc] at hc4 hc1
              have HC1 := hide' hc1
              have HSS : Hid (S5 (fQ (W ++ [ev]) o2) (k + 1) = sm + c) := by show S5 (fQ (W ++ [ev]) o2) k + cnt (isOf (fQ (W ++ [ev]) o2) (k : Nat)) 12 = sm + c; rw [HSM.out, hc]
              have c0 : (0 : Int) ≤ (c : Nat) := by omega
              have c4 : ((c : Nat) : Int) ≤ 4 := by omega
              have d4 : decide ((4 : Int) < (c : Nat)) = false := decide_eq_false (by omega)
              have n4 : ¬ (4 : Int) < (c : Nat) := by omega
              have HCE := hide' hc
              clear hc1 hc hc4 hsl
              go_wp2_with fail
              refine HC1.out.mono ?_
              rintro _ wa ⟨rfl, hsa⟩
              have HUA := hide' (HU.out.keep hsa)
              have hc2 := count_in (k : Nat) HUA.out.tab
              rw [← HCE.out] at hc2
              have HC2 := hide' hc2
              clear hc2 hsa HU HC1
              go_wp2_with fail
              refine HC2.out.mono ?_
              rintro _ wb ⟨rfl, hsb⟩
              have HUB := hide' (HUA.out.keep hsb)
              clear hsb HUA HC2
              go_wp2
              go_roundg (5 - (k + 1))
              case measure => omega
              case rel => exact ⟨k + 1, by omega, rfl, by rw [HSS.out]; first | rfl | go_num | (congr 1; omega), by go_num, HUB⟩
            · have hke : k = 5 := by omega
              subst hke
              have hs5 : sm = m2 := by rw [HSM.out, S5_all HU.out.qi, HU.out.len]
              subst hs5
              have h12 : sm ≤ 12 := by have := HU.out.qi.len; have := HU.out.len; omega
              have d12 : decide ((12 : Int) < (sm : Nat)) = false := decide_eq_false (by omega)
              have n12 : ¬ (12 : Int) < (sm : Nat) := by omega
              have dne : (((sm : Nat) : Int) != (sm : Nat)) = false := by simp
              clear hsl
              go_wp2
              go_roundg (ll - (i + 1))
              case measure => omega
              case rel => exact ⟨i + 1, sm, (W ++ [ev]), o2, _, _, by omega, rfl, by go_num, rfl, rfl, HU⟩
      · have hie : i = ll := by omega
        subst hie
        have hct := count_in e HU.out.tab
        obtain ⟨c, hc⟩ : ∃ x, x = cnt (isOf (fQ W o) e) 12 := ⟨_, rfl⟩
        rw [← hc] at hct
        have HCT := hide' hct
        have HCE := hide' hc
        clear hct hc
        go_wp2_with fail
        refine HCT.out.mono ?_
        rintro _ w2 ⟨rfl, hs2⟩
        have HU2 := hide' (HU.out.keep hs2)
        have HKL := hide' (kill_in e HU2.out.tab (by decide))
        clear hs2 HU HCT
        go_wp2_with fail
        refine HKL.out.mono ?_
        rintro _ w3 ⟨M, hM, rfl, ht3, hs3⟩
        have HM := hide' hM
        have hcc := kill_cnt hM
        rw [← HCE.out] at hcc
        rw [hcc]
        have hct := count_in e ht3
        rw [kill_none HE.out.1 hM] at hct
        have HCT := hide' hct
        have HT3 := hide' ht3
        have HMA : Hid (w3.ownsRow w1.heap.size 30 2 mv m (nms (madeL m))) := hs3.owns HU2.out.made (fun k hk x => by have := (HU2.out.made.lt k hk).1; have := HTB.out; omega)
        have HWH : Hid (w3.ownsRow w1.heap.size 3 1 wv m (W.map (.int .i64 ·))) := hs3.owns HU2.out.whose (fun k hk x => by have := (HU2.out.whose.lt k hk).1; have := HTB.out; omega)
        have HQI := hide' HU2.out.qi
        have HLEN := hide' HU2.out.len
        have dcc : (((c : Nat) : Int) != (c : Nat)) = false := by simp
        clear hM hcc hct ht3 hs3 HKL HU2
        go_wp2_with fail
        refine HCT.out.mono ?_
        rintro _ w4 ⟨rfl, hs4⟩
        have HT4 := hide' (HT3.out.keep hs4)
        have HMA4 := hide' (hs4.owns HMA.out (fun _ _ h => h))
        have HWH4 := hide' (hs4.owns HWH.out (fun _ _ h => h))
        obtain ⟨ad, cp, rfl⟩ := owns_sliceS HMA4.out
        obtain ⟨ad2, cp2, rfl⟩ := owns_sliceS HWH4.out
        have HL0 := hide' (Stay.refl (fun _ => False) w4)
        have hm12 : (m : Int) ≤ 12 := by have h1 := HLEN.out; have h2 := HQI.out.len; omega
        clear hs4 HT3 HMA HWH HCT
        go_wp2
        go_loopg [16] m (fun gg v16 wr => ∃ k : Nat, k ≤ m ∧ gg = m - k ∧ v16 = .int .i64 (k : Int) ∧ Hid (Stay (fun _ => False) w4 wr))
        case atStart => exact ⟨0, Nat.zero_le _, rfl, rfl, HL0⟩
        case round =>
          clear HL0
          obtain ⟨k, hk, rfl, rfl, HS4⟩ := hrel
          by_cases hkm : k < m
          · have km : (k : Int) < (m : Nat) := by omega
            obtain ⟨g, hg, hgb, hat⟩ := names_at (HS4.out.owns HMA4.out (fun _ _ h => h)) (madeL_len m) k _ (madeL_get m k hkm)
            have hkW : k < W.length := by have := HLEN.out; omega
            obtain ⟨a2, cap2, hae, _, hac⟩ := ownsRow_shape (HS4.out.owns HWH4.out (fun _ _ h => h))
            injection hae with e1 e2 e3
            subst e1
            obtain ⟨g2, hg2, _, hgc⟩ := hac k (.int .i64 (W.getD k 0)) (by rw [List.getElem?_map, List.getElem?_eq_getElem hkW, List.getD_eq_getElem?_getD, List.getElem?_eq_getElem hkW]; rfl)
            subst hg hg2
            obtain ⟨ca, cb, hck, hcb⟩ := check_Q HQI.out HM.out k hkW
            have HCK : Hid (∀ w', Stay (fun _ => False) wr w' → Calls Try.prog 16 #[.pointer (some ⟨T, 0, none⟩), .int .i64 (W.getD k 0), .agg #[.int .i64 (k : Nat), .int .i64 1], .int .i64 3, .int .i64 7] w' (fun e w'' => e = .returned (.tuple #[.int .i64 ca, .int .i64 cb]) ∧ Stay (fun _ => False) w' w'')) := fun w' hs' => by
              have h := check_in (W.getD k 0) (k : Nat) 1 3 7 ((HT4.out.keep HS4.out).keep hs') (by unfold W64; omega)
              rw [hck] at h
              exact h
            obtain ⟨xw, hxw⟩ : ∃ x, x = W.getD k 0 := ⟨_, rfl⟩
            rw [← hxw] at HCK hgc hcb
            obtain ⟨wi, hwi⟩ : ∃ x, x = wr := ⟨_, rfl⟩
            rw [← hwi] at HCK hgc hat
            have HWC := hide' hgc
            have HMC := hide' hat
            have HS4i : Hid (Stay (fun _ => False) w4 wi) := by rw [hwi]; exact HS4.out
            rw [← hwi]
            clear hwi HS4 hck hac hgc hat hgb e2 e3 hxw hkW
            go_upto_region 32 with fail
            have HS : (fun w' => Stay (fun _ => False) wi w') wi.drew := (Stay.refl _ _).drew
            refine wp_region_mix (fun w' => Stay (fun _ => False) wi w') [(0, true), (1, true), (2, true), (3, true), (4, true), (5, true), (6, true), (7, true), (8, true), (9, false), (10, true), (11, true), (12, true), (13, true), (14, true)] (by kernel_rfl) (by kernel_rfl) (fun _ d _ _ _ h => by cases d <;> exact h) HS ?_
            refine mix_begin (fun K0 hK0 => ?_)
            refine mix_take hK0 (some 100) (.move (.tmp 5)) 24 _ (by kernel_rfl) (by kernel_rfl) (fun w' hS' => by (have c0 := keep_cell hS' HWC.out; simp only [opr]; go_simp; try with_reducible rfl)) (fun K1 hK1 => ?_)
            clear hK0 K0
            simp only [Act.put, List.setIfInBounds_toArray, List.set_cons_zero, List.set_cons_succ]
            refine mix_take hK1 (some 101) (.move (.tmp 7)) 53 _ (by kernel_rfl) (by kernel_rfl) (fun w' hS' => by (have c0 := keep_cell hS' HWC.out; simp only [opr]; go_simp; try with_reducible rfl)) (fun K2 hK2 => ?_)
            clear hK1 K1
            simp only [Act.put, List.setIfInBounds_toArray, List.set_cons_zero, List.set_cons_succ]
            refine mix_take hK2 (some 102) (.move (.tmp 16)) 3 _ (by kernel_rfl) (by kernel_rfl) (fun w' hS' => by (have c0 := keep_cell hS' HWC.out; simp only [opr]; go_simp; try with_reducible rfl)) (fun K3 hK3 => ?_)
            clear hK2 K2
            simp only [Act.put, List.setIfInBounds_toArray, List.set_cons_zero, List.set_cons_succ]
            refine mix_take hK3 (some 103) (.indexAddr 53 (.tmp 101) (.tmp 102)) 0 _ (by kernel_rfl) (by kernel_rfl) (fun w' hS' => by (have c0 := keep_cell hS' HWC.out; simp only [opr]; go_simp; try with_reducible rfl)) (fun K4 hK4 => ?_)
            clear hK3 K3
            simp only [Act.put, List.setIfInBounds_toArray, List.set_cons_zero, List.set_cons_succ]
            refine mix_take hK4 (some 104) (.load 3 (.tmp 103)) 3 _ (by kernel_rfl) (by kernel_rfl) (fun w' hS' => by (have c0 := keep_cell hS' HWC.out; simp only [opr]; go_simp; try with_reducible rfl)) (fun K5 hK5 => ?_)
            clear hK4 K4
            simp only [Act.put, List.setIfInBounds_toArray, List.set_cons_zero, List.set_cons_succ]
            refine mix_take hK5 (some 105) (.move (.tmp 6)) 28 _ (by kernel_rfl) (by kernel_rfl) (fun w' hS' => by (have c0 := keep_cell hS' HWC.out; simp only [opr]; go_simp; try with_reducible rfl)) (fun K6 hK6 => ?_)
            clear hK5 K5
            simp only [Act.put, List.setIfInBounds_toArray, List.set_cons_zero, List.set_cons_succ]
            refine mix_take hK6 (some 106) (.move (.tmp 16)) 3 _ (by kernel_rfl) (by kernel_rfl) (fun w' hS' => by (have c0 := keep_cell hS' HWC.out; simp only [opr]; go_simp; try with_reducible rfl)) (fun K7 hK7 => ?_)
            clear hK6 K6
            simp only [Act.put, List.setIfInBounds_toArray, List.set_cons_zero, List.set_cons_succ]
            refine mix_take hK7 (some 107) (.indexAddr 28 (.tmp 105) (.tmp 106)) 0 _ (by kernel_rfl) (by kernel_rfl) (fun w' hS' => by (have c0 := keep_cell hS' HWC.out; simp only [opr]; go_simp; try with_reducible rfl)) (fun K8 hK8 => ?_)
            clear hK7 K7
            simp only [Act.put, List.setIfInBounds_toArray, List.set_cons_zero, List.set_cons_succ]
            refine mix_take hK8 (some 108) (.load 30 (.tmp 107)) 30 _ (by kernel_rfl) (by kernel_rfl) (fun w' hS' => by exact run_load_NBoxAt rfl rfl (HMC.out.keep hS')) (fun K9 hK9 => ?_)
            clear hK8 K8
            simp only [Act.put, List.setIfInBounds_toArray, List.set_cons_zero, List.set_cons_succ]
            refine mix_call hK9 (some 109) 16 #[.tmp 100, .tmp 104, .tmp 108, .const (Value.int IntKind.i64 3), .const (Value.int IntKind.i64 7)] #[24, 3, 30, 3, 3] 43 _ (by kernel_rfl) (by kernel_rfl) (enters Try.func16 (by kernel_rfl) (by kernel_rfl)) (by go_simp; try with_reducible rfl) (fun K10 hK10 => ?_)
            clear hK9 K9
            refine ((HCK.out _ HS)).mono ?_
            rintro e wm1 ⟨rfl, hs1⟩
            have hS1 : _ := (HS.trans hs1)
            refine ⟨_, rfl, hS1, ?_⟩
            clear hs1
            simp only [Act.put, List.setIfInBounds_toArray, List.set_cons_zero, List.set_cons_succ]
            refine mix_take hK10 (some 99) (.move (.tmp 109)) 43 _ (by kernel_rfl) (by kernel_rfl) (fun w' hS' => by (have c0 := keep_cell hS' HWC.out; simp only [opr]; go_simp; try with_reducible rfl)) (fun K11 hK11 => ?_)
            clear hK10 K10
            simp only [Act.put, List.setIfInBounds_toArray, List.set_cons_zero, List.set_cons_succ]
            refine mix_take hK11 (some 110) (.extract (.tmp 99) 0) 3 _ (by kernel_rfl) (by kernel_rfl) (fun w' hS' => by (have c0 := keep_cell hS' HWC.out; simp only [opr]; go_simp; try with_reducible rfl)) (fun K12 hK12 => ?_)
            clear hK11 K11
            simp only [Act.put, List.setIfInBounds_toArray, List.set_cons_zero, List.set_cons_succ]
            refine mix_take hK12 (some 111) (.extract (.tmp 99) 1) 36 _ (by kernel_rfl) (by kernel_rfl) (fun w' hS' => by (have c0 := keep_cell hS' HWC.out; simp only [opr]; go_simp; try with_reducible rfl)) (fun K13 hK13 => ?_)
            clear hK12 K12
            simp only [Act.put, List.setIfInBounds_toArray, List.set_cons_zero, List.set_cons_succ]
            refine mix_take hK13 (some 17) (.assign (.tmp 110)) 3 _ (by kernel_rfl) (by kernel_rfl) (fun w' hS' => by (have c0 := keep_cell hS' HWC.out; simp only [opr]; go_simp; try with_reducible rfl)) (fun K14 hK14 => ?_)
            clear hK13 K13
            simp only [Act.put, List.setIfInBounds_toArray, List.set_cons_zero, List.set_cons_succ]
            refine mix_take hK14 (some 18) (.assign (.tmp 111)) 36 _ (by kernel_rfl) (by kernel_rfl) (fun w' hS' => by (have c0 := keep_cell hS' HWC.out; simp only [opr]; go_simp; try with_reducible rfl)) (fun K15 hK15 => ?_)
            clear hK14 K14
            simp only [Act.put, List.setIfInBounds_toArray, List.set_cons_zero, List.set_cons_succ]
            refine hK15 _ _ (mix_nil ?_)
            clear hK15 K15
            have hS1' : Stay (fun _ => False) wi wm1 := hS1
            have c0 := keep_cell hS1' HWC.out
            have HS5 := hide' (HS4i.out.trans hS1')
            obtain ⟨bb, hbb⟩ : ∃ b, b = (cb == 0) := ⟨_, rfl⟩
            have f1 : (cb == 0) = bb := hbb.symm
            have f2 : (xw != e) = bb := by rw [hbb, hcb]; rfl
            clear HS hS1 hS1' HWC HMC HCK hcb hbb HS4i
            cases bb
            · go_wp2
              go_roundg (m - (k + 1))
              case measure => omega
              case rel => exact ⟨k + 1, by omega, rfl, by go_num, HS5⟩
            · go_wp2
              go_roundg (m - (k + 1))
              case measure => omega
              case rel => exact ⟨k + 1, by omega, rfl, by go_num, HS5⟩
          · have hke : k = m := by omega
            subst hke
            have HST := hide' (HT4.out.stay.trans HS4.out)
            clear HS4
            go_wp2_with fail
            refine (awake7 _).mono ?_
            rintro _ w9 ⟨rfl, hs9⟩
            have HS9 := hide' (HST.out.trans hs9)
            clear hs9 HST
            go_wp2
            go_ret
            exact ⟨rfl, HS9.out⟩

end Go.Proofs.Ytlhfpnfiamgmlaa
