/-
  What parameters make of a pen, walked: the loop. No conditions.
-/
import Derived.Test.YtinikpadbocfaaaC3
import Derived.Test.YtinikpadbocfaaaC4
namespace Go.Proofs.Ytinikpadbocfaaa
open Go.RowKit

/-- What holds at the head of a round of Apply: k parameters are done, and have made q. -/
structure ApIn (w wr : World) (p : Pn) (l : List Int) (k : Nat) (q : Pn) : Prop where
  stay : Stay (fun _ => False) w wr
  pen : Box wr w.heap.size q
  out : Box wr (w.heap.size + 1) ⟨0, 0, 0⟩
  same : runL p l = runL q (l.drop k)

theorem Ints.keep {k : IntKind} {W W' : World} {b off : Nat} {l : List Int} (h : Ints k W b off l) (hb : b < W.heap.size) (hs : Stay (fun _ => False) W W') : Ints k W' b off l := h.stay hb hs (fun h => h)

theorem drop_cons (l : List Int) (k : Nat) (h : k < l.length) : l.drop k = l.getD k 0 :: l.drop (k + 1) := by
  rw [List.getD_eq_getElem?_getD, List.getElem?_eq_getElem h]
  exact List.drop_eq_getElem_cons h

/-- A round with a parameter that stands for itself. -/
theorem ApIn.one {w wr w1 : World} {p q : Pn} {l : List Int} {k : Nat} {x : Int} (h : ApIn w wr p l k q) (hk : k < l.length) (hx : x = l.getD k 0) (hp : ¬(x = 38 ∨ x = 48)) (hs : Stay (fun _ => False) wr w1)
    {q' : Pn} (hq : q' = one q x) : ApIn w (((w1.setCell ⟨w.heap.size, 0, none⟩ (.int .i64 q'.fg)).setCell ⟨w.heap.size, 1, none⟩ (.int .i64 q'.bg)).setCell ⟨w.heap.size, 2, none⟩ (.int .i64 q'.fl)) p l (k + 1) q' := by
  refine ⟨(h.stay.trans hs).put (Nat.le_refl _) _ _ _, (h.pen.keep hs).put q', ?_, ?_⟩
  · exact (((h.out.keep hs).other (by omega)).other (by omega)).other (by omega)
  · rw [h.same, drop_cons l k hk, ← hx, runL_one hp, hq]

theorem ApIn.tint {w wr w1 : World} {p q : Pn} {l : List Int} {k u : Nat} {x c : Int} (h : ApIn w wr p l k q) (hk : k < l.length) (hx : x = l.getD k 0) (hp : x = 38 ∨ x = 48) (hs : Stay (fun _ => False) wr w1)
    (ht : told (l.drop (k + 1)) = (c, u)) (hu : u ≠ 0) {q' : Pn} (hq : q' = tint q x c) {o : Nat} (ho : Box (w1.setCell ⟨w.heap.size, o, none⟩ (.int .i64 c)) w.heap.size q') : ApIn w (w1.setCell ⟨w.heap.size, o, none⟩ (.int .i64 c)) p l (k + 1 + u) q' := by
  refine ⟨(h.stay.trans hs).setNew (p := ⟨w.heap.size, o, none⟩) (Nat.le_refl _) _, ho, (h.out.keep hs).other (by omega), ?_⟩
  rw [h.same, drop_cons l k hk, ← hx, runL_told hp (by rw [ht]; exact hu), ht, List.drop_drop, hq]

theorem ApIn.stop {w wr : World} {p q : Pn} {l : List Int} {k : Nat} {x : Int} (h : ApIn w wr p l k q) (hk : k < l.length) (hx : x = l.getD k 0) (hp : x = 38 ∨ x = 48) {c : Int} (ht : told (l.drop (k + 1)) = (c, 0)) : runL p l = q := by
  rw [h.same, drop_cons l k hk, ← hx, runL_none hp (by rw [ht])]

theorem ap_start (w : World) (p : Pn) (l : List Int) : ApIn w ((w.alloc (.cells #[.int .i64 p.fg, .int .i64 p.bg, .int .i64 p.fl] 23)).alloc (.cells #[.int .i64 0, .int .i64 0, .int .i64 0] 23)) p l 0 p :=
  ⟨((Stay.refl _ _).alloc _).alloc _, (Box.new p rfl).alloc _, Box.new ⟨0, 0, 0⟩ (by simp), rfl⟩

set_option maxHeartbeats 1000000 in
theorem apply11_some (p : Pn) (l : List Int) (b off cap : Nat) (w : World) (hb : b < w.heap.size) (hB : Ints .i64 w b off l) (hc : l.length ≤ cap) (hcm : cap ≤ maxLen) (hwf : ∀ x ∈ l, (Lit.int .i64 x).wf = true) (hl : 0 < l.length) (hn : l.length ≤ 1000) :
    Calls Try.prog 11 #[.agg #[.int .i64 p.fg, .int .i64 p.bg, .int .i64 p.fl], .slice (some ⟨b, off, none⟩) l.length cap] w (Gives (.agg #[.int .i64 (applyL p l).fg, .int .i64 (applyL p l).bg, .int .i64 (applyL p l).fl]) w) := by
  have HB := hide' hB
  have HBL := hide' hb
  have HCM := hide' hcm
  have HWF := hide' hwf
  clear hcm hwf
  have HA := hide' (show applyL p l = runL p l by unfold applyL; rw [if_neg (fun h => by rw [h] at hl; simp at hl)])
  obtain ⟨Q, hQ⟩ : ∃ Q, Q = applyL p l := ⟨_, rfl⟩
  rw [← hQ] at HA ⊢
  clear hQ hB hb
  obtain ⟨n, hn'⟩ : ∃ n, n = l.length := ⟨_, rfl⟩
  rw [← hn'] at hc hl hn
  rw [← hn']
  have HN := hide' hn'
  clear hn'
  have n0 : (0 : Int) < n := by omega
  have n1 : (n : Int) ≤ 1000 := by omega
  have nc : (n : Int) ≤ cap := by omega
  have dz : ((n : Int) == 0) = false := by simp; omega
  have HST := hide' (ap_start w p l)
  go_enter Try.func11, Try.ntmps11
  go_upto_region 1 with fail
  obtain ⟨W, hW⟩ : ∃ W, W = ((w.alloc (.cells #[.int .i64 p.fg, .int .i64 p.bg, .int .i64 p.fl] 23)).alloc (.cells #[.int .i64 0, .int .i64 0, .int .i64 0] 23)) := ⟨_, rfl⟩
  rw [← hW] at HST
  rw [← hW]
  clear hW
  go_wp2_with fail
  go_loopg [1] n (fun g v1 wr => ∃ k q o c, k ≤ n ∧ g = n - k ∧ v1 = .slice (some ⟨b, o, none⟩) (n - k) c ∧ n - k ≤ c ∧ c ≤ cap ∧ (k < n → o = off + k) ∧ Hid (ApIn w wr p l k q))
  case atStart => exact ⟨0, p, off, cap, Nat.zero_le _, rfl, rfl, by omega, Nat.le_refl _, fun _ => rfl, HST.out⟩
  case round =>
    obtain ⟨k, q, o, c, hk, rfl, rfl, hnc, hcc, ho, HI⟩ := hrel
    by_cases hlt : k < n
    · obtain rfl := ho hlt
      have hlk : k < l.length := by have := HN.out; omega
      have hBr := HB.out.keep HBL.out HI.out.stay
      have cx : wr.cell? ⟨b, off + k, none⟩ = some (.int .i64 (l.getD k 0)) := hBr k hlk
      obtain ⟨x, hx⟩ : ∃ x, x = l.getD k 0 := ⟨_, rfl⟩
      rw [← hx] at cx
      have HX := hide' hx
      have HBr := hide' hBr
      clear hx hBr ho
      obtain ⟨c0, c1, c2, f0, f1, f2⟩ := HI.out.pen
      have m1 : (0 : Int) < (n - k : Nat) := by omega
      have m2 : (1 : Int) ≤ (n - k : Nat) := by omega
      by_cases hx2 : x = 38 ∨ x = 48
      · obtain ⟨tc, tu, ht⟩ : ∃ c u, told (l.drop (k + 1)) = (c, u) := ⟨_, _, rfl⟩
        have htl := told_len (l.drop (k + 1))
        rw [ht] at htl
        have htl2 : tu ≤ n - k - 1 := by
          have := HN.out
          have e : (l.drop (k + 1)).length = l.length - (k + 1) := List.length_drop
          simp only at htl
          omega
        have HIA : Hid (∀ o', (1 < n - k → o' = off + k + 1) → 1 ≤ c → IArg .i64 wr (.slice (some ⟨b, o', none⟩) (n - k - 1) (c - 1)) (l.drop (k + 1)) (some ⟨b, o', none⟩) (c - 1)) := by
          intro o' ho' h1c
          have hN := HN.out
          have e : (l.drop (k + 1)).length = n - k - 1 := by rw [List.length_drop]; omega
          have hcm := HCM.out
          refine ⟨by rw [e], fun hne => ⟨b, o', rfl, Nat.lt_of_lt_of_le HBL.out HI.out.stay.size, fun j hj => ?_⟩, (fun h => by cases h), by omega, by omega, fun y hy => HWF.out y (List.mem_of_mem_drop hy)⟩
          rw [e] at hj
          rw [ho' (by omega), show off + k + 1 + j = off + (k + 1 + j) by omega, HBr.out (k + 1 + j) (by omega)]
          simp [List.getD_eq_getElem?_getD, List.getElem?_drop]
        have HT : Hid (∀ v a cap, IArg .i64 wr v (l.drop (k + 1)) a cap → Calls Try.prog 23 #[v] wr (Gives (.tuple #[.int .i64 tc, .int .i64 (tu : Nat)]) wr)) := fun v a cap h => by
          have := told23 v _ a cap wr h (by have := HN.out; rw [List.length_drop]; omega)
          rw [ht] at this
          exact this
        have HTE := hide' ht
        clear ht htl
        by_cases hu : tu = 0
        · subst hu
          have HQ2 : Hid (Q = q) := HA.out.trans (HI.out.stop hlk HX.out hx2 HTE.out)
          obtain ⟨z0, z1, z2, e0, e1, e2⟩ := HI.out.out
          have d : (x != 38 && x != 48) = false := by rcases hx2 with rfl | rfl <;> rfl
          by_cases hc1 : c = 1
          · subst hc1
            have HM : Hid (Calls Try.prog 23 #[.slice (some ⟨b, off + k, none⟩) 0 0] wr (Gives (.tuple #[.int .i64 tc, .int .i64 0]) wr)) := by
              have hm := HT.out _ _ _ (HIA.out (off + k) (by omega) (by omega))
              rw [show n - k - 1 = 0 by omega] at hm
              exact hm
            rcases hx2 with rfl | rfl
            all_goals
              go_wp2_with fail
              refine HM.out.mono ?_
              rintro e w1 ⟨rfl, hs⟩
              have HI1 := hide' (HI.out.stay.trans hs)
              have HP1 := hide' (HI.out.pen.keep hs)
              have HO1 := hide' (HI.out.out.keep hs)
              clear hs c0 c1 c2 f0 f1 f2 z0 z1 z2 e0 e1 e2
              obtain ⟨c0, c1, c2, f0, f1, f2⟩ := HP1.out
              obtain ⟨z0, z1, z2, e0, e1, e2⟩ := HO1.out
              go_wp2
              exact one_ends rfl rfl (HO1.out.put q) HQ2.out.symm (HI1.out.put (by omega) _ _ _) rfl
          · obtain ⟨c', rfl⟩ : ∃ c', c = c' + 1 := ⟨c - 1, by omega⟩
            have HM : Hid (Calls Try.prog 23 #[.slice (some ⟨b, off + k + 1, none⟩) (n - k - 1) c'] wr (Gives (.tuple #[.int .i64 tc, .int .i64 0]) wr)) := HT.out _ _ _ (HIA.out (off + k + 1) (fun _ => rfl) (by omega))
            rcases hx2 with rfl | rfl
            all_goals
              go_wp2_with fail
              refine HM.out.mono ?_
              rintro e w1 ⟨rfl, hs⟩
              have HI1 := hide' (HI.out.stay.trans hs)
              have HP1 := hide' (HI.out.pen.keep hs)
              have HO1 := hide' (HI.out.out.keep hs)
              clear hs c0 c1 c2 f0 f1 f2 z0 z1 z2 e0 e1 e2
              obtain ⟨c0, c1, c2, f0, f1, f2⟩ := HP1.out
              obtain ⟨z0, z1, z2, e0, e1, e2⟩ := HO1.out
              go_wp2
              exact one_ends rfl rfl (HO1.out.put q) HQ2.out.symm (HI1.out.put (by omega) _ _ _) rfl
        · have hc1 : ¬ c = 1 := by omega
          have hu0 : ((tu : Int) == 0) = false := by simpa using hu
          have hu2 : (tu : Int) ≤ (n - k - 1 : Nat) := by omega
          have HU := hide' hu
          clear hu
          obtain ⟨c', rfl⟩ : ∃ c', c = c' + 1 := ⟨c - 1, by omega⟩
          have HM : Hid (Calls Try.prog 23 #[.slice (some ⟨b, off + k + 1, none⟩) (n - k - 1) c'] wr (Gives (.tuple #[.int .i64 tc, .int .i64 (tu : Nat)]) wr)) := HT.out _ _ _ (HIA.out (off + k + 1) (fun _ => rfl) (by omega))
          rcases hx2 with rfl | rfl
          · by_cases hc2 : c' = tu
            · obtain rfl := hc2
              go_wp2_with fail
              refine HM.out.mono ?_
              rintro e w1 ⟨rfl, hs⟩
              have HSS := hide' hs
              have HP1 := hide' (HI.out.pen.keep hs)
              clear hs c0 c1 c2 f0 f1 f2
              obtain ⟨c0, c1, c2, f0, f1, f2⟩ := HP1.out
              go_wp2
              go_roundg (n - (k + 1 + c'))
              case rel => exact ⟨k + 1 + c', tint q 38 tc, _, 0, by omega, rfl, by first | rfl | (congr 1; omega), by omega, by omega, by omega, HI.out.tint hlk HX.out (.inl rfl) HSS.out HTE.out HU.out rfl (HP1.out.put0 _)⟩
              case measure => omega
            · skip
              go_wp2_with fail
              refine HM.out.mono ?_
              rintro e w1 ⟨rfl, hs⟩
              have HSS := hide' hs
              have HP1 := hide' (HI.out.pen.keep hs)
              clear hs c0 c1 c2 f0 f1 f2
              obtain ⟨c0, c1, c2, f0, f1, f2⟩ := HP1.out
              go_wp2
              go_roundg (n - (k + 1 + tu))
              case rel => exact ⟨k + 1 + tu, tint q 38 tc, _, c' - tu, by omega, rfl, by first | rfl | (congr 1; omega), by omega, by omega, by omega, HI.out.tint hlk HX.out (.inl rfl) HSS.out HTE.out HU.out rfl (HP1.out.put0 _)⟩
              case measure => omega
          · by_cases hc2 : c' = tu
            · obtain rfl := hc2
              go_wp2_with fail
              refine HM.out.mono ?_
              rintro e w1 ⟨rfl, hs⟩
              have HSS := hide' hs
              have HP1 := hide' (HI.out.pen.keep hs)
              clear hs c0 c1 c2 f0 f1 f2
              obtain ⟨c0, c1, c2, f0, f1, f2⟩ := HP1.out
              go_wp2
              go_roundg (n - (k + 1 + c'))
              case rel => exact ⟨k + 1 + c', tint q 48 tc, _, 0, by omega, rfl, by first | rfl | (congr 1; omega), by omega, by omega, by omega, HI.out.tint hlk HX.out (.inr rfl) HSS.out HTE.out HU.out rfl (HP1.out.put1 _)⟩
              case measure => omega
            · skip
              go_wp2_with fail
              refine HM.out.mono ?_
              rintro e w1 ⟨rfl, hs⟩
              have HSS := hide' hs
              have HP1 := hide' (HI.out.pen.keep hs)
              clear hs c0 c1 c2 f0 f1 f2
              obtain ⟨c0, c1, c2, f0, f1, f2⟩ := HP1.out
              go_wp2
              go_roundg (n - (k + 1 + tu))
              case rel => exact ⟨k + 1 + tu, tint q 48 tc, _, c' - tu, by omega, rfl, by first | rfl | (congr 1; omega), by omega, by omega, by omega, HI.out.tint hlk HX.out (.inr rfl) HSS.out HTE.out HU.out rfl (HP1.out.put1 _)⟩
              case measure => omega
      · have d1 : (x != 38) = true := by simp; omega
        have d2 : (x != 48) = true := by simp; omega
        have HNX := hide' hx2
        clear hx2
        by_cases hc1 : c = 1
        all_goals
          go_wp2_with fail
          refine (one22 q x _).mono ?_
          rintro e w1 ⟨rfl, hs⟩
          obtain ⟨q', hq'⟩ : ∃ q', q' = one q x := ⟨_, rfl⟩
          rw [← hq']
          have HI1 := hide' (HI.out.one hlk HX.out HNX.out hs hq')
          have HP1 := hide' (HI.out.pen.keep hs)
          clear hs hq' c0 c1 c2 f0 f1 f2
          obtain ⟨c0, c1, c2, f0, f1, f2⟩ := HP1.out
          go_wp2
          go_roundg (n - (k + 1))
          case rel => exact ⟨k + 1, q', _, c - 1, by omega, rfl, by congr 1 <;> omega, by omega, by omega, by omega, HI1.out⟩
          case measure => omega
    · have hkn : k = n := by omega
      have HQ2 : Hid (Q = q) := by
        show Q = q
        rw [HA.out, HI.out.same, hkn, HN.out, List.drop_length, runL_nil]
      obtain ⟨c0, c1, c2, f0, f1, f2⟩ := HI.out.pen
      obtain ⟨z0, z1, z2, e0, e1, e2⟩ := HI.out.out
      have m0 : ¬ (0 : Int) < (n - k : Nat) := by omega
      go_wp2
      exact one_ends rfl rfl (HI.out.out.put q) HQ2.out.symm (HI.out.stay.put (by omega) _ _ _) rfl

end Go.Proofs.Ytinikpadbocfaaa
