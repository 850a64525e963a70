/-
  A pair of one's own, over the oldest world; the example: walked. No conditions.
-/
import Derived.Test.YtjfhmpjpdcckhaaC5
import Derived.BigQuiet
import Derived.Deep.Grids
import Derived.Lib.SmallJoins
namespace Go.Proofs.Ytjfhmpjpdcckhaa
open Go.RowKit
open L17 L18

/-- A pair of one's own: nothing that was there at the beginning has turned. -/
structure Own (w0 w : World) (g p : Nat) (U : Nat → Prop) (s : Pq) : Prop where
  at_ : PAt w g p U s
  stay : Stay (fun _ => False) w0 w
  new : ∀ k, U k → w0.heap.size ≤ k

section
variable {w0 w w1 : World} {g p : Nat} {U U' : Nat → Prop} {s s' : Pq}

theorem Own.keep (h : Own w0 w g p U s) (hs : Stay (fun _ => False) w w1) : Own w0 w1 g p U s := ⟨h.at_.keep hs, h.stay.trans hs, h.new⟩

theorem Own.step (h : Own w0 w g p U s) (hp : PAt w1 g p U' s') (hs : Stay U w w1) (hg : Grown U U' w) : Own w0 w1 g p U' s' :=
  ⟨hp, stay_own h.stay hs h.new, grown_own h.stay.size h.new hg⟩

theorem Own.read (h : Own w0 w g p U s) {w2 : World} {x : Value} (hp : PAt w1 g p U' s') (hs : Stay (fun _ => False) w w2) (he : w1 = w2.setCell ⟨g, 2, none⟩ x) (hg : Grown U U' w) : Own w0 w1 g p U' s' ∧ Stay U w w1 := by
  have h1 : Stay U w w1 := by
    rw [he]
    exact (hs.mono (T := U) (fun _ _ h => h.elim)).trans ((at_g w2 g 2 x).mono (fun k _ e => by subst e; exact h.at_.own))
  exact ⟨h.step hp h1 hg, h1⟩

/-- A row that is built lies apart. -/
theorem PAt.free (h : PAt w g p U s) (cs : Array Value) (l : List Int) (n : Nat) (hl : cs.toList = l.map (.int .u8 ·)) (hn : cs.size = n) (hw : ∀ x ∈ l, (Lit.int .u8 x).wf = true) (hm : n ≤ 1000) : Free (w.alloc (.cells cs 5)) U (.slice (some ⟨w.heap.size, 0, none⟩) n n) l :=
  ⟨br_new w cs l n hl hn hw hm, fun _ k hk hu => by
    cases hk
    exact absurd (h.lt _ hu) (Nat.lt_irrefl _)⟩
end

theorem ex_calm : Pq.Calm [104, 105, 13] (freshQ plainT) := by
  refine ⟨⟨?_, ?_⟩, ⟨?_, ?_⟩, ⟨?_, ?_⟩, trivial⟩ <;> decide +kernel
theorem ex_q : (Pq.feed [104, 105, 13] (freshQ plainT)).q = [104, 105, 13, 10] := by decide +kernel
theorem ex_rd : ((Pq.feed [104, 105, 13] (freshQ plainT)).d.rd 99).1 = [104, 105, 10] ∧ ((Pq.feed [104, 105, 13] (freshQ plainT)).d.rd 99).2 = false := by decide +kernel

attribute [local go_sem] eqlG_nil

set_option maxRecDepth 100000 in
set_option maxHeartbeats 2000000 in
theorem awake6 (w : World) : Calls Try.prog 6 #[] w (LawTrue w) := by
  have HPL := hide' (L17.plain13 w)
  have HNW := hide' (fun w' => new7 plainT plain_right w')
  have HS0 := hide' (Stay.refl (fun _ => False) w)
  obtain ⟨t, ht⟩ : ∃ t, t = plainT := ⟨_, rfl⟩
  have HT := hide' ht
  rw [← ht] at HPL HNW
  clear ht
  go_enter Try.func6, Try.ntmps6
  go_wp2_with fail
  refine (HPL.out).mono ?_
  rintro e w1 ⟨rfl, hs⟩
  have HS1 := hide' hs
  clear hs
  go_wp2_with fail
  refine (HNW.out _).mono ?_
  rintro e w2 ⟨g, p, U, rfl, hp, hU, hs⟩
  have HO2 : Hid (Own w w2 g p U (freshQ plainT)) := by rw [HT.out] at hp; exact ⟨hp, HS1.out.trans hs, fun k hk => Nat.le_trans HS1.out.size (hU k hk)⟩
  have HF := hide' (HO2.out.at_.free #[.int .u8 104, .int .u8 105, .int .u8 13] [104, 105, 13] 3 rfl rfl (by decide) (by omega))
  have HO3 := hide' (HO2.out.keep ((Stay.refl _ w2).alloc (.cells #[.int .u8 104, .int .u8 105, .int .u8 13] 5)))
  clear hp hU hs HPL HNW HS1 HO2
  obtain ⟨s1, hs1⟩ : ∃ z, z = Pq.feed [104, 105, 13] (freshQ plainT) := ⟨_, rfl⟩
  have HMW : Hid (Calls Try.prog 8 #[.pointer (some ⟨g, 0, none⟩), .slice (some ⟨w2.heap.size, 0, none⟩) 3 3] (w2.alloc (.cells #[.int .u8 104, .int .u8 105, .int .u8 13] 5)) (TurnQ g p U s1 (.tuple #[.int .i64 3, .slice none 0 0, .int .i64 0]) (w2.alloc (.cells #[.int .u8 104, .int .u8 105, .int .u8 13] 5)))) := by
    rw [hs1]
    exact mwrite8 (N := 0) [104, 105, 13] HO3.out.at_ HF.out rfl (ok_fresh plainT plain_right) (by omega) (by decide) ex_calm rfl
  have HX : Hid (s1.q = [104, 105, 13, 10] ∧ (s1.d.rd 99).1 = [104, 105, 10] ∧ (s1.d.rd 99).2 = false) := by rw [hs1]; exact ⟨ex_q, ex_rd.1, ex_rd.2⟩
  have HOK : Hid (Ok 3 s1.d) := by rw [hs1]; exact feed_ok (N := 0) (s := freshQ plainT) [104, 105, 13] (ok_fresh plainT plain_right)
  clear hs1 HF
  go_wp2_with fail
  refine HMW.out.mono ?_
  rintro e w4 ⟨U4, rfl, hp, hs, hg⟩
  have HO4 := hide' (HO3.out.step hp hs hg)
  have HMR := hide' (mread11 99 hp (by rw [HX.out.1]; decide) (by decide) (by rw [HX.out.1]; simp))
  clear hp hs hg HMW HO3
  go_wp2_with fail
  refine HMR.out.mono ?_
  rintro e w5 ⟨va, w6, x, U5, rfl, hbr, hfr, hs, he, hp, hg⟩
  have HO5 := hide' (HO4.out.read hp hs he hg).1
  have HBA : Hid (Free w5 U5 va [104, 105, 13, 10]) := by
    rw [HX.out.1] at hbr
    exact ⟨hbr, fun _ k hk => (hfr k hk).2⟩
  have HSR := hide' (sread10 99 hp HOK.out (by omega) (by decide) (by decide) HX.out.2.2)
  rw [show (s1.setQ (s1.q.drop (99 : Int).toNat)).d = s1.d from rfl, HX.out.2.1, if_neg (by simp)] at HSR
  clear hbr hfr hs he hp hg HMR HO4
  go_wp2_with fail
  refine HSR.out.mono ?_
  rintro e w7 ⟨vb, U7, rfl, hbr, hp, hs, hg⟩
  have HO7 := hide' (HO5.out.step hp hs hg)
  have HA7 := hide' (HBA.out.step hs hg).br
  have HB7 := hide' hbr
  clear hbr hp hs hg HSR HO5 HBA
  have HSA := hide' (fun w' v (h : Bs w' va [104, 105, 13, 10]) (k : Bs w' v [104, 105, 13, 10]) => sameB va v _ w' h k (by decide))
  have HSB := hide' (fun w' v (h : Bs w' vb [104, 105, 10]) (k : Bs w' v [104, 105, 10]) => sameB vb v _ w' h k (by decide))
  go_wp2_with fail
  refine (HSA.out _ _ (HA7.out.keep ((Stay.refl _ _).alloc _)).bs (br_new w7 #[.int .u8 104, .int .u8 105, .int .u8 13, .int .u8 10] [104, 105, 13, 10] 4 rfl rfl (by decide) (by omega)).bs).mono ?_
  rintro e w9 ⟨rfl, hs⟩
  have HS9 := hide' (((Stay.refl (fun _ => False) w7).alloc (.cells #[.int .u8 104, .int .u8 105, .int .u8 13, .int .u8 10] 5)).trans hs)
  have HB9 := hide' (HB7.out.keep HS9.out)
  clear hs HSA
  go_wp2_with fail
  refine (HSB.out _ _ (HB9.out.keep ((Stay.refl _ _).alloc _)).bs (br_new w9 #[.int .u8 104, .int .u8 105, .int .u8 10] [104, 105, 10] 3 rfl rfl (by decide) (by omega)).bs).mono ?_
  rintro e w10 ⟨rfl, hs⟩
  have HSE := hide' (((HO7.out.stay.trans HS9.out).alloc _).trans hs)
  clear hs
  go_wp2
  go_ret
  exact ⟨rfl, HSE.out⟩


end Go.Proofs.Ytjfhmpjpdcckhaa
