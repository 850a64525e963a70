/-
  The example of the document: walked. No conditions.
-/
import Derived.Test.YtkggmjjjopfdbaaP1
namespace Go.Proofs.Ytkggmjjjopfdbaa
open Go.RowKit
open L17

theorem eqlP_nil (a : Addr) (w : World) : (binOp .eql 27 (.pointer (some a)) (.pointer none)).run Try.prog w = .ok (.bool false) w := by
  simp only [binOp]
  have h : (Op.equal 27 (.pointer (some a)) (.pointer none)).run Try.prog w = .ok false w := by
    show (Op.equalIn (9999 + 1) 27 _ _).run Try.prog w = _
    generalize 9999 = d
    simp [Op.equalIn, run_underlying Try.underlying27]
  simp [h]

theorem plain_right : rightB plainT = true := by decide +kernel

theorem example_fed : (feedD [97, 98, 127, 99, 13] (fresh plainT) [] 0).2.1 = [97, 98, 8, 32, 8, 99, 10] ∧ (feedD [97, 98, 127, 99, 13] (fresh plainT) [] 0).2.2 = 0 ∧ ((feedD [97, 98, 127, 99, 13] (fresh plainT) [] 0).1.rd 9).1 = [97, 99, 10] ∧ ((feedD [97, 98, 127, 99, 13] (fresh plainT) [] 0).1.rd 9).2 = false := by decide +kernel

/-- Within what is new. -/
theorem stay_own {w w1 w2 : World} {O : Nat → Prop} (h : Stay (fun _ => False) w w1) (k : Stay O w1 w2) (hO : ∀ j, O j → w.heap.size ≤ j) : Stay (fun _ => False) w w2 := h.trans2 k (fun j hj e => by have := hO j e; omega)

theorem grown_own {w w1 : World} {O O' : Nat → Prop} (hs : w.heap.size ≤ w1.heap.size) (hO : ∀ j, O j → w.heap.size ≤ j) (h : Grown O O' w1) : ∀ j, O' j → w.heap.size ≤ j := fun j hj => by
  rcases h j hj with e | e
  · exact hO j e
  · omega

attribute [local go_sem] eqlP_nil

section
variable {At : World → Nat → (Nat → Prop) → DS → Prop}

set_option maxRecDepth 100000 in
set_option maxHeartbeats 1000000 in
theorem awake_walk (HI : Impl At) (w : World) : Calls Try.prog 9 #[] w (LawTrue w) := by
  have HIM := hide' HI
  have HPL := hide' L17.plain26
  have HNW := hide' (fun w => HI.new plainT w plain_right)
  obtain ⟨t, ht⟩ : ∃ t, t = plainT := ⟨_, rfl⟩
  have HT := hide' ht
  rw [← ht] at HPL HNW
  clear HI ht
  go_enter Try.func9, Try.ntmps9
  go_wp2_with fail
  refine (HPL.out _).mono ?_
  rintro e w1 ⟨rfl, hs⟩
  have HS1 := hide' hs
  clear hs
  go_wp2_with fail
  refine (HNW.out _).mono ?_
  rintro e w2 ⟨p, O, rfl, hat, hO, hs⟩
  have HA2 := hide' hat
  have HO2 : Hid (∀ k, O k → w.heap.size ≤ k) := fun k hk => Nat.le_trans HS1.out.size (hO k hk)
  have HS2 := hide' (HS1.out.trans hs)
  clear hat hO hs HS1 HPL HNW
  have HBR := hide' (Acc.new w2 #[.int .u8 97, .int .u8 98, .int .u8 127, .int .u8 99, .int .u8 13] [97, 98, 127, 99, 13] 5 rfl rfl (by decide) (by omega))
  have HA3 := hide' (HIM.out.keep HA2.out ((Stay.refl (fun _ => False) w2).alloc (.cells #[.int .u8 97, .int .u8 98, .int .u8 127, .int .u8 99, .int .u8 13] 5)) (fun _ h => h.elim))
  have HFE := hide' (feed_walk HIM.out p O (fresh t) 0 _ [97, 98, 127, 99, 13] _ HA3.out (by rw [HT.out]; exact ok_fresh _ plain_right) (by decide) (by decide) (by
    obtain ⟨a, c, h1, h2⟩ := owned_arg HBR.out.own HBR.out.wf
    refine ⟨a, c, h1, fun _ ad e => ?_⟩
    have hs := h1.shape
    have ea : a = some ⟨w2.heap.size, 0, none⟩ := by injection hs with e1 _ _; exact e1.symm
    rw [ea] at e
    cases e
    intro ho
    have := HIM.out.lt HA2.out _ ho
    have h9 : w2.heap.size < w2.heap.size := this
    omega))
  have HS3 := hide' (HS2.out.alloc (.cells #[.int .u8 97, .int .u8 98, .int .u8 127, .int .u8 99, .int .u8 13] 5))
  go_wp2_with fail
  refine HFE.out.mono ?_
  rintro e w4 ⟨v4, O4, rfl, hm, hfr, hat, hs, hg⟩
  have HOK : Hid (Ok 5 (feedD [97, 98, 127, 99, 13] (fresh t) [] 0).1) := by rw [HT.out]; exact feed_ok [97, 98, 127, 99, 13] [] 0 (ok_fresh _ plain_right)
  obtain ⟨e1, e2, e3, e4⟩ := example_fed
  rw [← HT.out] at e1 e2 e3 e4
  rw [e1] at hm
  rw [e2]
  obtain ⟨d4, hd4⟩ : ∃ x, x = (feedD [97, 98, 127, 99, 13] (fresh t) [] 0).1 := ⟨_, rfl⟩
  rw [← hd4] at hat e3 e4 HOK
  have HM4 := hide' hm
  have HA4 := hide' hat
  have HS4 := hide' (stay_own HS3.out hs HO2.out)
  have HO4 := hide' (grown_own HS3.out.size HO2.out hg)
  have HE34 := hide' (And.intro e3 e4)
  have HFR4 := hide' hfr
  obtain ⟨a4, n4, c4, e4'⟩ := hm.form
  subst e4'
  clear hm hat hs hg e1 e2 e3 e4 hd4 hfr HFE HS3 HA3 HBR HS2 HA2
  go_wp2_with fail
  refine (HIM.out.read 9 HA4.out HOK.out (by decide) (by decide)).mono ?_
  rintro e w5 ⟨v5, O5, rfl, hb, hat, hs, hg⟩
  rw [HE34.out.1] at hb
  rw [HE34.out.2]
  have HB5 := hide' hb
  have HS5 := hide' (stay_own HS4.out hs HO4.out)
  have HM5 := hide' (HM4.out.stay hs HFR4.out)
  obtain ⟨a5, c5, e5⟩ := hb.shape
  simp only [List.length_cons, List.length_nil] at e5
  subst e5
  clear hb hat hs hg HA4 HM4 HS4
  go_wp2_with fail
  have HX6 := hide' (br_new w5 #[.int .u8 97, .int .u8 98, .int .u8 8, .int .u8 32, .int .u8 8, .int .u8 99, .int .u8 10] [97, 98, 8, 32, 8, 99, 10] 7 rfl rfl (by decide) (by omega))
  have HST6 := hide' ((Stay.refl (fun _ => False) w5).alloc (.cells #[.int .u8 97, .int .u8 98, .int .u8 8, .int .u8 32, .int .u8 8, .int .u8 99, .int .u8 10] 5))
  refine (sameB _ _ [97, 98, 8, 32, 8, 99, 10] _ (HM5.out.br.keep HST6.out).bs HX6.out.bs (by decide)).mono ?_
  rintro e w6 ⟨rfl, hs⟩
  have HS6 := hide' ((HS5.out.trans HST6.out).trans hs)
  have HB6 := hide' ((HB5.out.keep HST6.out).keep hs)
  clear hs
  go_wp2_with fail
  have HX7 := hide' (br_new w6 #[.int .u8 97, .int .u8 99, .int .u8 10] [97, 99, 10] 3 rfl rfl (by decide) (by omega))
  have HST7 := hide' ((Stay.refl (fun _ => False) w6).alloc (.cells #[.int .u8 97, .int .u8 99, .int .u8 10] 5))
  refine (sameB _ _ [97, 99, 10] _ (HB6.out.keep HST7.out).bs HX7.out.bs (by decide)).mono ?_
  rintro e w7 ⟨rfl, hs⟩
  have HS7 := hide' ((HS6.out.trans HST7.out).trans hs)
  clear hs
  go_wp2
  go_ret
  exact ⟨by simp, HS7.out⟩
end

end Go.Proofs.Ytkggmjjjopfdbaa
