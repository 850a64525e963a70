/-
  LdiscPlays walked: true of any setting and any acts. No conditions.
-/
import Derived.Test.YtkggmjjjopfdbaaP8
import Derived.Test.YtkggmjjjopfdbaaP5
import Derived.Test.YtkggmjjjopfdbaaL17C2
import Derived.Deep.CutBlock
import Derived.Deep.MidRow
namespace Go.Proofs.Ytkggmjjjopfdbaa
open Go.RowKit
open L17

theorem eqlP_nils (w : World) : (binOp .eql 27 (.pointer none) (.pointer none)).run Try.prog w = .ok (.bool true) w := by
  simp only [binOp]
  have h : (Op.equal 27 (.pointer none) (.pointer none)).run Try.prog w = .ok true w := by
    show (Op.equalIn (9999 + 1) 27 _ _).run Try.prog w = _
    generalize 9999 = d
    simp [Op.equalIn, run_underlying Try.underlying27]
  simp [h]

theorem neqP_nil (a : Addr) (w : World) : (binOp .neq 27 (.pointer (some a)) (.pointer none)).run Try.prog w = .ok (.bool true) w := by
  simp only [binOp]
  have h : (Op.equal 27 (.pointer (some a)) (.pointer none)).run Try.prog w = .ok false w := by
    show (Op.equalIn (9999 + 1) 27 _ _).run Try.prog w = _
    generalize 9999 = d
    simp [Op.equalIn, run_underlying Try.underlying27]
  simp [h]

theorem neqP_nils (w : World) : (binOp .neq 27 (.pointer none) (.pointer none)).run Try.prog w = .ok (.bool false) w := by
  simp only [binOp]
  have h : (Op.equal 27 (.pointer none) (.pointer none)).run Try.prog w = .ok true w := by
    show (Op.equalIn (9999 + 1) 27 _ _).run Try.prog w = _
    generalize 9999 = d
    simp [Op.equalIn, run_underlying Try.underlying27]
  simp [h]

attribute [local go_sem] eqlP_nil eqlP_nils neqP_nil neqP_nils

/-- A setting in a box, its parts unseen. -/
def ABx (w : World) (b : Nat) (A : Array Value) (w' : World) : Prop := Stay (fun _ => False) w w' ∧ ∃ r : Tm, A = #[.int .i64 r.fi, .int .i64 r.fo, .int .i64 r.fl, .int .i64 r.k0, .int .i64 r.k1, .int .i64 r.k2, .int .i64 r.k3, .int .i64 r.k4, .int .i64 r.k5, .int .i64 r.k6, .int .i64 r.k7, .int .i64 r.k8, .int .i64 r.k9, .int .i64 r.k10, .int .i64 r.k11, .int .i64 r.mn, .int .i64 r.ti] ∧ L17.TBox w' b r

theorem ABx.keep {w W w1 : World} {b : Nat} {A : Array Value} (h : ABx w b A W) (hs : Stay (fun _ => False) W w1) : ABx w b A w1 := by
  obtain ⟨h1, r, e, h2⟩ := h
  exact ⟨h1.trans hs, r, e, h2.keep hs⟩

theorem load_A {a : Act} {o : Oper} {x : Operand} {w : World} {b : Nat} {A : Array Value} (ho : o.op = .load 24 x) (hx : a.eval x = .pointer (some ⟨b, 0, none⟩)) (hb : ∃ r : Tm, A = #[.int .i64 r.fi, .int .i64 r.fo, .int .i64 r.fl, .int .i64 r.k0, .int .i64 r.k1, .int .i64 r.k2, .int .i64 r.k3, .int .i64 r.k4, .int .i64 r.k5, .int .i64 r.k6, .int .i64 r.k7, .int .i64 r.k8, .int .i64 r.k9, .int .i64 r.k10, .int .i64 r.k11, .int .i64 r.mn, .int .i64 r.ti] ∧ L17.TBox w b r) :
    (execOp a.eval o).run Try.prog w = .ok (.value (.agg A)) w := by
  obtain ⟨r, rfl, hb⟩ := hb
  exact L17.run_load_TBox ho hx hb

def zA : Ac := ⟨0, 0, .slice none 0 0, 0, 0, 0, 0, 0, 0, 0, 0, 0, 0, 0, 0, 0, 0, 0, 0, 0⟩

theorem ABox.there20 {w : World} {b : Nat} {r : Ac} (h : ABox w b r) : w.there b 0 20 := by
  intro j hj
  have : j = 0 ∨ j = 1 ∨ j = 2 ∨ j = 3 ∨ j = 4 ∨ j = 5 ∨ j = 6 ∨ j = 7 ∨ j = 8 ∨ j = 9 ∨ j = 10 ∨ j = 11 ∨ j = 12 ∨ j = 13 ∨ j = 14 ∨ j = 15 ∨ j = 16 ∨ j = 17 ∨ j = 18 ∨ j = 19 := by omega
  rcases this with rfl | rfl | rfl | rfl | rfl | rfl | rfl | rfl | rfl | rfl | rfl | rfl | rfl | rfl | rfl | rfl | rfl | rfl | rfl | rfl
  · exact ⟨Option.isSome_iff_exists.2 ⟨_, h.c0⟩, h.f0⟩
  · exact ⟨Option.isSome_iff_exists.2 ⟨_, h.c1⟩, h.f1⟩
  · exact ⟨Option.isSome_iff_exists.2 ⟨_, h.c2⟩, h.f2⟩
  · exact ⟨Option.isSome_iff_exists.2 ⟨_, h.c3⟩, h.f3⟩
  · exact ⟨Option.isSome_iff_exists.2 ⟨_, h.c4⟩, h.f4⟩
  · exact ⟨Option.isSome_iff_exists.2 ⟨_, h.c5⟩, h.f5⟩
  · exact ⟨Option.isSome_iff_exists.2 ⟨_, h.c6⟩, h.f6⟩
  · exact ⟨Option.isSome_iff_exists.2 ⟨_, h.c7⟩, h.f7⟩
  · exact ⟨Option.isSome_iff_exists.2 ⟨_, h.c8⟩, h.f8⟩
  · exact ⟨Option.isSome_iff_exists.2 ⟨_, h.c9⟩, h.f9⟩
  · exact ⟨Option.isSome_iff_exists.2 ⟨_, h.c10⟩, h.f10⟩
  · exact ⟨Option.isSome_iff_exists.2 ⟨_, h.c11⟩, h.f11⟩
  · exact ⟨Option.isSome_iff_exists.2 ⟨_, h.c12⟩, h.f12⟩
  · exact ⟨Option.isSome_iff_exists.2 ⟨_, h.c13⟩, h.f13⟩
  · exact ⟨Option.isSome_iff_exists.2 ⟨_, h.c14⟩, h.f14⟩
  · exact ⟨Option.isSome_iff_exists.2 ⟨_, h.c15⟩, h.f15⟩
  · exact ⟨Option.isSome_iff_exists.2 ⟨_, h.c16⟩, h.f16⟩
  · exact ⟨Option.isSome_iff_exists.2 ⟨_, h.c17⟩, h.f17⟩
  · exact ⟨Option.isSome_iff_exists.2 ⟨_, h.c18⟩, h.f18⟩
  · exact ⟨Option.isSome_iff_exists.2 ⟨_, h.c19⟩, h.f19⟩

theorem set_allA (w : World) (b : Nat) (q : Ac) : w.setCells b 0 (#[.int .i64 q.dn, .int .i64 q.nn, q.bs, .int .i64 q.fi, .int .i64 q.fo, .int .i64 q.fl, .int .i64 q.k0, .int .i64 q.k1, .int .i64 q.k2, .int .i64 q.k3, .int .i64 q.k4, .int .i64 q.k5, .int .i64 q.k6, .int .i64 q.k7, .int .i64 q.k8, .int .i64 q.k9, .int .i64 q.k10, .int .i64 q.k11, .int .i64 q.mn, .int .i64 q.ti] : Array Value).toList = ((((((((((((((((((((w.setCell ⟨b, 0, none⟩ (.int .i64 q.dn)).setCell ⟨b, 1, none⟩ (.int .i64 q.nn)).setCell ⟨b, 2, none⟩ (q.bs)).setCell ⟨b, 3, none⟩ (.int .i64 q.fi)).setCell ⟨b, 4, none⟩ (.int .i64 q.fo)).setCell ⟨b, 5, none⟩ (.int .i64 q.fl)).setCell ⟨b, 6, none⟩ (.int .i64 q.k0)).setCell ⟨b, 7, none⟩ (.int .i64 q.k1)).setCell ⟨b, 8, none⟩ (.int .i64 q.k2)).setCell ⟨b, 9, none⟩ (.int .i64 q.k3)).setCell ⟨b, 10, none⟩ (.int .i64 q.k4)).setCell ⟨b, 11, none⟩ (.int .i64 q.k5)).setCell ⟨b, 12, none⟩ (.int .i64 q.k6)).setCell ⟨b, 13, none⟩ (.int .i64 q.k7)).setCell ⟨b, 14, none⟩ (.int .i64 q.k8)).setCell ⟨b, 15, none⟩ (.int .i64 q.k9)).setCell ⟨b, 16, none⟩ (.int .i64 q.k10)).setCell ⟨b, 17, none⟩ (.int .i64 q.k11)).setCell ⟨b, 18, none⟩ (.int .i64 q.mn)).setCell ⟨b, 19, none⟩ (.int .i64 q.ti)) := rfl

theorem ABox.all {w : World} {b : Nat} {r0 : Ac} (h : ABox w b r0) (q : Ac) : ABox (w.setCells b 0 (#[.int .i64 q.dn, .int .i64 q.nn, q.bs, .int .i64 q.fi, .int .i64 q.fo, .int .i64 q.fl, .int .i64 q.k0, .int .i64 q.k1, .int .i64 q.k2, .int .i64 q.k3, .int .i64 q.k4, .int .i64 q.k5, .int .i64 q.k6, .int .i64 q.k7, .int .i64 q.k8, .int .i64 q.k9, .int .i64 q.k10, .int .i64 q.k11, .int .i64 q.mn, .int .i64 q.ti] : Array Value).toList) b q := by
  rw [set_allA]; exact h.put q

theorem ABox.stay_all {S : Nat → Prop} {w w1 : World} {b : Nat} (h : Stay S w w1) (hb : w.heap.size ≤ b) (q : Ac) : Stay S w (w1.setCells b 0 (#[.int .i64 q.dn, .int .i64 q.nn, q.bs, .int .i64 q.fi, .int .i64 q.fo, .int .i64 q.fl, .int .i64 q.k0, .int .i64 q.k1, .int .i64 q.k2, .int .i64 q.k3, .int .i64 q.k4, .int .i64 q.k5, .int .i64 q.k6, .int .i64 q.k7, .int .i64 q.k8, .int .i64 q.k9, .int .i64 q.k10, .int .i64 q.k11, .int .i64 q.mn, .int .i64 q.ti] : Array Value).toList) := by
  rw [set_allA]; exact ABox.stay_put h hb _ _ _ _ _ _ _ _ _ _ _ _ _ _ _ _ _ _ _ _

def r0 (t : Tm) : Rr := ⟨t.fi, t.fo, t.fl, t.k0, t.k1, t.k2, t.k3, t.k4, t.k5, t.k6, t.k7, t.k8, t.k9, t.k10, t.k11, t.mn, t.ti, .slice none 0 0, .slice none 0 0, .slice none 0 0, false, false, .slice none 0 0⟩

theorem rd_len {N : Nat} {d : DS} (h : Ok N d) (n : Int) : (d.rd n).1.length ≤ 1279 := by
  unfold DS.rd
  split
  · simp
  · split
    · show (d.raw.take n.toNat).length ≤ 1279
      rw [List.length_take]; have := h.raw; omega
    · split
      · simp
      · rename_i l r hl
        have hf := h.flat
        rw [hl, List.flatten_cons, List.length_append] at hf
        show (l.take n.toNat).length ≤ 1279
        rw [List.length_take]; omega

section
variable {At : World → Nat → (Nat → Prop) → DS → Prop}

set_option maxRecDepth 100000 in
set_option maxHeartbeats 1000000 in
theorem plays_wrong (HI : Impl At) (t : Tm) (ad : Option Addr) (n ca : Nat) (w : World) (ha : n ≤ 30) (ht : rightB t = false) : Calls Try.prog 3 #[.agg #[.int .i64 t.fi, .int .i64 t.fo, .int .i64 t.fl, .int .i64 t.k0, .int .i64 t.k1, .int .i64 t.k2, .int .i64 t.k3, .int .i64 t.k4, .int .i64 t.k5, .int .i64 t.k6, .int .i64 t.k7, .int .i64 t.k8, .int .i64 t.k9, .int .i64 t.k10, .int .i64 t.k11, .int .i64 t.mn, .int .i64 t.ti], .slice ad n ca] w (LawTrue w) := by
  have HAW := hide' (fun w => awake_walk HI w)
  have HNW := hide' (fun w => HI.newNil t w ht)
  have HRT := hide' (L17.right11 t)
  rw [ht] at HRT
  have HST : Hid (ABx w w.heap.size #[.int .i64 t.fi, .int .i64 t.fo, .int .i64 t.fl, .int .i64 t.k0, .int .i64 t.k1, .int .i64 t.k2, .int .i64 t.k3, .int .i64 t.k4, .int .i64 t.k5, .int .i64 t.k6, .int .i64 t.k7, .int .i64 t.k8, .int .i64 t.k9, .int .i64 t.k10, .int .i64 t.k11, .int .i64 t.mn, .int .i64 t.ti] (w.alloc (.cells #[.int .i64 t.fi, .int .i64 t.fo, .int .i64 t.fl, .int .i64 t.k0, .int .i64 t.k1, .int .i64 t.k2, .int .i64 t.k3, .int .i64 t.k4, .int .i64 t.k5, .int .i64 t.k6, .int .i64 t.k7, .int .i64 t.k8, .int .i64 t.k9, .int .i64 t.k10, .int .i64 t.k11, .int .i64 t.mn, .int .i64 t.ti] 24))) := ⟨(Stay.refl _ _).alloc _, t, rfl, L17.TBox.new t rfl⟩
  have k1 : decide ((30 : Int) < n) = false := by simp; omega
  clear HI ht
  go_enter Try.func3, Try.ntmps3
  go_upto_region 1 with fail
  obtain ⟨W, hW⟩ : ∃ W, W = w.alloc (.cells #[.int .i64 t.fi, .int .i64 t.fo, .int .i64 t.fl, .int .i64 t.k0, .int .i64 t.k1, .int .i64 t.k2, .int .i64 t.k3, .int .i64 t.k4, .int .i64 t.k5, .int .i64 t.k6, .int .i64 t.k7, .int .i64 t.k8, .int .i64 t.k9, .int .i64 t.k10, .int .i64 t.k11, .int .i64 t.mn, .int .i64 t.ti] 24) := ⟨_, rfl⟩
  obtain ⟨b, hb⟩ : ∃ b, b = w.heap.size := ⟨_, rfl⟩
  rw [← hW, ← hb] at HST
  rw [← hW, ← hb]
  obtain ⟨A, hA⟩ : ∃ A : Array Value, A = #[.int .i64 t.fi, .int .i64 t.fo, .int .i64 t.fl, .int .i64 t.k0, .int .i64 t.k1, .int .i64 t.k2, .int .i64 t.k3, .int .i64 t.k4, .int .i64 t.k5, .int .i64 t.k6, .int .i64 t.k7, .int .i64 t.k8, .int .i64 t.k9, .int .i64 t.k10, .int .i64 t.k11, .int .i64 t.mn, .int .i64 t.ti] := ⟨_, rfl⟩
  rw [← hA] at HST HNW HRT ⊢
  clear hA hW hb
  go_wp2_with (refine wpList_exec rfl (load_A rfl rfl HST.out.2) ?_)
  refine (HNW.out _).mono ?_
  rintro e w1 ⟨rfl, hs⟩
  have HST1 := hide' (HST.out.keep hs)
  clear hs HST
  go_wp2_with (refine wpList_exec rfl (load_A rfl rfl HST1.out.2) ?_)
  refine (HRT.out _).mono ?_
  rintro e w2 ⟨rfl, hs⟩
  have HST2 := hide' (HST1.out.keep hs)
  clear hs HST1
  go_wp2_with fail
  refine (HAW.out _).mono ?_
  rintro e w3 ⟨rfl, hs⟩
  have HST3 := hide' (HST2.out.keep hs)
  clear hs
  go_wp2
  go_ret
  exact ⟨by simp, HST3.out.1⟩

set_option maxRecDepth 100000 in
set_option maxHeartbeats 2000000 in
theorem plays_walk (HI : Impl At) (HI2 : Impl2 At) (t : Tm) (ad : Option Addr) (n ca : Nat) (F : Nat → Ac) (BB : Nat → List Int) (w : World) (ha : n ≤ 30) (ht : rightB t = true) (hA : AArg w ad n F BB) : Calls Try.prog 3 #[.agg #[.int .i64 t.fi, .int .i64 t.fo, .int .i64 t.fl, .int .i64 t.k0, .int .i64 t.k1, .int .i64 t.k2, .int .i64 t.k3, .int .i64 t.k4, .int .i64 t.k5, .int .i64 t.k6, .int .i64 t.k7, .int .i64 t.k8, .int .i64 t.k9, .int .i64 t.k10, .int .i64 t.k11, .int .i64 t.mn, .int .i64 t.ti], .slice ad n ca] w (LawTrue w) := by
  have HAW := hide' (fun w => awake_walk HI w)
  have HIM := hide' HI
  have HIM2 := hide' HI2
  have HNW := hide' (fun w => HI.new t w ht)
  have HRT := hide' (L17.right11 t)
  rw [ht] at HRT
  have HTR := hide' ht
  have HAA := hide' hA
  have HTB := hide' (fun (w : World) => L17.TBox.new (w := w) t rfl)
  have HS0 := hide' ((Stay.refl (fun _ => False) w).alloc (.cells #[.int .i64 t.fi, .int .i64 t.fo, .int .i64 t.fl, .int .i64 t.k0, .int .i64 t.k1, .int .i64 t.k2, .int .i64 t.k3, .int .i64 t.k4, .int .i64 t.k5, .int .i64 t.k6, .int .i64 t.k7, .int .i64 t.k8, .int .i64 t.k9, .int .i64 t.k10, .int .i64 t.k11, .int .i64 t.mn, .int .i64 t.ti] 24))
  have HRN := hide' (fun (w : World) => RBox.new (w := w) (r0 t) rfl)
  have k1 : decide ((30 : Int) < n) = false := by simp; omega
  clear HI HI2 ht hA
  go_enter Try.func3, Try.ntmps3
  go_upto_region 1 with fail
  have HB0 := hide' (HTB.out w)
  obtain ⟨wz, hwz⟩ : ∃ W, W = w.alloc (.cells #[.int .i64 t.fi, .int .i64 t.fo, .int .i64 t.fl, .int .i64 t.k0, .int .i64 t.k1, .int .i64 t.k2, .int .i64 t.k3, .int .i64 t.k4, .int .i64 t.k5, .int .i64 t.k6, .int .i64 t.k7, .int .i64 t.k8, .int .i64 t.k9, .int .i64 t.k10, .int .i64 t.k11, .int .i64 t.mn, .int .i64 t.ti] 24) := ⟨_, rfl⟩
  obtain ⟨bt, hbt⟩ : ∃ b, b = w.heap.size := ⟨_, rfl⟩
  rw [← hwz] at HB0 HS0 ⊢
  rw [← hbt] at HB0 ⊢
  clear hwz hbt HTB
  go_wp2_with (refine wpList_exec rfl (L17.run_load_TBox rfl rfl HB0.out) ?_)
  refine (HNW.out _).mono ?_
  rintro e w1 ⟨p, O, rfl, hat, hO, hs⟩
  have HA1 := hide' hat
  have HF1 := hide' (From.made (HS0.out.trans hs) (fun k hk => Nat.le_trans HS0.out.size (hO k hk)))
  have HB1 := hide' (HB0.out.keep hs)
  clear hat hO hs HB0 HS0 HNW
  go_wp2_with (refine wpList_exec rfl (L17.run_load_TBox rfl rfl HB1.out) ?_)
  refine (HRT.out _).mono ?_
  rintro e w2 ⟨rfl, hs⟩
  have HA2 := hide' (HIM.out.keep HA1.out hs (fun _ h => h.elim))
  have HF2 := hide' (HF1.out.calm hs)
  have HB2 := hide' (HB1.out.keep hs)
  clear hs HA1 HF1 HB1 HRT
  go_upto_region 9 with (refine wpList_exec rfl (L17.run_load_TBox rfl rfl HB2.out) ?_)
  have HR3 := hide' (HRN.out w2)
  have HBT : Hid (Bt At (w2.alloc (.cells #[.int .i64 t.fi, .int .i64 t.fo, .int .i64 t.fl, .int .i64 t.k0, .int .i64 t.k1, .int .i64 t.k2, .int .i64 t.k3, .int .i64 t.k4, .int .i64 t.k5, .int .i64 t.k6, .int .i64 t.k7, .int .i64 t.k8, .int .i64 t.k9, .int .i64 t.k10, .int .i64 t.k11, .int .i64 t.mn, .int .i64 t.ti, .slice none 0 0, .slice none 0 0, .slice none 0 0, .bool false, .bool false, .slice none 0 0] 34)) p w2.heap.size O (fresh t) (fresh t)) := by
    have hlt := HIM.out.lt HA2.out
    refine ⟨HIM.out.keep HA2.out ((Stay.refl (fun _ => False) w2).alloc _) (fun _ h => h.elim), ⟨r0 t, HR3.out, fun k hk => ?_, rfl, BRow.nil _ _, LRow.nil _ _, BRow.nil _ _, rfl, rfl, BRow.nil _ _⟩, fun e => by have := hlt _ e; omega⟩
    rcases hk with hk | hk
    · have := hlt k hk; simp; omega
    · have hk : k = w2.heap.size := hk
      rw [hk]; simp
  have HF3 : Hid (From w (fun _ => False) (w2.alloc (.cells #[.int .i64 t.fi, .int .i64 t.fo, .int .i64 t.fl, .int .i64 t.k0, .int .i64 t.k1, .int .i64 t.k2, .int .i64 t.k3, .int .i64 t.k4, .int .i64 t.k5, .int .i64 t.k6, .int .i64 t.k7, .int .i64 t.k8, .int .i64 t.k9, .int .i64 t.k10, .int .i64 t.k11, .int .i64 t.mn, .int .i64 t.ti, .slice none 0 0, .slice none 0 0, .slice none 0 0, .bool false, .bool false, .slice none 0 0] 34)) (Xo O w2.heap.size)) := ⟨HF2.out.stay.alloc _, fun k hk => by
    rcases hk with hk | hk
    · exact HF2.out.own k hk
    · right; rw [hk]; exact HF2.out.stay.size⟩
  obtain ⟨b6, hb6⟩ : ∃ b, b = w2.heap.size := ⟨_, rfl⟩
  obtain ⟨w3, hw3⟩ : ∃ W, W = w2.alloc (.cells #[.int .i64 t.fi, .int .i64 t.fo, .int .i64 t.fl, .int .i64 t.k0, .int .i64 t.k1, .int .i64 t.k2, .int .i64 t.k3, .int .i64 t.k4, .int .i64 t.k5, .int .i64 t.k6, .int .i64 t.k7, .int .i64 t.k8, .int .i64 t.k9, .int .i64 t.k10, .int .i64 t.k11, .int .i64 t.mn, .int .i64 t.ti, .slice none 0 0, .slice none 0 0, .slice none 0 0, .bool false, .bool false, .slice none 0 0] 34) := ⟨_, rfl⟩
  rw [← hw3, ← hb6] at HBT HF3
  rw [← hw3, ← hb6]
  have HOK := hide' (ok_fresh t HTR.out)
  clear hw3 hb6 HR3 HA2 HF2 HB2 HRN
  obtain ⟨df, hdf⟩ : ∃ d, d = fresh t := ⟨_, rfl⟩
  rw [← hdf] at HBT HOK
  clear hdf HTR
  go_cut [5, 6, 7] from 2 to 35 (fun s5 s6 s7 wx => s5 = .pointer (some ⟨p, 0, none⟩) ∧ s6 = .pointer (some ⟨b6, 0, none⟩) ∧ s7 = .int .i64 0 ∧ Hid (Bt At wx p b6 O df df ∧ From w (fun _ => False) wx (Xo O b6)))
  case first =>
    go_wp2
    go_meet
    exact ⟨rfl, rfl, rfl, HBT.out, HF3.out⟩
  case rest =>
    obtain ⟨rfl, rfl, rfl, HC⟩ := hcut
    clear HBT HF3
    obtain ⟨tv, htv⟩ : ∃ v, v = Value.agg #[.int .i64 t.fi, .int .i64 t.fo, .int .i64 t.fl, .int .i64 t.k0, .int .i64 t.k1, .int .i64 t.k2, .int .i64 t.k3, .int .i64 t.k4, .int .i64 t.k5, .int .i64 t.k6, .int .i64 t.k7, .int .i64 t.k8, .int .i64 t.k9, .int .i64 t.k10, .int .i64 t.k11, .int .i64 t.mn, .int .i64 t.ti] := ⟨_, rfl⟩
    rw [← htv]
    clear htv
    go_wp2
    go_loopg [7] n (fun gg v7 wr => ∃ i : Nat, i ≤ n ∧ gg = n - i ∧ v7 = .int .i64 (i : Int) ∧ ∃ (O' : Nat → Prop) (d : DS), Hid (Bt At wr p b6 O' d d ∧ From w (fun _ => False) wr (Xo O' b6) ∧ Ok (60 * i) d))
    case atStart => exact ⟨0, Nat.zero_le _, rfl, rfl, O, df, HC.out.1, HC.out.2, HOK.out⟩
    case round =>
      clear HC HOK
      obtain ⟨i, hi, rfl, rfl, O', d, HRL⟩ := hrel
      obtain ⟨w4, hw4⟩ : ∃ W, W = wr := ⟨_, rfl⟩
      rw [← hw4] at HRL ⊢
      clear hw4
      by_cases hlt : i < n
      · have kn : decide ((i : Int) < n) = true := by simp; omega
        have kn2 : (i : Int) < n := by omega
        obtain ⟨g9, o9, a9, c9, ea, hab, hbs, hIA, hn0, hn1⟩ := HAA.out i hlt
        subst ea
        have HIA0 := hide' hIA
        have HAB := hide' (hab.keep HRL.out.2.1.stay)
        have HIA := hide' (hIA.stay0 HRL.out.2.1.stay)
        have HNR := hide' (And.intro hn0 hn1)
        obtain ⟨r, hr⟩ : ∃ r, r = F i := ⟨_, rfl⟩
        obtain ⟨l, hl⟩ : ∃ l, l = BB i := ⟨_, rfl⟩
        rw [← hr] at HAB hbs HNR
        rw [← hl] at HIA hbs
        have HBL := hide' hl
        obtain ⟨m, hm⟩ : ∃ m, m = l.length := ⟨_, rfl⟩
        rw [← hm] at HIA hbs
        have HM := hide' hm
        have HIW : Hid (IArg .u8 w (.slice a9 m c9) l a9 c9) := by have h := HIA0.out; rw [← HBL.out, ← HM.out] at h; exact h
        have HBS := hide' hbs
        clear HIA0
        have hmx : (m : Int) ≤ 9223372036854775807 := by have := hIA.lenLe; have := hIA.capLe; unfold maxLen at this; rw [← hl, ← hm] at *; omega
        clear hab hIA hr hl hm hn0 hn1 HIA
        have HNB := hide' (fun (w : World) => ABox.new (w := w) r rfl)
        go_upto_region 12 with fail
        go_cut [8] (fun s8 wx => ∃ b8 : Nat, s8 = .pointer (some ⟨b8, 0, none⟩) ∧ Hid (ABox wx b8 r ∧ Bt At wx p b6 O' d d ∧ From w (fun _ => False) wx (Xo O' b6) ∧ ¬ Xo O' b6 b8))
        case first =>
          have HZ : Hid (ABox (w4.alloc (.cells #[.int .i64 0, .int .i64 0, .slice none 0 0, .int .i64 0, .int .i64 0, .int .i64 0, .int .i64 0, .int .i64 0, .int .i64 0, .int .i64 0, .int .i64 0, .int .i64 0, .int .i64 0, .int .i64 0, .int .i64 0, .int .i64 0, .int .i64 0, .int .i64 0, .int .i64 0, .int .i64 0] 36)) w4.heap.size zA) := ABox.new zA rfl
          have HZT := hide' HZ.out.there20
          have HST := hide' (ABox.stay_all ((Stay.refl (fun _ => False) w4).alloc (.cells #[.int .i64 0, .int .i64 0, .slice none 0 0, .int .i64 0, .int .i64 0, .int .i64 0, .int .i64 0, .int .i64 0, .int .i64 0, .int .i64 0, .int .i64 0, .int .i64 0, .int .i64 0, .int .i64 0, .int .i64 0, .int .i64 0, .int .i64 0, .int .i64 0, .int .i64 0, .int .i64 0] 36)) (Nat.le_refl _) r)
          have HZA := hide' (HZ.out.all r)
          rw [HBS.out] at HST
          have HZA2 : Hid (ABox ((w4.alloc (.cells #[.int .i64 0, .int .i64 0, .slice none 0 0, .int .i64 0, .int .i64 0, .int .i64 0, .int .i64 0, .int .i64 0, .int .i64 0, .int .i64 0, .int .i64 0, .int .i64 0, .int .i64 0, .int .i64 0, .int .i64 0, .int .i64 0, .int .i64 0, .int .i64 0, .int .i64 0, .int .i64 0] 36)).setCells w4.heap.size 0 (#[.int .i64 r.dn, .int .i64 r.nn, .slice a9 m c9, .int .i64 r.fi, .int .i64 r.fo, .int .i64 r.fl, .int .i64 r.k0, .int .i64 r.k1, .int .i64 r.k2, .int .i64 r.k3, .int .i64 r.k4, .int .i64 r.k5, .int .i64 r.k6, .int .i64 r.k7, .int .i64 r.k8, .int .i64 r.k9, .int .i64 r.k10, .int .i64 r.k11, .int .i64 r.mn, .int .i64 r.ti] : Array Value).toList) w4.heap.size r) := by have h := HZA.out; rw [HBS.out] at h; exact h
          clear HZA HZ
          obtain ⟨wq, hwq⟩ : ∃ W, W = (w4.alloc (.cells #[.int .i64 0, .int .i64 0, .slice none 0 0, .int .i64 0, .int .i64 0, .int .i64 0, .int .i64 0, .int .i64 0, .int .i64 0, .int .i64 0, .int .i64 0, .int .i64 0, .int .i64 0, .int .i64 0, .int .i64 0, .int .i64 0, .int .i64 0, .int .i64 0, .int .i64 0, .int .i64 0] 36)).setCells w4.heap.size 0 (#[.int .i64 r.dn, .int .i64 r.nn, .slice a9 m c9, .int .i64 r.fi, .int .i64 r.fo, .int .i64 r.fl, .int .i64 r.k0, .int .i64 r.k1, .int .i64 r.k2, .int .i64 r.k3, .int .i64 r.k4, .int .i64 r.k5, .int .i64 r.k6, .int .i64 r.k7, .int .i64 r.k8, .int .i64 r.k9, .int .i64 r.k10, .int .i64 r.k11, .int .i64 r.mn, .int .i64 r.ti] : Array Value).toList := ⟨_, rfl⟩
          rw [← hwq] at HST HZA2
          go_wp2_with (first
            | refine wpList_exec rfl (run_load_ABoxAt rfl rfl HAB.out) ?_
            | (refine wpList_store_mid rfl 36 (.tmp 8) (.tmp 44) rfl w4.heap.size 0 #[.int .i64 r.dn, .int .i64 r.nn, .slice a9 m c9, .int .i64 r.fi, .int .i64 r.fo, .int .i64 r.fl, .int .i64 r.k0, .int .i64 r.k1, .int .i64 r.k2, .int .i64 r.k3, .int .i64 r.k4, .int .i64 r.k5, .int .i64 r.k6, .int .i64 r.k7, .int .i64 r.k8, .int .i64 r.k9, .int .i64 r.k10, .int .i64 r.k11, .int .i64 r.mn, .int .i64 r.ti] rfl (by rw [← HBS.out]; rfl) HZT.out (by kernel_rfl) (by simp [Value.oneCell']) ?_
               rw [← hwq]; clear hwq HZT))
          go_meet
          refine ⟨w4.heap.size, rfl, HZA2.out, HRL.out.1.calm HIM.out HST.out, HRL.out.2.1.calm HST.out, fun e => ?_⟩
          have := HRL.out.1.rat.lt w4.heap.size e
          omega
        case rest =>
        obtain ⟨b8, rfl, HC8⟩ := hcut
        obtain ⟨w5, hw5⟩ : ∃ W, W = wc := ⟨_, rfl⟩
        rw [← hw5] at HC8 ⊢
        have HOK5 := hide' HRL.out.2.2
        clear hw5 hbs HNB HAB HRL
        have HB5 := hide' HC8.out.1
        have HBT5 := hide' HC8.out.2.1
        have HF5 := hide' HC8.out.2.2.1
        have HN8 := hide' HC8.out.2.2.2
        clear HC8
        have d0 := HB5.out.c0
        have dbs := HB5.out.c2
        rw [HBS.out] at dbs
        by_cases h60 : 60 < m
        · have k60 : decide ((60 : Int) < m) = true := by simp; omega
          go_wp2_with fail
          refine (HAW.out _).mono ?_
          rintro e w6 ⟨rfl, hs⟩
          have HS6 := hide' (HF5.out.stay.trans hs)
          clear hs
          go_wp2
          go_ret
          exact ⟨by simp, HS6.out⟩
        · have k60 : decide ((60 : Int) < m) = false := by simp; omega
          obtain ⟨dn, hdn⟩ : ∃ x, x = r.dn := ⟨_, rfl⟩
          rw [← hdn] at d0
          clear hdn
          have HG5 := hide' (From.refl w5 (Xo O' b6))
          go_upto_block 2 with fail
          go_cut [] (fun wx => ∃ (O2 : Nat → Prop) (dd : DS), Hid (Bt At wx p b6 O2 dd dd ∧ From w (fun _ => False) wx (Xo O2 b6) ∧ Ok (60 * i + 60) dd))
          case first =>
            by_cases hd0 : dn = 0
            · subst hd0
              go_wp2
              go_loopg [9] m (fun gg v9 wr => ∃ j : Nat, j ≤ m ∧ gg = m - j ∧ v9 = .int .i64 (j : Int) ∧ ∃ (O2 : Nat → Prop) (dd : DS), Hid (Bt At wr p b6 O2 dd dd ∧ From w (fun _ => False) wr (Xo O2 b6) ∧ From w5 (Xo O' b6) wr (Xo O2 b6) ∧ Ok (60 * i + j) dd))
              case atStart => exact ⟨0, Nat.zero_le _, rfl, rfl, O', d, HBT5.out, HF5.out, HG5.out, HOK5.out⟩
              case round =>
                clear HBT5 HF5 HG5 HOK5
                obtain ⟨j, hj, rfl, rfl, O2, dd, HRL⟩ := hrel
                obtain ⟨w6, hw6⟩ : ∃ W, W = wr := ⟨_, rfl⟩
                rw [← hw6] at HRL ⊢
                clear hw6
                have HB6 := hide' (HB5.out.stay HRL.out.2.2.1.stay HN8.out)
                have e2 := HB6.out.c2
                rw [HBS.out] at e2
                by_cases hjm : j < m
                · have kj : decide ((j : Int) < m) = true := by simp; omega
                  have kj2 : (j : Int) < m := by omega
                  obtain ⟨gb, ob, eb, hby, y0, y1⟩ := iarg_byte HIW.out HRL.out.2.1.stay j hjm
                  subst eb
                  obtain ⟨y, hy⟩ : ∃ y, y = l.getD j 0 := ⟨_, rfl⟩
                  rw [← hy] at hby y0 y1
                  have HY := hide' (And.intro y0 y1)
                  have HBW : Hid (∀ wz, From w (fun _ => False) wz (fun _ => False) → wz.cell? ⟨gb, ob + j, none⟩ = some (.int .u8 y)) := fun wz hz => by
                    obtain ⟨gb2, ob2, eb2, hby2, _, _⟩ := iarg_byte HIW.out hz.stay j hjm
                    cases eb2
                    rw [hy]; exact hby2
                  clear hy y0 y1
                  have HRI := hide' (r_input (bxo b6 O2) dd y w6 HRL.out.1.rat HY.out.1 HY.out.2 (small_ok HRL.out.2.2.2 (by omega)) HRL.out.2.2.2.line (by have := HRL.out.2.2.2.sum; omega))
                  go_wp2_with fail
                  refine HRI.out.mono ?_
                  rintro e w7 ⟨rfl, hr, hs⟩
                  have HB7 := hide' (HRL.out.1.refd HIM.out hr hs)
                  have HF7 := hide' (HRL.out.2.1.refd hs)
                  have HG7 := hide' (HRL.out.2.2.1.refd hs)
                  have HOK7 := hide' HRL.out.2.2.2
                  obtain ⟨sg, hsg⟩ : ∃ s, s = (dd.input y).2 := ⟨_, rfl⟩
                  have HSG := hide' hsg
                  rw [← hsg]
                  have hby7 := HBW.out w7 ⟨HF7.out.stay, fun _ h => .inl h⟩
                  have HB8 := hide' (HB5.out.stay HG7.out.stay HN8.out)
                  clear hr hs hsg HRI HRL hby e2
                  have e2 := HB8.out.c2
                  rw [HBS.out] at e2
                  go_wp2_with fail
                  refine (HIM.out.input y HB7.out.pat HOK7.out (by omega) HY.out.1 HY.out.2).mono ?_
                  rintro e w8 ⟨v8, O3, rfl, hbe, hat, hs, hg⟩
                  have HBT8 := hide' (HB7.out.prog HIM.out hat hs hg)
                  have HF8 := hide' (HF7.out.prog hs hg)
                  have HG8 := hide' (HG7.out.prog hs hg)
                  have HOK8 := hide' (HOK7.out.input y)
                  have HBE := hide' hbe
                  have HLE := hide' (input_ec dd y HOK7.out.line)
                  rw [← HSG.out]
                  obtain ⟨r8, B8, P8⟩ := HBT8.out.rat
                  have HPE := hide' P8.ec
                  have c22 : w8.cell? ⟨b6, 22, none⟩ = some r8.ec := B8.c22
                  have kne : (sg != sg) = false := by simp
                  obtain ⟨a8, z8, ev8⟩ := hbe.shape
                  obtain ⟨n8, hn8⟩ : ∃ z, z = (dd.input y).1.ec.length := ⟨_, rfl⟩
                  rw [← hn8] at ev8
                  subst ev8
                  clear hbe hat hs hg HB7 HF7 HG7 HOK7 P8 B8 hn8 hby7 e2
                  go_wp2_with fail
                  refine (sameB _ _ (dd.input y).1.ec _ HBE.out.bs HPE.out.br.bs (by have := HLE.out; omega)).mono ?_
                  rintro e w9 ⟨rfl, hs⟩
                  have HN : Hid (Bt At w9 p b6 O3 (dd.input y).1 (dd.input y).1 ∧ From w (fun _ => False) w9 (Xo O3 b6) ∧ From w5 (Xo O' b6) w9 (Xo O3 b6) ∧ Ok (60 * i + (j + 1)) (dd.input y).1) := ⟨HBT8.out.calm HIM.out hs, HF8.out.calm hs, HG8.out.calm hs, HOK8.out⟩
                  clear hs HBT8 HF8 HG8 HOK8 HBE HLE HPE HSG HY HBW c22
                  go_wp2
                  go_roundg (m - (j + 1))
                  case measure => omega
                  case rel => exact ⟨j + 1, by omega, rfl, by go_num, O3, (dd.input y).1, HN⟩
                · have kj : decide ((j : Int) < m) = false := by simp; omega
                  go_wp2
                  go_meet
                  exact ⟨O2, dd, HRL.out.1, HRL.out.2.1, HRL.out.2.2.2.more (by omega)⟩
            · by_cases hd1 : dn = 1
              · subst hd1
                have e1 := HB5.out.c1
                have HRD := hide' (r_read (bxo b6 O') d r.nn w5 HBT5.out.rat HNR.out.2 (small_ok HOK5.out (by omega)))
                go_wp2_with fail
                refine HRD.out.mono ?_
                rintro e w7 ⟨v7, rfl, hb, hr, hs⟩
                have HB7 := hide' (HBT5.out.refd HIM.out hr hs)
                have HF7 := hide' (HF5.out.refd hs)
                have HG7 := hide' (HG5.out.refd hs)
                have HBQ := hide' hb
                obtain ⟨bl, hbl⟩ : ∃ x, x = (d.rd r.nn).2 := ⟨_, rfl⟩
                have HBL2 := hide' hbl
                rw [← hbl]
                have HB8 := hide' (HB5.out.stay HG7.out.stay HN8.out)
                have f1 := HB8.out.c1
                clear hb hr hs hbl HRD e1
                go_wp2_with fail
                refine (HIM.out.read r.nn HB7.out.pat HOK5.out (by omega) HNR.out.2).mono ?_
                rintro e w8 ⟨v8, O3, rfl, hbe, hat, hs, hg⟩
                have HBT8 := hide' (HB7.out.prog HIM.out hat hs hg)
                have HF8 := hide' (HF7.out.prog hs hg)
                have HBQ8 := hide' (HBQ.out.stay hs (fun k e => .inl e))
                have HBE := hide' hbe
                have HLN := hide' (rd_len HOK5.out r.nn)
                rw [← HBL2.out]
                have kne : (bl != bl) = false := by simp
                clear hbe hat hs hg HB7 HF7 HG7 HBQ f1
                go_wp2_with fail
                refine (sameB _ _ (d.rd r.nn).1 _ HBQ8.out.br.bs HBE.out.bs (by have := HLN.out; omega)).mono ?_
                rintro e w9 ⟨rfl, hs⟩
                have HBT9 := hide' (HBT8.out.calm HIM.out hs)
                have HF9 := hide' (HF8.out.calm hs)
                clear hs
                go_wp2
                go_meet
                exact ⟨O3, d.rdS r.nn, HBT9.out, HF9.out, (HOK5.out.rdS r.nn).more (by omega)⟩
              · by_cases hd2 : dn = 2
                · subst hd2
                  have HTM := hide' HB5.out.tm
                  obtain ⟨tm, htm⟩ : ∃ x, x = r.tm := ⟨_, rfl⟩
                  have HTT := hide' htm
                  rw [← htm] at HTM
                  clear htm
                  obtain ⟨qr, hqr⟩ : ∃ q, q = rightB tm := ⟨_, rfl⟩
                  have HQR := hide' hqr
                  have HRG : Hid (∀ w', Calls Try.prog 11 #[.agg #[.int .i64 tm.fi, .int .i64 tm.fo, .int .i64 tm.fl, .int .i64 tm.k0, .int .i64 tm.k1, .int .i64 tm.k2, .int .i64 tm.k3, .int .i64 tm.k4, .int .i64 tm.k5, .int .i64 tm.k6, .int .i64 tm.k7, .int .i64 tm.k8, .int .i64 tm.k9, .int .i64 tm.k10, .int .i64 tm.k11, .int .i64 tm.mn, .int .i64 tm.ti]] w' (Gives (.bool qr) w')) := fun w' => by rw [hqr]; exact L17.right11 tm w'
                  clear hqr
                  go_wp2_with (refine wpList_exec rfl (L17.run_load_TBoxAt rfl rfl HTM.out) ?_)
                  refine (HRG.out _).mono ?_
                  rintro e w7 ⟨rfl, hs⟩
                  have HB7 := hide' (HBT5.out.calm HIM.out hs)
                  have HF7 := hide' (HF5.out.calm hs)
                  have HG7 := hide' (HG5.out.calm hs)
                  have HT7 := hide' (HTM.out.keep hs)
                  clear hs HTM HRG
                  cases qr
                  · have HSN := hide' (HIM2.out.setNot tm HB7.out.pat HOK5.out (by omega) HQR.out.symm)
                    go_wp2_with (refine wpList_exec rfl (L17.run_load_TBoxAt rfl rfl HT7.out) ?_)
                    refine HSN.out.mono ?_
                    rintro e w8 ⟨rfl, hs⟩
                    have HBT8 := hide' (HB7.out.calm HIM.out hs)
                    have HF8 := hide' (HF7.out.calm hs)
                    clear hs HSN
                    go_wp2
                    go_meet
                    exact ⟨O', d, HBT8.out, HF8.out, HOK5.out.more (by omega)⟩
                  · have HSN := hide' (HIM2.out.set tm HB7.out.pat HOK5.out (by omega) HQR.out.symm)
                    go_wp2_with (refine wpList_exec rfl (L17.run_load_TBoxAt rfl rfl HT7.out) ?_)
                    refine HSN.out.mono ?_
                    rintro e w8 ⟨O3, rfl, hat, hs, hg⟩
                    have HBT8 := hide' (HB7.out.prog HIM.out hat hs hg)
                    have HF8 := hide' (HF7.out.prog hs hg)
                    have HG8 := hide' (HG7.out.prog hs hg)
                    have HB8 := hide' (HB5.out.stay HG8.out.stay HN8.out)
                    have HT8 : Hid (L17.TBoxAt w8 b8 3 tm) := by rw [HTT.out]; exact HB8.out.tm
                    have HRS := hide' (r_set (bxo b6 O3) d tm w8 HBT8.out.rat (small_ok HOK5.out (by omega)))
                    clear hat hs hg HSN HB7 HF7 HG7 HT7
                    go_wp2_with (refine wpList_exec rfl (L17.run_load_TBoxAt rfl rfl HT8.out) ?_)
                    refine HRS.out.mono ?_
                    rintro e w9 ⟨rfl, hr, hs⟩
                    have HBT9 := hide' (HBT8.out.refd HIM.out hr hs)
                    have HF9 := hide' (HF8.out.refd hs)
                    clear hr hs HRS
                    go_wp2
                    go_meet
                    exact ⟨O3, d.set tm, HBT9.out, HF9.out, (HOK5.out.set tm HQR.out.symm).more (by omega)⟩
                · by_cases hd3 : dn = 3
                  · subst hd3
                    go_wp2_with fail
                    refine (HIM2.out.flush HBT5.out.pat HOK5.out (by omega)).mono ?_
                    rintro e w7 ⟨O3, rfl, hat, hs, hg⟩
                    have HB7 := hide' (HBT5.out.prog HIM.out hat hs hg)
                    have HF7 := hide' (HF5.out.prog hs hg)
                    have HRF := hide' (r_flush (bxo b6 O3) d w7 HB7.out.rat)
                    clear hat hs hg
                    go_wp2_with fail
                    refine HRF.out.mono ?_
                    rintro e w8 ⟨rfl, hr, hs⟩
                    have HBT8 := hide' (HB7.out.refd HIM.out hr hs)
                    have HF8 := hide' (HF7.out.refd hs)
                    clear hr hs HRF
                    go_wp2
                    go_meet
                    exact ⟨O3, d.flush, HBT8.out, HF8.out, HOK5.out.flush.more (by omega)⟩
                  · go_wp2
                    go_meet
                    exact ⟨O', d, HBT5.out, HF5.out, HOK5.out.more (by omega)⟩
          case rest =>
            obtain ⟨O2, dd, HC⟩ := hcut
            obtain ⟨w6, hw6⟩ : ∃ W, W = wc := ⟨_, rfl⟩
            rw [← hw6] at HC ⊢
            clear hw6 HBT5 HF5 HOK5 HG5 HB5 HN8 HIW HBS HM HNR HBL d0 dbs
            obtain ⟨r9, B9, P9⟩ := HC.out.1.rat
            have HTM : Hid (L17.TBox w6 b6 dd.t) := by have h := B9.tm; rw [P9.t] at h; exact h
            have HC17 : Hid (w6.cell? ⟨b6, 17, none⟩ = some r9.ln) := B9.c17
            have HC20 : Hid (w6.cell? ⟨b6, 20, none⟩ = some (.bool dd.stp)) := by have h := B9.c20; rw [P9.st] at h; exact h
            have HRL6 := hide' P9.ln
            have hs6 : Stay (fun _ => False) w6 w6.drew := (Stay.refl _ _).drew
            clear B9 P9
            go_wp2_with fail
            have hS : (fun w' => Stay (fun _ => False) w6 w') w6.drew := hs6
            clear hs6
            refine wp_region_mix (fun w' => Stay (fun _ => False) w6 w') [(0, true), (2, true), (3, true), (4, true), (5, true), (1, false), (6, true), (7, true), (8, true), (10, true), (9, false), (11, false), (12, true), (13, true), (14, true), (15, true), (17, true), (18, true), (19, true), (20, true), (16, false), (21, false), (22, true), (23, true), (24, true), (25, true), (27, true), (28, true), (29, true), (30, true), (26, false), (31, true), (32, true)] (by kernel_rfl) (by kernel_rfl) (fun _ d _ _ _ h => by cases d <;> exact h) hS ?_
            refine mix_begin (fun K0 hK0 => ?_)
            refine mix_take hK0 (some 137) (.move (.tmp 5)) 27 _ (by kernel_rfl) (by kernel_rfl) (fun w' hS' => by simp only [opr]; go_simp; try with_reducible rfl) (fun K1 hK1 => ?_)
            clear hK0 K0
            simp only [Act.put, List.setIfInBounds_toArray, List.set_cons_zero, List.set_cons_succ]
            refine mix_take hK1 (some 139) (.move (.tmp 6)) 30 _ (by kernel_rfl) (by kernel_rfl) (fun w' hS' => by simp only [opr]; go_simp; try with_reducible rfl) (fun K2 hK2 => ?_)
            clear hK1 K1
            simp only [Act.put, List.setIfInBounds_toArray, List.set_cons_zero, List.set_cons_succ]
            refine mix_take hK2 (some 140) (.nilCheck (.tmp 139)) 0 _ (by kernel_rfl) (by kernel_rfl) (fun w' hS' => by simp only [opr]; go_simp; try with_reducible rfl) (fun K3 hK3 => ?_)
            clear hK2 K2
            simp only [Act.put, List.setIfInBounds_toArray, List.set_cons_zero, List.set_cons_succ]
            refine mix_take hK3 (some 141) (.fieldAddr 34 (.tmp 140) 0) 0 _ (by kernel_rfl) (by kernel_rfl) (fun w' hS' => by simp only [opr]; go_simp; try with_reducible rfl) (fun K4 hK4 => ?_)
            clear hK3 K3
            simp only [Act.put, List.setIfInBounds_toArray, List.set_cons_zero, List.set_cons_succ]
            refine mix_take hK4 (some 142) (.load 24 (.tmp 141)) 24 _ (by kernel_rfl) (by kernel_rfl) (fun w' hS' => by first | exact L17.run_load_TBox rfl rfl (HTM.out.keep hS') | (have sb := keep_cell hS' HC17.out; have sc := keep_cell hS' HC20.out; simp only [opr]; go_simp; try with_reducible rfl)) (fun K5 hK5 => ?_)
            clear hK4 K4
            simp only [Act.put, List.setIfInBounds_toArray, List.set_cons_zero, List.set_cons_succ]
            refine mix_call hK5 (some 138) 21 #[.tmp 137] #[27] 24 _ (by kernel_rfl) (by kernel_rfl) (enters Try.func21 (by kernel_rfl) (by kernel_rfl)) (by go_simp; try with_reducible rfl) (fun K6 hK6 => ?_)
            clear hK5 K5
            refine (HIM2.out.setting (HIM.out.keep HC.out.1.pat hS (fun _ h => h.elim))).mono ?_
            rintro e wm1 ⟨rfl, hs1⟩
            have hS1 : _ := hS.trans hs1
            refine ⟨_, rfl, hS1, ?_⟩
            clear hs1
            simp only [Act.put, List.setIfInBounds_toArray, List.set_cons_zero, List.set_cons_succ]
            refine mix_take hK6 (some 143) (.binOp BinOp.neq 24 (.tmp 138) (.tmp 142) 24) 4 _ (by kernel_rfl) (by kernel_rfl) (fun w' hS' => by exact neq_same dd.t rfl rfl) (fun K7 hK7 => ?_)
            clear hK6 K6
            simp only [Act.put, List.setIfInBounds_toArray, List.set_cons_zero, List.set_cons_succ]
            refine mix_take hK7 (some 144) (.move (.tmp 143)) 4 _ (by kernel_rfl) (by kernel_rfl) (fun w' hS' => by simp only [opr]; go_simp; try with_reducible rfl) (fun K8 hK8 => ?_)
            clear hK7 K7
            simp only [Act.put, List.setIfInBounds_toArray, List.set_cons_zero, List.set_cons_succ]
            refine mix_take hK8 (some 145) (.move (.tmp 5)) 27 _ (by kernel_rfl) (by kernel_rfl) (fun w' hS' => by simp only [opr]; go_simp; try with_reducible rfl) (fun K9 hK9 => ?_)
            clear hK8 K8
            simp only [Act.put, List.setIfInBounds_toArray, List.set_cons_zero, List.set_cons_succ]
            refine mix_take hK9 (some 147) (.move (.tmp 6)) 30 _ (by kernel_rfl) (by kernel_rfl) (fun w' hS' => by simp only [opr]; go_simp; try with_reducible rfl) (fun K10 hK10 => ?_)
            clear hK9 K9
            simp only [Act.put, List.setIfInBounds_toArray, List.set_cons_zero, List.set_cons_succ]
            refine mix_call hK10 (some 146) 22 #[.tmp 145] #[27] 3 _ (by kernel_rfl) (by kernel_rfl) (enters Try.func22 (by kernel_rfl) (by kernel_rfl)) (by go_simp; try with_reducible rfl) (fun K11 hK11 => ?_)
            clear hK10 K10
            refine (HIM.out.ready (HIM.out.keep HC.out.1.pat hS1 (fun _ h => h.elim)) HC.out.2.2 (by omega)).mono ?_
            rintro e wm2 ⟨rfl, hs2⟩
            have hS2 : _ := hS1.trans hs2
            refine ⟨_, rfl, hS2, ?_⟩
            clear hs2
            simp only [Act.put, List.setIfInBounds_toArray, List.set_cons_zero, List.set_cons_succ]
            refine mix_call hK11 (some 148) 23 #[.tmp 147] #[30] 3 _ (by kernel_rfl) (by kernel_rfl) (enters Try.func23 (by kernel_rfl) (by kernel_rfl)) (by go_simp; try with_reducible rfl) (fun K12 hK12 => ?_)
            clear hK11 K11
            refine (r_ready (bxo b6 O2) dd _ (HC.out.1.rat.keep hS2) (small_ok HC.out.2.2 (by omega))).mono ?_
            rintro e wm3 ⟨rfl, hs3⟩
            have hS3 : _ := hS2.trans hs3
            refine ⟨_, rfl, hS3, ?_⟩
            clear hs3
            simp only [Act.put, List.setIfInBounds_toArray, List.set_cons_zero, List.set_cons_succ]
            refine mix_take hK12 (some 149) (.binOp BinOp.neq 3 (.tmp 146) (.tmp 148) 3) 4 _ (by kernel_rfl) (by kernel_rfl) (fun w' hS' => by simp only [opr]; go_simp; try with_reducible rfl) (fun K13 hK13 => ?_)
            clear hK12 K12
            simp only [Act.put, List.setIfInBounds_toArray, List.set_cons_zero, List.set_cons_succ]
            refine mix_take hK13 (some 150) (.pick (.tmp 144) (.const (Value.bool true)) (.tmp 149)) 4 _ (by kernel_rfl) (by kernel_rfl) (fun w' hS' => by simp only [opr]; go_simp; try with_reducible rfl) (fun K14 hK14 => ?_)
            clear hK13 K13
            simp only [Act.put, List.setIfInBounds_toArray, List.set_cons_zero, List.set_cons_succ]
            refine mix_take hK14 (some 151) (.move (.tmp 150)) 4 _ (by kernel_rfl) (by kernel_rfl) (fun w' hS' => by simp only [opr]; go_simp; try with_reducible rfl) (fun K15 hK15 => ?_)
            clear hK14 K14
            simp only [Act.put, List.setIfInBounds_toArray, List.set_cons_zero, List.set_cons_succ]
            refine mix_take hK15 (some 152) (.move (.tmp 5)) 27 _ (by kernel_rfl) (by kernel_rfl) (fun w' hS' => by simp only [opr]; go_simp; try with_reducible rfl) (fun K16 hK16 => ?_)
            clear hK15 K15
            simp only [Act.put, List.setIfInBounds_toArray, List.set_cons_zero, List.set_cons_succ]
            refine mix_take hK16 (some 154) (.move (.tmp 6)) 30 _ (by kernel_rfl) (by kernel_rfl) (fun w' hS' => by simp only [opr]; go_simp; try with_reducible rfl) (fun K17 hK17 => ?_)
            clear hK16 K16
            simp only [Act.put, List.setIfInBounds_toArray, List.set_cons_zero, List.set_cons_succ]
            refine mix_take hK17 (some 155) (.nilCheck (.tmp 154)) 0 _ (by kernel_rfl) (by kernel_rfl) (fun w' hS' => by simp only [opr]; go_simp; try with_reducible rfl) (fun K18 hK18 => ?_)
            clear hK17 K17
            simp only [Act.put, List.setIfInBounds_toArray, List.set_cons_zero, List.set_cons_succ]
            refine mix_take hK18 (some 156) (.fieldAddr 34 (.tmp 155) 1) 0 _ (by kernel_rfl) (by kernel_rfl) (fun w' hS' => by simp only [opr]; go_simp; try with_reducible rfl) (fun K19 hK19 => ?_)
            clear hK18 K18
            simp only [Act.put, List.setIfInBounds_toArray, List.set_cons_zero, List.set_cons_succ]
            refine mix_take hK19 (some 157) (.load 31 (.tmp 156)) 31 _ (by kernel_rfl) (by kernel_rfl) (fun w' hS' => by (have sb := keep_cell hS' HC17.out; have sc := keep_cell hS' HC20.out; simp only [opr]; go_simp; try with_reducible rfl)) (fun K20 hK20 => ?_)
            clear hK19 K19
            simp only [Act.put, List.setIfInBounds_toArray, List.set_cons_zero, List.set_cons_succ]
            refine mix_call hK20 (some 153) 24 #[.tmp 152] #[27] 31 _ (by kernel_rfl) (by kernel_rfl) (enters Try.func24 (by kernel_rfl) (by kernel_rfl)) (by go_simp; try with_reducible rfl) (fun K21 hK21 => ?_)
            clear hK20 K20
            refine (HIM.out.line (HIM.out.keep HC.out.1.pat hS3 (fun _ h => h.elim)) HC.out.2.2 (by omega)).mono ?_
            rintro e wm4 ⟨v4, a4, c4, rfl, hln4, _, hs4⟩
            have hS4 : _ := hS3.trans hs4
            refine ⟨_, rfl, hS4, ?_⟩
            have HL4 := hide' hln4
            clear hln4
            clear hs4
            simp only [Act.put, List.setIfInBounds_toArray, List.set_cons_zero, List.set_cons_succ]
            refine mix_call hK21 (some 158) 14 #[.tmp 153, .tmp 157] #[31, 31] 4 _ (by kernel_rfl) (by kernel_rfl) (enters Try.func14 (by kernel_rfl) (by kernel_rfl)) (by go_simp; try with_reducible rfl) (fun K22 hK22 => ?_)
            clear hK21 K21
            refine (sameB _ _ dd.line _ (bs_arg HL4.out) (HRL6.out.keep hS4).br.bs (by have := HC.out.2.2.line; omega)).mono ?_
            rintro e wm5 ⟨rfl, hs5⟩
            have hS5 : _ := hS4.trans hs5
            refine ⟨_, rfl, hS5, ?_⟩
            clear hs5
            simp only [Act.put, List.setIfInBounds_toArray, List.set_cons_zero, List.set_cons_succ]
            refine mix_take hK22 (some 159) (.unOp UnOp.not 4 (.tmp 158)) 4 _ (by kernel_rfl) (by kernel_rfl) (fun w' hS' => by simp only [opr]; go_simp; try with_reducible rfl) (fun K23 hK23 => ?_)
            clear hK22 K22
            simp only [Act.put, List.setIfInBounds_toArray, List.set_cons_zero, List.set_cons_succ]
            refine mix_take hK23 (some 160) (.pick (.tmp 151) (.const (Value.bool true)) (.tmp 159)) 4 _ (by kernel_rfl) (by kernel_rfl) (fun w' hS' => by simp only [opr]; go_simp; try with_reducible rfl) (fun K24 hK24 => ?_)
            clear hK23 K23
            simp only [Act.put, List.setIfInBounds_toArray, List.set_cons_zero, List.set_cons_succ]
            refine mix_take hK24 (some 161) (.move (.tmp 160)) 4 _ (by kernel_rfl) (by kernel_rfl) (fun w' hS' => by simp only [opr]; go_simp; try with_reducible rfl) (fun K25 hK25 => ?_)
            clear hK24 K24
            simp only [Act.put, List.setIfInBounds_toArray, List.set_cons_zero, List.set_cons_succ]
            refine mix_take hK25 (some 162) (.move (.tmp 5)) 27 _ (by kernel_rfl) (by kernel_rfl) (fun w' hS' => by simp only [opr]; go_simp; try with_reducible rfl) (fun K26 hK26 => ?_)
            clear hK25 K25
            simp only [Act.put, List.setIfInBounds_toArray, List.set_cons_zero, List.set_cons_succ]
            refine mix_take hK26 (some 164) (.move (.tmp 6)) 30 _ (by kernel_rfl) (by kernel_rfl) (fun w' hS' => by simp only [opr]; go_simp; try with_reducible rfl) (fun K27 hK27 => ?_)
            clear hK26 K26
            simp only [Act.put, List.setIfInBounds_toArray, List.set_cons_zero, List.set_cons_succ]
            refine mix_take hK27 (some 165) (.nilCheck (.tmp 164)) 0 _ (by kernel_rfl) (by kernel_rfl) (fun w' hS' => by simp only [opr]; go_simp; try with_reducible rfl) (fun K28 hK28 => ?_)
            clear hK27 K27
            simp only [Act.put, List.setIfInBounds_toArray, List.set_cons_zero, List.set_cons_succ]
            refine mix_take hK28 (some 166) (.fieldAddr 34 (.tmp 165) 4) 0 _ (by kernel_rfl) (by kernel_rfl) (fun w' hS' => by simp only [opr]; go_simp; try with_reducible rfl) (fun K29 hK29 => ?_)
            clear hK28 K28
            simp only [Act.put, List.setIfInBounds_toArray, List.set_cons_zero, List.set_cons_succ]
            refine mix_take hK29 (some 167) (.load 4 (.tmp 166)) 4 _ (by kernel_rfl) (by kernel_rfl) (fun w' hS' => by (have sb := keep_cell hS' HC17.out; have sc := keep_cell hS' HC20.out; simp only [opr]; go_simp; try with_reducible rfl)) (fun K30 hK30 => ?_)
            clear hK29 K29
            simp only [Act.put, List.setIfInBounds_toArray, List.set_cons_zero, List.set_cons_succ]
            refine mix_call hK30 (some 163) 25 #[.tmp 162] #[27] 4 _ (by kernel_rfl) (by kernel_rfl) (enters Try.func25 (by kernel_rfl) (by kernel_rfl)) (by go_simp; try with_reducible rfl) (fun K31 hK31 => ?_)
            clear hK30 K30
            refine (HIM2.out.stopped (HIM.out.keep HC.out.1.pat hS5 (fun _ h => h.elim))).mono ?_
            rintro e wm6 ⟨rfl, hs6⟩
            have hS6 : _ := hS5.trans hs6
            refine ⟨_, rfl, hS6, ?_⟩
            clear hs6
            simp only [Act.put, List.setIfInBounds_toArray, List.set_cons_zero, List.set_cons_succ]
            refine mix_take hK31 (some 168) (.binOp BinOp.neq 4 (.tmp 163) (.tmp 167) 4) 4 _ (by kernel_rfl) (by kernel_rfl) (fun w' hS' => by simp only [opr]; go_simp; try with_reducible rfl) (fun K32 hK32 => ?_)
            clear hK31 K31
            simp only [Act.put, List.setIfInBounds_toArray, List.set_cons_zero, List.set_cons_succ]
            refine mix_take hK32 (some 169) (.pick (.tmp 161) (.const (Value.bool true)) (.tmp 168)) 4 _ (by kernel_rfl) (by kernel_rfl) (fun w' hS' => by simp only [opr]; go_simp; try with_reducible rfl) (fun K33 hK33 => ?_)
            clear hK32 K32
            simp only [Act.put, List.setIfInBounds_toArray, List.set_cons_zero, List.set_cons_succ]
            refine hK33 _ _ (mix_nil ?_)
            clear hK33 K33
            have HSE := hide' hS6
            have HN : Hid (Bt At _ p b6 O2 dd dd ∧ From w (fun _ => False) _ (Xo O2 b6) ∧ Ok (60 * (i + 1)) dd) := ⟨HC.out.1.calm HIM.out HSE.out, HC.out.2.1.calm HSE.out, HC.out.2.2.more (by omega)⟩
            clear HSE HC HTM HC17 HC20 HRL6
            go_wp2
            go_roundg (n - (i + 1))
            case measure => omega
            case rel => exact ⟨i + 1, by omega, rfl, by go_num, O2, dd, HN⟩
      · have kn : decide ((i : Int) < n) = false := by simp; omega
        go_wp2_with fail
        refine (HAW.out _).mono ?_
        rintro e w5 ⟨rfl, hs⟩
        have HS5 := hide' (HRL.out.2.1.stay.trans hs)
        clear hs
        go_wp2
        go_ret
        exact ⟨by simp, HS5.out⟩
end

end Go.Proofs.Ytkggmjjjopfdbaa
