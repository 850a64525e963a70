/-
  The program: a byte of input; what is asked for; all goes; a new one: walked. No conditions.
  The program: a new discipline; bytes are taken; it turns: walked. No conditions.
-/
import Derived.Test.YtkggmjjjopfdbaaDF
import Derived.Test.YtkggmjjjopfdbaaP0
import Derived.Test.YtkggmjjjopfdbaaL17C1
import Derived.Deep.CutBlock
import Derived.Deep.MidRow
namespace Go.Proofs.Ytkggmjjjopfdbaa
open Go.RowKit
open L17

/-- The program's discipline, as one that is known. -/
def At (w : World) (p : Nat) (O : Nat → Prop) (d : DS) : Prop := ∃ r, Core w p r d.ps ∧ (∀ j, Bl p r j → O j) ∧ ∀ k, O k → k < w.heap.size

section
variable {w w1 : World} {p : Nat} {O : Nat → Prop} {d : DS}

theorem At.lt (h : At w p O d) : ∀ k, O k → k < w.heap.size := by
  obtain ⟨r, _, _, h⟩ := h
  exact h

theorem At.keep {S : Nat → Prop} (h : At w p O d) (hs : Stay S w w1) (hS : ∀ k, S k → ¬ O k) : At w1 p O d := by
  obtain ⟨r, h1, h2, h3⟩ := h
  exact ⟨r, h1.stay hs (fun j hj hs => hS j hs (h2 j hj)), h2, fun k hk => Nat.lt_of_lt_of_le (h3 k hk) hs.size⟩

/-- What turns a discipline that is known. -/
theorem TurnC.turn {r : Pd} {x : PS} {v : Value} {d' : DS} {e : Ending} (h : TurnC p r x v w e w1) (h2 : ∀ j, Bl p r j → O j) (hx : x = d'.ps) : TurnP At p O d' v w e w1 := by
  obtain ⟨r', rfl, h3, h4, h5⟩ := h
  subst hx
  refine ⟨Bl p r', rfl, ⟨r', h3, fun j hj => hj, h3.lt⟩, h4.mono (fun j _ hj => h2 j hj), fun k hk => ?_⟩
  rcases h5 k hk with h5 | h5
  · exact .inl (h2 k h5)
  · exact .inr h5

theorem a_ready (h : At w p O d) : Calls Try.prog 22 #[.pointer (some ⟨p, 0, none⟩)] w (Gives (.int .i64 (d.cnt : Nat)) w) := by
  obtain ⟨r, hc, _, _⟩ := h
  have HS := hide' (Stay.refl (fun _ => False) w)
  have e18 : r.rd = (d.cnt : Nat) := hc.rd
  obtain ⟨c0, c1, c2, c3, c4, c5, c6, c7, c8, c9, c10, c11, c12, c13, c14, c15, c16, c17, c18, c19, c20, c21, _⟩ := hc.box
  rw [e18] at c18
  obtain ⟨k, hk⟩ : ∃ k, k = d.cnt := ⟨_, rfl⟩
  rw [← hk] at c18 ⊢
  clear hk e18 hc
  go_enter Try.func22, Try.ntmps22
  go_wp2
  go_ret
  exact ⟨rfl, HS.out⟩

theorem a_stopped (h : At w p O d) : Calls Try.prog 25 #[.pointer (some ⟨p, 0, none⟩)] w (Gives (.bool d.stp) w) := by
  obtain ⟨r, hc, _, _⟩ := h
  have HS := hide' (Stay.refl (fun _ => False) w)
  have e20 : r.st = d.stp := hc.st
  obtain ⟨c0, c1, c2, c3, c4, c5, c6, c7, c8, c9, c10, c11, c12, c13, c14, c15, c16, c17, c18, c19, c20, c21, _⟩ := hc.box
  rw [e20] at c20
  obtain ⟨k, hk⟩ : ∃ k, k = d.stp := ⟨_, rfl⟩
  rw [← hk] at c20 ⊢
  clear hk e20 hc
  go_enter Try.func25, Try.ntmps25
  go_wp2
  go_ret
  exact ⟨rfl, HS.out⟩

theorem a_line {N : Nat} (h : At w p O d) (hO : Ok N d) : Calls Try.prog 24 #[.pointer (some ⟨p, 0, none⟩)] w (LineP O d w) := by
  obtain ⟨r, hc, h2, h3⟩ := h
  have HS := hide' (Stay.refl (fun _ => False) w)
  have HO3 := hide' h3
  have hal := all_line d
  have HLN : Hid (Calls Try.prog 46 #[.pointer (some ⟨p, 0, none⟩)] w (fun e w' => ∃ a cap, e = .returned (.slice a d.line.length cap) ∧ IArg .u8 w' (.slice a d.line.length cap) d.line a cap ∧ Stay (fun _ => False) w w')) := by
    have h1 := p_line hc (show d.ps.rd ≤ d.ps.all.length from hal.2.2.1) (show d.all.length ≤ 100000 by have := hO.all_le.1; omega)
    refine h1.mono ?_
    rintro e w' ⟨a, cap, he, ha, _, _, hs⟩
    have e5 : d.ps.all.length - d.ps.rd = d.line.length := hal.2.1
    have e6 : d.ps.all.drop d.ps.rd = d.line := hal.1
    rw [e5] at he ha
    rw [e6] at ha
    exact ⟨a, cap, he, ha, hs⟩
  have HL : Hid (d.line.length ≤ 100000) := by have := hO.line; show _ ≤ _; omega
  obtain ⟨L, hL⟩ : ∃ L, L = d.line := ⟨_, rfl⟩
  unfold LineP
  rw [← hL] at HLN HL ⊢
  clear hc h2 h3 hal hL hO
  go_enter Try.func24, Try.ntmps24
  go_wp2_with fail
  refine HLN.out.mono ?_
  rintro e w1 ⟨a, cap, rfl, ha, hs⟩
  have HS1 := hide' (HS.out.trans hs)
  have HCL := hide' (p_clone L a L.length cap w1 ha HL.out)
  clear ha hs HLN
  go_wp2_with fail
  refine HCL.out.mono ?_
  rintro e w2 ⟨v, a2, cap2, rfl, ha2, hn2, hs2⟩
  have HA2 := hide' ha2
  have HN2 := hide' hn2
  have HS2 := hide' (HS1.out.trans hs2)
  have ev := ha2.shape
  obtain ⟨l2, hl2⟩ : ∃ l, l = L.length := ⟨_, rfl⟩
  have HL2 := hide' hl2
  rw [← hl2] at ev
  subst ev
  clear ha2 hn2 hs2 HCL hl2
  go_wp2
  go_ret
  refine ⟨_, a2, cap2, rfl, HA2.out, fun _ ad e ho => ?_, HS2.out⟩
  have h1 := HN2.out ad e
  have h3 := HO3.out _ ho
  have h4 := HS1.out.size
  omega

theorem a_flush (h : At w p O d) : Calls Try.prog 19 #[.pointer (some ⟨p, 0, none⟩)] w (TurnP At p O d.flush (.tuple #[]) w) := by
  obtain ⟨r, hc, h2, _⟩ := h
  exact (p_flush hc).mono (fun e w' h => h.turn h2 rfl)

set_option maxRecDepth 100000 in
theorem a_setting (h : At w p O d) : Calls Try.prog 21 #[.pointer (some ⟨p, 0, none⟩)] w (Gives (.agg #[.int .i64 d.t.fi, .int .i64 d.t.fo, .int .i64 d.t.fl, .int .i64 d.t.k0, .int .i64 d.t.k1, .int .i64 d.t.k2, .int .i64 d.t.k3, .int .i64 d.t.k4, .int .i64 d.t.k5, .int .i64 d.t.k6, .int .i64 d.t.k7, .int .i64 d.t.k8, .int .i64 d.t.k9, .int .i64 d.t.k10, .int .i64 d.t.k11, .int .i64 d.t.mn, .int .i64 d.t.ti]) w) := by
  obtain ⟨r, hc, _, _⟩ := h
  have htm : r.tm = d.t := hc.t
  have HTM := hide' hc.box.tm
  rw [htm] at HTM
  have hlt := hc.box.lt
  have HX := hide' (L17.TBox.new (w := w) L17.zeroT rfl)
  have HS := hide' ((Stay.refl (fun _ => False) w).alloc (.cells #[.int .i64 L17.zeroT.fi, .int .i64 L17.zeroT.fo, .int .i64 L17.zeroT.fl, .int .i64 L17.zeroT.k0, .int .i64 L17.zeroT.k1, .int .i64 L17.zeroT.k2, .int .i64 L17.zeroT.k3, .int .i64 L17.zeroT.k4, .int .i64 L17.zeroT.k5, .int .i64 L17.zeroT.k6, .int .i64 L17.zeroT.k7, .int .i64 L17.zeroT.k8, .int .i64 L17.zeroT.k9, .int .i64 L17.zeroT.k10, .int .i64 L17.zeroT.k11, .int .i64 L17.zeroT.mn, .int .i64 L17.zeroT.ti] 24))
  obtain ⟨t, ht⟩ : ∃ t, t = d.t := ⟨_, rfl⟩
  rw [← ht] at HTM ⊢
  clear hc htm ht
  go_enter Try.func21, Try.ntmps21
  go_upto_region 1 with fail
  obtain ⟨W, hW⟩ : ∃ W, W = w.alloc (.cells #[.int .i64 0, .int .i64 0, .int .i64 0, .int .i64 0, .int .i64 0, .int .i64 0, .int .i64 0, .int .i64 0, .int .i64 0, .int .i64 0, .int .i64 0, .int .i64 0, .int .i64 0, .int .i64 0, .int .i64 0, .int .i64 0, .int .i64 0] 24) := ⟨_, rfl⟩
  have HX2 : Hid (L17.TBox W w.heap.size L17.zeroT) := by rw [hW]; exact HX.out
  have HS2 : Hid (Stay (fun _ => False) w W) := by rw [hW]; exact HS.out
  have HT2 := hide' (HTM.out.keep HS2.out)
  obtain ⟨b, hb⟩ : ∃ b, b = w.heap.size := ⟨_, rfl⟩
  rw [← hW]
  rw [← hb] at HX2 ⊢
  have HB : Hid (w.heap.size ≤ b) := by show w.heap.size ≤ b; omega
  have HXQ := hide' (HX2.out.all t)
  have HSQ := hide' (L17.TBox.stay_all HS2.out HB.out t)
  have HT := hide' HX2.out.there
  obtain ⟨W5, hW5⟩ : ∃ W5, W5 = W.setCells b 0 (#[.int .i64 t.fi, .int .i64 t.fo, .int .i64 t.fl, .int .i64 t.k0, .int .i64 t.k1, .int .i64 t.k2, .int .i64 t.k3, .int .i64 t.k4, .int .i64 t.k5, .int .i64 t.k6, .int .i64 t.k7, .int .i64 t.k8, .int .i64 t.k9, .int .i64 t.k10, .int .i64 t.k11, .int .i64 t.mn, .int .i64 t.ti] : Array Value).toList := ⟨_, rfl⟩
  rw [← hW5] at HXQ HSQ
  clear hW hb HX HS HTM
  go_wp2_with (first
    | refine wpList_exec rfl (L17.run_load_TBox rfl rfl HT2.out) ?_
    | (refine wpList_store_mid rfl 24 (.tmp 2) (.tmp 9) rfl b 0 #[.int .i64 t.fi, .int .i64 t.fo, .int .i64 t.fl, .int .i64 t.k0, .int .i64 t.k1, .int .i64 t.k2, .int .i64 t.k3, .int .i64 t.k4, .int .i64 t.k5, .int .i64 t.k6, .int .i64 t.k7, .int .i64 t.k8, .int .i64 t.k9, .int .i64 t.k10, .int .i64 t.k11, .int .i64 t.mn, .int .i64 t.ti] rfl rfl HT.out (by kernel_rfl) (by simp [Value.oneCell']) ?_
       rw [← hW5]; clear hW5))
  exact L17.TBox.ends (r := t) rfl rfl HXQ.out rfl HSQ.out rfl

/-- A byte of input. -/
theorem SD.begin {r : Pd} (hc : Core w p r d.ps) : SD (w.alloc (.cells #[.pointer (some ⟨p, 0, none⟩), .slice none 0 0, .int .i64 0] 64)) ⟨w.heap.size, p, fun k => Bl p r k ∨ w.heap.size ≤ k⟩ (d.setEc []) 0 := by
  have hs : Stay (fun _ => False) w (w.alloc (.cells #[.pointer (some ⟨p, 0, none⟩), .slice none 0 0, .int .i64 0] 64)) := (Stay.refl _ _).alloc _
  refine ⟨r, ⟨.pointer (some ⟨p, 0, none⟩), .slice none 0 0, 0⟩, hc.keep hs, SBox.new ⟨.pointer (some ⟨p, 0, none⟩), .slice none 0 0, 0⟩ rfl, rfl, rfl, Win.nil _ 1, fun y hy => (by cases hy), .inr (Nat.le_refl _), fun j hj => (by cases hj), fun j hj => ⟨.inl hj, fun e => ?_, fun e => (by cases e)⟩, fun k hk => .inr (Nat.le_trans hs.size hk)⟩
  have h1 := hc.lt j hj
  have e : j = w.heap.size := e
  omega

set_option maxRecDepth 100000 in
theorem a_input {N : Nat} (c : Int) (h : At w p O d) (hO : Ok N d) (hN : N ≤ 80000) (h0 : 0 ≤ c) (h1 : c < 256) : Calls Try.prog 13 #[.pointer (some ⟨p, 0, none⟩), .int .u8 c] w (InP At p O d c w) := by
  obtain ⟨r, hc, h2, h3⟩ := h
  have HB := hide' (SD.begin hc)
  have HST := hide' ((Stay.refl (fun _ => False) w).alloc (.cells #[.pointer (some ⟨p, 0, none⟩), .slice none 0 0, .int .i64 0] 64))
  have HO2 := hide' h2
  have HO3 := hide' h3
  have hlt := hc.lt
  obtain ⟨q, hq⟩ : ∃ q : Pl, q = ⟨w.heap.size, p, fun k => Bl p r k ∨ w.heap.size ≤ k⟩ := ⟨_, rfl⟩
  have HQB : Hid (q.b = w.heap.size ∧ q.p = p) := by rw [hq]; exact ⟨rfl, rfl⟩
  have HQU : Hid (∀ k, q.U k → Bl p r k ∨ w.heap.size ≤ k) := fun k hk => by rw [hq] at hk; exact hk
  rw [← hq] at HB
  have HCM := hide' (fun w' (hh : SD w' q (d.setEc []) 0) => s_come c w' hh hO hN h0 h1)
  rw [HQB.out.1] at HCM
  obtain ⟨X, hX⟩ : ∃ X, X = d.input c := ⟨_, rfl⟩
  unfold InP
  rw [← hX] at HCM ⊢
  clear hc h2 h3 hO hN h0 h1 hlt hq hX
  go_enter Try.func13, Try.ntmps13
  go_upto_region 4 with fail
  obtain ⟨w1, hw1⟩ : ∃ W, W = w.alloc (.cells #[.pointer (some ⟨p, 0, none⟩), .slice none 0 0, .int .i64 0] 64) := ⟨_, rfl⟩
  rw [← hw1] at HB HST ⊢
  clear hw1
  go_wp2_with fail
  refine (HCM.out _ HB.out).mono ?_
  rintro e w2 ⟨rfl, hr, hs⟩
  have HR2 := hide' hr
  have HS2 := hide' ((HST.out.mono (T := q.U) (fun _ _ h => h.elim)).trans hs)
  clear hr hs HCM HB HST
  obtain ⟨r2, ea, cap, hop⟩ := HR2.out.open
  have HOP := hide' hop
  obtain ⟨s0, s1, s2, _⟩ := hop.box
  rw [HQB.out.1] at s0 s1 s2
  simp only at s0 s1 s2
  have HARG := hide' (hop.ecw.iarg hop.we)
  clear hop
  obtain ⟨en, hen⟩ : ∃ n, n = X.1.ec.length := ⟨_, rfl⟩
  rw [← hen] at s1
  have HEN := hide' hen
  clear hen
  go_upto_region 5 with fail
  go_quiet (fail)
  go_wp2
  go_returns
  have hop := HOP.out.keep ((Stay.refl (fun _ => False) w2).drewN nq)
  refine ⟨.slice ea en cap, Bl p r2, rfl, ?_, ⟨r2, ?_, fun j hj => hj, ?_⟩, ?_, ?_⟩
  · obtain ⟨a, cp, ha⟩ := hop.ecw.iarg hop.we
    have ha : IArg .u8 (w2.drewN nq) (.slice ea X.1.ec.length cap) X.1.ec a cp := ha
    rw [← HEN.out] at ha
    exact ⟨a, cp, ha⟩
  · have := hop.core
    rw [HQB.out.2] at this
    exact this
  · have := hop.core
    rw [HQB.out.2] at this
    exact this.lt
  · refine (HS2.out.drewN nq).mono (fun j hj hu => ?_)
    rcases HQU.out j hu with hu | hu
    · exact HO2.out j hu
    · omega
  · intro k hk
    have h1 := (hop.m2 k (by rw [HQB.out.2]; exact hk)).1
    rcases HQU.out k h1 with hu | hu
    · exact .inl (HO2.out k hu)
    · exact .inr hu
end

end Go.Proofs.Ytkggmjjjopfdbaa

namespace Go.Proofs.Ytkggmjjjopfdbaa
open Go.RowKit
open L17

section
variable {w w1 : World} {p : Nat} {r : Pd} {x : PS}

def r0P (t : Tm) : Pd := ⟨t.fi, t.fo, t.fl, t.k0, t.k1, t.k2, t.k3, t.k4, t.k5, t.k6, t.k7, t.k8, t.k9, t.k10, t.k11, t.mn, t.ti, .slice none 0 0, 0, .slice none 0 0, false, false⟩

theorem at_new (t : Tm) (w : World) : At (w.alloc (.cells #[.int .i64 t.fi, .int .i64 t.fo, .int .i64 t.fl, .int .i64 t.k0, .int .i64 t.k1, .int .i64 t.k2, .int .i64 t.k3, .int .i64 t.k4, .int .i64 t.k5, .int .i64 t.k6, .int .i64 t.k7, .int .i64 t.k8, .int .i64 t.k9, .int .i64 t.k10, .int .i64 t.k11, .int .i64 t.mn, .int .i64 t.ti, .slice none 0 0, .int .i64 0, .slice none 0 0, .bool false, .bool false] 56)) w.heap.size (fun j => j = w.heap.size) (fresh t) := by
  have hs : Stay (fun _ => False) w (w.alloc (.cells #[.int .i64 t.fi, .int .i64 t.fo, .int .i64 t.fl, .int .i64 t.k0, .int .i64 t.k1, .int .i64 t.k2, .int .i64 t.k3, .int .i64 t.k4, .int .i64 t.k5, .int .i64 t.k6, .int .i64 t.k7, .int .i64 t.k8, .int .i64 t.k9, .int .i64 t.k10, .int .i64 t.k11, .int .i64 t.mn, .int .i64 t.ti, .slice none 0 0, .int .i64 0, .slice none 0 0, .bool false, .bool false] 56)) := (Stay.refl _ _).alloc _
  have hc : Core (w.alloc (.cells #[.int .i64 t.fi, .int .i64 t.fo, .int .i64 t.fl, .int .i64 t.k0, .int .i64 t.k1, .int .i64 t.k2, .int .i64 t.k3, .int .i64 t.k4, .int .i64 t.k5, .int .i64 t.k6, .int .i64 t.k7, .int .i64 t.k8, .int .i64 t.k9, .int .i64 t.k10, .int .i64 t.k11, .int .i64 t.mn, .int .i64 t.ti, .slice none 0 0, .int .i64 0, .slice none 0 0, .bool false, .bool false] 56)) w.heap.size (r0P t) (fresh t).ps :=
    ⟨DBox.new (r0P t) rfl, rfl, Win.nil _ 1, rfl, Win.nil _ 1, rfl, rfl, fun y hy => (by cases hy), fun j hj => (by cases hj), fun j hj => (by cases hj), fun j hj => (by cases hj)⟩
  refine ⟨r0P t, hc, fun j hj => ?_, fun k hk => ?_⟩
  · rcases hj with hj | hj | hj
    · exact hj
    · cases hj
    · cases hj
  · rw [hk]; exact hc.box.lt

/-- A new one, if the setting is right. -/
def NewP (b : Bool) (t : Tm) (w : World) (e : Ending) (w' : World) : Prop := (b = true → MadeP At t w e w') ∧ (b = false → Gives (.pointer none) w e w')

set_option maxRecDepth 100000 in
theorem a_new (t : Tm) (w : World) : Calls Try.prog 10 #[.agg #[.int .i64 t.fi, .int .i64 t.fo, .int .i64 t.fl, .int .i64 t.k0, .int .i64 t.k1, .int .i64 t.k2, .int .i64 t.k3, .int .i64 t.k4, .int .i64 t.k5, .int .i64 t.k6, .int .i64 t.k7, .int .i64 t.k8, .int .i64 t.k9, .int .i64 t.k10, .int .i64 t.k11, .int .i64 t.mn, .int .i64 t.ti]] w (NewP (rightB t) t w) := by
  have HTN := hide' (L17.TBox.new (w := w) t rfl)
  have HS0 := hide' ((Stay.refl (fun _ => False) w).alloc (.cells #[.int .i64 t.fi, .int .i64 t.fo, .int .i64 t.fl, .int .i64 t.k0, .int .i64 t.k1, .int .i64 t.k2, .int .i64 t.k3, .int .i64 t.k4, .int .i64 t.k5, .int .i64 t.k6, .int .i64 t.k7, .int .i64 t.k8, .int .i64 t.k9, .int .i64 t.k10, .int .i64 t.k11, .int .i64 t.mn, .int .i64 t.ti] 24))
  have HRT := hide' (L17.right29 t)
  have HNW := hide' (at_new t)
  obtain ⟨rt, hrt⟩ : ∃ z, z = rightB t := ⟨_, rfl⟩
  rw [← hrt] at HRT ⊢
  clear hrt
  obtain ⟨B, hB⟩ : ∃ z, z = w.heap.size := ⟨_, rfl⟩
  go_enter Try.func10, Try.ntmps10
  go_upto_region 1 with fail
  obtain ⟨W0, hW0⟩ : ∃ W, W = w.alloc (.cells #[.int .i64 t.fi, .int .i64 t.fo, .int .i64 t.fl, .int .i64 t.k0, .int .i64 t.k1, .int .i64 t.k2, .int .i64 t.k3, .int .i64 t.k4, .int .i64 t.k5, .int .i64 t.k6, .int .i64 t.k7, .int .i64 t.k8, .int .i64 t.k9, .int .i64 t.k10, .int .i64 t.k11, .int .i64 t.mn, .int .i64 t.ti] 24) := ⟨_, rfl⟩
  rw [← hW0] at HTN HS0 ⊢
  rw [← hB] at HTN ⊢
  have HB : Hid (B = w.heap.size) := hB
  clear hW0 hB
  go_wp2_with (refine wpList_exec rfl (L17.run_load_TBox rfl rfl HTN.out) ?_)
  refine (HRT.out _).mono ?_
  rintro e w1 ⟨rfl, hs⟩
  have HS1 := hide' (HS0.out.trans hs)
  have HT1 := hide' (HTN.out.keep hs)
  clear hs HS0 HTN
  cases rt
  · go_wp2
    go_ret
    exact ⟨fun h => (by cases h), fun _ => ⟨rfl, HS1.out⟩⟩
  · go_wp2_with (refine wpList_exec rfl (L17.run_load_TBox rfl rfl HT1.out) ?_)
    go_ret
    refine ⟨fun _ => ⟨w1.heap.size, fun j => j = w1.heap.size, rfl, HNW.out w1, fun k hk => ?_, HS1.out.alloc _⟩, fun h => (by cases h)⟩
    rw [hk]; exact HS1.out.size

/-- Bytes are taken off the front. -/
def TakeC (p : Nat) (r : Pd) (x : PS) (k : Nat) (w : World) (e : Ending) (w' : World) : Prop :=
  ∃ v r', e = .returned v ∧ BR w' v (x.all.take k) ∧ Core w' p r' ((x.setAll (x.all.drop k)).setRd (x.rd - k)) ∧ Stay (Bl p r) w w' ∧ ∀ j, Bl p r' j → Bl p r j ∨ w.heap.size ≤ j

set_option maxRecDepth 100000 in
theorem p_take (h : Core w p r x) (k : Nat) (hk : k ≤ x.rd) (hn : x.rd ≤ x.all.length) (hm : x.all.length ≤ 100000) : Calls Try.prog 42 #[.pointer (some ⟨p, 0, none⟩), .int .i64 (k : Nat)] w (TakeC p r x k w) := by
  have HC := hide' h
  obtain ⟨a, cap, e17, hcap, _⟩ := h.ip.shape
  have HWN := hide' h.ip
  rw [e17] at HWN
  have HKN : Hid (k ≤ x.all.length) := Nat.le_trans hk hn
  have HWT : Hid (IArg .u8 w (.slice a k cap) (x.all.take k) a cap) := by
    have h1 := HWN.out.take (k := k) HKN.out
    rw [bys_take] at h1
    have hl : (x.all.take k).length = k := by rw [List.length_take]; have := HKN.out; omega
    have h1' : Win w 1 (.slice a (x.all.take k).length cap) (x.all.take k).length (bys (x.all.take k)) := by rw [hl]; exact h1
    obtain ⟨a1, c1, h2⟩ := h1'.iarg (fun y hy => h.wf y (List.mem_of_mem_take hy))
    obtain ⟨e1, _, e2⟩ := iarg_shape h2 rfl
    rw [hl, e1, e2] at h2
    exact h2
  have HTL : Hid ((x.all.take k).length ≤ 100000) := by show _ ≤ _; rw [List.length_take]; omega
  have HWD := hide' (HWN.out.drop (k := k) HKN.out)
  have e18 := h.rd
  obtain ⟨n, hnn⟩ : ∃ z, z = x.all.length := ⟨_, rfl⟩
  have HNN := hide' hnn
  obtain ⟨rd, hrd⟩ : ∃ z, z = x.rd := ⟨_, rfl⟩
  have HRD := hide' hrd
  rw [← hnn] at e17 hcap hn hm HKN HWD
  rw [← hrd] at e18 hk hn
  have hkc : k ≤ cap := by omega
  have hkn : k ≤ n := by omega
  have hslh := fun w => slice_h_eq (P := Try.prog) (sa := a) (m := n) (cap := cap) (k := k) elemB sizeB hkc w
  have hsll := fun w => slice_l_eq (P := Try.prog) (sa := a) (m := n) (cap := cap) (k := k) elemB sizeB hkn w
  obtain ⟨va, hva⟩ : ∃ z, z = (if cap = k then a else a.map (·.add (k * 1))) := ⟨_, rfl⟩
  obtain ⟨nc, hnc⟩ : ∃ z, z = cap - k := ⟨_, rfl⟩
  obtain ⟨nl, hnl⟩ : ∃ z, z = n - k := ⟨_, rfl⟩
  have HVB : Hid (∀ j, (Value.slice va nl nc).ownBlock = some j → r.ip.ownBlock = some j) := fun j hj => by
    rw [e17]
    rw [hva, hnl, hnc] at hj
    exact Win.drop_block j hj
  rw [← hva, ← hnc, ← hnl] at hsll HWD
  have HNL : Hid (nl = (x.all.drop k).length) := by rw [List.length_drop, ← hnn]; exact hnl
  have ers : IntKind.i64.wrap ((rd : Int) - (k : Int)) = ((rd - k : Nat) : Int) := by rw [IntKind.wrap_i64]; omega
  have ers2 : ((rd : Int) - (k : Int)) = ((rd - k : Nat) : Int) := by omega
  obtain ⟨rk, hrk⟩ : ∃ z, z = rd - k := ⟨_, rfl⟩
  rw [← hrk] at ers ers2
  have erw : wrap64 (rk : Int) = (rk : Int) := by unfold wrap64; omega
  have HRK : Hid (rk = x.rd - k) := by rw [← hrd]; exact hrk
  have HCL := hide' (fun w' hh => p_clone (x.all.take k) a k cap w' hh HTL.out)
  obtain ⟨c0, c1, c2, c3, c4, c5, c6, c7, c8, c9, c10, c11, c12, c13, c14, c15, c16, c17, c18, c19, c20, c21, _⟩ := h.box
  rw [e17] at c17
  clear hva hnc hnl hnn hrd hrk h hcap hn hk HWN hm ers
  go_enter Try.func42, Try.ntmps42
  go_wp2_with fail
  refine (HCL.out _ HWT.out).mono ?_
  rintro e w1 ⟨v, a1, cap1, rfl, ha1, hn1, hs⟩
  have HA1 := hide' ha1
  have HN1 := hide' hn1
  have HS1 := hide' hs
  have ev := ha1.shape
  obtain ⟨l1, hl1⟩ : ∃ l, l = (x.all.take k).length := ⟨_, rfl⟩
  have HL1 := hide' hl1
  rw [← hl1] at ev
  subst ev
  have HC1 := hide' (HC.out.keep hs)
  have HPI := hide' (HC1.out.put_ip (v := .slice va nl nc) (l := x.all.drop k) (Stay.refl _ w1) (by rw [← HNL.out]; have h1 := HWD.out.stay hs (fun _ _ h => h); rw [Nat.mul_one, bys_drop] at h1; exact h1) (fun j hj => .inl (HVB.out j hj)) (fun y hy => HC.out.wf y (List.mem_of_mem_drop hy)))
  clear ha1 hn1 hs hl1 c0 c1 c2 c3 c4 c5 c6 c7 c8 c9 c10 c11 c12 c13 c14 c15 c16 c17 c18 c19 c20 c21
  obtain ⟨c0, c1, c2, c3, c4, c5, c6, c7, c8, c9, c10, c11, c12, c13, c14, c15, c16, c17, c18, c19, c20, c21, f0, f1, f2, f3, f4, f5, f6, f7, f8, f9, f10, f11, f12, f13, f14, f15, f16, f17, f18, f19, f20, f21⟩ := HC1.out.box
  rw [e17] at c17
  rw [e18] at c18
  go_upto_region 3 with fail
  obtain ⟨w2, hw2⟩ : ∃ z, z = w1.setCell ⟨p, 17, none⟩ (.slice va nl nc) := ⟨_, rfl⟩
  rw [← hw2] at HPI ⊢
  have HS2 : Hid (Stay (fun j => j = p) w1 w2) := by rw [hw2]; exact at_p w1 p 17 _
  clear hw2 c0 c1 c2 c3 c4 c5 c6 c7 c8 c9 c10 c11 c12 c13 c14 c15 c16 c17 c18 c19 c20 c21 f0 f1 f2 f3 f4 f5 f6 f7 f8 f9 f10 f11 f12 f13 f14 f15 f16 f17 f18 f19 f20 f21
  obtain ⟨r2, hc2, hi2, hl2⟩ := HPI.out
  have HC2 := hide' hc2
  have HRR := hide' (And.intro hi2 hl2)
  have e18b : r2.rd = (rd : Nat) := by rw [hc2.rd, HRD.out]; rfl
  obtain ⟨c0, c1, c2, c3, c4, c5, c6, c7, c8, c9, c10, c11, c12, c13, c14, c15, c16, c17, c18, c19, c20, c21, f0, f1, f2, f3, f4, f5, f6, f7, f8, f9, f10, f11, f12, f13, f14, f15, f16, f17, f18, f19, f20, f21⟩ := hc2.box
  rw [e18b] at c18
  have HFN := hide' (hc2.put_rd (z := (rk : Int)) rk rfl)
  clear hc2 hi2 hl2 e18b HPI
  go_wp2
  go_ret
  obtain ⟨r3, hc3, hi3, hl3⟩ := HFN.out
  have hst : Stay (fun j => j = p) w1 (w2.setCell ⟨p, 18, none⟩ (.int .i64 (rk : Nat))) := HS2.out.trans (at_p w2 p 18 _)
  refine ⟨_, r3, rfl, ⟨a1, cap1, ?_⟩, ?_, ?_, ?_⟩
  · refine HA1.out.stay hst (fun b off e hb => ?_)
    have h1 := HN1.out _ e
    have h2 := HC.out.box.lt
    have h3 : b = p := hb
    have h1 : w.heap.size ≤ b := h1
    omega
  · rw [← HRK.out]; exact hc3
  · exact (HS1.out.mono (fun _ _ h => h.elim)).trans (hst.mono (fun j _ e => .inl e))
  · rintro j (hj | hj | hj)
    · exact .inl (.inl hj)
    · rw [hi3, HRR.out.1] at hj
      exact .inl (.inr (.inl (HVB.out j hj)))
    · rw [hl3, HRR.out.2] at hj
      exact .inl (.inr (.inr hj))
end

end Go.Proofs.Ytkggmjjjopfdbaa
