/-
  The program: a byte of input; what is asked for; all goes; a new one: walked. No conditions.
-/
import Derived.Test.YtjfhmpjpdcckhaaL18DF
import Derived.Test.YtjfhmpjpdcckhaaG3
import Derived.Deep.CutBlock
import Derived.Deep.MidRow
namespace Go.Proofs.Ytjfhmpjpdcckhaa.L18
open Go.RowKit

open L17

/-- The program's discipline, as one that is known. -/
def At (w : World) (p : Nat) (O : Nat → Prop) (d : DS) : Prop := ∃ r, Core w p r d.ps ∧ (∀ j, Bl p r j → O j) ∧ ∀ k, O k → k < w.heap.size

section
variable {w w1 : World} {p : Nat} {O : Nat → Prop} {d : DS}

theorem At.lt (h : At w p O d) : ∀ k, O k → k < w.heap.size := by
  obtain ⟨r, _, _, h⟩ := h
  exact h

theorem At.keep {S : Nat → Prop} (h : At w p O d) (hs : Stay S w w1) (hS : ∀ k, S k → ¬ O k) : At w1 p O d := by
  obtain ⟨r, h1, h2, h3⟩ := h
  exact ⟨r, h1.stay hs (fun j hj hs => hS j hs (h2 j hj)), h2, fun k hk => Nat.lt_of_lt_of_le (h3 k hk) hs.size⟩

/-- What turns a discipline that is known. -/
theorem TurnC.turn {r : Pd} {x : PS} {v : Value} {d' : DS} {e : Ending} (h : TurnC p r x v w e w1) (h2 : ∀ j, Bl p r j → O j) (hx : x = d'.ps) : TurnP At p O d' v w e w1 := by
  obtain ⟨r', rfl, h3, h4, h5⟩ := h
  subst hx
  refine ⟨Bl p r', rfl, ⟨r', h3, fun j hj => hj, h3.lt⟩, h4.mono (fun j _ hj => h2 j hj), fun k hk => ?_⟩
  rcases h5 k hk with h5 | h5
  · exact .inl (h2 k h5)
  · exact .inr h5

theorem a_stopped (h : At w p O d) : Calls Try.prog 20 #[.pointer (some ⟨p, 0, none⟩)] w (Gives (.bool d.stp) w) := by
  obtain ⟨r, hc, _, _⟩ := h
  have HS := hide' (Stay.refl (fun _ => False) w)
  have e20 : r.st = d.stp := hc.st
  obtain ⟨c0, c1, c2, c3, c4, c5, c6, c7, c8, c9, c10, c11, c12, c13, c14, c15, c16, c17, c18, c19, c20, c21, _⟩ := hc.box
  rw [e20] at c20
  obtain ⟨k, hk⟩ : ∃ k, k = d.stp := ⟨_, rfl⟩
  rw [← hk] at c20 ⊢
  clear hk e20 hc
  go_enter Try.func20, Try.ntmps20
  go_wp2
  go_ret
  exact ⟨rfl, HS.out⟩

theorem a_flush (h : At w p O d) : Calls Try.prog 57 #[.pointer (some ⟨p, 0, none⟩)] w (TurnP At p O d.flush (.tuple #[]) w) := by
  obtain ⟨r, hc, h2, _⟩ := h
  exact (p_flush hc).mono (fun e w' h => h.turn h2 rfl)

set_option maxRecDepth 100000 in
theorem a_setting (h : At w p O d) : Calls Try.prog 28 #[.pointer (some ⟨p, 0, none⟩)] w (Gives (.agg #[.int .i64 d.t.fi, .int .i64 d.t.fo, .int .i64 d.t.fl, .int .i64 d.t.k0, .int .i64 d.t.k1, .int .i64 d.t.k2, .int .i64 d.t.k3, .int .i64 d.t.k4, .int .i64 d.t.k5, .int .i64 d.t.k6, .int .i64 d.t.k7, .int .i64 d.t.k8, .int .i64 d.t.k9, .int .i64 d.t.k10, .int .i64 d.t.k11, .int .i64 d.t.mn, .int .i64 d.t.ti]) w) := by
  obtain ⟨r, hc, _, _⟩ := h
  have htm : r.tm = d.t := hc.t
  have HTM := hide' hc.box.tm
  rw [htm] at HTM
  have hlt := hc.box.lt
  have HX := hide' (L17.TBox.new (w := w) L17.zeroT rfl)
  have HS := hide' ((Stay.refl (fun _ => False) w).alloc (.cells #[.int .i64 L17.zeroT.fi, .int .i64 L17.zeroT.fo, .int .i64 L17.zeroT.fl, .int .i64 L17.zeroT.k0, .int .i64 L17.zeroT.k1, .int .i64 L17.zeroT.k2, .int .i64 L17.zeroT.k3, .int .i64 L17.zeroT.k4, .int .i64 L17.zeroT.k5, .int .i64 L17.zeroT.k6, .int .i64 L17.zeroT.k7, .int .i64 L17.zeroT.k8, .int .i64 L17.zeroT.k9, .int .i64 L17.zeroT.k10, .int .i64 L17.zeroT.k11, .int .i64 L17.zeroT.mn, .int .i64 L17.zeroT.ti] 28))
  obtain ⟨t, ht⟩ : ∃ t, t = d.t := ⟨_, rfl⟩
  rw [← ht] at HTM ⊢
  clear hc htm ht
  go_enter Try.func28, Try.ntmps28
  go_upto_region 1 with fail
  obtain ⟨W, hW⟩ : ∃ W, W = w.alloc (.cells #[.int .i64 0, .int .i64 0, .int .i64 0, .int .i64 0, .int .i64 0, .int .i64 0, .int .i64 0, .int .i64 0, .int .i64 0, .int .i64 0, .int .i64 0, .int .i64 0, .int .i64 0, .int .i64 0, .int .i64 0, .int .i64 0, .int .i64 0] 28) := ⟨_, rfl⟩
  have HX2 : Hid (L17.TBox W w.heap.size L17.zeroT) := by rw [hW]; exact HX.out
  have HS2 : Hid (Stay (fun _ => False) w W) := by rw [hW]; exact HS.out
  have HT2 := hide' (HTM.out.keep HS2.out)
  obtain ⟨b, hb⟩ : ∃ b, b = w.heap.size := ⟨_, rfl⟩
  rw [← hW]
  rw [← hb] at HX2 ⊢
  have HB : Hid (w.heap.size ≤ b) := by show w.heap.size ≤ b; omega
  have HXQ := hide' (HX2.out.all t)
  have HSQ := hide' (L17.TBox.stay_all HS2.out HB.out t)
  have HT := hide' HX2.out.there
  obtain ⟨W5, hW5⟩ : ∃ W5, W5 = W.setCells b 0 (#[.int .i64 t.fi, .int .i64 t.fo, .int .i64 t.fl, .int .i64 t.k0, .int .i64 t.k1, .int .i64 t.k2, .int .i64 t.k3, .int .i64 t.k4, .int .i64 t.k5, .int .i64 t.k6, .int .i64 t.k7, .int .i64 t.k8, .int .i64 t.k9, .int .i64 t.k10, .int .i64 t.k11, .int .i64 t.mn, .int .i64 t.ti] : Array Value).toList := ⟨_, rfl⟩
  rw [← hW5] at HXQ HSQ
  clear hW hb HX HS HTM
  go_wp2_with (first
    | refine wpList_exec rfl (L17.run_load_TBox rfl rfl HT2.out) ?_
    | (refine wpList_store_mid rfl 28 (.tmp 2) (.tmp 9) rfl b 0 #[.int .i64 t.fi, .int .i64 t.fo, .int .i64 t.fl, .int .i64 t.k0, .int .i64 t.k1, .int .i64 t.k2, .int .i64 t.k3, .int .i64 t.k4, .int .i64 t.k5, .int .i64 t.k6, .int .i64 t.k7, .int .i64 t.k8, .int .i64 t.k9, .int .i64 t.k10, .int .i64 t.k11, .int .i64 t.mn, .int .i64 t.ti] rfl rfl HT.out (by kernel_rfl) (by simp [Value.oneCell']) ?_
       rw [← hW5]; clear hW5))
  exact L17.TBox.ends (r := t) rfl rfl HXQ.out rfl HSQ.out rfl

/-- A byte of input. -/
theorem SD.begin {r : Pd} (hc : Core w p r d.ps) : SD (w.alloc (.cells #[.pointer (some ⟨p, 0, none⟩), .slice none 0 0, .int .i64 0] 74)) ⟨w.heap.size, p, fun k => Bl p r k ∨ w.heap.size ≤ k⟩ (d.setEc []) 0 := by
  have hs : Stay (fun _ => False) w (w.alloc (.cells #[.pointer (some ⟨p, 0, none⟩), .slice none 0 0, .int .i64 0] 74)) := (Stay.refl _ _).alloc _
  refine ⟨r, ⟨.pointer (some ⟨p, 0, none⟩), .slice none 0 0, 0⟩, hc.keep hs, SBox.new ⟨.pointer (some ⟨p, 0, none⟩), .slice none 0 0, 0⟩ rfl, rfl, rfl, Win.nil _ 1, fun y hy => (by cases hy), .inr (Nat.le_refl _), fun j hj => (by cases hj), fun j hj => ⟨.inl hj, fun e => ?_, fun e => (by cases e)⟩, fun k hk => .inr (Nat.le_trans hs.size hk)⟩
  have h1 := hc.lt j hj
  have e : j = w.heap.size := e
  omega

set_option maxRecDepth 100000 in
theorem a_input {N : Nat} (c : Int) (h : At w p O d) (hO : Ok N d) (hN : N ≤ 80000) (h0 : 0 ≤ c) (h1 : c < 256) : Calls Try.prog 27 #[.pointer (some ⟨p, 0, none⟩), .int .u8 c] w (InP At p O d c w) := by
  obtain ⟨r, hc, h2, h3⟩ := h
  have HB := hide' (SD.begin hc)
  have HST := hide' ((Stay.refl (fun _ => False) w).alloc (.cells #[.pointer (some ⟨p, 0, none⟩), .slice none 0 0, .int .i64 0] 74))
  have HO2 := hide' h2
  have HO3 := hide' h3
  have hlt := hc.lt
  obtain ⟨q, hq⟩ : ∃ q : Pl, q = ⟨w.heap.size, p, fun k => Bl p r k ∨ w.heap.size ≤ k⟩ := ⟨_, rfl⟩
  have HQB : Hid (q.b = w.heap.size ∧ q.p = p) := by rw [hq]; exact ⟨rfl, rfl⟩
  have HQU : Hid (∀ k, q.U k → Bl p r k ∨ w.heap.size ≤ k) := fun k hk => by rw [hq] at hk; exact hk
  rw [← hq] at HB
  have HCM := hide' (fun w' (hh : SD w' q (d.setEc []) 0) => s_come c w' hh hO hN h0 h1)
  rw [HQB.out.1] at HCM
  obtain ⟨X, hX⟩ : ∃ X, X = d.input c := ⟨_, rfl⟩
  unfold InP
  rw [← hX] at HCM ⊢
  clear hc h2 h3 hO hN h0 h1 hlt hq hX
  go_enter Try.func27, Try.ntmps27
  go_upto_region 4 with fail
  obtain ⟨w1, hw1⟩ : ∃ W, W = w.alloc (.cells #[.pointer (some ⟨p, 0, none⟩), .slice none 0 0, .int .i64 0] 74) := ⟨_, rfl⟩
  rw [← hw1] at HB HST ⊢
  clear hw1
  go_wp2_with fail
  refine (HCM.out _ HB.out).mono ?_
  rintro e w2 ⟨rfl, hr, hs⟩
  have HR2 := hide' hr
  have HS2 := hide' ((HST.out.mono (T := q.U) (fun _ _ h => h.elim)).trans hs)
  clear hr hs HCM HB HST
  obtain ⟨r2, ea, cap, hop⟩ := HR2.out.open
  have HOP := hide' hop
  obtain ⟨s0, s1, s2, _⟩ := hop.box
  rw [HQB.out.1] at s0 s1 s2
  simp only at s0 s1 s2
  have HARG := hide' (hop.ecw.iarg hop.we)
  clear hop
  obtain ⟨en, hen⟩ : ∃ n, n = X.1.ec.length := ⟨_, rfl⟩
  rw [← hen] at s1
  have HEN := hide' hen
  clear hen
  go_upto_region 5 with fail
  go_quiet (fail)
  go_wp2
  go_returns
  have hop := HOP.out.keep ((Stay.refl (fun _ => False) w2).drewN nq)
  refine ⟨.slice ea en cap, Bl p r2, rfl, ?_, ⟨r2, ?_, fun j hj => hj, ?_⟩, ?_, ?_, ?_⟩
  · obtain ⟨a, cp, ha⟩ := hop.ecw.iarg hop.we
    have ha : IArg .u8 (w2.drewN nq) (.slice ea X.1.ec.length cap) X.1.ec a cp := ha
    rw [← HEN.out] at ha
    exact ⟨a, cp, ha⟩
  · have := hop.core
    rw [HQB.out.2] at this
    exact this
  · have := hop.core
    rw [HQB.out.2] at this
    exact this.lt
  · refine (HS2.out.drewN nq).mono (fun j hj hu => ?_)
    rcases HQU.out j hu with hu | hu
    · exact HO2.out j hu
    · omega
  · intro k hk
    have h1 := (hop.m2 k (by rw [HQB.out.2]; exact hk)).1
    rcases HQU.out k h1 with hu | hu
    · exact .inl (HO2.out k hu)
    · exact .inr hu
  · intro j hj
    have hj : (Value.slice ea X.1.ec.length cap).ownBlock = some j := by cases ea <;> exact hj
    refine ⟨?_, fun hb => (hop.m2 j (by rw [HQB.out.2]; exact hb)).2.2 hj⟩
    rcases HQU.out j (hop.m1 j hj).1 with hu | hu
    · exact .inl (HO2.out j hu)
    · exact .inr hu
end

end Go.Proofs.Ytjfhmpjpdcckhaa.L18
