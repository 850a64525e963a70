/-
  The program: a new discipline; bytes are taken; it turns: walked. No conditions.
-/
import Derived.Test.YtjfhmpjpdcckhaaL18DG
import Derived.Test.YtjfhmpjpdcckhaaG1
import Derived.Deep.CutBlock
namespace Go.Proofs.Ytjfhmpjpdcckhaa.L18
open Go.RowKit

open L17

section
variable {w w1 : World} {p : Nat} {r : Pd} {x : PS}

def r0P (t : Tm) : Pd := ⟨t.fi, t.fo, t.fl, t.k0, t.k1, t.k2, t.k3, t.k4, t.k5, t.k6, t.k7, t.k8, t.k9, t.k10, t.k11, t.mn, t.ti, .slice none 0 0, 0, .slice none 0 0, false, false⟩

theorem at_new (t : Tm) (w : World) : At (w.alloc (.cells #[.int .i64 t.fi, .int .i64 t.fo, .int .i64 t.fl, .int .i64 t.k0, .int .i64 t.k1, .int .i64 t.k2, .int .i64 t.k3, .int .i64 t.k4, .int .i64 t.k5, .int .i64 t.k6, .int .i64 t.k7, .int .i64 t.k8, .int .i64 t.k9, .int .i64 t.k10, .int .i64 t.k11, .int .i64 t.mn, .int .i64 t.ti, .slice none 0 0, .int .i64 0, .slice none 0 0, .bool false, .bool false] 69)) w.heap.size (fun j => j = w.heap.size) (fresh t) := by
  have hs : Stay (fun _ => False) w (w.alloc (.cells #[.int .i64 t.fi, .int .i64 t.fo, .int .i64 t.fl, .int .i64 t.k0, .int .i64 t.k1, .int .i64 t.k2, .int .i64 t.k3, .int .i64 t.k4, .int .i64 t.k5, .int .i64 t.k6, .int .i64 t.k7, .int .i64 t.k8, .int .i64 t.k9, .int .i64 t.k10, .int .i64 t.k11, .int .i64 t.mn, .int .i64 t.ti, .slice none 0 0, .int .i64 0, .slice none 0 0, .bool false, .bool false] 69)) := (Stay.refl _ _).alloc _
  have hc : Core (w.alloc (.cells #[.int .i64 t.fi, .int .i64 t.fo, .int .i64 t.fl, .int .i64 t.k0, .int .i64 t.k1, .int .i64 t.k2, .int .i64 t.k3, .int .i64 t.k4, .int .i64 t.k5, .int .i64 t.k6, .int .i64 t.k7, .int .i64 t.k8, .int .i64 t.k9, .int .i64 t.k10, .int .i64 t.k11, .int .i64 t.mn, .int .i64 t.ti, .slice none 0 0, .int .i64 0, .slice none 0 0, .bool false, .bool false] 69)) w.heap.size (r0P t) (fresh t).ps :=
    ⟨DBox.new (r0P t) rfl, rfl, Win.nil _ 1, rfl, Win.nil _ 1, rfl, rfl, fun y hy => (by cases hy), fun j hj => (by cases hj), fun j hj => (by cases hj), fun j hj => (by cases hj)⟩
  refine ⟨r0P t, hc, fun j hj => ?_, fun k hk => ?_⟩
  · rcases hj with hj | hj | hj
    · exact hj
    · cases hj
    · cases hj
  · rw [hk]; exact hc.box.lt

/-- A new one, if the setting is right. -/
def NewP (b : Bool) (t : Tm) (w : World) (e : Ending) (w' : World) : Prop := (b = true → MadeP At t w e w') ∧ (b = false → Gives (.pointer none) w e w')

set_option maxRecDepth 100000 in
theorem a_new (t : Tm) (w : World) : Calls Try.prog 26 #[.agg #[.int .i64 t.fi, .int .i64 t.fo, .int .i64 t.fl, .int .i64 t.k0, .int .i64 t.k1, .int .i64 t.k2, .int .i64 t.k3, .int .i64 t.k4, .int .i64 t.k5, .int .i64 t.k6, .int .i64 t.k7, .int .i64 t.k8, .int .i64 t.k9, .int .i64 t.k10, .int .i64 t.k11, .int .i64 t.mn, .int .i64 t.ti]] w (NewP (rightB t) t w) := by
  have HTN := hide' (L17.TBox.new (w := w) t rfl)
  have HS0 := hide' ((Stay.refl (fun _ => False) w).alloc (.cells #[.int .i64 t.fi, .int .i64 t.fo, .int .i64 t.fl, .int .i64 t.k0, .int .i64 t.k1, .int .i64 t.k2, .int .i64 t.k3, .int .i64 t.k4, .int .i64 t.k5, .int .i64 t.k6, .int .i64 t.k7, .int .i64 t.k8, .int .i64 t.k9, .int .i64 t.k10, .int .i64 t.k11, .int .i64 t.mn, .int .i64 t.ti] 28))
  have HRT := hide' (L17.right34 t)
  have HNW := hide' (at_new t)
  obtain ⟨rt, hrt⟩ : ∃ z, z = rightB t := ⟨_, rfl⟩
  rw [← hrt] at HRT ⊢
  clear hrt
  obtain ⟨B, hB⟩ : ∃ z, z = w.heap.size := ⟨_, rfl⟩
  go_enter Try.func26, Try.ntmps26
  go_upto_region 1 with fail
  obtain ⟨W0, hW0⟩ : ∃ W, W = w.alloc (.cells #[.int .i64 t.fi, .int .i64 t.fo, .int .i64 t.fl, .int .i64 t.k0, .int .i64 t.k1, .int .i64 t.k2, .int .i64 t.k3, .int .i64 t.k4, .int .i64 t.k5, .int .i64 t.k6, .int .i64 t.k7, .int .i64 t.k8, .int .i64 t.k9, .int .i64 t.k10, .int .i64 t.k11, .int .i64 t.mn, .int .i64 t.ti] 28) := ⟨_, rfl⟩
  rw [← hW0] at HTN HS0 ⊢
  rw [← hB] at HTN ⊢
  have HB : Hid (B = w.heap.size) := hB
  clear hW0 hB
  go_wp2_with (refine wpList_exec rfl (L17.run_load_TBox rfl rfl HTN.out) ?_)
  refine (HRT.out _).mono ?_
  rintro e w1 ⟨rfl, hs⟩
  have HS1 := hide' (HS0.out.trans hs)
  have HT1 := hide' (HTN.out.keep hs)
  clear hs HS0 HTN
  cases rt
  · go_wp2
    go_ret
    exact ⟨fun h => (by cases h), fun _ => ⟨rfl, HS1.out⟩⟩
  · go_wp2_with (refine wpList_exec rfl (L17.run_load_TBox rfl rfl HT1.out) ?_)
    go_ret
    refine ⟨fun _ => ⟨w1.heap.size, fun j => j = w1.heap.size, rfl, HNW.out w1, fun k hk => ?_, HS1.out.alloc _⟩, fun h => (by cases h)⟩
    rw [hk]; exact HS1.out.size

/-- Bytes are taken off the front. -/
def TakeC (p : Nat) (r : Pd) (x : PS) (k : Nat) (w : World) (e : Ending) (w' : World) : Prop :=
  ∃ v r', e = .returned v ∧ BR w' v (x.all.take k) ∧ Core w' p r' ((x.setAll (x.all.drop k)).setRd (x.rd - k)) ∧ Stay (Bl p r) w w' ∧ ∀ j, Bl p r' j → Bl p r j ∨ w.heap.size ≤ j

set_option maxRecDepth 100000 in
theorem p_take (h : Core w p r x) (k : Nat) (hk : k ≤ x.rd) (hn : x.rd ≤ x.all.length) (hm : x.all.length ≤ 100000) : Calls Try.prog 32 #[.pointer (some ⟨p, 0, none⟩), .int .i64 (k : Nat)] w (TakeC p r x k w) := by
  have HC := hide' h
  obtain ⟨a, cap, e17, hcap, _⟩ := h.ip.shape
  have HWN := hide' h.ip
  rw [e17] at HWN
  have HKN : Hid (k ≤ x.all.length) := Nat.le_trans hk hn
  have HWT : Hid (IArg .u8 w (.slice a k cap) (x.all.take k) a cap) := by
    have h1 := HWN.out.take (k := k) HKN.out
    rw [bys_take] at h1
    have hl : (x.all.take k).length = k := by rw [List.length_take]; have := HKN.out; omega
    have h1' : Win w 1 (.slice a (x.all.take k).length cap) (x.all.take k).length (bys (x.all.take k)) := by rw [hl]; exact h1
    obtain ⟨a1, c1, h2⟩ := h1'.iarg (fun y hy => h.wf y (List.mem_of_mem_take hy))
    obtain ⟨e1, _, e2⟩ := iarg_shape h2 rfl
    rw [hl, e1, e2] at h2
    exact h2
  have HTL : Hid ((x.all.take k).length ≤ 100000) := by show _ ≤ _; rw [List.length_take]; omega
  have HWD := hide' (HWN.out.drop (k := k) HKN.out)
  have e18 := h.rd
  obtain ⟨n, hnn⟩ : ∃ z, z = x.all.length := ⟨_, rfl⟩
  have HNN := hide' hnn
  obtain ⟨rd, hrd⟩ : ∃ z, z = x.rd := ⟨_, rfl⟩
  have HRD := hide' hrd
  rw [← hnn] at e17 hcap hn hm HKN HWD
  rw [← hrd] at e18 hk hn
  have hkc : k ≤ cap := by omega
  have hkn : k ≤ n := by omega
  have hslh := fun w => slice_h_eq (P := Try.prog) (sa := a) (m := n) (cap := cap) (k := k) elemB sizeB hkc w
  have hsll := fun w => slice_l_eq (P := Try.prog) (sa := a) (m := n) (cap := cap) (k := k) elemB sizeB hkn w
  obtain ⟨va, hva⟩ : ∃ z, z = (if cap = k then a else a.map (·.add (k * 1))) := ⟨_, rfl⟩
  obtain ⟨nc, hnc⟩ : ∃ z, z = cap - k := ⟨_, rfl⟩
  obtain ⟨nl, hnl⟩ : ∃ z, z = n - k := ⟨_, rfl⟩
  have HVB : Hid (∀ j, (Value.slice va nl nc).ownBlock = some j → r.ip.ownBlock = some j) := fun j hj => by
    rw [e17]
    rw [hva, hnl, hnc] at hj
    exact Win.drop_block j hj
  rw [← hva, ← hnc, ← hnl] at hsll HWD
  have HNL : Hid (nl = (x.all.drop k).length) := by rw [List.length_drop, ← hnn]; exact hnl
  have ers : IntKind.i64.wrap ((rd : Int) - (k : Int)) = ((rd - k : Nat) : Int) := by rw [IntKind.wrap_i64]; omega
  have ers2 : ((rd : Int) - (k : Int)) = ((rd - k : Nat) : Int) := by omega
  obtain ⟨rk, hrk⟩ : ∃ z, z = rd - k := ⟨_, rfl⟩
  rw [← hrk] at ers ers2
  have erw : wrap64 (rk : Int) = (rk : Int) := by unfold wrap64; omega
  have HRK : Hid (rk = x.rd - k) := by rw [← hrd]; exact hrk
  have HCL := hide' (fun w' hh => p_clone (x.all.take k) a k cap w' hh HTL.out)
  obtain ⟨c0, c1, c2, c3, c4, c5, c6, c7, c8, c9, c10, c11, c12, c13, c14, c15, c16, c17, c18, c19, c20, c21, _⟩ := h.box
  rw [e17] at c17
  clear hva hnc hnl hnn hrd hrk h hcap hn hk HWN hm ers
  go_enter Try.func32, Try.ntmps32
  go_wp2_with fail
  refine (HCL.out _ HWT.out).mono ?_
  rintro e w1 ⟨v, a1, cap1, rfl, ha1, hn1, hs⟩
  have HA1 := hide' ha1
  have HN1 := hide' hn1
  have HS1 := hide' hs
  have ev := ha1.shape
  obtain ⟨l1, hl1⟩ : ∃ l, l = (x.all.take k).length := ⟨_, rfl⟩
  have HL1 := hide' hl1
  rw [← hl1] at ev
  subst ev
  have HC1 := hide' (HC.out.keep hs)
  have HPI := hide' (HC1.out.put_ip (v := .slice va nl nc) (l := x.all.drop k) (Stay.refl _ w1) (by rw [← HNL.out]; have h1 := HWD.out.stay hs (fun _ _ h => h); rw [Nat.mul_one, bys_drop] at h1; exact h1) (fun j hj => .inl (HVB.out j hj)) (fun y hy => HC.out.wf y (List.mem_of_mem_drop hy)))
  clear ha1 hn1 hs hl1 c0 c1 c2 c3 c4 c5 c6 c7 c8 c9 c10 c11 c12 c13 c14 c15 c16 c17 c18 c19 c20 c21
  obtain ⟨c0, c1, c2, c3, c4, c5, c6, c7, c8, c9, c10, c11, c12, c13, c14, c15, c16, c17, c18, c19, c20, c21, f0, f1, f2, f3, f4, f5, f6, f7, f8, f9, f10, f11, f12, f13, f14, f15, f16, f17, f18, f19, f20, f21⟩ := HC1.out.box
  rw [e17] at c17
  rw [e18] at c18
  go_upto_region 3 with fail
  obtain ⟨w2, hw2⟩ : ∃ z, z = w1.setCell ⟨p, 17, none⟩ (.slice va nl nc) := ⟨_, rfl⟩
  rw [← hw2] at HPI ⊢
  have HS2 : Hid (Stay (fun j => j = p) w1 w2) := by rw [hw2]; exact at_p w1 p 17 _
  clear hw2 c0 c1 c2 c3 c4 c5 c6 c7 c8 c9 c10 c11 c12 c13 c14 c15 c16 c17 c18 c19 c20 c21 f0 f1 f2 f3 f4 f5 f6 f7 f8 f9 f10 f11 f12 f13 f14 f15 f16 f17 f18 f19 f20 f21
  obtain ⟨r2, hc2, hi2, hl2⟩ := HPI.out
  have HC2 := hide' hc2
  have HRR := hide' (And.intro hi2 hl2)
  have e18b : r2.rd = (rd : Nat) := by rw [hc2.rd, HRD.out]; rfl
  obtain ⟨c0, c1, c2, c3, c4, c5, c6, c7, c8, c9, c10, c11, c12, c13, c14, c15, c16, c17, c18, c19, c20, c21, f0, f1, f2, f3, f4, f5, f6, f7, f8, f9, f10, f11, f12, f13, f14, f15, f16, f17, f18, f19, f20, f21⟩ := hc2.box
  rw [e18b] at c18
  have HFN := hide' (hc2.put_rd (z := (rk : Int)) rk rfl)
  clear hc2 hi2 hl2 e18b HPI
  go_wp2
  go_ret
  obtain ⟨r3, hc3, hi3, hl3⟩ := HFN.out
  have hst : Stay (fun j => j = p) w1 (w2.setCell ⟨p, 18, none⟩ (.int .i64 (rk : Nat))) := HS2.out.trans (at_p w2 p 18 _)
  refine ⟨_, r3, rfl, ⟨a1, cap1, ?_⟩, ?_, ?_, ?_⟩
  · refine HA1.out.stay hst (fun b off e hb => ?_)
    have h1 := HN1.out _ e
    have h2 := HC.out.box.lt
    have h3 : b = p := hb
    have h1 : w.heap.size ≤ b := h1
    omega
  · rw [← HRK.out]; exact hc3
  · exact (HS1.out.mono (fun _ _ h => h.elim)).trans (hst.mono (fun j _ e => .inl e))
  · rintro j (hj | hj | hj)
    · exact .inl (.inl hj)
    · rw [hi3, HRR.out.1] at hj
      exact .inl (.inr (.inl (HVB.out j hj)))
    · rw [hl3, HRR.out.2] at hj
      exact .inl (.inr (.inr hj))
end

end Go.Proofs.Ytjfhmpjpdcckhaa.L18
