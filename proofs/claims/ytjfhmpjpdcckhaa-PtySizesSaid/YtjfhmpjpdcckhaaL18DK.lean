/-
  The program: a line is read: walked. No conditions.
-/
import Derived.Test.YtjfhmpjpdcckhaaL18DJ
import Derived.Deep.CutBlock
namespace Go.Proofs.Ytjfhmpjpdcckhaa.L18
open Go.RowKit

open L17

theorem elemN : Try.prog.underlying 29 = some (.slice (Try.prog.elem 29)) := by kernel_rfl
theorem sizeN : (Try.prog.info? (Try.prog.elem 29)).map (·.size) = some 1 := by kernel_rfl

section
variable {w : World} {p : Nat} {O : Nat → Prop} {d : DS}

theorem line_take {N : Nat} (d : DS) (n : Int) (hO : Ok N d) (hc : d.loc 1 = true) (l : List Int) (L : List (List Int)) (hl : d.lines = l :: L) (k : Nat) (hk : k = min n.toNat l.length) :
    d.all.take k = l.take n.toNat ∧ k ≤ d.cnt ∧ (n.toNat < l.length → (((d.ps.setLns ((l.length - k) :: L.map List.length)).setAll (d.all.drop k)).setRd (d.cnt - k)) = (d.setLines (l.drop n.toNat :: L)).ps) ∧
      (l.length ≤ n.toNat → (((d.ps.setLns (L.map List.length)).setAll (d.all.drop k)).setRd (d.cnt - k)) = (d.setLines L).ps) := by
  have er := hO.canon hc
  have ea : d.all = l ++ (L.flatten ++ d.line) := by unfold DS.all; rw [er, hl]; simp
  have ec : d.cnt = l.length + L.flatten.length := by unfold DS.cnt; rw [er, hl]; simp
  have hkl : k ≤ l.length := by omega
  refine ⟨?_, by omega, fun h => ?_, fun h => ?_⟩
  · rw [ea, List.take_append_of_le_length hkl, hk]
    by_cases h : n.toNat ≤ l.length
    · rw [Nat.min_eq_left h]
    · rw [Nat.min_eq_right (by omega), List.take_of_length_le (Nat.le_refl _), List.take_of_length_le (by omega)]
  · have e : k = n.toNat := by omega
    subst e
    have e1 : (d.setLines (l.drop n.toNat :: L)).all = d.all.drop n.toNat := by
      rw [ea, List.drop_append_of_le_length hkl]
      show d.raw ++ (l.drop n.toNat :: L).flatten ++ d.line = _
      rw [er]; simp
    have e2 : (d.setLines (l.drop n.toNat :: L)).cnt = d.cnt - n.toNat := by
      rw [ec]
      show d.raw.length + (l.drop n.toNat :: L).flatten.length = _
      rw [er]; simp; omega
    show (⟨d.t, d.all.drop n.toNat, d.cnt - n.toNat, (l.length - n.toNat) :: L.map List.length, d.stp, d.nxt⟩ : PS) = ⟨d.t, (d.setLines (l.drop n.toNat :: L)).all, (d.setLines (l.drop n.toNat :: L)).cnt, (l.drop n.toNat :: L).map List.length, d.stp, d.nxt⟩
    rw [e1, e2, List.map_cons, List.length_drop]
  · have e : k = l.length := by omega
    have e1 : (d.setLines L).all = d.all.drop k := by
      rw [ea, e, List.drop_left]
      show d.raw ++ L.flatten ++ d.line = _
      rw [er]; simp
    have e2 : (d.setLines L).cnt = d.cnt - k := by
      rw [ec, e]
      show d.raw.length + L.flatten.length = _
      rw [er]; simp
    show (⟨d.t, d.all.drop k, d.cnt - k, L.map List.length, d.stp, d.nxt⟩ : PS) = ⟨d.t, (d.setLines L).all, (d.setLines L).cnt, L.map List.length, d.stp, d.nxt⟩
    rw [e1, e2]

theorem empty_eq (l : List Int) : l.isEmpty = ((l.length : Int) == 0) := by
  cases l with
  | nil => rfl
  | cons a l => symm; simp; omega

set_option maxRecDepth 100000 in
set_option maxHeartbeats 1000000 in
theorem a_read3 {N : Nat} (n : Int) (h : At w p O d) (hO : Ok N d) (hN : N ≤ 100000) (hn : ¬ n < 1) (hm : n ≤ 9223372036854775807) (hc : d.loc 1 = true) (l : List Int) (L : List (List Int)) (hl : d.lines = l :: L) : Calls Try.prog 22 #[.pointer (some ⟨p, 0, none⟩), .int .i64 n] w (RdP At p O d n w) := by
  obtain ⟨r, hcr, h2, h3⟩ := h
  have HO2 := hide' h2
  have HC0 := hide' hcr
  have HL := hide' (p_local (x := d.ps) hcr hO.right 1 (by simp))
  have e1 : hasB d.ps.t.fl 1 = true := hc
  rw [e1] at HL
  have hll : l.length ≤ 1024 := by have := hO.flat; rw [hl, List.flatten_cons, List.length_append] at this; omega
  have hLL : L.length ≤ 100000 := by have := hO.lines; rw [hl, List.length_cons] at this; omega
  obtain ⟨k, hk⟩ : ∃ k, k = min n.toNat l.length := ⟨_, rfl⟩
  have hlt := line_take d n hO hc l L hl k hk
  have hal := (all_line d).2.2.1
  have HTK : Hid (∀ w' r' z, Core w' p r' (d.ps.setLns z) → Calls Try.prog 32 #[.pointer (some ⟨p, 0, none⟩), .int .i64 (k : Nat)] w' (TakeC p r' (d.ps.setLns z) k w')) := fun w' r' z hh => p_take hh k (show k ≤ d.cnt from hlt.2.1) hal (show d.all.length ≤ 100000 by have := hO.all_le.1; omega)
  have HLT := hide' hlt
  have HRDL := hide' (rd_line d n hn hc l L hl)
  have elns : d.ps.lns = l.length :: L.map List.length := by show d.lines.map List.length = _; rw [hl]; rfl
  obtain ⟨ll, hln⟩ : ∃ z, z = l.length := ⟨_, rfl⟩
  have HLN := hide' hln
  have hemp := empty_eq l
  rw [← hln] at hemp
  have HEM := hide' hemp
  obtain ⟨la, cap, hv, hcap, hnil⟩ := hcr.li.shape
  have hsz : d.ps.lns.length = L.length + 1 := by rw [elns]; simp
  rw [hsz] at hv hcap
  obtain ⟨ad, had⟩ : ∃ ad, la = some ad := by
    cases la with
    | none => have := hnil rfl; omega
    | some ad => exact ⟨ad, rfl⟩
  subst had
  obtain ⟨g, o, hgo⟩ : ∃ g o, ad = ⟨g, o, none⟩ := by
    rcases hcr.li.2 with ⟨h1, _⟩ | ⟨g, o, c', h1, _⟩
    · rw [hv] at h1; cases h1
    · rw [hv] at h1; simp only [Value.slice.injEq, Option.some.injEq] at h1; exact ⟨g, o, h1.1⟩
  subst hgo
  have hpl := hcr.put_l0 elns hv 0
  have HCE := hide' hpl.2.2
  have HV := hide' hv
  have HELN := hide' elns
  obtain ⟨m, hmm⟩ : ∃ m, m = L.length + 1 := ⟨_, rfl⟩
  have HMM := hide' hmm
  rw [← hmm] at hv hcap HV
  have hm0 : (0 : Int) < (m : Nat) := by omega
  have hm9 : ¬ (m : Int) = 0 := by omega
  have hmb : m ≤ 100001 := by omega
  have hm1 : 1 ≤ m := by omega
  have emin : min n (ll : Int) = (k : Nat) := by omega
  have hkl : k ≤ ll := by omega
  have HNK : Hid ((n < (l.length : Int) ↔ n.toNat < l.length) ∧ (k = ll ↔ l.length ≤ n.toNat)) := by show _ ∧ _; constructor <;> omega
  have dn : decide (n < 1) = false := by simpa using hn
  have kll : ll ≤ 1024 := by omega
  clear hcr h2 h3 hO e1 hk hal hn hm hv hlt hnil hpl hmm hsz elns hemp hln
  go_enter Try.func22, Try.ntmps22
  go_wp2_with fail
  refine HL.out.mono ?_
  rintro e w1 ⟨rfl, hs⟩
  have HS1 := hide' hs
  have HC1 := hide' (HC0.out.keep hs)
  have hcell := keep_cell hs HCE.out.1
  rw [← HLN.out] at hcell
  have hfz : w1.frozen? ⟨g, o, none⟩ = false := (hs.frozen (p := ⟨g, o, none⟩) (World.block_lt_of_cell? _ _ HCE.out.1) (fun h => h)).trans HCE.out.2
  clear hs HL HC0
  obtain ⟨c0, c1, c2, c3, c4, c5, c6, c7, c8, c9, c10, c11, c12, c13, c14, c15, c16, c17, c18, c19, c20, c21, f0, f1, f2, f3, f4, f5, f6, f7, f8, f9, f10, f11, f12, f13, f14, f15, f16, f17, f18, f19, f20, f21⟩ := HC1.out.box
  rw [HV.out] at c19
  by_cases hkk : k = ll
  · have ek : ((k : Int) == (ll : Int)) = true := by rw [hkk]; simp
    have HKK := hide' hkk
    have hcl : 1 ≤ m := hm1
    have hsll0 := fun w => slice_l_eq (P := Try.prog) (sa := some ⟨g, o, none⟩) (m := m) (cap := cap) (k := 1) elemN sizeN hcl w
    have HWD := hide' (show Win w1 1 (.slice (some ⟨g, o, none⟩) m cap) m (nts d.ps.lns) by
      have h1 := HC1.out.li
      rw [HV.out, show d.ps.lns.length = m by rw [HELN.out, HMM.out]; simp] at h1
      exact h1)
    have HWD2 := hide' (HWD.out.drop (k := 1) hcl)
    obtain ⟨va, hva⟩ : ∃ z, z = (if cap = 1 then some ⟨g, o, none⟩ else (some ⟨g, o, none⟩ : Option Addr).map (·.add (1 * 1))) := ⟨_, rfl⟩
    obtain ⟨nc, hnc⟩ : ∃ z, z = cap - 1 := ⟨_, rfl⟩
    obtain ⟨nl, hnl⟩ : ∃ z, z = m - 1 := ⟨_, rfl⟩
    have HVB : Hid (∀ j, (Value.slice va nl nc).ownBlock = some j → r.li.ownBlock = some j) := fun j hj => by
      rw [HV.out]
      rw [hva, hnl, hnc] at hj
      exact Win.drop_block j hj
    rw [← hva, ← hnc, ← hnl] at hsll0 HWD2
    have hsll : ∀ w, (Instr.slice 29 (.slice (some ⟨g, o, none⟩) m cap) (some (.int .i64 1)) none none).run Try.prog w = .ok (.slice va nl nc) w := hsll0
    clear hsll0
    have HNL : Hid (nl = (L.map List.length).length) := by rw [List.length_map, hnl, HMM.out]; show L.length + 1 - 1 = L.length; omega
    have HPI := hide' (HC1.out.put_li (v := .slice va nl nc) (l := L.map List.length) (Stay.refl _ w1) (by
      rw [← HNL.out]
      have h1 := HWD2.out
      rw [Nat.mul_one, HELN.out] at h1
      exact h1) (fun j hj => .inl (HVB.out j hj)))
    clear hva hnc hnl hkk HWD HWD2 hcl
    go_upto_region 12 with fail
    obtain ⟨w2, hw2⟩ : ∃ z, z = w1.setCell ⟨p, 19, none⟩ (.slice va nl nc) := ⟨_, rfl⟩
    rw [← hw2] at HPI ⊢
    have HS2 : Hid (Stay (fun j => j = p) w1 w2) := by rw [hw2]; exact at_p w1 p 19 _
    clear hw2 hsll ek emin dn hcell hfz c0 c1 c2 c3 c4 c5 c6 c7 c8 c9 c10 c11 c12 c13 c14 c15 c16 c17 c18 c19 c20 c21 f0 f1 f2 f3 f4 f5 f6 f7 f8 f9 f10 f11 f12 f13 f14 f15 f16 f17 f18 f19 f20 f21
    obtain ⟨r2, hc2, hi2, hl2⟩ := HPI.out
    have HC2 := hide' hc2
    have HR2 : Hid (∀ j, Bl p r2 j → Bl p r j) := fun j hj => by
      rcases hj with hj | hj | hj
      · exact .inl hj
      · rw [hi2] at hj; exact .inr (.inl hj)
      · rw [hl2] at hj; exact .inr (.inr (HVB.out j hj))
    clear hc2 hi2 hl2 HPI
    go_wp2_with fail
    refine (HTK.out _ _ _ HC2.out).mono ?_
    rintro e w3 ⟨v, r3, rfl, hb, hc3, hs3, hg3⟩
    have HB3 := hide' hb
    have HC3 := hide' hc3
    have HS3 := hide' hs3
    have HG3 := hide' hg3
    clear hb hc3 hs3 hg3
    have hlz : ((ll : Int) == 0) = l.isEmpty := HEM.out.symm
    go_wp2
    go_returns
    unfold RdP
    rw [HRDL.out.1, HRDL.out.2]
    rw [if_neg (fun h => by have h1 := HNK.out.1.1 h; have h2 := HNK.out.2.1 HKK.out; omega)]
    refine ⟨v, Bl p r3, by first | rfl | rw [hlz], ?_, ⟨r3, ?_, fun j hj => hj, HC3.out.lt⟩, ?_, fun j hj => ?_⟩
    · have h1 : BR w3 v (d.all.take k) := HB3.out
      rw [HLT.out.1] at h1
      exact h1
    · rw [← HLT.out.2.2.2 (HNK.out.2.1 HKK.out)]; exact HC3.out
    · exact ((HS1.out.mono (T := O) (fun _ _ h => h.elim)).trans (HS2.out.mono (fun j _ e => HO2.out j (.inl e)))).trans (HS3.out.mono (fun j _ hj => HO2.out j (HR2.out j hj)))
    · rcases HG3.out j hj with h | h
      · exact .inl (HO2.out j (HR2.out j h))
      · exact .inr (Nat.le_trans (Nat.le_trans HS1.out.size HS2.out.size) h)
  · have ek : ((k : Int) == (ll : Int)) = false := by simp; omega
    have HKK := hide' hkk
    have ersw : IntKind.i64.wrap ((ll : Int) - (k : Int)) = ((ll - k : Nat) : Int) := by rw [IntKind.wrap_i64]; omega
    have ers2 : ((ll : Int) - (k : Int)) = ((ll - k : Nat) : Int) := by omega
    obtain ⟨rk, hrk⟩ : ∃ z, z = ll - k := ⟨_, rfl⟩
    rw [← hrk] at ersw ers2
    have erw : wrap64 (rk : Int) = (rk : Int) := by unfold wrap64; omega
    have HRK := hide' hrk
    have HPI := hide' (HC1.out.put_l0 HELN.out HV.out rk)
    clear hrk hkk ersw
    go_upto_region 12 with fail
    obtain ⟨w2, hw2⟩ : ∃ z, z = w1.setCell ⟨g, o, none⟩ (.int .i64 (rk : Nat)) := ⟨_, rfl⟩
    rw [← hw2] at HPI ⊢
    clear hw2 ek emin dn hcell hfz ers2 erw c0 c1 c2 c3 c4 c5 c6 c7 c8 c9 c10 c11 c12 c13 c14 c15 c16 c17 c18 c19 c20 c21 f0 f1 f2 f3 f4 f5 f6 f7 f8 f9 f10 f11 f12 f13 f14 f15 f16 f17 f18 f19 f20 f21
    have HC2 := hide' HPI.out.1
    have HS2 := hide' HPI.out.2.1
    clear HPI
    go_wp2_with fail
    refine (HTK.out _ _ _ HC2.out).mono ?_
    rintro e w3 ⟨v, r3, rfl, hb, hc3, hs3, hg3⟩
    have HB3 := hide' hb
    have HC3 := hide' hc3
    have HS3 := hide' hs3
    have HG3 := hide' hg3
    clear hb hc3 hs3 hg3
    have hlz : ((ll : Int) == 0) = l.isEmpty := HEM.out.symm
    go_wp2
    go_returns
    have hnl : n.toNat < l.length := by
      have h2 := HNK.out.2
      have h3 := HKK.out
      by_cases h : l.length ≤ n.toNat
      · exact absurd (h2.2 h) h3
      · omega
    unfold RdP
    rw [HRDL.out.1, HRDL.out.2]
    rw [if_pos (HNK.out.1.2 hnl)]
    refine ⟨v, Bl p r3, by first | rfl | rw [hlz], ?_, ⟨r3, ?_, fun j hj => hj, HC3.out.lt⟩, ?_, fun j hj => ?_⟩
    · have h1 : BR w3 v (d.all.take k) := HB3.out
      rw [HLT.out.1] at h1
      exact h1
    · rw [← HLT.out.2.2.1 hnl, ← HLN.out, ← HRK.out]; exact HC3.out
    · exact ((HS1.out.mono (T := O) (fun _ _ h => h.elim)).trans (HS2.out.mono (fun j _ hj => HO2.out j hj))).trans (HS3.out.mono (fun j _ hj => HO2.out j hj))
    · rcases HG3.out j hj with h | h
      · exact .inl (HO2.out j h)
      · exact .inr (Nat.le_trans (Nat.le_trans HS1.out.size HS2.out.size) h)

theorem a_read {N : Nat} (n : Int) (h : At w p O d) (hO : Ok N d) (hN : N ≤ 100000) (hm : n ≤ 9223372036854775807) : Calls Try.prog 22 #[.pointer (some ⟨p, 0, none⟩), .int .i64 n] w (RdP At p O d n w) := by
  by_cases hn : n < 1
  · exact a_read0 n h hn
  · cases hc : d.loc 1
    · exact a_read1 n h hO hn hm hc
    · cases hl : d.lines with
      | nil => exact a_read2 n h hO hn hc hl
      | cons l L => exact a_read3 n h hO hN hn hm hc l L hl
end

end Go.Proofs.Ytjfhmpjpdcckhaa.L18
