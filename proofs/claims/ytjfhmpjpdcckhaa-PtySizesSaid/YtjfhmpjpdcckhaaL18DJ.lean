/-
  The program: what is read: walked. No conditions.
-/
import Derived.Test.YtjfhmpjpdcckhaaL18DI
import Derived.Deep.CutBlock
namespace Go.Proofs.Ytjfhmpjpdcckhaa.L18
open Go.RowKit

open L17

section
variable {w w1 : World} {p : Nat} {r : Pd} {x : PS}

/-- The first line's length is stored. -/
theorem Core.put_l0 (h : Core w p r x) {n0 m cap g o : Nat} {L : List Nat} (hl : x.lns = n0 :: L) (hv : r.li = .slice (some ⟨g, o, none⟩) m cap) (z : Nat) :
    Core (w.setCell ⟨g, o, none⟩ (.int .i64 (z : Nat))) p r (x.setLns (z :: L)) ∧ Stay (Bl p r) w (w.setCell ⟨g, o, none⟩ (.int .i64 (z : Nat))) ∧ w.cell? ⟨g, o, none⟩ = some (.int .i64 (n0 : Nat)) ∧ w.frozen? ⟨g, o, none⟩ = false := by
  have hs : Stay (fun j => j = g) w (w.setCell ⟨g, o, none⟩ (.int .i64 (z : Nat))) := at_p w g o _
  have hg : r.li.ownBlock = some g := by rw [hv]; rfl
  have hgp : g ≠ p := h.n2 g hg
  have hli := h.li
  rw [hl] at hli
  obtain ⟨h1, h2⟩ := hli
  rcases h2 with ⟨h2, h3⟩ | ⟨g', o', cap', h2, h3, h4, h5, h6, h7⟩
  · rw [hv] at h2; cases h2
  · have e := hv.symm.trans h2
    cases e
    have hc0 := h6 0 _ (show (nts (n0 :: L))[0]? = some (.int .i64 (n0 : Nat)) from rfl)
    have ht0 := h7 0 (by have : 0 < (n0 :: L).length := by simp
                         omega)
    refine ⟨⟨h.box.stay hs (fun e => hgp e.symm), h.t, h.ip.stay hs (fun j hj e => h.n3 j hj (by rw [e]; exact hg)), h.rd, ?_, h.st, h.wt, h.wf, h.n1, h.n2, h.n3⟩, hs.mono (fun j _ e => .inr (.inr (by rw [e]; exact hg))), hc0, ht0.2⟩
    have hone : w.there g o [Value.int .i64 (z : Nat)].length := fun j hj => by
      have : j = 0 := by simpa using hj
      subst this
      exact ht0
    refine ⟨nts_len _, .inr ⟨g, o, cap, ?_, h3, h4, Nat.lt_of_lt_of_le h5 hs.size, fun j u hu => ?_, fun j hj => ?_⟩⟩
    · rw [hv]; rfl
    · cases j with
      | zero => exact World.rangeAt_setCells_same w g o [Value.int .i64 (z : Nat)] hone 0 u hu
      | succ j =>
        have hrest : w.rangeAt g (o + 1) (nts L) := fun i v hv => by
          have := h6 (i + 1) v hv
          rw [show o + 1 + i = o + (i + 1) by omega]
          exact this
        have := World.rangeAt_setCells_apart hrest g o [Value.int .i64 (z : Nat)] (.inr (.inr (by simp))) j u hu
        rw [show o + 1 + j = o + (j + 1) by omega] at this
        exact this
    · exact World.there_setCells h7 g o [Value.int .i64 (z : Nat)] j hj
end

section
variable {w : World} {p : Nat} {O : Nat → Prop} {d : DS}

theorem a_read0 (n : Int) (h : At w p O d) (hn : n < 1) : Calls Try.prog 22 #[.pointer (some ⟨p, 0, none⟩), .int .i64 n] w (RdP At p O d n w) := by
  have HA := hide' h
  have HS := hide' (Stay.refl O w)
  obtain ⟨e1, e2⟩ := rd_small d n hn
  unfold RdP
  rw [e1, e2]
  have dn : decide (n < 1) = true := by simpa using hn
  clear e1 e2 h hn
  go_enter Try.func22, Try.ntmps22
  go_wp2
  go_returns
  exact ⟨.slice none 0 0, O, rfl, (BRow.nil w ⟨0, fun _ => True, trivial⟩).br, HA.out, HS.out, fun k hk => .inl hk⟩

theorem raw_take {N : Nat} (d : DS) (n : Int) (hO : Ok N d) (hc : d.loc 1 = false) (k : Nat) (hk : k = min n.toNat d.cnt) : d.all.take k = d.raw.take n.toNat ∧ (d.ps.setAll (d.all.drop k)).setRd (d.cnt - k) = (d.setRaw (d.raw.drop n.toNat)).ps := by
  obtain ⟨e1, e2⟩ := hO.plain hc
  have ea : d.all = d.raw := by unfold DS.all; rw [e1, e2]; simp
  have ec : d.cnt = d.raw.length := by unfold DS.cnt; rw [e1]; simp
  subst hk
  rw [ea, ec]
  have h1 : d.raw.take (min n.toNat d.raw.length) = d.raw.take n.toNat := by rw [← List.take_take, List.take_of_length_le (Nat.le_refl _)]
  have h2 : d.raw.drop (min n.toNat d.raw.length) = d.raw.drop n.toNat := by
    by_cases h : n.toNat ≤ d.raw.length
    · rw [Nat.min_eq_left h]
    · rw [Nat.min_eq_right (by omega), List.drop_of_length_le (Nat.le_refl _), List.drop_of_length_le (by omega)]
  refine ⟨h1, ?_⟩
  rw [h2]
  have e3 : (d.setRaw (d.raw.drop n.toNat)).all = d.raw.drop n.toNat := by show d.raw.drop n.toNat ++ d.lines.flatten ++ d.line = _; rw [e1, e2]; simp
  have e4 : (d.setRaw (d.raw.drop n.toNat)).cnt = d.raw.length - min n.toNat d.raw.length := by
    show (d.raw.drop n.toNat).length + d.lines.flatten.length = _
    rw [e1, List.length_drop]; simp; omega
  show (⟨d.t, d.raw.drop n.toNat, d.raw.length - min n.toNat d.raw.length, d.lines.map List.length, d.stp, d.nxt⟩ : PS) = ⟨d.t, (d.setRaw (d.raw.drop n.toNat)).all, (d.setRaw (d.raw.drop n.toNat)).cnt, d.lines.map List.length, d.stp, d.nxt⟩
  rw [e3, e4]

set_option maxRecDepth 100000 in
theorem a_read1 {N : Nat} (n : Int) (h : At w p O d) (hO : Ok N d) (hn : ¬ n < 1) (hm : n ≤ 9223372036854775807) (hc : d.loc 1 = false) : Calls Try.prog 22 #[.pointer (some ⟨p, 0, none⟩), .int .i64 n] w (RdP At p O d n w) := by
  obtain ⟨r, hcr, h2, h3⟩ := h
  have HO2 := hide' h2
  have HC0 := hide' hcr
  have HL := hide' (p_local (x := d.ps) hcr hO.right 1 (by simp))
  have e1 : hasB d.ps.t.fl 1 = false := hc
  rw [e1] at HL
  obtain ⟨k, hk⟩ : ∃ k, k = min n.toNat d.cnt := ⟨_, rfl⟩
  have hal := (all_line d).2.2.1
  have HTK : Hid (∀ w' r', Core w' p r' d.ps → Calls Try.prog 32 #[.pointer (some ⟨p, 0, none⟩), .int .i64 (k : Nat)] w' (TakeC p r' d.ps k w')) := fun w' r' hh => p_take hh k (show k ≤ d.cnt by omega) hal (show d.all.length ≤ 100000 by have := hO.all_le.1; omega)
  have HRT := hide' (raw_take d n hO hc k hk)
  obtain ⟨e2, e3⟩ := rd_raw d n hn hc
  unfold RdP
  rw [e2, e3]
  have hcb := hO.all_le.2
  obtain ⟨cn, hcn⟩ : ∃ c, c = d.cnt := ⟨_, rfl⟩
  have HRD : Hid (r.rd = (cn : Nat)) := by rw [hcn]; exact hcr.rd
  rw [← hcn] at hk hcb
  have emin : min n (cn : Int) = (k : Nat) := by omega
  have dn : decide (n < 1) = false := by simpa using hn
  clear hcr h2 h3 hO e1 e2 e3 hk hal hcn hn hcb hm
  go_enter Try.func22, Try.ntmps22
  go_wp2_with fail
  refine HL.out.mono ?_
  rintro e w1 ⟨rfl, hs⟩
  have HS1 := hide' hs
  have HC1 := hide' (HC0.out.keep hs)
  clear hs HL HC0
  obtain ⟨c0, c1, c2, c3, c4, c5, c6, c7, c8, c9, c10, c11, c12, c13, c14, c15, c16, c17, c18, c19, c20, c21, f0, f1, f2, f3, f4, f5, f6, f7, f8, f9, f10, f11, f12, f13, f14, f15, f16, f17, f18, f19, f20, f21⟩ := HC1.out.box
  rw [HRD.out] at c18
  go_wp2_with fail
  refine (HTK.out _ _ HC1.out).mono ?_
  rintro e w2 ⟨v, r2, rfl, hb, hc2, hs2, hg2⟩
  have HB2 := hide' hb
  have HC2 := hide' hc2
  have HS2 := hide' hs2
  have HG2 := hide' hg2
  clear hb hc2 hs2 hg2 emin dn c0 c1 c2 c3 c4 c5 c6 c7 c8 c9 c10 c11 c12 c13 c14 c15 c16 c17 c18 c19 c20 c21 f0 f1 f2 f3 f4 f5 f6 f7 f8 f9 f10 f11 f12 f13 f14 f15 f16 f17 f18 f19 f20 f21
  go_wp2
  go_returns
  refine ⟨_, Bl p r2, rfl, ?_, ⟨r2, ?_, fun j hj => hj, HC2.out.lt⟩, ?_, fun j hj => ?_⟩
  · have h1 : BR w2 v (d.all.take k) := HB2.out
    rw [HRT.out.1] at h1
    exact h1
  · rw [← HRT.out.2]; exact HC2.out
  · exact (HS1.out.mono (fun _ _ h => h.elim)).trans (HS2.out.mono (fun j _ hj => HO2.out j hj))
  · rcases HG2.out j hj with h | h
    · exact .inl (HO2.out j h)
    · exact .inr (Nat.le_trans HS1.out.size h)

set_option maxRecDepth 100000 in
theorem a_read2 {N : Nat} (n : Int) (h : At w p O d) (hO : Ok N d) (hn : ¬ n < 1) (hc : d.loc 1 = true) (hl : d.lines = []) : Calls Try.prog 22 #[.pointer (some ⟨p, 0, none⟩), .int .i64 n] w (RdP At p O d n w) := by
  have HA := hide' h
  obtain ⟨r, hcr, h2, h3⟩ := h
  have HC0 := hide' hcr
  have HL := hide' (p_local (x := d.ps) hcr hO.right 1 (by simp))
  have e1 : hasB d.ps.t.fl 1 = true := hc
  rw [e1] at HL
  obtain ⟨e2, e3⟩ := rd_none d n hn hc hl
  unfold RdP
  rw [e2, e3]
  obtain ⟨la, lc, hv, _⟩ := hcr.li.shape
  have hz : d.ps.lns.length = 0 := by show (d.lines.map List.length).length = 0; rw [hl]; rfl
  rw [hz] at hv
  have HV := hide' hv
  have dn : decide (n < 1) = false := by simpa using hn
  clear hcr h2 h3 hO e1 e2 e3 hn hz hv
  go_enter Try.func22, Try.ntmps22
  go_wp2_with fail
  refine HL.out.mono ?_
  rintro e w1 ⟨rfl, hs⟩
  have HS1 := hide' hs
  have HC1 := hide' (HC0.out.keep hs)
  clear hs HL HC0
  obtain ⟨c0, c1, c2, c3, c4, c5, c6, c7, c8, c9, c10, c11, c12, c13, c14, c15, c16, c17, c18, c19, c20, c21, f0, f1, f2, f3, f4, f5, f6, f7, f8, f9, f10, f11, f12, f13, f14, f15, f16, f17, f18, f19, f20, f21⟩ := HC1.out.box
  rw [HV.out] at c19
  go_wp2
  go_returns
  exact ⟨.slice none 0 0, O, rfl, (BRow.nil w1 ⟨0, fun _ => True, trivial⟩).br, HA.out.keep HS1.out (fun _ h => h.elim), HS1.out.mono (fun _ _ h => h.elim), fun k hk => .inl hk⟩
end

end Go.Proofs.Ytjfhmpjpdcckhaa.L18
