/-
  What is ready is read: walked. No conditions.
-/
import Derived.Test.YtkggmjjjopfdbaaR9
namespace Go.Proofs.Ytkggmjjjopfdbaa
open Go.RowKit
open L17

/-- What a read leaves. -/
def ReadR (b : Bx) (d : DS) (n : Int) (w : World) (e : Ending) (w' : World) : Prop :=
  ∃ v, e = .returned (.tuple #[v, .bool (d.rd n).2]) ∧ BRow w' b v (d.rd n).1 ∧ RAt w' b (d.rdS n) ∧ Stay (fun k => k = b) w w'

theorem BRow.drop {w : World} {b : Bx} {a : Option Addr} {n cap : Nat} {l : List Int} (h : BRow w b (.slice a n cap) l) (k : Nat) (hk : k ≤ n) : ∃ a', (if cap = k then a else a.map (·.add (k * 1))) = a' ∧ BRow w b (.slice a' (n - k) (cap - k)) (l.drop k) := by
  obtain ⟨a0, cap0, h, hb⟩ := h
  have hs := h.shape
  cases hs
  refine ⟨_, rfl, ?_⟩
  have hle := h.lenLe
  by_cases hc : cap = k
  · rw [if_pos hc]
    have e : l.drop k = [] := List.drop_eq_nil_of_le (by omega)
    refine ⟨a, cap - k, ⟨by rw [e]; simp; omega, fun hne => absurd e hne, fun ha => ?_, by rw [e]; simp, by have := h.capLe; omega, fun x hx => by rw [e] at hx; simp at hx⟩, fun hne => absurd e hne⟩
    have := h.nilCap ha
    omega
  · rw [if_neg hc]
    cases ha : a with
    | none =>
      have := h.nilCap ha
      exfalso; omega
    | some ad =>
      have hd : (some ad : Option Addr).map (·.add (k * 1)) = some (ad.add (k * 1)) := rfl
      rw [hd]
      refine ⟨some (ad.add (k * 1)), cap - k, ⟨by rw [List.length_drop], fun hne => ?_, (fun e => by cases e), by rw [List.length_drop]; omega, by have := h.capLe; omega, fun x hx => h.wf x (List.mem_of_mem_drop hx)⟩, fun hne ad' e => ?_⟩
      · have hl : l ≠ [] := fun e => by rw [e] at hne; simp at hne
        obtain ⟨g, o, e, hg, hi⟩ := h.cells hl
        rw [ha] at e
        cases e
        rw [addr_add]
        refine ⟨g, o + k * 1, rfl, hg, ?_⟩
        rw [Nat.mul_one]
        exact hi.drop k
      · cases e
        rw [show (ad.add (k * 1)).block = ad.block by unfold Addr.add; split <;> rfl]
        exact hb (fun e => hne (by rw [e]; simp)) ad ha

theorem LRow.drop1 {w : World} {b : Bx} {a : Option Addr} {n cap : Nat} {l : List Int} {L : List (List Int)} (h : LRow w b (.slice a (n + 1) cap) (l :: L)) : ∃ a', (if cap = 1 then a else a.map (·.add (1 * 1))) = a' ∧ LRow w b (.slice a' n (cap - 1)) L := by
  obtain ⟨vs, a0, cap0, h1, h2, h3, h4, h5, h6, h7⟩ := h
  have hlen : vs.length = n + 1 := by injection h1 with _ e _; exact e.symm
  have ha : a = a0 := by injection h1
  have hc : cap = cap0 := by injection h1
  subst ha hc
  have hL : (l :: L).length = n + 1 := h5.symm.trans hlen
  rw [List.length_cons] at hL
  cases vs with
  | nil => simp at hlen
  | cons u vs =>
    obtain ⟨g, o, rfl, hg, hn, hcell⟩ := h6 (by simp)
    rw [List.length_cons] at hlen
    have hvl : vs.length = n := by omega
    refine ⟨_, rfl, vs, _, cap - 1, by rw [hvl], ?_, by rw [List.length_cons] at h3; omega, by omega, by omega, fun hne => ?_, fun j x m hx hm => h7 (j + 1) x m (by simpa using hx) (by simpa using hm)⟩
    · intro e
      by_cases hc1 : cap = 1
      · omega
      · rw [if_neg hc1] at e; cases e
    · have hc1 : ¬ cap = 1 := fun e => by rw [List.length_cons] at h3; exact hne (List.eq_nil_of_length_eq_zero (by omega))
      refine ⟨g, o + 1 * 1, by rw [if_neg hc1]; exact congrArg some (addr_add g o _), hg, hn, fun j x hx => ?_⟩
      have := hcell (j + 1) x (by simpa using hx)
      rw [show o + 1 * 1 + j = o + (j + 1) by omega]
      exact this

theorem LRow.head {w : World} {b : Bx} {a : Option Addr} {n cap : Nat} {l : List Int} {L : List (List Int)} (h : LRow w b (.slice a n cap) (l :: L)) : ∃ g o u, a = some ⟨g, o, none⟩ ∧ w.cell? ⟨g, o, none⟩ = some u ∧ BRow w b u l ∧ n = L.length + 1 ∧ n ≤ cap := by
  obtain ⟨vs, a0, cap0, h1, h2, h3, h4, h5, h6, h7⟩ := h
  cases vs with
  | nil => simp at h5
  | cons u vs =>
    obtain ⟨g, o, rfl, hg, hn, hcell⟩ := h6 (by simp)
    have e : n = (u :: vs).length := by injection h1
    have e2 : a = some ⟨g, o, none⟩ := by injection h1
    have e3 : cap = cap0 := by injection h1
    exact ⟨g, o, u, e2, hcell 0 u rfl, h7 0 u l rfl rfl, by rw [e, h5]; rfl, by rw [e, e3]; exact h3⟩

theorem rd_small (d : DS) (n : Int) (h : n < 1) : d.rd n = ([], false) ∧ d.rdS n = d := by unfold DS.rd DS.rdS; rw [if_pos h, if_pos h]; exact ⟨rfl, rfl⟩

theorem rd_raw (d : DS) (n : Int) (h : ¬ n < 1) (hc : d.loc 1 = false) : d.rd n = (d.raw.take n.toNat, false) ∧ d.rdS n = d.setRaw (d.raw.drop n.toNat) := by unfold DS.rd DS.rdS; rw [if_neg h, if_neg h, if_pos hc, if_pos hc]; exact ⟨rfl, rfl⟩

theorem rd_none (d : DS) (n : Int) (h : ¬ n < 1) (hc : d.loc 1 = true) (hl : d.lines = []) : d.rd n = ([], false) ∧ d.rdS n = d := by unfold DS.rd DS.rdS; rw [if_neg h, if_neg h, if_neg (by rw [hc]; simp), if_neg (by rw [hc]; simp), hl]; exact ⟨rfl, rfl⟩

theorem rd_line (d : DS) (n : Int) (h : ¬ n < 1) (hc : d.loc 1 = true) (l : List Int) (L : List (List Int)) (hl : d.lines = l :: L) : d.rd n = (l.take n.toNat, l.isEmpty) ∧ d.rdS n = if n < l.length then d.setLines (l.drop n.toNat :: L) else d.setLines L := by unfold DS.rd DS.rdS; rw [if_neg h, if_neg h, if_neg (by rw [hc]; simp), if_neg (by rw [hc]; simp), hl]; exact ⟨rfl, rfl⟩

theorem r_read0 (b : Bx) (d : DS) (n : Int) (w : World) (h : RAt w b d) (hn : n < 1) : Calls Try.prog 15 #[.pointer (some ⟨b, 0, none⟩), .int .i64 n] w (ReadR b d n w) := by
  obtain ⟨e1, e2⟩ := rd_small d n hn
  have HR := hide' h
  have HE := hide' (And.intro e1 e2)
  clear e1 e2 h
  go_enter Try.func15, Try.ntmps15
  go_wp2
  go_ret2
  refine ⟨.slice none 0 0, ?_, ?_, ?_, Stay.refl _ _⟩
  · rw [HE.out.1]; rfl
  · rw [HE.out.1]; exact BRow.nil _ _
  · rw [HE.out.2]; exact HR.out

set_option maxRecDepth 100000 in
theorem r_read1 (b : Bx) (d : DS) (n : Int) (w : World) (h : RAt w b d) (hn : ¬ n < 1) (hm : n ≤ 9223372036854775807) (hc : d.loc 1 = false) (hl : d.raw.length ≤ 10000) : Calls Try.prog 15 #[.pointer (some ⟨b, 0, none⟩), .int .i64 n] w (ReadR b d n w) := by
  obtain ⟨e1, e2⟩ := rd_raw d n hn hc
  have HE := hide' (And.intro e1 e2)
  have HLO := hide' (r_local b d 1 w h)
  rw [hc] at HLO
  have HR := hide' h
  obtain ⟨N, rfl⟩ : ∃ N : Nat, n = (N : Int) := ⟨n.toNat, by omega⟩
  have HT : Hid ((N : Int).toNat = N) := rfl
  have kN : 1 ≤ N := by omega
  obtain ⟨nr, hnr⟩ : ∃ x, x = d.raw.length := ⟨_, rfl⟩
  have HNR := hide' hnr
  obtain ⟨k, hk⟩ : ∃ k, k = min N nr := ⟨_, rfl⟩
  have hmin : min (N : Int) (nr : Int) = (k : Int) := by omega
  have hkr : k ≤ nr := by omega
  have hkn : nr ≤ 10000 := by omega
  have HK := hide' hk
  clear e1 e2 h hc hl hn hm hnr hk
  go_enter Try.func15, Try.ntmps15
  go_wp2_with fail
  refine HLO.out.mono ?_
  rintro e w1 ⟨rfl, hs⟩
  have HS1 := hide' hs
  obtain ⟨r, B1, P1⟩ := HR.out.keep hs
  obtain ⟨ar, cr, e19⟩ := P1.rw.shape
  rw [← HNR.out] at e19
  have hle : nr ≤ cr := by
    obtain ⟨a', c', hh, _⟩ := P1.rw
    have e1 := hh.shape
    have e2 := hh.lenLe
    rw [e19] at e1
    cases e1
    rw [← HNR.out] at e2
    exact e2
  have hbr := P1.rw
  rw [e19] at hbr
  obtain ⟨a', ha', hdr⟩ := hbr.drop k hkr
  have HTK := hide' (hbr.take k hkr)
  have HDR := hide' hdr
  have HX := hide' (And.intro B1 P1)
  have hslh := fun w => slice_h_eq (P := Try.prog) (sa := ar) (m := nr) (cap := cr) (k := k) elemB sizeB (by omega) w
  have hsll := fun w => slice_l_eq (P := Try.prog) (sa := ar) (m := nr) (cap := cr) (k := k) elemB sizeB hkr w
  rw [ha'] at hsll
  obtain ⟨c0, c1, c2, c3, c4, c5, c6, c7, c8, c9, c10, c11, c12, c13, c14, c15, c16, c17, c18, c19, c20, c21, c22, f0, f1, f2, f3, f4, f5, f6, f7, f8, f9, f10, f11, f12, f13, f14, f15, f16, f17, f18, f19, f20, f21, f22⟩ := B1
  rw [e19] at c19
  clear hs P1 hbr hdr ha'
  go_wp2
  go_ret2
  have HSW : Hid (Stay (fun k => k = b) w (w1.setCell ⟨b, 19, none⟩ (.slice a' (nr - k) (cr - k)))) := stay_b HS1.out _ _
  have hst : Stay (fun k => k = b) w1 (w1.setCell ⟨b, 19, none⟩ (.slice a' (nr - k) (cr - k))) := stay_b (Stay.refl _ _) _ _
  have et : d.raw.take N = d.raw.take k := by
    rw [HK.out]
    by_cases h : N ≤ nr
    · rw [Nat.min_eq_left h]
    · rw [Nat.min_eq_right (by omega), List.take_of_length_le (by rw [← HNR.out]; omega), HNR.out, List.take_length]
  have ed : d.raw.drop N = d.raw.drop k := by
    rw [HK.out]
    by_cases h : N ≤ nr
    · rw [Nat.min_eq_left h]
    · rw [Nat.min_eq_right (by omega), List.drop_eq_nil_of_le (by rw [← HNR.out]; omega), HNR.out, List.drop_length]
  refine ⟨.slice ar k cr, ?_, ?_, ?_, HSW.out⟩
  · rw [HE.out.1]; rfl
  · rw [HE.out.1, HT.out, et]; exact HTK.out.stay hst b.on
  · rw [HE.out.2, HT.out, ed]; exact RAt.put_rw HX.out.1 HX.out.2 HDR.out

set_option maxRecDepth 100000 in
theorem r_read2 (b : Bx) (d : DS) (n : Int) (w : World) (h : RAt w b d) (hn : ¬ n < 1) (hc : d.loc 1 = true) (hl : d.lines = []) : Calls Try.prog 15 #[.pointer (some ⟨b, 0, none⟩), .int .i64 n] w (ReadR b d n w) := by
  obtain ⟨e1, e2⟩ := rd_none d n hn hc hl
  have HE := hide' (And.intro e1 e2)
  have HLO := hide' (r_local b d 1 w h)
  rw [hc] at HLO
  have HR := hide' h
  have HLN := hide' hl
  clear e1 e2 h hc hl
  go_enter Try.func15, Try.ntmps15
  go_wp2_with fail
  refine HLO.out.mono ?_
  rintro e w1 ⟨rfl, hs⟩
  have HS1 := hide' hs
  obtain ⟨r, B1, P1⟩ := HR.out.keep hs
  obtain ⟨al, cl, e18, _⟩ := P1.ls.at
  rw [HLN.out] at e18
  simp only [List.length_nil] at e18
  obtain ⟨c0, c1, c2, c3, c4, c5, c6, c7, c8, c9, c10, c11, c12, c13, c14, c15, c16, c17, c18, c19, c20, c21, c22, f0, f1, f2, f3, f4, f5, f6, f7, f8, f9, f10, f11, f12, f13, f14, f15, f16, f17, f18, f19, f20, f21, f22⟩ := B1
  rw [e18] at c18
  clear hs P1
  go_wp2
  go_ret2
  refine ⟨.slice none 0 0, ?_, ?_, ?_, HS1.out.mono (fun _ _ h => h.elim)⟩
  · rw [HE.out.1]; rfl
  · rw [HE.out.1]; exact BRow.nil _ _
  · rw [HE.out.2]; exact HR.out.keep HS1.out

set_option maxRecDepth 100000 in
set_option maxHeartbeats 1000000 in
theorem r_read3 (b : Bx) (d : DS) (n : Int) (w : World) (h : RAt w b d) (hn : ¬ n < 1) (hm : n ≤ 9223372036854775807) (hc : d.loc 1 = true) (l : List Int) (L : List (List Int)) (hl : d.lines = l :: L) (hll : l.length ≤ 10000) (hLL : L.length ≤ 100000) : Calls Try.prog 15 #[.pointer (some ⟨b, 0, none⟩), .int .i64 n] w (ReadR b d n w) := by
  obtain ⟨e1, e2⟩ := rd_line d n hn hc l L hl
  have HE := hide' (And.intro e1 e2)
  have HLO := hide' (r_local b d 1 w h)
  rw [hc] at HLO
  have HR := hide' h
  obtain ⟨N, rfl⟩ : ∃ N : Nat, n = (N : Int) := ⟨n.toNat, by omega⟩
  have HT : Hid ((N : Int).toNat = N) := rfl
  have kN : 1 ≤ N := by omega
  obtain ⟨nr, hnr⟩ : ∃ x, x = l.length := ⟨_, rfl⟩
  have HNR := hide' hnr
  obtain ⟨k, hk⟩ : ∃ k, k = min N nr := ⟨_, rfl⟩
  have hmin : min (N : Int) (nr : Int) = (k : Int) := by omega
  have hkr : k ≤ nr := by omega
  have hkn : nr ≤ 10000 := by omega
  have HK := hide' hk
  have HLN := hide' hl
  have HLL := hide' hLL
  clear e1 e2 h hc hl hn hm hnr hk hll hLL
  go_enter Try.func15, Try.ntmps15
  go_wp2_with fail
  refine HLO.out.mono ?_
  rintro e w1 ⟨rfl, hs⟩
  have HS1 := hide' hs
  obtain ⟨r, B1, P1⟩ := HR.out.keep hs
  have HX := hide' (And.intro B1 P1)
  have hls := P1.ls
  rw [HLN.out] at hls
  obtain ⟨al0, cl, e18, _⟩ := hls.at
  rw [e18] at hls
  obtain ⟨g, o, u, hal, hcell, hbu, hnn, hncl⟩ := hls.head
  have e18' : r.ls = .slice al0 (L.length + 1) cl := e18
  subst hal
  obtain ⟨nL, hnL⟩ : ∃ x, x = L.length := ⟨_, rfl⟩
  rw [← hnL] at e18'
  have hlsn : LRow w1 b (.slice (some ⟨g, o, none⟩) (nL + 1) cl) (l :: L) := by rw [hnL]; exact hls
  obtain ⟨aD, haD, hdrop⟩ := hlsn.drop1
  have hsl1 : ∀ w, (Instr.slice 32 (.slice (some ⟨g, o, none⟩) (nL + 1) cl) (some (.int .i64 1)) none none).run Try.prog w = .ok (.slice aD nL (cl - 1)) w := fun w => by
    have h := slice_l_eq (P := Try.prog) (sa := some ⟨g, o, none⟩) (m := nL + 1) (cap := cl) (k := 1) elemL sizeL (by omega) w
    rw [haD] at h
    exact h
  obtain ⟨au, cu, eu⟩ := hbu.shape
  rw [← HNR.out] at eu
  rw [eu] at hcell hbu
  have hle : nr ≤ cu := by
    obtain ⟨a', c', hh, _⟩ := hbu
    have e1 := hh.shape
    have e2 := hh.lenLe
    cases e1
    rw [← HNR.out] at e2
    exact e2
  obtain ⟨a', ha', hdr⟩ := hbu.drop k hkr
  have HTK := hide' (hbu.take k hkr)
  have HDR := hide' hdr
  have hslh := fun w => slice_h_eq (P := Try.prog) (sa := au) (m := nr) (cap := cu) (k := k) elemB sizeB (by omega) w
  have hsll := fun w => slice_l_eq (P := Try.prog) (sa := au) (m := nr) (cap := cu) (k := k) elemB sizeB hkr w
  rw [ha'] at hsll
  obtain ⟨vs, hrow, heach⟩ := hdrop.parts
  have HVS := hide' (And.intro hrow heach)
  have HVL : Hid (vs.length ≤ 100000) := by show vs.length ≤ 100000; rw [heach.1]; exact HLL.out
  have hn1 : ([] : List Value).length + vs.length ≤ 1000000 := by have := HVL.out; simp; omega
  have HA0 := hide' (LAcc.begin w1 b)
  have HRW := hide' (show IsRow (w1.alloc (.cells #[] 31)) (.slice aD nL (cl - 1)) vs from isRow_keep hrow ((Stay.refl _ _).alloc _))
  have hnl8 : (nL : Nat) + 1 ≤ 100001 := by have := HLL.out; omega
  have HBA := hide' (B1.keep ((Stay.refl (fun _ => False) w1).alloc (.cells #[] 31)))
  have HE18 := hide' e18'
  obtain ⟨c0, c1, c2, c3, c4, c5, c6, c7, c8, c9, c10, c11, c12, c13, c14, c15, c16, c17, c18, c19, c20, c21, c22, _⟩ := B1
  rw [e18'] at c18
  clear hs P1 hls hbu hdr hdrop hrow heach hlsn ha' haD e18 e18' eu hnL HLO
  go_upto_region 12 with fail
  clear c0 c1 c2 c3 c4 c5 c6 c7 c8 c9 c10 c11 c12 c13 c14 c15 c16 c17 c18 c19 c20 c21 c22 hcell
  obtain ⟨c0, c1, c2, c3, c4, c5, c6, c7, c8, c9, c10, c11, c12, c13, c14, c15, c16, c17, c18, c19, c20, c21, c22, _⟩ := HBA.out
  have e18 := HE18.out
  rw [e18] at c18
  clear e18
  go_upto_region 13 with (at_builtin; refine lacc_app rfl _ _ rfl HA0.out rfl HRW.out HVS.out.2 rfl hn1 ?_; intro v1 wa hA1; have HA1 := hide' hA1; obtain ⟨a1, z1, p1, ev1⟩ := hA1.form; clear hA1 HA0 HRW hn1 c0 c1 c2 c3 c4 c5 c6 c7 c8 c9 c10 c11 c12 c13 c14 c15 c16 c17 c18 c19 c20 c21 c22; subst ev1)
  have HSA := hide' (HS1.out.trans HA1.out.stay)
  have HA2 : Hid (LAcc w1 wa b (.slice a1 z1 p1) vs L) := HA1.out
  clear HA1
  have HEM : Hid (l.isEmpty = (nr == 0)) := by
    show l.isEmpty = (nr == 0)
    rw [HNR.out]
    cases l <;> rfl
  have het : l.take N = l.take k := by
    rw [HK.out]
    by_cases h : N ≤ nr
    · rw [Nat.min_eq_left h]
    · rw [Nat.min_eq_right (by omega), List.take_of_length_le (by rw [← HNR.out]; omega), HNR.out, List.take_length]
  have HET := hide' het
  clear het
  by_cases hlt : k < nr
  · have kn : decide ((k : Int) < nr) = true := by simp; omega
    have hkN : k = N := by have := HK.out; omega
    have HKN := hide' hkN
    have HBD := hide' (HDR.out.keep HA2.out.stay)
    have HB0 := hide' ((LAcc.one wa b _ _ HBD.out))
    have HRW2 := hide' (isRow_keep (w := wa) HA2.out.row ((Stay.refl _ wa).alloc (.cells #[.slice a' (nr - k) (cu - k)] 31)))
    have hn2 : [Value.slice a' (nr - k) (cu - k)].length + vs.length ≤ 1000000 := by have := HVL.out; simp; omega
    have nz : (nr : Int) ≠ 0 := by omega
    clear hkN
    go_wp2_with (at_builtin; refine lacc_app rfl _ _ rfl HB0.out rfl HRW2.out (HA2.out.each.keep HA2.out.stay) rfl hn2 ?_; intro v2 wb hA3; have HA3 := hide' hA3; obtain ⟨a2, z2, p2, ev2⟩ := hA3.form; have HSB := hide' (HSA.out.trans hA3.stay); have HBB := hide' (HX.out.1.keep (HA2.out.stay.trans hA3.stay)); clear hA3 HB0 HRW2 hn2; subst ev2; obtain ⟨c0, c1, c2, c3, c4, c5, c6, c7, c8, c9, c10, c11, c12, c13, c14, c15, c16, c17, c18, c19, c20, c21, c22, f0, f1, f2, f3, f4, f5, f6, f7, f8, f9, f10, f11, f12, f13, f14, f15, f16, f17, f18, f19, f20, f21, f22⟩ := HBB.out; go_wp2_with fail)
    go_ret2
    have hst : Stay (fun k => k = b) wb (wb.setCell ⟨b, 18, none⟩ (.slice a2 z2 p2)) := stay_b (Stay.refl _ _) _ _
    have hw1b := HA2.out.stay.trans HA3.out.stay
    refine ⟨.slice au k cu, ?_, ?_, ?_, stay_b HSB.out _ _⟩
    · rw [HE.out.1, HEM.out]
      have e3 : (nr == 0) = false := by simp; omega
      rw [e3]; simp; omega
    · rw [HE.out.1, HT.out, HET.out]
      exact (HTK.out.keep hw1b).stay hst b.on
    · rw [HE.out.2, if_pos (by rw [← HNR.out]; omega), HT.out, ← HKN.out]
      exact RAt.put_ls HBB.out (HX.out.2.stay hw1b (fun _ h => h.elim)) (HA3.out.lrow (Bx.le HX.out.2.lt HA2.out.stay.size))
  · have kn : decide ((k : Int) < nr) = false := by simp; omega
    have HBB := hide' (HX.out.1.keep HA2.out.stay)
    obtain ⟨c0, c1, c2, c3, c4, c5, c6, c7, c8, c9, c10, c11, c12, c13, c14, c15, c16, c17, c18, c19, c20, c21, c22, f0, f1, f2, f3, f4, f5, f6, f7, f8, f9, f10, f11, f12, f13, f14, f15, f16, f17, f18, f19, f20, f21, f22⟩ := HBB.out
    go_wp2
    go_ret2
    have hst : Stay (fun k => k = b) wa (wa.setCell ⟨b, 18, none⟩ (.slice a1 z1 p1)) := stay_b (Stay.refl _ _) _ _
    refine ⟨.slice au k cu, ?_, ?_, ?_, stay_b HSA.out _ _⟩
    · rw [HE.out.1, HEM.out]
      have e3 : ((nr : Int) == 0) = (nr == 0) := by
        cases nr with
        | zero => rfl
        | succ m => rw [beq_eq_false_iff_ne.2 (by omega), beq_eq_false_iff_ne.2 (by omega)]
      first | rw [← e3]; rfl | simp [e3]
    · rw [HE.out.1, HT.out, HET.out]
      exact (HTK.out.keep HA2.out.stay).stay hst b.on
    · rw [HE.out.2, if_neg (by rw [← HNR.out]; have := HK.out; omega)]
      exact RAt.put_ls HBB.out (HX.out.2.stay HA2.out.stay (fun _ h => h.elim)) (HA2.out.lrow HX.out.2.lt)

end Go.Proofs.Ytkggmjjjopfdbaa
