/-
  The program: the special characters of Iexten: walked. No conditions.
-/
import Derived.Test.YtjfhmpjpdcckhaaL18DB
import Derived.Deep.CutBlock
namespace Go.Proofs.Ytjfhmpjpdcckhaa.L18
open Go.RowKit

open L17

variable {q : Pl} {d : DS} {sg : Int}

theorem BackR.turn {X : DS} {w w' : World} {e : Ending} (h : BackR q (fun _ => False) X sg w e w') : TurnD q X sg (.tuple #[]) w e w' :=
  ⟨h.1, h.2.1, h.2.2.mono (fun _ _ h => h.elim id (fun h => h.elim))⟩

/-- What Iexten's characters do. -/
def extB (d : DS) (c : Int) : Bool := isB d.t 9 c || (isB d.t 7 c || isB d.t 8 c)
def extS (d : DS) (c : Int) : DS :=
  if isB d.t 9 c = true then (if d.loc 2 = true then (d.setNxt true).out [94, 8] else d.setNxt true)
  else if isB d.t 7 c = true then DS.backs (fun x => !DS.blk x) (DS.backs DS.blk d.line.length d).line.length (DS.backs DS.blk d.line.length d)
  else if isB d.t 8 c = true then d.again c else d

theorem again_shw (d : DS) (c : Int) : d.again c = DS.shows d.line ((d.shw c).shw 10) := by
  have e : (d.shw c).shw 10 = if d.loc 2 = true then (d.shw c).out [10] else d.shw c := by
    have h1 : (d.shw c).loc 2 = d.loc 2 := (like_shw d c).loc 2
    have h2 : (d.shw c).pic 10 = [10] := by
      unfold DS.pic
      rw [if_neg (fun h => h.2.2.2 rfl), if_neg (fun h => absurd h.2 (by decide))]
    show (if (d.shw c).loc 2 = true then (d.shw c).out ((d.shw c).pic 10) else d.shw c) = _
    rw [h1, h2]
  rw [e]
  rfl

theorem shwP_line (d : DS) (c : Int) : (d.shw c).line = d.line := (like_shw d c).2.1
theorem shwP_t (d : DS) (c : Int) : (d.shw c).t = d.t := (like_shw d c).1
theorem shwP_ec (d : DS) (c : Int) : (d.shw c).ec.length ≤ d.ec.length + 2 := by
  unfold DS.shw
  split
  · show (d.ec ++ d.pic c).length ≤ _
    have := pic_len d c
    rw [List.length_append]; omega
  · omega

theorem shows_go (l : List Int) (i : Nat) (h : i < l.length) (x : DS) : DS.shows (l.drop i) x = DS.shows (l.drop (i + 1)) (x.shw (l.getD i 0)) := by
  rw [List.drop_eq_getElem_cons h]
  show DS.shows (l.drop (i + 1)) (x.shw l[i]) = _
  rw [List.getD_eq_getElem?_getD, List.getElem?_eq_getElem h]
  rfl

/-- What a round finds, while the line is shown. -/
structure RndC (q : Pl) (r : Pd) (sg : Int) (t : Tm) (L : List Int) (X : DS) (w wr : World) (i : Nat) (x : DS) : Prop where
  sr : SR wr q r x sg
  t : x.t = t
  ln : x.line = L
  all : x.all.length ≤ 100000
  ec : x.ec.length ≤ 700004 + 2 * i
  fin : DS.shows (L.drop i) x = X
  st : Stay q.U w wr

set_option maxRecDepth 100000 in
set_option maxHeartbeats 2000000 in
theorem s_extended {N : Nat} (c : Int) (w : World) (h : SD w q d sg) (hO : Ok N d) (hc0 : 0 ≤ c) (hc1 : c < 256) (hn : d.ec.length ≤ 700000) : Calls Try.prog 58 #[.pointer (some ⟨q.b, 0, none⟩), .int .u8 c] w (TurnD q (extS d c) sg (.bool (extB d c)) w) := by
  have hT := hO.right
  have HR0 := hide' h
  have HS0 := hide' (Stay.refl q.U w)
  have HOK := hide' hO
  have HBP : Hid (∀ w', SD w' q d sg → Calls Try.prog 64 #[.pointer (some ⟨q.b, 0, none⟩), .func (.func 65) #[] #[]] w' (TurnD q (DS.backs DS.blk d.line.length d) sg (.tuple #[]) w')) := fun w' hh => by
    have h1 := s_backP (test_blank q) w' hh trivial hO (by omega)
    rw [backsK_pure] at h1
    exact h1.mono (fun _ _ h => h.turn)
  have HXP : Hid (∀ w' E, Ok N E → E.ec.length ≤ 800000 → SD w' q E sg → Calls Try.prog 64 #[.pointer (some ⟨q.b, 0, none⟩), .func (.func 66) #[] #[]] w' (TurnD q (DS.backs (fun x => !DS.blk x) E.line.length E) sg (.tuple #[]) w')) := fun w' E ho hn hh => by
    have h1 := s_backX (test_other q) w' hh trivial ho hn
    rw [backsK_pure] at h1
    exact h1.mono (fun _ _ h => h.turn)
  have HE1 : Hid (Ok N (DS.backs DS.blk d.line.length d) ∧ (DS.backs DS.blk d.line.length d).ec.length ≤ 800000) := by
    have h1 := hO.backsK (fun _ => DS.blk) d.line.length 0
    have h2 := backsK_ec (fun _ => DS.blk) d.line.length 0 d
    have h3 := hO.line
    rw [backsK_pure] at h1 h2
    exact ⟨h1, by omega⟩
  have HSH : Hid (∀ w' c' x, x.t = d.t → x.ec.length ≤ 800000 → 0 ≤ c' → c' < 256 → SD w' q x sg → Calls Try.prog 54 #[.pointer (some ⟨q.b, 0, none⟩), .int .u8 c'] w' (TurnD q (x.shw c') sg (.tuple #[]) w')) := fun w' c' x et hn h0 h1 hh => s_show c' w' hh (by rw [et]; exact hT) h0 h1 (by omega)
  have HSR : Hid (∀ r w' c' x, x.t = d.t → x.ec.length ≤ 800000 → 0 ≤ c' → c' < 256 → SR w' q r x sg → Calls Try.prog 54 #[.pointer (some ⟨q.b, 0, none⟩), .int .u8 c'] w' (TurnR9 q r (x.shw c') sg (.tuple #[]) w')) := fun r w' c' x et hn h0 h1 hh => s_showR (r := r) c' w' hh (by rw [et]; exact hT) h0 h1 (by omega)
  have HQ : Hid (extS d c = if isB d.t 9 c = true then (if d.loc 2 = true then (d.setNxt true).out [94, 8] else d.setNxt true)
  else if isB d.t 7 c = true then DS.backs (fun x => !DS.blk x) (DS.backs DS.blk d.line.length d).line.length (DS.backs DS.blk d.line.length d)
  else if isB d.t 8 c = true then d.again c else d) := rfl
  have HX : Hid (extB d c = (isB d.t 9 c || (isB d.t 7 c || isB d.t 8 c))) := rfl
  have HAG := hide' (again_shw d c)
  have HLL : Hid (d.line.length ≤ 255 ∧ d.all.length ≤ 100000) := ⟨hO.line, by have := hO.all_le.1; omega⟩
  have HEC := hide' hn
  have HCC := hide' (And.intro hc0 hc1)
  obtain ⟨q2, h_q2⟩ : ∃ z, z = hasB d.t.fl 2 := ⟨_, rfl⟩
  have HK_q2 : Hid (∀ w' d' sg', d'.t = d.t → SD w' q d' sg' → Calls Try.prog 31 #[.pointer (some ⟨q.p, 0, none⟩), .int .i64 2] w' (Gives (.bool q2) w')) := fun w' d' sg' et hh => by
    rw [h_q2, ← et]
    have ht : rightB d'.ps.t = true := by show rightB d'.t = true; rw [et]; exact hT
    exact s_local (x := d'.ps) (ec := d'.ec) hh ht 2 (by simp)
  have HE_q2 := hide' h_q2
  clear h_q2
  obtain ⟨i9, h_i9⟩ : ∃ z, z = isB d.t 9 c := ⟨_, rfl⟩
  have HK_i9 : Hid (∀ w' d' sg', d'.t = d.t → SD w' q d' sg' → Calls Try.prog 56 #[.pointer (some ⟨q.p, 0, none⟩), .int .i64 9, .int .u8 c] w' (Gives (.bool i9) w')) := fun w' d' sg' et hh => by
    rw [h_i9, ← et]
    exact s_is (x := d'.ps) (ec := d'.ec) hh 9 c hc0 hc1
  have HE_i9 := hide' h_i9
  clear h_i9
  obtain ⟨i7, h_i7⟩ : ∃ z, z = isB d.t 7 c := ⟨_, rfl⟩
  have HK_i7 : Hid (∀ w' d' sg', d'.t = d.t → SD w' q d' sg' → Calls Try.prog 56 #[.pointer (some ⟨q.p, 0, none⟩), .int .i64 7, .int .u8 c] w' (Gives (.bool i7) w')) := fun w' d' sg' et hh => by
    rw [h_i7, ← et]
    exact s_is (x := d'.ps) (ec := d'.ec) hh 7 c hc0 hc1
  have HE_i7 := hide' h_i7
  clear h_i7
  obtain ⟨i8, h_i8⟩ : ∃ z, z = isB d.t 8 c := ⟨_, rfl⟩
  have HK_i8 : Hid (∀ w' d' sg', d'.t = d.t → SD w' q d' sg' → Calls Try.prog 56 #[.pointer (some ⟨q.p, 0, none⟩), .int .i64 8, .int .u8 c] w' (Gives (.bool i8) w')) := fun w' d' sg' et hh => by
    rw [h_i8, ← et]
    exact s_is (x := d'.ps) (ec := d'.ec) hh 8 c hc0 hc1
  have HE_i8 := hide' h_i8
  clear h_i8
  have e2 : d.loc 2 = q2 := HE_q2.out.symm
  rw [e2, ← HE_i9.out, ← HE_i7.out, ← HE_i8.out] at HQ
  rw [← HE_i9.out, ← HE_i7.out, ← HE_i8.out] at HX
  rw [HX.out]
  clear h hO hT hn hc0 hc1 e2 HE_q2 HE_i9 HE_i7 HE_i8 HX
  go_enter Try.func58, Try.ntmps58
  have s0 := HR0.out.dp
  go_wp2_with fail
  refine (HK_i9.out _ _ _ rfl HR0.out).mono ?_
  rintro e w1 ⟨rfl, hs⟩
  have HR1 := hide' (HR0.out.keep hs)
  have HS1 := hide' (HS0.out.trans (hs.mono (T := q.U) (fun _ _ h => h.elim)))
  clear hs HR0 HS0 s0
  cases i9
  · have s0 := HR1.out.dp
    go_wp2_with fail
    refine (HK_i7.out _ _ _ rfl HR1.out).mono ?_
    rintro e w2 ⟨rfl, hs⟩
    have HR2 := hide' (HR1.out.keep hs)
    have HS2 := hide' (HS1.out.trans (hs.mono (T := q.U) (fun _ _ h => h.elim)))
    clear hs HR1 HS1 s0
    cases i7
    · have s0 := HR2.out.dp
      go_wp2_with fail
      refine (HK_i8.out _ _ _ rfl HR2.out).mono ?_
      rintro e w3 ⟨rfl, hs⟩
      have HR3 := hide' (HR2.out.keep hs)
      have HS3 := hide' (HS2.out.trans (hs.mono (T := q.U) (fun _ _ h => h.elim)))
      clear hs HR2 HS2 s0
      cases i8
      · go_wp2
        go_ret
        refine ⟨rfl, ?_, HS3.out⟩
        rw [HQ.out]
        exact HR3.out
      · go_wp2_with fail
        refine (HSH.out _ c d rfl (by have := HEC.out; omega) HCC.out.1 HCC.out.2 HR3.out).mono ?_
        rintro e w4 ⟨rfl, hr, hs⟩
        have HR4 := hide' hr
        have HS4 := hide' (HS3.out.trans hs)
        clear hr hs HR3 HS3
        go_wp2_with fail
        refine (HSH.out _ 10 (d.shw c) (shwP_t d c) (by have := HEC.out; have := shwP_ec d c; omega) (by decide) (by decide) HR4.out).mono ?_
        rintro e w5 ⟨rfl, hr, hs⟩
        have HR5 := hide' hr
        have HS5 := hide' (HS4.out.trans hs)
        clear hr hs HR4 HS4
        obtain ⟨x0, hx0⟩ : ∃ z, z = (d.shw c).shw 10 := ⟨_, rfl⟩
        have HX0 : Hid (x0.t = d.t ∧ x0.line = d.line ∧ x0.ec.length ≤ 700004 ∧ x0.all = d.all ∧ x0.cnt = d.cnt) := by
          rw [hx0]
          have h1 := like_shw (d.shw c) 10
          have h2 := like_shw d c
          refine ⟨h1.1.trans h2.1, h1.2.1.trans h2.2.1, ?_, ?_, ?_⟩
          · have := shwP_ec (d.shw c) 10; have := shwP_ec d c; have := HEC.out; omega
          · unfold DS.all; rw [h1.2.1, h1.2.2.1, h1.2.2.2, h2.2.1, h2.2.2.1, h2.2.2.2]
          · unfold DS.cnt; rw [h1.2.2.1, h1.2.2.2, h2.2.2.1, h2.2.2.2]
        rw [← hx0] at HR5 HAG
        clear hx0
        obtain ⟨r, e, hop⟩ := HR5.out
        have s0 := HR5.out.dp
        have hxl := all_line x0
        have HPL := hide' (p_line hop.core (show x0.ps.rd ≤ x0.ps.all.length from hxl.2.2.1) (show x0.all.length ≤ 100000 by rw [HX0.out.2.2.2.1]; exact HLL.out.2))
        have HRDX : Hid (r.rd = (x0.ps.rd : Nat)) := hop.core.rd
        have HSR0 : Hid (SR w5 q r x0 sg) := ⟨e, hop⟩
        clear hop
        go_wp2_with fail
        refine HPL.out.mono ?_
        rintro e9 w6 ⟨la, lc, rfl, _, _, hlv, hs⟩
        have hll : x0.ps.all.length - x0.ps.rd = d.line.length := by rw [← HX0.out.2.1]; exact hxl.2.1
        rw [hll] at hlv ⊢
        have HLV := hide' hlv
        have HRC : Hid (RndC q r sg d.t d.line (d.again c) w w6 0 x0) := ⟨HSR0.out.keep hs, HX0.out.1, HX0.out.2.1, by rw [HX0.out.2.2.2.1]; exact HLL.out.2, HX0.out.2.2.1, by rw [HAG.out]; rfl, HS5.out.trans (hs.mono (fun _ _ h => h.elim))⟩
        have HRD : Hid (r.rd = (x0.ps.rd : Nat)) := HRDX.out
        clear hlv hs hll hxl HRDX HPL HSR0 HR5 HS5 s0
        obtain ⟨ln, hln⟩ : ∃ z, z = d.line.length := ⟨_, rfl⟩
        have HLN := hide' hln
        rw [← hln] at HLV ⊢
        have hl255 : ln ≤ 255 := by rw [hln]; exact HLL.out.1
        clear hln
        go_wp2
        go_loopg [6, 62] ln (fun gg v6 v62 wr => ∃ (i : Nat) (x : DS), i ≤ ln ∧ gg = ln - i ∧ v62 = .int .i64 (i : Int) ∧ Hid (RndC q r sg d.t d.line (d.again c) w wr i x))
        case atStart => exact ⟨0, x0, Nat.zero_le _, rfl, rfl, HRC.out⟩
        case round =>
          clear HRC
          obtain ⟨i, x, hi, rfl, rfl, HJ⟩ := hrel
          obtain ⟨w9, hw9⟩ : ∃ W, W = wr := ⟨_, rfl⟩
          rw [← hw9] at HJ ⊢
          clear hw9
          by_cases hlt : i < ln
          · have ki : (i : Int) < ln := by omega
            obtain ⟨e, hop⟩ := HJ.out.sr
            have hxl := all_line x
            obtain ⟨a2, cap2, hv, harg⟩ := hop.core.line_arg (show x.ps.rd ≤ x.ps.all.length from hxl.2.2.1)
            have hl2 : x.ps.all.length - x.ps.rd = ln := by rw [HLN.out, ← HJ.out.ln]; exact hxl.2.1
            have hl3 : x.ps.all.drop x.ps.rd = d.line := by rw [← HJ.out.ln]; exact hxl.1
            rw [hl2] at hv harg
            rw [hl3] at harg
            have hrd : x.ps.rd = x0.ps.rd := by
              have h1 := hop.core.rd
              have h2 := HRD.out
              omega
            rw [hrd, HLV.out] at hv
            cases hv
            obtain ⟨g, o, ha, hg, hcs⟩ := harg.cells (by intro h; rw [h] at HLN; have := HLN.out; simp at this; omega)
            subst ha
            have hcell := hcs i (by rw [← HLN.out]; exact hlt)
            have hwf := wf_u8 (harg.wf (d.line.getD i 0) (getD_mem (by rw [← HLN.out]; exact hlt)))
            have kcap : ln ≤ lc := by have := harg.lenLe; rw [← HLN.out] at this; exact this
            have HGO : Hid (DS.shows (d.line.drop (i + 1)) (x.shw (d.line.getD i 0)) = d.again c) := by
              have h1 := HJ.out.fin
              rw [shows_go _ _ (by rw [← HLN.out]; exact hlt)] at h1
              exact h1
            obtain ⟨b, hb⟩ : ∃ b, b = d.line.getD i 0 := ⟨_, rfl⟩
            rw [← hb] at hcell hwf HGO
            have HB := hide' hwf
            clear hb hcs harg hop hxl hl2 hl3 hrd hg hwf
            go_wp2_with fail
            refine (HSR.out r _ b x HJ.out.t (by have := HJ.out.ec; omega) HB.out.1 HB.out.2 HJ.out.sr).mono ?_
            rintro e9 w8 ⟨rfl, hr, hs⟩
            have HJ8 : Hid (RndC q r sg d.t d.line (d.again c) w w8 (i + 1) (x.shw b)) := by
              have h2 := like_shw x b
              refine ⟨hr, (shwP_t x b).trans HJ.out.t, (shwP_line x b).trans HJ.out.ln, ?_, ?_, HGO.out, HJ.out.st.trans hs⟩
              · unfold DS.all; rw [h2.2.1, h2.2.2.1, h2.2.2.2]; exact HJ.out.all
              · have := shwP_ec x b; have := HJ.out.ec; omega
            clear hr hs HJ HGO hcell
            go_wp2
            go_roundg (ln - (i + 1))
            case measure => omega
            case rel => exact ⟨i + 1, x.shw b, by omega, rfl, by go_num, HJ8.out⟩
          · have ki : ¬ ((i : Int) < ln) := by omega
            have e : i = ln := by omega
            have HFX : Hid (x = d.again c) := by
              have h1 := HJ.out.fin
              rw [List.drop_of_length_le (by rw [← HLN.out]; omega)] at h1
              exact h1
            go_wp2
            go_ret
            refine ⟨rfl, ?_, HJ.out.st⟩
            rw [HQ.out]
            rw [← HFX.out]
            exact HJ.out.sr.sd
    · go_wp2_with fail
      refine (HBP.out _ HR2.out).mono ?_
      rintro e w3 ⟨rfl, hr, hs⟩
      have HR3 := hide' hr
      have HS3 := hide' (HS2.out.trans hs)
      clear hr hs HR2 HS2
      go_wp2_with fail
      refine (HXP.out _ _ HE1.out.1 HE1.out.2 HR3.out).mono ?_
      rintro e w4 ⟨rfl, hr, hs⟩
      have HR4 := hide' hr
      have HS4 := hide' (HS3.out.trans hs)
      clear hr hs HR3 HS3
      go_wp2
      go_ret
      refine ⟨rfl, ?_, HS4.out⟩
      rw [HQ.out]
      exact HR4.out
  · obtain ⟨r2, e2, hop⟩ := HR1.out
    have s0 := HR1.out.dp
    obtain ⟨c0, c1, c2, c3, c4, c5, c6, c7, c8, c9, c10, c11, c12, c13, c14, c15, c16, c17, c18, c19, c20, c21, f0, f1, f2, f3, f4, f5, f6, f7, f8, f9, f10, f11, f12, f13, f14, f15, f16, f17, f18, f19, f20, f21⟩ := hop.core.box
    have HFN := hide' (hop.put_wt true)
    clear hop
    go_upto_region 4 with fail
    obtain ⟨w2, hW⟩ : ∃ z, z = w1.setCell ⟨q.p, 21, none⟩ (.bool true) := ⟨_, rfl⟩
    rw [← hW] at HFN ⊢
    clear hW s0 c0 c1 c2 c3 c4 c5 c6 c7 c8 c9 c10 c11 c12 c13 c14 c15 c16 c17 c18 c19 c20 c21 f0 f1 f2 f3 f4 f5 f6 f7 f8 f9 f10 f11 f12 f13 f14 f15 f16 f17 f18 f19 f20 f21
    have HR2 : Hid (SD w2 q (d.setNxt true) sg) := by exact HFN.out.1
    have HS2 := hide' (HS1.out.trans HFN.out.2)
    clear HFN HR1 HS1
    have s0 := HR2.out.dp
    go_wp2_with fail
    refine (HK_q2.out _ (d.setNxt true) _ rfl HR2.out).mono ?_
    rintro e w3 ⟨rfl, hs⟩
    have HR3 := hide' (HR2.out.keep hs)
    have HS3 := hide' (HS2.out.trans (hs.mono (T := q.U) (fun _ _ h => h.elim)))
    clear hs HR2 HS2 s0
    cases q2
    · go_wp2
      go_ret
      refine ⟨rfl, ?_, HS3.out⟩
      rw [HQ.out]
      exact HR3.out
    · have HWF : Hid (∀ y ∈ [(94 : Int), 8], (Lit.int .u8 y).wf = true) := fun y hy => by simp at hy; rcases hy with rfl | rfl <;> decide
      have HN : Hid ((d.setNxt true).ec.length + [(94 : Int), 8].length ≤ 1000000) := by have := HEC.out; show d.ec.length + 2 ≤ _; omega
      obtain ⟨r4, ea4, cap4, hO⟩ := HR3.out.open
      have HO := hide' hO
      obtain ⟨s0, s1, s2, g0, g1, g2⟩ := hO.box
      simp only at s0 s1 s2
      clear hO
      go_wp2_with (at_builtin; go_must (refine str_app rfl _ _ rfl HO.out.ecw rfl rfl (l := [94, 8]) ⟨rfl, rfl, by decide⟩ HN.out ?_; intro va vn vc wa hvn hwn hst hbn; have HVN := hide' hvn; have HWN := hide' hwn; have HBN := hide' hbn; have HSN := hide' hst; clear hvn hwn hst hbn s0 s1 s2 g0 g1 g2; obtain ⟨s0, s1, s2, g0, g1, g2⟩ := HO.out.box.stay HSN.out (fun e => (HO.out.m1 _ e).2 rfl); simp only at s0 s1 s2; go_wp2_with fail))
      go_upto_region 17 with fail
      have HFIN := hide' (HO.out.show HSN.out HVN.out HWN.out HBN.out HWF.out)
      obtain ⟨w4, hW⟩ : ∃ z, z = wa.setCell ⟨q.b, 1, none⟩ (.slice va vn vc) := ⟨_, rfl⟩
      rw [← hW] at HFIN ⊢
      clear hW s0 s1 s2 g0 g1 g2
      have HR4 := hide' HFIN.out.1.sd
      have HS4 := hide' ((HS3.out).trans HFIN.out.2)
      clear HFIN HO HVN HWN HBN HSN HR3 HS3
      go_wp2
      go_ret
      refine ⟨rfl, ?_, HS4.out⟩
      rw [HQ.out]
      exact HR4.out

end Go.Proofs.Ytjfhmpjpdcckhaa.L18
