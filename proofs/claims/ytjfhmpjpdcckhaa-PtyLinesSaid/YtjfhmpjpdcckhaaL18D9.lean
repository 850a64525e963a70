/-
  The program takes bytes back, as long as a test tells so: walked. No conditions.
-/
import Derived.Test.YtjfhmpjpdcckhaaL18D8
import Derived.Deep.CutBlock
namespace Go.Proofs.Ytjfhmpjpdcckhaa.L18
open Go.RowKit

open L17

variable {q : Pl} {d : DS} {sg : Int}

/-- Bytes are taken back, as long as a test, that may count, tells so. -/
def backsK (pr : Nat → Int → Bool) : Nat → Nat → DS → DS
  | 0, _, d => d
  | n + 1, k, d => if d.line = [] then d else if pr k (d.line.getLastD 0) = true then backsK pr n (k + 1) d.back else d

theorem backsK_nil (pr : Nat → Int → Bool) (n k : Nat) (d : DS) (h : d.line = []) : backsK pr n k d = d := by
  cases n with
  | zero => rfl
  | succ n => unfold backsK; rw [if_pos h]

theorem backsK_stop (pr : Nat → Int → Bool) (n k : Nat) (d : DS) (h : pr k (d.line.getLastD 0) = false) : backsK pr n k d = d := by
  cases n with
  | zero => rfl
  | succ n =>
    unfold backsK
    split
    · rfl
    · rw [if_neg (by rw [h]; simp)]

theorem back_line (d : DS) : d.back.line = d.line.dropLast := rfl

theorem backsK_go (pr : Nat → Int → Bool) (k : Nat) (d : DS) (hne : d.line ≠ []) (h : pr k (d.line.getLastD 0) = true) : backsK pr d.line.length k d = backsK pr d.back.line.length (k + 1) d.back := by
  have hl : 0 < d.line.length := List.length_pos_iff.2 hne
  have e : d.back.line.length = d.line.length - 1 := by rw [back_line, List.length_dropLast]
  obtain ⟨m, hm⟩ : ∃ m, d.line.length = m + 1 := ⟨d.line.length - 1, by omega⟩
  rw [hm, show backsK pr (m + 1) k d = if d.line = [] then d else if pr k (d.line.getLastD 0) = true then backsK pr m (k + 1) d.back else d from rfl, if_neg hne, if_pos h, e, hm]
  rfl

/-- With a test that doesn't count. -/
theorem backsK_pure (p : Int → Bool) : ∀ (n k : Nat) (d : DS), backsK (fun _ => p) n k d = DS.backs p n d
  | 0, _, _ => rfl
  | n + 1, k, d => by
    show (if d.line = [] then d else if p (d.line.getLastD 0) = true then backsK (fun _ => p) n (k + 1) d.back else d) = if d.line = [] then d else if p (d.line.getLastD 0) = true then DS.backs p n d.back else d
    rw [backsK_pure p n (k + 1) d.back]

theorem backsK_one (n : Nat) (d : DS) (hn : n = d.line.length) : backsK (fun k _ => k == 0) n 0 d = DS.backs (fun _ => true) 1 d := by
  cases n with
  | zero =>
    have e : d.line = [] := List.eq_nil_of_length_eq_zero hn.symm
    show d = if d.line = [] then d else _
    rw [if_pos e]
  | succ n =>
    show (if d.line = [] then d else if ((0 : Nat) == 0) = true then backsK (fun k _ => k == 0) n (0 + 1) d.back else d) = if d.line = [] then d else if true = true then DS.backs (fun _ => true) 0 d.back else d
    split
    · rfl
    · rw [if_pos (show ((0 : Nat) == 0) = true from rfl), backsK_stop _ _ _ _ rfl]
      rfl

theorem iarg_last {w : World} {l : List Int} {a : Option Addr} {n cap : Nat} (h : IArg .u8 w (.slice a n cap) l a cap) (hne : l ≠ []) : ∃ g o m, a = some ⟨g, o, none⟩ ∧ n = l.length ∧ n = m + 1 ∧ g < w.heap.size ∧ n ≤ cap ∧ w.cell? ⟨g, o + m, none⟩ = some (.int .u8 (l.getLastD 0)) ∧ 0 ≤ l.getLastD 0 ∧ l.getLastD 0 < 256 := by
  obtain ⟨_, hn, _⟩ := iarg_shape h rfl
  obtain ⟨g, o, ha, hg, hi⟩ := h.cells hne
  have hl : 0 < l.length := List.length_pos_iff.2 hne
  have e : l.getD (l.length - 1) 0 = l.getLastD 0 := by
    rw [List.getD_eq_getElem?_getD, List.getLastD_eq_getLast?, List.getLast?_eq_getElem?]
  have hw := wf_u8 (h.wf (l.getLastD 0) (by rw [← e]; exact getD_mem (by omega)))
  refine ⟨g, o, l.length - 1, ha, hn.symm, by omega, hg, by rw [← hn]; exact h.lenLe, ?_, hw.1, by have := hw.2; omega⟩
  rw [← e]
  exact hi _ (by omega)

/-- What is shown, and then the last byte gone: it is taken back. -/
theorem back_ps (d : DS) (hne : d.line ≠ []) : (d.out (d.rub (d.line.getLastD 0))).ps.setAll d.all.dropLast = d.back.ps ∧ (d.out (d.rub (d.line.getLastD 0))).ec = d.back.ec ∧ d.back.t = d.t := by
  have e : d.back.all = d.all.dropLast := by
    show d.raw ++ d.lines.flatten ++ d.line.dropLast = (d.raw ++ d.lines.flatten ++ d.line).dropLast
    rw [List.dropLast_append_of_ne_nil hne]
  refine ⟨?_, rfl, rfl⟩
  show (⟨d.t, d.all.dropLast, d.cnt, d.lines.map List.length, d.stp, d.nxt⟩ : PS) = ⟨d.t, d.back.all, d.cnt, d.lines.map List.length, d.stp, d.nxt⟩
  rw [e]

theorem out_nil (d : DS) : d.out [] = d := by
  show (⟨d.t, d.line, d.lines, d.raw, d.stp, d.nxt, d.ec ++ []⟩ : DS) = d
  rw [List.append_nil]

theorem s_pic (c : Int) (w : World) (h : SD w q d sg) (ht : rightB d.t = true) (hc0 : 0 ≤ c) (hc1 : c < 256) : Calls Try.prog 62 #[.pointer (some ⟨q.b, 0, none⟩), .int .u8 c] w (GivesN (d.pic c) w) := by
  have e : picP d.ps.t.fl c = d.pic c := (picP_eq d c hc0 hc1).symm
  rw [← e]
  have ht2 : rightB d.ps.t = true := ht
  exact s_picture (x := d.ps) (ec := d.ec) (sg := sg) c h ht2 hc0 hc1

theorem rub_six (d : DS) (c : Int) : (d.rub c).length ≤ 6 := by
  unfold DS.rub
  split
  · rw [rubs_len]
    have := pic_len d c
    omega
  · simp

/-- What a test does: it tells, may count, and leaves the step alone. -/
structure Test (q : Pl) (F : Nat) (A : Int → Array Value) (M : Nat → World → Prop) (pr : Nat → Int → Bool) (Z : Nat → Prop) : Prop where
  call : ∀ k w c, M k w → 0 ≤ c → c < 256 → Calls Try.prog F (A c) w (fun e w' => e = .returned (.bool (pr k c)) ∧ M (k + 1) w' ∧ Stay Z w w')
  keep : ∀ k w w', M k w → Stay q.U w w' → M k w'
  apart : ∀ j, Z j → ¬ q.U j

/-- What a round finds. -/
structure Rnd9 (q : Pl) (N : Nat) (sg : Int) (M : Nat → World → Prop) (pr : Nat → Int → Bool) (Z : Nat → Prop) (t : Tm) (X : DS) (B : Nat) (w wr : World) (k : Nat) (x : DS) (a : Option Addr) (cap : Nat) : Prop where
  sd : SD wr q x sg
  m : M k wr
  ok : Ok N x
  t : x.t = t
  ec : x.ec.length + 6 * x.line.length ≤ B
  fin : backsK pr x.line.length k x = X
  arg : IArg .u8 wr (.slice a x.line.length cap) x.line a cap
  own : ∀ ad : Addr, a = some ad → q.U ad.block
  st : Stay (fun j => q.U j ∨ Z j) w wr

def BackR (q : Pl) (Z : Nat → Prop) (X : DS) (sg : Int) (w : World) (e : Ending) (w' : World) : Prop := e = .returned (.tuple #[]) ∧ SD w' q X sg ∧ Stay (fun j => q.U j ∨ Z j) w w'

set_option maxRecDepth 100000 in
set_option maxHeartbeats 2000000 in
theorem s_backP {N : Nat} {M : Nat → World → Prop} {pr : Nat → Int → Bool} {Z : Nat → Prop} (hT : Test q 65 (fun c => #[.int .u8 c]) M pr Z) (w : World) (h : SD w q d sg) (hm : M 0 w) (hO : Ok N d) (hn : d.ec.length ≤ 800000) : Calls Try.prog 64 #[.pointer (some ⟨q.b, 0, none⟩), .func (.func 65) #[] #[]] w (BackR q Z (backsK pr d.line.length 0 d) sg w) := by
  have HT := hide' hT
  have HSF : Hid (∀ j, q.U j → ¬ Z j) := fun j hj hz => hT.apart j hz hj
  have HLN := hide' (fun w' x (hh : SD w' q x sg) (ho : Ok N x) => s_lineD w' hh ho)
  obtain ⟨X, hX⟩ : ∃ X, X = backsK pr d.line.length 0 d := ⟨_, rfl⟩
  rw [← hX]
  have HX := hide' hX.symm
  have HSD := hide' h
  have HM := hide' hm
  have HO := hide' hO
  have HB : Hid (d.ec.length + 6 * d.line.length ≤ 810000) := by have := hO.line; show _ ≤ _; omega
  have HL0 := hide' (s_lineD w h hO)
  have HRT : Hid (rightB d.t = true) := hO.right
  obtain ⟨t, ht⟩ : ∃ t, t = d.t := ⟨_, rfl⟩
  have HTT : Hid (d.t = t) := ht.symm
  rw [← ht] at HRT
  have HL6 : Hid (∀ w' x, x.t = t → SD w' q x sg → Calls Try.prog 31 #[.pointer (some ⟨q.p, 0, none⟩), .int .i64 6] w' (Gives (.bool (hasB t.fl 2 && hasB t.fl 4)) w')) := fun w' x et hh => s_local2 (x := x.ps) (ec := x.ec) hh 6 _ (by show (bits .and .i64 x.t.fl 6 == 6) = _; rw [et]; exact (loc_eq2 HRT.out).2.2)
  obtain ⟨q6, hq6⟩ : ∃ z, z = (hasB t.fl 2 && hasB t.fl 4) := ⟨_, rfl⟩
  rw [← hq6] at HL6
  have HQ6 := hide' hq6
  clear hT h hm hO hn hX ht hq6
  have s0 := HSD.out.dp
  go_enter Try.func64, Try.ntmps64
  go_wp2_with fail
  refine HL0.out.mono ?_
  rintro e w1 ⟨la, lc, rfl, harg, hown, hs⟩
  have HR0 : Hid (Rnd9 q N sg M pr Z t X 810000 w w1 0 d la lc) := ⟨HSD.out.keep hs, HT.out.keep _ _ _ HM.out (hs.mono (fun _ _ h => h.elim)), HO.out, HTT.out, HB.out, HX.out, harg, hown, hs.mono (fun _ _ h => h.elim)⟩
  clear harg hown hs HL0 HSD HM HO HTT HB HX s0
  go_wp2
  go_loopg [4] d.line.length (fun gg v4 wr => ∃ (k : Nat) (x : DS) (n : Nat) (a : Option Addr) (cap : Nat), n = gg ∧ v4 = .slice a n cap ∧ Hid (n = x.line.length ∧ Rnd9 q N sg M pr Z t X 810000 w wr k x a cap))
  case atStart => exact ⟨0, d, _, la, lc, rfl, rfl, rfl, HR0.out⟩
  case round =>
    clear HR0
    obtain ⟨k, x, n, a, cap, rfl, rfl, HR⟩ := hrel
    obtain ⟨w2, hw2⟩ : ∃ W, W = wr := ⟨_, rfl⟩
    rw [← hw2] at HR ⊢
    clear hw2
    by_cases hne : x.line = []
    · have hn0 : n = 0 := by rw [HR.out.1, hne]; rfl
      subst hn0
      have HFN : Hid (x = X) := by have h1 := HR.out.2.fin; rw [backsK_nil _ _ _ _ hne] at h1; exact h1
      clear hne
      go_wp2
      go_returns
      refine ⟨rfl, ?_, HR.out.2.st⟩
      rw [← HFN.out]
      exact HR.out.2.sd
    · have harg := HR.out.2.arg
      rw [← HR.out.1] at harg
      obtain ⟨g, o, m, ha, hn, hm, hg, hcap, hcell, hb0, hb1⟩ := iarg_last harg hne
      have HUG : Hid (q.U g) := HR.out.2.own _ ha
      have HNE := hide' hne
      subst ha
      clear harg hn hcap hne
      obtain ⟨lb, hlb⟩ : ∃ z, z = x.line.getLastD 0 := ⟨_, rfl⟩
      have HLB := hide' hlb
      rw [← hlb] at hcell hb0 hb1
      have HGC := hide' (And.intro hg (And.intro hb0 hb1))
      have HMN := hide' hm
      have kn0 : (0 : Int) < (n : Nat) := by omega
      have kn : ((n : Nat) : Int) - 1 = (m : Int) := by omega
      have kl : n ≤ 100000 := by rw [HR.out.1]; have := HR.out.2.ok.line; omega
      have km : m < n := by omega
      have kw : IntKind.i64.wrap (m : Int) = m := by rw [IntKind.wrap_i64]; omega
      have kr : 0 ≤ (m : Int) ∧ (m : Int) < n := by omega
      have HTC := hide' (HT.out.call k w2 lb HR.out.2.m hb0 hb1)
      obtain ⟨g1, hg1⟩ : ∃ z, z = pr k lb := ⟨_, rfl⟩
      have HG1 := hide' hg1
      rw [← hg1] at HTC
      have HCE := hide' hcell
      clear hlb hb0 hb1 hg hm hg1
      go_wp2_with fail
      refine HTC.out.mono ?_
      rintro e w3 ⟨rfl, hm3, hs3⟩
      have HM3 := hide' hm3
      have HS3 := hide' hs3
      have HSD3 := hide' (SAt.stay HR.out.2.sd hs3 HSF.out)
      have HST3 := hide' (HR.out.2.st.trans (hs3.mono (T := fun j => q.U j ∨ Z j) (fun _ _ h => .inr h)))
      have hcell3 : w3.cell? ⟨g, o + m, none⟩ = some (.int .u8 lb) := (hs3.cell (p := ⟨g, o + m, none⟩) HGC.out.1 (HSF.out g HUG.out)).trans HCE.out
      clear hm3 hs3 HTC hcell
      cases g1
      · have HFN : Hid (x = X) := by have h1 := HR.out.2.fin; rw [backsK_stop _ _ _ _ (by rw [← HLB.out]; exact HG1.out.symm)] at h1; exact h1
        go_wp2
        go_returns
        refine ⟨rfl, ?_, HST3.out⟩
        rw [← HFN.out]
        exact HSD3.out
      · have HFN2 : Hid (backsK pr x.back.line.length (k + 1) x.back = X) := by
          have h1 := HR.out.2.fin
          rw [backsK_go _ _ _ HNE.out (by rw [← HLB.out]; exact HG1.out.symm)] at h1
          exact h1
        have HXT := hide' HR.out.2.t
        have HXO := hide' HR.out.2.ok
        have HXE := hide' HR.out.2.ec
        have HNX := hide' HR.out.1
        have HOWN := hide' HR.out.2.own
        have HBP := hide' (back_ps x HNE.out)
        have HRUB : Hid (x.rub (x.line.getLastD 0) = if q6 = true then (x.pic lb).flatMap (fun _ => [8, 32, 8]) else []) := by
          have e2 : x.loc 2 = hasB t.fl 2 := by show hasB x.t.fl 2 = _; rw [HXT.out]
          have e4 : x.loc 4 = hasB t.fl 4 := by show hasB x.t.fl 4 = _; rw [HXT.out]
          show x.rub _ = _
          rw [← HLB.out, HQ6.out]
          unfold DS.rub
          rw [e2, e4]
          simp only [Bool.and_eq_true]
        clear HR HG1
        have s0 := HSD3.out.dp
        go_wp2_with fail
        refine (HL6.out _ _ HXT.out HSD3.out).mono ?_
        rintro e w4 ⟨rfl, hs⟩
        have HSD4 := hide' (HSD3.out.keep hs)
        have HST4 := hide' (HST3.out.trans (hs.mono (fun _ _ h => h.elim)))
        have HM4 := hide' (HT.out.keep _ _ _ HM3.out (hs.mono (fun _ _ h => h.elim)))
        have hcell4 := keep_cell hs hcell3
        clear hs hcell3 HSD3 HST3 HM3 HS3 s0
        go_upto_if 32 with fail
        go_cut [] from 33 to 52 (fun wx => Hid (SD wx q (x.out (x.rub (x.line.getLastD 0))) sg ∧ Stay (fun j => q.U j ∨ Z j) w wx ∧ M (k + 1) wx))
        case first =>
          have HFX := hide' HSD4.out
          cases q6
          · go_wp2
            go_meet
            refine ⟨?_, HST4.out, HM4.out⟩
            rw [HRUB.out, if_neg (by simp), out_nil]
            exact HSD4.out
          · rw [if_pos rfl] at HRUB
            have HPI := hide' (s_pic lb w4 HSD4.out HXO.out.right HGC.out.2.1 HGC.out.2.2)
            have HPL := hide' (pic_len x lb)
            obtain ⟨P, hP⟩ : ∃ z, z = x.pic lb := ⟨_, rfl⟩
            rw [← hP] at HPI HPL HRUB
            obtain ⟨np, hnp⟩ : ∃ z, z = P.length := ⟨_, rfl⟩
            have HNP := hide' hnp
            rw [← hnp] at HPL
            have hnp2 : np ≤ 2 := HPL.out
            clear hP hnp
            go_wp2_with fail
            refine HPI.out.mono ?_
            intro e w5 hg5
            obtain ⟨pa, pc, rfl, _, hs⟩ := hg5.arg
            rw [← HNP.out]
            have HJ0 : Hid (SD w5 q (x.out ((P.take 0).flatMap (fun _ => [8, 32, 8]))) sg ∧ Stay (fun j => q.U j ∨ Z j) w w5 ∧ M (k + 1) w5) := by
              refine ⟨?_, HST4.out.trans (hs.mono (fun _ _ h => h.elim)), HT.out.keep _ _ _ HM4.out (hs.mono (fun _ _ h => h.elim))⟩
              show SD w5 q (x.out []) sg
              rw [out_nil]
              exact HSD4.out.keep hs
            clear hg5 hs HSD4 HST4 HM4 HPI hcell4 HFX
            go_wp2
            go_loopg [42] np (fun gg v42 wr => ∃ j : Nat, j ≤ np ∧ gg = np - j ∧ v42 = .int .i64 (j : Int) ∧ Hid (SD wr q (x.out ((P.take j).flatMap (fun _ => [8, 32, 8]))) sg ∧ Stay (fun j => q.U j ∨ Z j) w wr ∧ M (k + 1) wr))
            case atStart => exact ⟨0, Nat.zero_le _, rfl, rfl, HJ0.out⟩
            case round =>
              clear HJ0
              obtain ⟨j, hj, rfl, rfl, HJ⟩ := hrel
              obtain ⟨w6, hw6⟩ : ∃ W, W = wr := ⟨_, rfl⟩
              rw [← hw6] at HJ ⊢
              clear hw6
              by_cases hlt : j < np
              · have kj : (j : Int) < np := by omega
                have HN : Hid ((x.out ((P.take j).flatMap (fun _ => [8, 32, 8]))).ec.length + [(8 : Int), 32, 8].length ≤ 1000000) := by
                  have h1 := HXE.out
                  have h2 := rubs_len (P.take j)
                  have h3 : (P.take j).length ≤ 2 := by rw [List.length_take]; omega
                  show (x.ec ++ _).length + 3 ≤ _
                  rw [List.length_append]; omega
                obtain ⟨r, ea, ecap, hO⟩ := HJ.out.1.open
                have HO2 := hide' hO
                obtain ⟨s0, s1, s2, g0, g1, g2⟩ := hO.box
                simp only at s0 s1 s2
                clear hO
                go_wp2_with (at_builtin; go_must (refine str_app rfl _ _ rfl HO2.out.ecw rfl rfl (l := [8, 32, 8]) ⟨rfl, rfl, by decide⟩ HN.out ?_; intro va vn vc wa hvn hwn hst hbn; have HVN := hide' hvn; have HWN := hide' hwn; have HBN := hide' hbn; have HSN := hide' hst; clear hvn hwn hst hbn s0 s1 s2 g0 g1 g2; obtain ⟨s0, s1, s2, g0, g1, g2⟩ := HO2.out.box.stay HSN.out (fun e => (HO2.out.m1 _ e).2 rfl); simp only at s0 s1 s2; go_wp2_with fail))
                go_upto_region 7 with fail
                have HFIN := hide' (HO2.out.show HSN.out HVN.out HWN.out HBN.out (l := [8, 32, 8]) (fun y hy => by simp at hy; rcases hy with rfl | rfl | rfl <;> decide))
                obtain ⟨w7, hW⟩ : ∃ z, z = wa.setCell ⟨q.b, 1, none⟩ (.slice va vn vc) := ⟨_, rfl⟩
                rw [← hW] at HFIN ⊢
                clear hW s0 s1 s2 g0 g1 g2
                have HJ7 : Hid (SD w7 q (x.out ((P.take (j + 1)).flatMap (fun _ => [8, 32, 8]))) sg ∧ Stay (fun j => q.U j ∨ Z j) w w7 ∧ M (k + 1) w7) := by
                  refine ⟨?_, HJ.out.2.1.trans (HFIN.out.2.mono (fun _ _ h => .inl h)), HT.out.keep _ _ _ HJ.out.2.2 HFIN.out.2⟩
                  rw [rub_take _ _ (by rw [← HNP.out]; exact hlt)]
                  have e : x.out ((P.take j).flatMap (fun _ => [8, 32, 8]) ++ [8, 32, 8]) = (x.out ((P.take j).flatMap (fun _ => [8, 32, 8]))).out [8, 32, 8] := by unfold DS.out; simp
                  rw [e]
                  exact HFIN.out.1.sd
                clear HJ HFIN HO2 HVN HWN HBN HSN HN
                go_wp2
                go_roundg (np - (j + 1))
                case measure => omega
                case rel => exact ⟨j + 1, by omega, rfl, by go_num, HJ7.out⟩
              · have kj : ¬ ((j : Int) < np) := by omega
                have e : j = np := by omega
                go_wp2
                go_meet
                have h1 := HJ.out
                rw [e, HNP.out, List.take_length, ← HRUB.out] at h1
                exact h1
        case rest =>
          obtain ⟨w5, hw5⟩ : ∃ z, z = wc := ⟨_, rfl⟩
          rw [← hw5] at hcut ⊢
          clear hw5 HSD4 HST4 HM4 hcell4 HRUB HQ6
          have HM5 := hide' hcut.out.2.2
          have HST5 := hide' hcut.out.2.1
          have HSD5 := hide' hcut.out.1
          clear hcut
          obtain ⟨xo, hxo⟩ : ∃ z, z = x.out (x.rub (x.line.getLastD 0)) := ⟨_, rfl⟩
          have HAL : Hid (xo.ps.all = x.all) := by rw [hxo]; exact rfl
          rw [← hxo] at HSD5 HBP
          clear hxo
          obtain ⟨r, e, hop⟩ := HSD5.out
          have s0 := HSD5.out.dp
          obtain ⟨c0, c1, c2, c3, c4, c5, c6, c7, c8, c9, c10, c11, c12, c13, c14, c15, c16, c17, c18, c19, c20, c21, f0, f1, f2, f3, f4, f5, f6, f7, f8, f9, f10, f11, f12, f13, f14, f15, f16, f17, f18, f19, f20, f21⟩ := hop.core.box
          obtain ⟨ia, icap, hv, hicap, _⟩ := hop.core.ip.shape
          rw [HAL.out] at hv hicap
          rw [hv] at c17
          have hal : 0 < x.all.length ∧ x.all.length ≤ 100000 := by
            have h1 := HXO.out.all_le.1
            have h2 := (all_line x).2.2.2.1
            have h3 : 0 < x.line.length := List.length_pos_iff.2 HNE.out
            omega
          have HWT : Hid (Win w5 1 (.slice ia (x.all.length - 1) icap) x.all.dropLast.length (bys x.all.dropLast)) := by
            have h1 := hop.core.ip
            rw [HAL.out, hv] at h1
            have h2 := h1.take (k := x.all.length - 1) (by omega)
            rw [bys_take, ← List.dropLast_eq_take] at h2
            rw [List.length_dropLast]
            exact h2
          obtain ⟨nn, hnn⟩ : ∃ z, z = x.all.length := ⟨_, rfl⟩
          rw [← hnn] at c17 hv hicap hal HWT
          obtain ⟨mm, hmm⟩ : ∃ z, z = nn - 1 := ⟨_, rfl⟩
          rw [← hmm] at HWT
          have kn8 : ((nn : Nat) : Int) - 1 = (mm : Int) := by omega
          have kw8 : IntKind.i64.wrap (mm : Int) = mm := by rw [IntKind.wrap_i64]; omega
          have hkc : mm ≤ icap := by omega
          have hslh := fun w => slice_h_eq (P := Try.prog) (sa := ia) (m := nn) (cap := icap) (k := mm) elemB sizeB hkc w
          have HFN := hide' ((hop.keep ((Stay.refl _ w5).drew)).put_ip (v := .slice ia mm icap) (l := x.all.dropLast) (Stay.refl _ _) (HWT.out.stay ((Stay.refl (fun _ => False) w5).drew) (fun _ _ h => h)) (fun j hj => .inl (by rw [hv]; cases ia <;> exact hj)) (fun y hy => hop.core.wf y (by rw [HAL.out]; rw [List.dropLast_eq_take] at hy; exact List.mem_of_mem_take hy)))
          clear hop hv hicap hal HWT hnn hmm kn kn0 kl km kw kr
          go_upto_region 8 with fail
          go_still_tail 23, (by kernel_rfl)
          change wpList _ _ _ _ _ w5.drew
          obtain ⟨wd, hwd⟩ : ∃ z, z = w5.drew := ⟨_, rfl⟩
          have hfr : wd.frozen? ⟨q.p, 17, none⟩ = false := by rw [hwd]; exact f17
          have hce : wd.cell? ⟨q.p, 17, none⟩ = w5.cell? ⟨q.p, 17, none⟩ := by rw [hwd]; rfl
          rw [c17] at hce
          have HSDW := hide' ((Stay.refl (fun _ => False) w5).drew)
          rw [← hwd] at HFN HSDW ⊢
          clear hwd s0 hslh hkc kn8 kw8 c0 c1 c2 c3 c4 c5 c6 c7 c8 c9 c10 c11 c12 c13 c14 c15 c16 c17 c18 c19 c20 c21 f0 f1 f2 f3 f4 f5 f6 f7 f8 f9 f10 f11 f12 f13 f14 f15 f16 f17 f18 f19 f20 f21
          go_upto_region 2 with fail
          obtain ⟨w6, hw6⟩ : ∃ z, z = wd.setCell ⟨q.p, 17, none⟩ (.slice ia mm icap) := ⟨_, rfl⟩
          rw [← hw6] at HFN ⊢
          clear hw6 hfr hce
          have HSD6 : Hid (SD w6 q x.back sg) := by
            show SAt w6 q x.back.ps x.back.ec sg
            rw [← HBP.out.1, ← HBP.out.2.1]
            exact HFN.out.1
          have HSU : Hid (Stay q.U w5 w6) := (HSDW.out.mono (T := q.U) (fun _ _ h => h.elim)).trans HFN.out.2
          have HST6 := hide' (HST5.out.trans (HSU.out.mono (fun _ _ h => .inl h)))
          have HM6 := hide' (HT.out.keep _ _ _ HM5.out HSU.out)
          clear HFN HSDW HSD5 HST5 HM5 HSU
          have HXB := hide' HXO.out.back
          have HLB2 := hide' (HLN.out _ _ HSD6.out HXB.out)
          have s0 := HSD6.out.dp
          go_wp2_with fail
          refine HLB2.out.mono ?_
          rintro e w7 ⟨la7, lc7, rfl, harg, hown, hs⟩
          have hbl : x.back.line.length < n := by
            have h3 : 0 < x.line.length := List.length_pos_iff.2 HNE.out
            rw [back_line, List.length_dropLast, HNX.out]; omega
          have hec : x.back.ec.length + 6 * x.back.line.length ≤ 810000 := by
            have h1 := HXE.out
            have h2 := rub_six x (x.line.getLastD 0)
            have h3 : 0 < x.line.length := List.length_pos_iff.2 HNE.out
            have h4 : x.back.ec.length = x.ec.length + (x.rub (x.line.getLastD 0)).length := by show (x.ec ++ _).length = _; rw [List.length_append]
            rw [back_line, List.length_dropLast, h4]; omega
          have HNX2 : Hid (Rnd9 q N sg M pr Z t X 810000 w w7 (k + 1) x.back la7 lc7) := ⟨HSD6.out.keep hs, HT.out.keep _ _ _ HM6.out (hs.mono (fun _ _ h => h.elim)), HXB.out, HBP.out.2.2.trans HXT.out, hec, HFN2.out, harg, hown, HST6.out.trans (hs.mono (fun _ _ h => h.elim))⟩
          have HMS := hide' hbl
          clear harg hown hs HLB2 HSD6 HST6 HM6 hec hbl s0
          obtain ⟨n7, hn7⟩ : ∃ z, z = x.back.line.length := ⟨_, rfl⟩
          rw [← hn7] at HMS ⊢
          have HN7 := hide' hn7
          clear hn7
          go_wp2
          go_roundg n7
          case measure => exact HMS.out
          case rel => exact ⟨k + 1, x.back, n7, la7, lc7, rfl, rfl, HN7.out, HNX2.out⟩

set_option maxRecDepth 100000 in
set_option maxHeartbeats 2000000 in
theorem s_backX {N : Nat} {M : Nat → World → Prop} {pr : Nat → Int → Bool} {Z : Nat → Prop} (hT : Test q 66 (fun c => #[.int .u8 c]) M pr Z) (w : World) (h : SD w q d sg) (hm : M 0 w) (hO : Ok N d) (hn : d.ec.length ≤ 800000) : Calls Try.prog 64 #[.pointer (some ⟨q.b, 0, none⟩), .func (.func 66) #[] #[]] w (BackR q Z (backsK pr d.line.length 0 d) sg w) := by
  have HT := hide' hT
  have HSF : Hid (∀ j, q.U j → ¬ Z j) := fun j hj hz => hT.apart j hz hj
  have HLN := hide' (fun w' x (hh : SD w' q x sg) (ho : Ok N x) => s_lineD w' hh ho)
  obtain ⟨X, hX⟩ : ∃ X, X = backsK pr d.line.length 0 d := ⟨_, rfl⟩
  rw [← hX]
  have HX := hide' hX.symm
  have HSD := hide' h
  have HM := hide' hm
  have HO := hide' hO
  have HB : Hid (d.ec.length + 6 * d.line.length ≤ 810000) := by have := hO.line; show _ ≤ _; omega
  have HL0 := hide' (s_lineD w h hO)
  have HRT : Hid (rightB d.t = true) := hO.right
  obtain ⟨t, ht⟩ : ∃ t, t = d.t := ⟨_, rfl⟩
  have HTT : Hid (d.t = t) := ht.symm
  rw [← ht] at HRT
  have HL6 : Hid (∀ w' x, x.t = t → SD w' q x sg → Calls Try.prog 31 #[.pointer (some ⟨q.p, 0, none⟩), .int .i64 6] w' (Gives (.bool (hasB t.fl 2 && hasB t.fl 4)) w')) := fun w' x et hh => s_local2 (x := x.ps) (ec := x.ec) hh 6 _ (by show (bits .and .i64 x.t.fl 6 == 6) = _; rw [et]; exact (loc_eq2 HRT.out).2.2)
  obtain ⟨q6, hq6⟩ : ∃ z, z = (hasB t.fl 2 && hasB t.fl 4) := ⟨_, rfl⟩
  rw [← hq6] at HL6
  have HQ6 := hide' hq6
  clear hT h hm hO hn hX ht hq6
  have s0 := HSD.out.dp
  go_enter Try.func64, Try.ntmps64
  go_wp2_with fail
  refine HL0.out.mono ?_
  rintro e w1 ⟨la, lc, rfl, harg, hown, hs⟩
  have HR0 : Hid (Rnd9 q N sg M pr Z t X 810000 w w1 0 d la lc) := ⟨HSD.out.keep hs, HT.out.keep _ _ _ HM.out (hs.mono (fun _ _ h => h.elim)), HO.out, HTT.out, HB.out, HX.out, harg, hown, hs.mono (fun _ _ h => h.elim)⟩
  clear harg hown hs HL0 HSD HM HO HTT HB HX s0
  go_wp2
  go_loopg [4] d.line.length (fun gg v4 wr => ∃ (k : Nat) (x : DS) (n : Nat) (a : Option Addr) (cap : Nat), n = gg ∧ v4 = .slice a n cap ∧ Hid (n = x.line.length ∧ Rnd9 q N sg M pr Z t X 810000 w wr k x a cap))
  case atStart => exact ⟨0, d, _, la, lc, rfl, rfl, rfl, HR0.out⟩
  case round =>
    clear HR0
    obtain ⟨k, x, n, a, cap, rfl, rfl, HR⟩ := hrel
    obtain ⟨w2, hw2⟩ : ∃ W, W = wr := ⟨_, rfl⟩
    rw [← hw2] at HR ⊢
    clear hw2
    by_cases hne : x.line = []
    · have hn0 : n = 0 := by rw [HR.out.1, hne]; rfl
      subst hn0
      have HFN : Hid (x = X) := by have h1 := HR.out.2.fin; rw [backsK_nil _ _ _ _ hne] at h1; exact h1
      clear hne
      go_wp2
      go_returns
      refine ⟨rfl, ?_, HR.out.2.st⟩
      rw [← HFN.out]
      exact HR.out.2.sd
    · have harg := HR.out.2.arg
      rw [← HR.out.1] at harg
      obtain ⟨g, o, m, ha, hn, hm, hg, hcap, hcell, hb0, hb1⟩ := iarg_last harg hne
      have HUG : Hid (q.U g) := HR.out.2.own _ ha
      have HNE := hide' hne
      subst ha
      clear harg hn hcap hne
      obtain ⟨lb, hlb⟩ : ∃ z, z = x.line.getLastD 0 := ⟨_, rfl⟩
      have HLB := hide' hlb
      rw [← hlb] at hcell hb0 hb1
      have HGC := hide' (And.intro hg (And.intro hb0 hb1))
      have HMN := hide' hm
      have kn0 : (0 : Int) < (n : Nat) := by omega
      have kn : ((n : Nat) : Int) - 1 = (m : Int) := by omega
      have kl : n ≤ 100000 := by rw [HR.out.1]; have := HR.out.2.ok.line; omega
      have km : m < n := by omega
      have kw : IntKind.i64.wrap (m : Int) = m := by rw [IntKind.wrap_i64]; omega
      have kr : 0 ≤ (m : Int) ∧ (m : Int) < n := by omega
      have HTC := hide' (HT.out.call k w2 lb HR.out.2.m hb0 hb1)
      obtain ⟨g1, hg1⟩ : ∃ z, z = pr k lb := ⟨_, rfl⟩
      have HG1 := hide' hg1
      rw [← hg1] at HTC
      have HCE := hide' hcell
      clear hlb hb0 hb1 hg hm hg1
      go_wp2_with fail
      refine HTC.out.mono ?_
      rintro e w3 ⟨rfl, hm3, hs3⟩
      have HM3 := hide' hm3
      have HS3 := hide' hs3
      have HSD3 := hide' (SAt.stay HR.out.2.sd hs3 HSF.out)
      have HST3 := hide' (HR.out.2.st.trans (hs3.mono (T := fun j => q.U j ∨ Z j) (fun _ _ h => .inr h)))
      have hcell3 : w3.cell? ⟨g, o + m, none⟩ = some (.int .u8 lb) := (hs3.cell (p := ⟨g, o + m, none⟩) HGC.out.1 (HSF.out g HUG.out)).trans HCE.out
      clear hm3 hs3 HTC hcell
      cases g1
      · have HFN : Hid (x = X) := by have h1 := HR.out.2.fin; rw [backsK_stop _ _ _ _ (by rw [← HLB.out]; exact HG1.out.symm)] at h1; exact h1
        go_wp2
        go_returns
        refine ⟨rfl, ?_, HST3.out⟩
        rw [← HFN.out]
        exact HSD3.out
      · have HFN2 : Hid (backsK pr x.back.line.length (k + 1) x.back = X) := by
          have h1 := HR.out.2.fin
          rw [backsK_go _ _ _ HNE.out (by rw [← HLB.out]; exact HG1.out.symm)] at h1
          exact h1
        have HXT := hide' HR.out.2.t
        have HXO := hide' HR.out.2.ok
        have HXE := hide' HR.out.2.ec
        have HNX := hide' HR.out.1
        have HOWN := hide' HR.out.2.own
        have HBP := hide' (back_ps x HNE.out)
        have HRUB : Hid (x.rub (x.line.getLastD 0) = if q6 = true then (x.pic lb).flatMap (fun _ => [8, 32, 8]) else []) := by
          have e2 : x.loc 2 = hasB t.fl 2 := by show hasB x.t.fl 2 = _; rw [HXT.out]
          have e4 : x.loc 4 = hasB t.fl 4 := by show hasB x.t.fl 4 = _; rw [HXT.out]
          show x.rub _ = _
          rw [← HLB.out, HQ6.out]
          unfold DS.rub
          rw [e2, e4]
          simp only [Bool.and_eq_true]
        clear HR HG1
        have s0 := HSD3.out.dp
        go_wp2_with fail
        refine (HL6.out _ _ HXT.out HSD3.out).mono ?_
        rintro e w4 ⟨rfl, hs⟩
        have HSD4 := hide' (HSD3.out.keep hs)
        have HST4 := hide' (HST3.out.trans (hs.mono (fun _ _ h => h.elim)))
        have HM4 := hide' (HT.out.keep _ _ _ HM3.out (hs.mono (fun _ _ h => h.elim)))
        have hcell4 := keep_cell hs hcell3
        clear hs hcell3 HSD3 HST3 HM3 HS3 s0
        go_upto_if 32 with fail
        go_cut [] from 33 to 52 (fun wx => Hid (SD wx q (x.out (x.rub (x.line.getLastD 0))) sg ∧ Stay (fun j => q.U j ∨ Z j) w wx ∧ M (k + 1) wx))
        case first =>
          have HFX := hide' HSD4.out
          cases q6
          · go_wp2
            go_meet
            refine ⟨?_, HST4.out, HM4.out⟩
            rw [HRUB.out, if_neg (by simp), out_nil]
            exact HSD4.out
          · rw [if_pos rfl] at HRUB
            have HPI := hide' (s_pic lb w4 HSD4.out HXO.out.right HGC.out.2.1 HGC.out.2.2)
            have HPL := hide' (pic_len x lb)
            obtain ⟨P, hP⟩ : ∃ z, z = x.pic lb := ⟨_, rfl⟩
            rw [← hP] at HPI HPL HRUB
            obtain ⟨np, hnp⟩ : ∃ z, z = P.length := ⟨_, rfl⟩
            have HNP := hide' hnp
            rw [← hnp] at HPL
            have hnp2 : np ≤ 2 := HPL.out
            clear hP hnp
            go_wp2_with fail
            refine HPI.out.mono ?_
            intro e w5 hg5
            obtain ⟨pa, pc, rfl, _, hs⟩ := hg5.arg
            rw [← HNP.out]
            have HJ0 : Hid (SD w5 q (x.out ((P.take 0).flatMap (fun _ => [8, 32, 8]))) sg ∧ Stay (fun j => q.U j ∨ Z j) w w5 ∧ M (k + 1) w5) := by
              refine ⟨?_, HST4.out.trans (hs.mono (fun _ _ h => h.elim)), HT.out.keep _ _ _ HM4.out (hs.mono (fun _ _ h => h.elim))⟩
              show SD w5 q (x.out []) sg
              rw [out_nil]
              exact HSD4.out.keep hs
            clear hg5 hs HSD4 HST4 HM4 HPI hcell4 HFX
            go_wp2
            go_loopg [42] np (fun gg v42 wr => ∃ j : Nat, j ≤ np ∧ gg = np - j ∧ v42 = .int .i64 (j : Int) ∧ Hid (SD wr q (x.out ((P.take j).flatMap (fun _ => [8, 32, 8]))) sg ∧ Stay (fun j => q.U j ∨ Z j) w wr ∧ M (k + 1) wr))
            case atStart => exact ⟨0, Nat.zero_le _, rfl, rfl, HJ0.out⟩
            case round =>
              clear HJ0
              obtain ⟨j, hj, rfl, rfl, HJ⟩ := hrel
              obtain ⟨w6, hw6⟩ : ∃ W, W = wr := ⟨_, rfl⟩
              rw [← hw6] at HJ ⊢
              clear hw6
              by_cases hlt : j < np
              · have kj : (j : Int) < np := by omega
                have HN : Hid ((x.out ((P.take j).flatMap (fun _ => [8, 32, 8]))).ec.length + [(8 : Int), 32, 8].length ≤ 1000000) := by
                  have h1 := HXE.out
                  have h2 := rubs_len (P.take j)
                  have h3 : (P.take j).length ≤ 2 := by rw [List.length_take]; omega
                  show (x.ec ++ _).length + 3 ≤ _
                  rw [List.length_append]; omega
                obtain ⟨r, ea, ecap, hO⟩ := HJ.out.1.open
                have HO2 := hide' hO
                obtain ⟨s0, s1, s2, g0, g1, g2⟩ := hO.box
                simp only at s0 s1 s2
                clear hO
                go_wp2_with (at_builtin; go_must (refine str_app rfl _ _ rfl HO2.out.ecw rfl rfl (l := [8, 32, 8]) ⟨rfl, rfl, by decide⟩ HN.out ?_; intro va vn vc wa hvn hwn hst hbn; have HVN := hide' hvn; have HWN := hide' hwn; have HBN := hide' hbn; have HSN := hide' hst; clear hvn hwn hst hbn s0 s1 s2 g0 g1 g2; obtain ⟨s0, s1, s2, g0, g1, g2⟩ := HO2.out.box.stay HSN.out (fun e => (HO2.out.m1 _ e).2 rfl); simp only at s0 s1 s2; go_wp2_with fail))
                go_upto_region 7 with fail
                have HFIN := hide' (HO2.out.show HSN.out HVN.out HWN.out HBN.out (l := [8, 32, 8]) (fun y hy => by simp at hy; rcases hy with rfl | rfl | rfl <;> decide))
                obtain ⟨w7, hW⟩ : ∃ z, z = wa.setCell ⟨q.b, 1, none⟩ (.slice va vn vc) := ⟨_, rfl⟩
                rw [← hW] at HFIN ⊢
                clear hW s0 s1 s2 g0 g1 g2
                have HJ7 : Hid (SD w7 q (x.out ((P.take (j + 1)).flatMap (fun _ => [8, 32, 8]))) sg ∧ Stay (fun j => q.U j ∨ Z j) w w7 ∧ M (k + 1) w7) := by
                  refine ⟨?_, HJ.out.2.1.trans (HFIN.out.2.mono (fun _ _ h => .inl h)), HT.out.keep _ _ _ HJ.out.2.2 HFIN.out.2⟩
                  rw [rub_take _ _ (by rw [← HNP.out]; exact hlt)]
                  have e : x.out ((P.take j).flatMap (fun _ => [8, 32, 8]) ++ [8, 32, 8]) = (x.out ((P.take j).flatMap (fun _ => [8, 32, 8]))).out [8, 32, 8] := by unfold DS.out; simp
                  rw [e]
                  exact HFIN.out.1.sd
                clear HJ HFIN HO2 HVN HWN HBN HSN HN
                go_wp2
                go_roundg (np - (j + 1))
                case measure => omega
                case rel => exact ⟨j + 1, by omega, rfl, by go_num, HJ7.out⟩
              · have kj : ¬ ((j : Int) < np) := by omega
                have e : j = np := by omega
                go_wp2
                go_meet
                have h1 := HJ.out
                rw [e, HNP.out, List.take_length, ← HRUB.out] at h1
                exact h1
        case rest =>
          obtain ⟨w5, hw5⟩ : ∃ z, z = wc := ⟨_, rfl⟩
          rw [← hw5] at hcut ⊢
          clear hw5 HSD4 HST4 HM4 hcell4 HRUB HQ6
          have HM5 := hide' hcut.out.2.2
          have HST5 := hide' hcut.out.2.1
          have HSD5 := hide' hcut.out.1
          clear hcut
          obtain ⟨xo, hxo⟩ : ∃ z, z = x.out (x.rub (x.line.getLastD 0)) := ⟨_, rfl⟩
          have HAL : Hid (xo.ps.all = x.all) := by rw [hxo]; exact rfl
          rw [← hxo] at HSD5 HBP
          clear hxo
          obtain ⟨r, e, hop⟩ := HSD5.out
          have s0 := HSD5.out.dp
          obtain ⟨c0, c1, c2, c3, c4, c5, c6, c7, c8, c9, c10, c11, c12, c13, c14, c15, c16, c17, c18, c19, c20, c21, f0, f1, f2, f3, f4, f5, f6, f7, f8, f9, f10, f11, f12, f13, f14, f15, f16, f17, f18, f19, f20, f21⟩ := hop.core.box
          obtain ⟨ia, icap, hv, hicap, _⟩ := hop.core.ip.shape
          rw [HAL.out] at hv hicap
          rw [hv] at c17
          have hal : 0 < x.all.length ∧ x.all.length ≤ 100000 := by
            have h1 := HXO.out.all_le.1
            have h2 := (all_line x).2.2.2.1
            have h3 : 0 < x.line.length := List.length_pos_iff.2 HNE.out
            omega
          have HWT : Hid (Win w5 1 (.slice ia (x.all.length - 1) icap) x.all.dropLast.length (bys x.all.dropLast)) := by
            have h1 := hop.core.ip
            rw [HAL.out, hv] at h1
            have h2 := h1.take (k := x.all.length - 1) (by omega)
            rw [bys_take, ← List.dropLast_eq_take] at h2
            rw [List.length_dropLast]
            exact h2
          obtain ⟨nn, hnn⟩ : ∃ z, z = x.all.length := ⟨_, rfl⟩
          rw [← hnn] at c17 hv hicap hal HWT
          obtain ⟨mm, hmm⟩ : ∃ z, z = nn - 1 := ⟨_, rfl⟩
          rw [← hmm] at HWT
          have kn8 : ((nn : Nat) : Int) - 1 = (mm : Int) := by omega
          have kw8 : IntKind.i64.wrap (mm : Int) = mm := by rw [IntKind.wrap_i64]; omega
          have hkc : mm ≤ icap := by omega
          have hslh := fun w => slice_h_eq (P := Try.prog) (sa := ia) (m := nn) (cap := icap) (k := mm) elemB sizeB hkc w
          have HFN := hide' ((hop.keep ((Stay.refl _ w5).drew)).put_ip (v := .slice ia mm icap) (l := x.all.dropLast) (Stay.refl _ _) (HWT.out.stay ((Stay.refl (fun _ => False) w5).drew) (fun _ _ h => h)) (fun j hj => .inl (by rw [hv]; cases ia <;> exact hj)) (fun y hy => hop.core.wf y (by rw [HAL.out]; rw [List.dropLast_eq_take] at hy; exact List.mem_of_mem_take hy)))
          clear hop hv hicap hal HWT hnn hmm kn kn0 kl km kw kr
          go_upto_region 8 with fail
          go_still_tail 23, (by kernel_rfl)
          change wpList _ _ _ _ _ w5.drew
          obtain ⟨wd, hwd⟩ : ∃ z, z = w5.drew := ⟨_, rfl⟩
          have hfr : wd.frozen? ⟨q.p, 17, none⟩ = false := by rw [hwd]; exact f17
          have hce : wd.cell? ⟨q.p, 17, none⟩ = w5.cell? ⟨q.p, 17, none⟩ := by rw [hwd]; rfl
          rw [c17] at hce
          have HSDW := hide' ((Stay.refl (fun _ => False) w5).drew)
          rw [← hwd] at HFN HSDW ⊢
          clear hwd s0 hslh hkc kn8 kw8 c0 c1 c2 c3 c4 c5 c6 c7 c8 c9 c10 c11 c12 c13 c14 c15 c16 c17 c18 c19 c20 c21 f0 f1 f2 f3 f4 f5 f6 f7 f8 f9 f10 f11 f12 f13 f14 f15 f16 f17 f18 f19 f20 f21
          go_upto_region 2 with fail
          obtain ⟨w6, hw6⟩ : ∃ z, z = wd.setCell ⟨q.p, 17, none⟩ (.slice ia mm icap) := ⟨_, rfl⟩
          rw [← hw6] at HFN ⊢
          clear hw6 hfr hce
          have HSD6 : Hid (SD w6 q x.back sg) := by
            show SAt w6 q x.back.ps x.back.ec sg
            rw [← HBP.out.1, ← HBP.out.2.1]
            exact HFN.out.1
          have HSU : Hid (Stay q.U w5 w6) := (HSDW.out.mono (T := q.U) (fun _ _ h => h.elim)).trans HFN.out.2
          have HST6 := hide' (HST5.out.trans (HSU.out.mono (fun _ _ h => .inl h)))
          have HM6 := hide' (HT.out.keep _ _ _ HM5.out HSU.out)
          clear HFN HSDW HSD5 HST5 HM5 HSU
          have HXB := hide' HXO.out.back
          have HLB2 := hide' (HLN.out _ _ HSD6.out HXB.out)
          have s0 := HSD6.out.dp
          go_wp2_with fail
          refine HLB2.out.mono ?_
          rintro e w7 ⟨la7, lc7, rfl, harg, hown, hs⟩
          have hbl : x.back.line.length < n := by
            have h3 : 0 < x.line.length := List.length_pos_iff.2 HNE.out
            rw [back_line, List.length_dropLast, HNX.out]; omega
          have hec : x.back.ec.length + 6 * x.back.line.length ≤ 810000 := by
            have h1 := HXE.out
            have h2 := rub_six x (x.line.getLastD 0)
            have h3 : 0 < x.line.length := List.length_pos_iff.2 HNE.out
            have h4 : x.back.ec.length = x.ec.length + (x.rub (x.line.getLastD 0)).length := by show (x.ec ++ _).length = _; rw [List.length_append]
            rw [back_line, List.length_dropLast, h4]; omega
          have HNX2 : Hid (Rnd9 q N sg M pr Z t X 810000 w w7 (k + 1) x.back la7 lc7) := ⟨HSD6.out.keep hs, HT.out.keep _ _ _ HM6.out (hs.mono (fun _ _ h => h.elim)), HXB.out, HBP.out.2.2.trans HXT.out, hec, HFN2.out, harg, hown, HST6.out.trans (hs.mono (fun _ _ h => h.elim))⟩
          have HMS := hide' hbl
          clear harg hown hs HLB2 HSD6 HST6 HM6 hec hbl s0
          obtain ⟨n7, hn7⟩ : ∃ z, z = x.back.line.length := ⟨_, rfl⟩
          rw [← hn7] at HMS ⊢
          have HN7 := hide' hn7
          clear hn7
          go_wp2
          go_roundg n7
          case measure => exact HMS.out
          case rel => exact ⟨k + 1, x.back, n7, la7, lc7, rfl, rfl, HN7.out, HNX2.out⟩

end Go.Proofs.Ytjfhmpjpdcckhaa.L18
