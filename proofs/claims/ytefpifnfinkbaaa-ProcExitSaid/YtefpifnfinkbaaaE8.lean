/-
  A process goes to a group: walked. No conditions.
-/
import Derived.Test.YtefpifnfinkbaaaE7
namespace Go.Proofs.Ytefpifnfinkbaaa
open Go.RowKit

variable {q : Tq} {L : List Pr} {md : Int} {f : Int → Int} {c : Nat} {w : World} {i g : Nat} {p : Pr}

/-- The first of two that isn't 0. -/
def orI (x y : Int) : Int := if x = 0 then y else x

theorem or47 (B : Nat) (x y : Int) (w : World) (c0 : w.cell? ⟨B, 0, none⟩ = some (.int .i64 x)) (c1 : w.cell? ⟨B, 1, none⟩ = some (.int .i64 y)) : Calls Try.prog 47 #[.slice (some ⟨B, 0, none⟩) 2 2] w (Gives (.int .i64 (orI x y)) w) := by
  obtain ⟨c, hc⟩ : ∃ c, c = orI x y := ⟨_, rfl⟩
  rw [← hc]
  unfold orI at hc
  have HC := hide' hc
  have HS := hide' (Stay.refl (fun _ => False) w)
  have HK := hide' (And.intro c0 c1)
  clear hc c0 c1
  go_enter Try.func47, Try.ntmps47
  go_wp2
  go_loopg [8] 2 (fun gg v8 wr => ∃ k : Nat, k ≤ 2 ∧ gg = 2 - k ∧ v8 = .int .i64 (k : Int) ∧ Hid (Stay (fun _ => False) w wr ∧ (1 ≤ k → x = 0) ∧ (2 ≤ k → y = 0)))
  case atStart => exact ⟨0, Nat.zero_le _, rfl, rfl, HS.out, fun h => by omega, fun h => by omega⟩
  case round =>
    clear HS
    obtain ⟨k, hk, rfl, rfl, HR⟩ := hrel
    by_cases hlt : k < 2
    · obtain ⟨v, hv⟩ : ∃ v : Int, v = (if k = 0 then x else y) := ⟨_, rfl⟩
      have kn : (k : Int) < 2 := by omega
      have hcell : wr.cell? ⟨B, k, none⟩ = some (.int .i64 v) := by
        obtain ⟨g0, g1⟩ := HK.out
        rw [hv]
        have : k = 0 ∨ k = 1 := by omega
        rcases this with rfl | rfl
        · exact keep_cell HR.out.1 g0
        · exact keep_cell HR.out.1 g1
      have HV := hide' hv
      clear hv
      by_cases h0 : v = 0
      · subst h0
        have HN : Hid (Stay (fun _ => False) w wr ∧ (1 ≤ k + 1 → x = 0) ∧ (2 ≤ k + 1 → y = 0)) := by
          have hv := HV.out
          have hr := HR.out.2
          refine ⟨HR.out.1, fun h => ?_, fun h => ?_⟩
          · by_cases e : k = 0
            · rw [if_pos e] at hv; exact hv.symm
            · exact hr.1 (by omega)
          · rw [if_neg (by omega)] at hv; exact hv.symm
        clear HR HV
        go_wp2
        go_roundg (2 - (k + 1))
        case measure => omega
        case rel => exact ⟨k + 1, by omega, rfl, by go_num, HN⟩
      · have HN : Hid (v = c ∧ Stay (fun _ => False) w wr) := by
          have hv := HV.out
          have hr := HR.out.2
          refine ⟨?_, HR.out.1⟩
          rw [HC.out]
          have : k = 0 ∨ k = 1 := by omega
          rcases this with rfl | rfl
          · rw [if_pos rfl] at hv
            rw [if_neg (by omega)]; exact hv
          · rw [if_neg (by omega)] at hv
            rw [if_pos (hr.1 (by omega))]; exact hv
        clear HR HV HC
        go_wp2
        go_ret
        exact ⟨by rw [HN.out.1]; rfl, HN.out.2⟩
    · have e : k = 2 := by omega
      subst e
      have HN : Hid (c = 0 ∧ Stay (fun _ => False) w wr) := by
        obtain ⟨h, h1, h2⟩ := HR.out
        refine ⟨?_, h⟩
        rw [HC.out, if_pos (h1 (by omega)), h2 (by omega)]
      clear HR HC
      go_wp2
      go_ret
      exact ⟨by rw [HN.out.1]; rfl, HN.out.2⟩

theorem setpgid24_nop (x y0 g0 y : Int) (h : TAt w q L md f c) (hy : orI y0 x = y) (hx : ∀ p ∈ L, p.pid ≠ x) : Calls Try.prog 24 #[.pointer (some ⟨q.b, 0, none⟩), .int .i64 x, .int .i64 y0, .int .i64 g0] w (Gives (.int .i64 5) w) := by
  have HX := hide' hx
  clear hx
  have hor := fun (B : Nat) (w : World) (a : w.cell? ⟨B, 0, none⟩ = some (.int .i64 y0)) (b : w.cell? ⟨B, 1, none⟩ = some (.int .i64 x)) => or47 B y0 x w a b
  rw [hy] at hor
  have HOR := hide' hor
  clear hor
  have HT0 := hide' h
  clear h hy
  go_enter Try.func24, Try.ntmps24
  go_wp2_with fail
  refine (HOR.out _ _ (by simp) (by simp)).mono ?_
  rintro _ wa ⟨rfl, hsa⟩
  have hs0 : Stay (fun _ => False) w wa := ((Stay.refl _ _).alloc _).trans hsa
  have HT := hide' (HT0.out.keep hs0)
  have HS0 := hide' hs0
  have HF := hide' (find37 x HT.out.tm)
  clear hs0 hsa HOR HT0
  go_wp2_with fail
  refine HF.out.mono ?_
  rintro _ w1 ⟨h1 | h1, hs⟩
  · obtain ⟨j, g, p', rfl, hg, hp', hx'⟩ := h1
    exact absurd hx' (HX.out p' (mem_at hp'))
  obtain ⟨rfl, _⟩ := h1
  have HF2 := hide' (find37 y (HT.out.keep hs).tm)
  have HS1 := hide' (HS0.out.trans hs)
  have HT1 := hide' (HT.out.keep hs)
  clear hs HF HT HS0
  go_wp2_with fail
  refine HF2.out.mono ?_
  rintro _ w2 ⟨h2 | h2, hs⟩
  all_goals
    have HS2 := hide' (HS1.out.trans hs)
    clear hs HF2 HS1 HT1
  · obtain ⟨j2, g2, t', rfl, hg2, ht', hy'⟩ := h2
    clear hg2 ht' hy'
    go_wp2
    go_ret
    exact ⟨rfl, HS2.out⟩
  · obtain ⟨rfl, _⟩ := h2
    go_wp2
    go_ret
    exact ⟨rfl, HS2.out⟩

theorem setpgid24_now (x y0 g0 y : Int) (h : TAt w q L md f c) (hy : orI y0 x = y) (hp : L[i]? = some p) (hx : p.pid = x) (hny : ∀ p ∈ L, p.pid ≠ y) : Calls Try.prog 24 #[.pointer (some ⟨q.b, 0, none⟩), .int .i64 x, .int .i64 y0, .int .i64 g0] w (Gives (.int .i64 5) w) := by
  have HX := hide' hx
  have HP := hide' hp
  have HY := hide' hny
  clear hx hp hny
  have hor := fun (B : Nat) (w : World) (a : w.cell? ⟨B, 0, none⟩ = some (.int .i64 y0)) (b : w.cell? ⟨B, 1, none⟩ = some (.int .i64 x)) => or47 B y0 x w a b
  rw [hy] at hor
  have HOR := hide' hor
  clear hor
  have HT0 := hide' h
  clear h hy
  go_enter Try.func24, Try.ntmps24
  go_wp2_with fail
  refine (HOR.out _ _ (by simp) (by simp)).mono ?_
  rintro _ wa ⟨rfl, hsa⟩
  have hs0 : Stay (fun _ => False) w wa := ((Stay.refl _ _).alloc _).trans hsa
  have HT := hide' (HT0.out.keep hs0)
  have HS0 := hide' hs0
  have HF := hide' (find37 x HT.out.tm)
  clear hs0 hsa HOR HT0
  go_wp2_with fail
  refine HF.out.mono ?_
  rintro _ w1 ⟨h1 | h1, hs⟩
  rotate_left
  · exact absurd HX.out (h1.2 p (mem_at HP.out))
  obtain ⟨j, g, p', rfl, hg, hp', hx'⟩ := h1
  obtain ⟨rfl, rfl⟩ := at_own HT.out.ok.up HP.out hp' (by rw [hx', HX.out])
  have HG := hide' hg
  clear hp' hx' hg
  have HF2 := hide' (find37 y (HT.out.keep hs).tm)
  have HS1 := hide' (HS0.out.trans hs)
  have HT1 := hide' (HT.out.keep hs)
  clear hs HF HT HS0
  go_wp2_with fail
  refine HF2.out.mono ?_
  rintro _ w2 ⟨h2 | h2, hs⟩
  · obtain ⟨j2, g2, t', rfl, hg2, ht', hy'⟩ := h2
    exact absurd hy' (HY.out t' (mem_at ht'))
  obtain ⟨rfl, _⟩ := h2
  have HS2 := hide' (HS1.out.trans hs)
  clear hs HF2 HS1 HT1
  go_wp2
  go_ret
  exact ⟨rfl, HS2.out⟩

theorem setpgid24_nochild (x y0 g0 y : Int) (h : TAt w q L md f c) (hy : orI y0 x = y) (hp : L[i]? = some p) (hx : p.pid = x) {k : Nat} {t : Pr} (ht : L[k]? = some t) (hty : t.pid = y) (hn : (y != x) = true) (hr : (t.par != x) = true) : Calls Try.prog 24 #[.pointer (some ⟨q.b, 0, none⟩), .int .i64 x, .int .i64 y0, .int .i64 g0] w (Gives (.int .i64 5) w) := by
  have HX := hide' hx
  have HP := hide' hp
  have HTT := hide' ht
  have HTY := hide' hty
  clear hx hp ht hty
  have hor := fun (B : Nat) (w : World) (a : w.cell? ⟨B, 0, none⟩ = some (.int .i64 y0)) (b : w.cell? ⟨B, 1, none⟩ = some (.int .i64 x)) => or47 B y0 x w a b
  rw [hy] at hor
  have HOR := hide' hor
  clear hor
  have HT0 := hide' h
  clear h hy
  go_enter Try.func24, Try.ntmps24
  go_wp2_with fail
  refine (HOR.out _ _ (by simp) (by simp)).mono ?_
  rintro _ wa ⟨rfl, hsa⟩
  have hs0 : Stay (fun _ => False) w wa := ((Stay.refl _ _).alloc _).trans hsa
  have HT := hide' (HT0.out.keep hs0)
  have HS0 := hide' hs0
  have HF := hide' (find37 x HT.out.tm)
  clear hs0 hsa HOR HT0
  go_wp2_with fail
  refine HF.out.mono ?_
  rintro _ w1 ⟨h1 | h1, hs⟩
  rotate_left
  · exact absurd HX.out (h1.2 p (mem_at HP.out))
  obtain ⟨j, g, p', rfl, hg, hp', hx'⟩ := h1
  obtain ⟨rfl, rfl⟩ := at_own HT.out.ok.up HP.out hp' (by rw [hx', HX.out])
  have HG := hide' hg
  clear hp' hx' hg
  have HF2 := hide' (find37 y (HT.out.keep hs).tm)
  have HS1 := hide' (HS0.out.trans hs)
  have HT1 := hide' (HT.out.keep hs)
  clear hs HF HT HS0
  go_wp2_with fail
  refine HF2.out.mono ?_
  rintro _ w2 ⟨h2 | h2, hs⟩
  rotate_left
  · exact absurd HTY.out (h2.2 t (mem_at HTT.out))
  obtain ⟨j2, g2, t', rfl, hg2, ht', hy'⟩ := h2
  obtain ⟨rfl, rfl⟩ := at_own HT1.out.ok.up HTT.out ht' (by rw [hy', HTY.out])
  have eg : g2 = g := by have := HG.out; rw [hg2] at this; exact Option.some.inj this
  subst eg
  clear ht' hy' hg2
  have HS2 := hide' (HS1.out.trans hs)
  have HT2 := hide' (HT1.out.keep hs)
  have HBT := hide' (HT2.out.tm.cellsAt HG.out HTT.out)
  have HBP := hide' (HT2.out.tm.cellsAt HG.out HP.out)
  have t1 := HBT.out.1.c1
  clear hs HF2 HS1 HT1
  go_wp2
  go_ret
  exact ⟨rfl, HS2.out⟩

theorem setpgid24_arg_self (x y0 g0 y : Int) (h : TAt w q L md f c) (hy : orI y0 x = y) (hp : L[i]? = some p) (hx : p.pid = x) {k : Nat} {t : Pr} (ht : L[k]? = some t) (hty : t.pid = y) (hn : (y != x) = false) (hg : g0 < 0) : Calls Try.prog 24 #[.pointer (some ⟨q.b, 0, none⟩), .int .i64 x, .int .i64 y0, .int .i64 g0] w (Gives (.int .i64 1) w) := by
  have HX := hide' hx
  have HP := hide' hp
  have HTT := hide' ht
  have HTY := hide' hty
  clear hx hp ht hty
  have hor := fun (B : Nat) (w : World) (a : w.cell? ⟨B, 0, none⟩ = some (.int .i64 y0)) (b : w.cell? ⟨B, 1, none⟩ = some (.int .i64 x)) => or47 B y0 x w a b
  rw [hy] at hor
  have HOR := hide' hor
  clear hor
  have HT0 := hide' h
  clear h hy
  go_enter Try.func24, Try.ntmps24
  go_wp2_with fail
  refine (HOR.out _ _ (by simp) (by simp)).mono ?_
  rintro _ wa ⟨rfl, hsa⟩
  have hs0 : Stay (fun _ => False) w wa := ((Stay.refl _ _).alloc _).trans hsa
  have HT := hide' (HT0.out.keep hs0)
  have HS0 := hide' hs0
  have HF := hide' (find37 x HT.out.tm)
  clear hs0 hsa HOR HT0
  go_wp2_with fail
  refine HF.out.mono ?_
  rintro _ w1 ⟨h1 | h1, hs⟩
  rotate_left
  · exact absurd HX.out (h1.2 p (mem_at HP.out))
  obtain ⟨j, g, p', rfl, hg, hp', hx'⟩ := h1
  obtain ⟨rfl, rfl⟩ := at_own HT.out.ok.up HP.out hp' (by rw [hx', HX.out])
  have HG := hide' hg
  clear hp' hx' hg
  have HF2 := hide' (find37 y (HT.out.keep hs).tm)
  have HS1 := hide' (HS0.out.trans hs)
  have HT1 := hide' (HT.out.keep hs)
  clear hs HF HT HS0
  go_wp2_with fail
  refine HF2.out.mono ?_
  rintro _ w2 ⟨h2 | h2, hs⟩
  rotate_left
  · exact absurd HTY.out (h2.2 t (mem_at HTT.out))
  obtain ⟨j2, g2, t', rfl, hg2, ht', hy'⟩ := h2
  obtain ⟨rfl, rfl⟩ := at_own HT1.out.ok.up HTT.out ht' (by rw [hy', HTY.out])
  have eg : g2 = g := by have := HG.out; rw [hg2] at this; exact Option.some.inj this
  subst eg
  clear ht' hy' hg2
  have HS2 := hide' (HS1.out.trans hs)
  have HT2 := hide' (HT1.out.keep hs)
  have HBT := hide' (HT2.out.tm.cellsAt HG.out HTT.out)
  have HBP := hide' (HT2.out.tm.cellsAt HG.out HP.out)
  have t1 := HBT.out.1.c1
  clear hs HF2 HS1 HT1
  go_wp2
  go_ret
  exact ⟨rfl, HS2.out⟩

theorem setpgid24_arg_child (x y0 g0 y : Int) (h : TAt w q L md f c) (hy : orI y0 x = y) (hp : L[i]? = some p) (hx : p.pid = x) {k : Nat} {t : Pr} (ht : L[k]? = some t) (hty : t.pid = y) (hn : (y != x) = true) (hr : (t.par != x) = false) (hg : g0 < 0) : Calls Try.prog 24 #[.pointer (some ⟨q.b, 0, none⟩), .int .i64 x, .int .i64 y0, .int .i64 g0] w (Gives (.int .i64 1) w) := by
  have HX := hide' hx
  have HP := hide' hp
  have HTT := hide' ht
  have HTY := hide' hty
  clear hx hp ht hty
  have hor := fun (B : Nat) (w : World) (a : w.cell? ⟨B, 0, none⟩ = some (.int .i64 y0)) (b : w.cell? ⟨B, 1, none⟩ = some (.int .i64 x)) => or47 B y0 x w a b
  rw [hy] at hor
  have HOR := hide' hor
  clear hor
  have HT0 := hide' h
  clear h hy
  go_enter Try.func24, Try.ntmps24
  go_wp2_with fail
  refine (HOR.out _ _ (by simp) (by simp)).mono ?_
  rintro _ wa ⟨rfl, hsa⟩
  have hs0 : Stay (fun _ => False) w wa := ((Stay.refl _ _).alloc _).trans hsa
  have HT := hide' (HT0.out.keep hs0)
  have HS0 := hide' hs0
  have HF := hide' (find37 x HT.out.tm)
  clear hs0 hsa HOR HT0
  go_wp2_with fail
  refine HF.out.mono ?_
  rintro _ w1 ⟨h1 | h1, hs⟩
  rotate_left
  · exact absurd HX.out (h1.2 p (mem_at HP.out))
  obtain ⟨j, g, p', rfl, hg, hp', hx'⟩ := h1
  obtain ⟨rfl, rfl⟩ := at_own HT.out.ok.up HP.out hp' (by rw [hx', HX.out])
  have HG := hide' hg
  clear hp' hx' hg
  have HF2 := hide' (find37 y (HT.out.keep hs).tm)
  have HS1 := hide' (HS0.out.trans hs)
  have HT1 := hide' (HT.out.keep hs)
  clear hs HF HT HS0
  go_wp2_with fail
  refine HF2.out.mono ?_
  rintro _ w2 ⟨h2 | h2, hs⟩
  rotate_left
  · exact absurd HTY.out (h2.2 t (mem_at HTT.out))
  obtain ⟨j2, g2, t', rfl, hg2, ht', hy'⟩ := h2
  obtain ⟨rfl, rfl⟩ := at_own HT1.out.ok.up HTT.out ht' (by rw [hy', HTY.out])
  have eg : g2 = g := by have := HG.out; rw [hg2] at this; exact Option.some.inj this
  subst eg
  clear ht' hy' hg2
  have HS2 := hide' (HS1.out.trans hs)
  have HT2 := hide' (HT1.out.keep hs)
  have HBT := hide' (HT2.out.tm.cellsAt HG.out HTT.out)
  have HBP := hide' (HT2.out.tm.cellsAt HG.out HP.out)
  have t1 := HBT.out.1.c1
  clear hs HF2 HS1 HT1
  go_wp2
  go_ret
  exact ⟨rfl, HS2.out⟩

set_option maxHeartbeats 1000000 in
theorem setpgid24_lead_self (x y0 g0 y : Int) (h : TAt w q L md f c) (hy : orI y0 x = y) (g1 : Int) (hp : L[i]? = some p) (hx : p.pid = x) {k : Nat} {t : Pr} (ht : L[k]? = some t) (hty : t.pid = y) (hn : (y != x) = false) (hg : ¬ g0 < 0) (hgo : orI g0 y = g1) (hl : leadB t = true) : Calls Try.prog 24 #[.pointer (some ⟨q.b, 0, none⟩), .int .i64 x, .int .i64 y0, .int .i64 g0] w (Gives (.int .i64 8) w) := by
  have HLD := hide' hl
  clear hl
  have hog := fun (B : Nat) (w : World) (a : w.cell? ⟨B, 0, none⟩ = some (.int .i64 g0)) (b : w.cell? ⟨B, 1, none⟩ = some (.int .i64 y)) => or47 B g0 y w a b
  rw [hgo] at hog
  have HOG := hide' hog
  clear hgo hog
  have HX := hide' hx
  have HP := hide' hp
  have HTT := hide' ht
  have HTY := hide' hty
  clear hx hp ht hty
  have hor := fun (B : Nat) (w : World) (a : w.cell? ⟨B, 0, none⟩ = some (.int .i64 y0)) (b : w.cell? ⟨B, 1, none⟩ = some (.int .i64 x)) => or47 B y0 x w a b
  rw [hy] at hor
  have HOR := hide' hor
  clear hor
  have HT0 := hide' h
  clear h hy
  go_enter Try.func24, Try.ntmps24
  go_wp2_with fail
  refine (HOR.out _ _ (by simp) (by simp)).mono ?_
  rintro _ wa ⟨rfl, hsa⟩
  have hs0 : Stay (fun _ => False) w wa := ((Stay.refl _ _).alloc _).trans hsa
  have HT := hide' (HT0.out.keep hs0)
  have HS0 := hide' hs0
  have HF := hide' (find37 x HT.out.tm)
  clear hs0 hsa HOR HT0
  go_wp2_with fail
  refine HF.out.mono ?_
  rintro _ w1 ⟨h1 | h1, hs⟩
  rotate_left
  · exact absurd HX.out (h1.2 p (mem_at HP.out))
  obtain ⟨j, g, p', rfl, hg, hp', hx'⟩ := h1
  obtain ⟨rfl, rfl⟩ := at_own HT.out.ok.up HP.out hp' (by rw [hx', HX.out])
  have HG := hide' hg
  clear hp' hx' hg
  have HF2 := hide' (find37 y (HT.out.keep hs).tm)
  have HS1 := hide' (HS0.out.trans hs)
  have HT1 := hide' (HT.out.keep hs)
  clear hs HF HT HS0
  go_wp2_with fail
  refine HF2.out.mono ?_
  rintro _ w2 ⟨h2 | h2, hs⟩
  rotate_left
  · exact absurd HTY.out (h2.2 t (mem_at HTT.out))
  obtain ⟨j2, g2, t', rfl, hg2, ht', hy'⟩ := h2
  obtain ⟨rfl, rfl⟩ := at_own HT1.out.ok.up HTT.out ht' (by rw [hy', HTY.out])
  have eg : g2 = g := by have := HG.out; rw [hg2] at this; exact Option.some.inj this
  subst eg
  clear ht' hy' hg2
  have HS2 := hide' (HS1.out.trans hs)
  have HT2 := hide' (HT1.out.keep hs)
  have HBT := hide' (HT2.out.tm.cellsAt HG.out HTT.out)
  have HBP := hide' (HT2.out.tm.cellsAt HG.out HP.out)
  have t1 := HBT.out.1.c1
  clear hs HF2 HS1 HT1
  go_wp2_with fail
  refine (HOG.out _ _ (by simp) (by simp)).mono ?_
  rintro _ w4 ⟨rfl, hs4⟩
  have hs4' : Stay (fun _ => False) w2 w4 := ((Stay.refl _ _).alloc _).trans hs4
  have HS4 := hide' (HS2.out.trans hs4')
  have HT4 := hide' (HT2.out.keep hs4')
  have t3 := (HBT.out.1.keep hs4').c3
  have p3 := (HBP.out.1.keep hs4').c3
  have HO := hide' (fun w' (hs : Stay (fun _ => False) w4 w') => leads44 g2 (j2 * 6) t' w' ((HBT.out.1.keep hs4').keep hs))
  rw [HLD.out] at HO
  have HO := HO.out _ ((Stay.refl (fun _ => False) w4).drew)
  have HO := hide' HO
  have HA := hide' (fun w' (hs : Stay (fun _ => False) w4 w') => has48 g1 t'.ses (HT4.out.keep hs).tm)

  clear hs4 hs4' HS2 HT2 HBT HBP HOG t1
  go_upto_region 8 with fail
  have hS : Stay (fun _ => False) w4 w4.drew := (Stay.refl _ _).drew
  refine wp_region_mix (fun w' => Stay (fun _ => False) w4 w') [(0, true), (1, false), (2, true), (3, true), (4, true), (5, true), (6, true), (7, true), (8, true), (9, true), (10, true), (11, true), (12, true), (13, true), (14, true), (15, true), (16, true), (17, true), (18, true), (19, true), (20, true), (21, true), (22, true), (23, true), (24, false), (25, true), (26, true), (27, true)] (by kernel_rfl) (by kernel_rfl) (fun _ d _ _ _ h => by cases d <;> exact h) hS ?_
  refine mix_begin (fun K0 hK0 => ?_)
  refine mix_take hK0 (some 46) (.move (.tmp 10)) 74 _ (by kernel_rfl) (by kernel_rfl) (fun w' hS' => by (simp only [opr]; go_simp; try with_reducible rfl)) (fun K1 hK1 => ?_)
  clear hK0 K0
  simp only [Act.put, lA, lZ, lS]
  refine mix_call hK1 (some 47) 44 #[.tmp 46] #[74] 4 _ (by kernel_rfl) (by kernel_rfl) (enters Try.func44 (by kernel_rfl) (by kernel_rfl)) (by go_simp; try with_reducible rfl) (fun K2 hK2 => ?_)
  clear hK1 K1
  refine (HO.out).mono ?_
  rintro e wm1 ⟨rfl, hs1⟩
  have hS1 : _ := hS.trans hs1
  refine ⟨_, rfl, hS1, ?_⟩
  clear hs1
  simp only [Act.put, lA, lZ, lS]
  refine mix_take hK2 (some 48) (.move (.tmp 47)) 4 _ (by kernel_rfl) (by kernel_rfl) (fun w' hS' => by (simp only [opr]; go_simp; try with_reducible rfl)) (fun K3 hK3 => ?_)
  clear hK2 K2
  simp only [Act.put, lA, lZ, lS]
  refine mix_skip hK3 (some 49) (by kernel_rfl) (by kernel_rfl) hS1 (fun K4 hK4 => ?_)
  clear hK3 K3
  simp only [Act.put, lA, lZ, lS]
  refine mix_skip hK4 (some 50) (by kernel_rfl) (by kernel_rfl) hS1 (fun K5 hK5 => ?_)
  clear hK4 K4
  simp only [Act.put, lA, lZ, lS]
  refine mix_skip hK5 (some 51) (by kernel_rfl) (by kernel_rfl) hS1 (fun K6 hK6 => ?_)
  clear hK5 K5
  simp only [Act.put, lA, lZ, lS]
  refine mix_skip hK6 (some 52) (by kernel_rfl) (by kernel_rfl) hS1 (fun K7 hK7 => ?_)
  clear hK6 K6
  simp only [Act.put, lA, lZ, lS]
  refine mix_skip hK7 (some 53) (by kernel_rfl) (by kernel_rfl) hS1 (fun K8 hK8 => ?_)
  clear hK7 K7
  simp only [Act.put, lA, lZ, lS]
  refine mix_skip hK8 (some 54) (by kernel_rfl) (by kernel_rfl) hS1 (fun K9 hK9 => ?_)
  clear hK8 K8
  simp only [Act.put, lA, lZ, lS]
  refine mix_skip hK9 (some 55) (by kernel_rfl) (by kernel_rfl) hS1 (fun K10 hK10 => ?_)
  clear hK9 K9
  simp only [Act.put, lA, lZ, lS]
  refine mix_skip hK10 (some 56) (by kernel_rfl) (by kernel_rfl) hS1 (fun K11 hK11 => ?_)
  clear hK10 K10
  simp only [Act.put, lA, lZ, lS]
  refine mix_skip hK11 (some 57) (by kernel_rfl) (by kernel_rfl) hS1 (fun K12 hK12 => ?_)
  clear hK11 K11
  simp only [Act.put, lA, lZ, lS]
  refine mix_take hK12 (some 58) (.pick (.tmp 48) (.const (Value.bool true)) (.tmp 57)) 4 _ (by kernel_rfl) (by kernel_rfl) (fun w' hS' => by (simp only [opr]; go_simp; try with_reducible rfl)) (fun K13 hK13 => ?_)
  clear hK12 K12
  simp only [Act.put, lA, lZ, lS]
  refine mix_take hK13 (some 59) (.move (.tmp 58)) 4 _ (by kernel_rfl) (by kernel_rfl) (fun w' hS' => by (simp only [opr]; go_simp; try with_reducible rfl)) (fun K14 hK14 => ?_)
  clear hK13 K13
  simp only [Act.put, lA, lZ, lS]
  refine mix_skip hK14 (some 60) (by kernel_rfl) (by kernel_rfl) hS1 (fun K15 hK15 => ?_)
  clear hK14 K14
  simp only [Act.put, lA, lZ, lS]
  refine mix_skip hK15 (some 61) (by kernel_rfl) (by kernel_rfl) hS1 (fun K16 hK16 => ?_)
  clear hK15 K15
  simp only [Act.put, lA, lZ, lS]
  refine mix_skip hK16 (some 62) (by kernel_rfl) (by kernel_rfl) hS1 (fun K17 hK17 => ?_)
  clear hK16 K16
  simp only [Act.put, lA, lZ, lS]
  refine mix_skip hK17 (some 63) (by kernel_rfl) (by kernel_rfl) hS1 (fun K18 hK18 => ?_)
  clear hK17 K17
  simp only [Act.put, lA, lZ, lS]
  refine mix_skip hK18 (some 64) (by kernel_rfl) (by kernel_rfl) hS1 (fun K19 hK19 => ?_)
  clear hK18 K18
  simp only [Act.put, lA, lZ, lS]
  refine mix_skip hK19 (some 65) (by kernel_rfl) (by kernel_rfl) hS1 (fun K20 hK20 => ?_)
  clear hK19 K19
  simp only [Act.put, lA, lZ, lS]
  refine mix_skip hK20 (some 66) (by kernel_rfl) (by kernel_rfl) hS1 (fun K21 hK21 => ?_)
  clear hK20 K20
  simp only [Act.put, lA, lZ, lS]
  refine mix_skip hK21 (some 67) (by kernel_rfl) (by kernel_rfl) hS1 (fun K22 hK22 => ?_)
  clear hK21 K21
  simp only [Act.put, lA, lZ, lS]
  refine mix_skip hK22 (some 68) (by kernel_rfl) (by kernel_rfl) hS1 (fun K23 hK23 => ?_)
  clear hK22 K22
  simp only [Act.put, lA, lZ, lS]
  refine mix_skip hK23 (some 69) (by kernel_rfl) (by kernel_rfl) hS1 (fun K24 hK24 => ?_)
  clear hK23 K23
  simp only [Act.put, lA, lZ, lS]
  refine mix_skip hK24 (some 70) (by kernel_rfl) (by kernel_rfl) hS1 (fun K25 hK25 => ?_)
  clear hK24 K24
  simp only [Act.put, lA, lZ, lS]
  refine mix_skip hK25 (some 71) (by kernel_rfl) (by kernel_rfl) hS1 (fun K26 hK26 => ?_)
  clear hK25 K25
  simp only [Act.put, lA, lZ, lS]
  refine mix_skip hK26 (some 72) (by kernel_rfl) (by kernel_rfl) hS1 (fun K27 hK27 => ?_)
  clear hK26 K26
  simp only [Act.put, lA, lZ, lS]
  refine mix_take hK27 (some 73) (.pick (.tmp 59) (.const (Value.bool true)) (.tmp 72)) 4 _ (by kernel_rfl) (by kernel_rfl) (fun w' hS' => by (simp only [opr]; go_simp; try with_reducible rfl)) (fun K28 hK28 => ?_)
  clear hK27 K27
  simp only [Act.put, lA, lZ, lS]
  refine hK28 _ _ (mix_nil ?_)
  clear hK28 K28
  have HS9 := hide' hS1
  clear hS hS1 HA HO t3 p3
  go_wp2
  go_ret
  exact ⟨rfl, HS4.out.trans HS9.out⟩

set_option maxHeartbeats 1000000 in
theorem setpgid24_lead_child (x y0 g0 y : Int) (h : TAt w q L md f c) (hy : orI y0 x = y) (g1 : Int) (hp : L[i]? = some p) (hx : p.pid = x) {k : Nat} {t : Pr} (ht : L[k]? = some t) (hty : t.pid = y) (hn : (y != x) = true) (hr : (t.par != x) = false) (hg : ¬ g0 < 0) (hgo : orI g0 y = g1) (hl : leadB t = true) : Calls Try.prog 24 #[.pointer (some ⟨q.b, 0, none⟩), .int .i64 x, .int .i64 y0, .int .i64 g0] w (Gives (.int .i64 8) w) := by
  have HLD := hide' hl
  clear hl
  have hog := fun (B : Nat) (w : World) (a : w.cell? ⟨B, 0, none⟩ = some (.int .i64 g0)) (b : w.cell? ⟨B, 1, none⟩ = some (.int .i64 y)) => or47 B g0 y w a b
  rw [hgo] at hog
  have HOG := hide' hog
  clear hgo hog
  have HX := hide' hx
  have HP := hide' hp
  have HTT := hide' ht
  have HTY := hide' hty
  clear hx hp ht hty
  have hor := fun (B : Nat) (w : World) (a : w.cell? ⟨B, 0, none⟩ = some (.int .i64 y0)) (b : w.cell? ⟨B, 1, none⟩ = some (.int .i64 x)) => or47 B y0 x w a b
  rw [hy] at hor
  have HOR := hide' hor
  clear hor
  have HT0 := hide' h
  clear h hy
  go_enter Try.func24, Try.ntmps24
  go_wp2_with fail
  refine (HOR.out _ _ (by simp) (by simp)).mono ?_
  rintro _ wa ⟨rfl, hsa⟩
  have hs0 : Stay (fun _ => False) w wa := ((Stay.refl _ _).alloc _).trans hsa
  have HT := hide' (HT0.out.keep hs0)
  have HS0 := hide' hs0
  have HF := hide' (find37 x HT.out.tm)
  clear hs0 hsa HOR HT0
  go_wp2_with fail
  refine HF.out.mono ?_
  rintro _ w1 ⟨h1 | h1, hs⟩
  rotate_left
  · exact absurd HX.out (h1.2 p (mem_at HP.out))
  obtain ⟨j, g, p', rfl, hg, hp', hx'⟩ := h1
  obtain ⟨rfl, rfl⟩ := at_own HT.out.ok.up HP.out hp' (by rw [hx', HX.out])
  have HG := hide' hg
  clear hp' hx' hg
  have HF2 := hide' (find37 y (HT.out.keep hs).tm)
  have HS1 := hide' (HS0.out.trans hs)
  have HT1 := hide' (HT.out.keep hs)
  clear hs HF HT HS0
  go_wp2_with fail
  refine HF2.out.mono ?_
  rintro _ w2 ⟨h2 | h2, hs⟩
  rotate_left
  · exact absurd HTY.out (h2.2 t (mem_at HTT.out))
  obtain ⟨j2, g2, t', rfl, hg2, ht', hy'⟩ := h2
  obtain ⟨rfl, rfl⟩ := at_own HT1.out.ok.up HTT.out ht' (by rw [hy', HTY.out])
  have eg : g2 = g := by have := HG.out; rw [hg2] at this; exact Option.some.inj this
  subst eg
  clear ht' hy' hg2
  have HS2 := hide' (HS1.out.trans hs)
  have HT2 := hide' (HT1.out.keep hs)
  have HBT := hide' (HT2.out.tm.cellsAt HG.out HTT.out)
  have HBP := hide' (HT2.out.tm.cellsAt HG.out HP.out)
  have t1 := HBT.out.1.c1
  clear hs HF2 HS1 HT1
  go_wp2_with fail
  refine (HOG.out _ _ (by simp) (by simp)).mono ?_
  rintro _ w4 ⟨rfl, hs4⟩
  have hs4' : Stay (fun _ => False) w2 w4 := ((Stay.refl _ _).alloc _).trans hs4
  have HS4 := hide' (HS2.out.trans hs4')
  have HT4 := hide' (HT2.out.keep hs4')
  have t3 := (HBT.out.1.keep hs4').c3
  have p3 := (HBP.out.1.keep hs4').c3
  have HO := hide' (fun w' (hs : Stay (fun _ => False) w4 w') => leads44 g2 (j2 * 6) t' w' ((HBT.out.1.keep hs4').keep hs))
  rw [HLD.out] at HO
  have HO := HO.out _ ((Stay.refl (fun _ => False) w4).drew)
  have HO := hide' HO
  have HA := hide' (fun w' (hs : Stay (fun _ => False) w4 w') => has48 g1 t'.ses (HT4.out.keep hs).tm)

  clear hs4 hs4' HS2 HT2 HBT HBP HOG t1
  go_upto_region 8 with fail
  have hS : Stay (fun _ => False) w4 w4.drew := (Stay.refl _ _).drew
  refine wp_region_mix (fun w' => Stay (fun _ => False) w4 w') [(0, true), (1, false), (2, true), (3, true), (4, true), (5, true), (6, true), (7, true), (8, true), (9, true), (10, true), (11, true), (12, true), (13, true), (14, true), (15, true), (16, true), (17, true), (18, true), (19, true), (20, true), (21, true), (22, true), (23, true), (24, false), (25, true), (26, true), (27, true)] (by kernel_rfl) (by kernel_rfl) (fun _ d _ _ _ h => by cases d <;> exact h) hS ?_
  refine mix_begin (fun K0 hK0 => ?_)
  refine mix_take hK0 (some 46) (.move (.tmp 10)) 74 _ (by kernel_rfl) (by kernel_rfl) (fun w' hS' => by (simp only [opr]; go_simp; try with_reducible rfl)) (fun K1 hK1 => ?_)
  clear hK0 K0
  simp only [Act.put, lA, lZ, lS]
  refine mix_call hK1 (some 47) 44 #[.tmp 46] #[74] 4 _ (by kernel_rfl) (by kernel_rfl) (enters Try.func44 (by kernel_rfl) (by kernel_rfl)) (by go_simp; try with_reducible rfl) (fun K2 hK2 => ?_)
  clear hK1 K1
  refine (HO.out).mono ?_
  rintro e wm1 ⟨rfl, hs1⟩
  have hS1 : _ := hS.trans hs1
  refine ⟨_, rfl, hS1, ?_⟩
  clear hs1
  simp only [Act.put, lA, lZ, lS]
  refine mix_take hK2 (some 48) (.move (.tmp 47)) 4 _ (by kernel_rfl) (by kernel_rfl) (fun w' hS' => by (simp only [opr]; go_simp; try with_reducible rfl)) (fun K3 hK3 => ?_)
  clear hK2 K2
  simp only [Act.put, lA, lZ, lS]
  refine mix_skip hK3 (some 49) (by kernel_rfl) (by kernel_rfl) hS1 (fun K4 hK4 => ?_)
  clear hK3 K3
  simp only [Act.put, lA, lZ, lS]
  refine mix_skip hK4 (some 50) (by kernel_rfl) (by kernel_rfl) hS1 (fun K5 hK5 => ?_)
  clear hK4 K4
  simp only [Act.put, lA, lZ, lS]
  refine mix_skip hK5 (some 51) (by kernel_rfl) (by kernel_rfl) hS1 (fun K6 hK6 => ?_)
  clear hK5 K5
  simp only [Act.put, lA, lZ, lS]
  refine mix_skip hK6 (some 52) (by kernel_rfl) (by kernel_rfl) hS1 (fun K7 hK7 => ?_)
  clear hK6 K6
  simp only [Act.put, lA, lZ, lS]
  refine mix_skip hK7 (some 53) (by kernel_rfl) (by kernel_rfl) hS1 (fun K8 hK8 => ?_)
  clear hK7 K7
  simp only [Act.put, lA, lZ, lS]
  refine mix_skip hK8 (some 54) (by kernel_rfl) (by kernel_rfl) hS1 (fun K9 hK9 => ?_)
  clear hK8 K8
  simp only [Act.put, lA, lZ, lS]
  refine mix_skip hK9 (some 55) (by kernel_rfl) (by kernel_rfl) hS1 (fun K10 hK10 => ?_)
  clear hK9 K9
  simp only [Act.put, lA, lZ, lS]
  refine mix_skip hK10 (some 56) (by kernel_rfl) (by kernel_rfl) hS1 (fun K11 hK11 => ?_)
  clear hK10 K10
  simp only [Act.put, lA, lZ, lS]
  refine mix_skip hK11 (some 57) (by kernel_rfl) (by kernel_rfl) hS1 (fun K12 hK12 => ?_)
  clear hK11 K11
  simp only [Act.put, lA, lZ, lS]
  refine mix_take hK12 (some 58) (.pick (.tmp 48) (.const (Value.bool true)) (.tmp 57)) 4 _ (by kernel_rfl) (by kernel_rfl) (fun w' hS' => by (simp only [opr]; go_simp; try with_reducible rfl)) (fun K13 hK13 => ?_)
  clear hK12 K12
  simp only [Act.put, lA, lZ, lS]
  refine mix_take hK13 (some 59) (.move (.tmp 58)) 4 _ (by kernel_rfl) (by kernel_rfl) (fun w' hS' => by (simp only [opr]; go_simp; try with_reducible rfl)) (fun K14 hK14 => ?_)
  clear hK13 K13
  simp only [Act.put, lA, lZ, lS]
  refine mix_skip hK14 (some 60) (by kernel_rfl) (by kernel_rfl) hS1 (fun K15 hK15 => ?_)
  clear hK14 K14
  simp only [Act.put, lA, lZ, lS]
  refine mix_skip hK15 (some 61) (by kernel_rfl) (by kernel_rfl) hS1 (fun K16 hK16 => ?_)
  clear hK15 K15
  simp only [Act.put, lA, lZ, lS]
  refine mix_skip hK16 (some 62) (by kernel_rfl) (by kernel_rfl) hS1 (fun K17 hK17 => ?_)
  clear hK16 K16
  simp only [Act.put, lA, lZ, lS]
  refine mix_skip hK17 (some 63) (by kernel_rfl) (by kernel_rfl) hS1 (fun K18 hK18 => ?_)
  clear hK17 K17
  simp only [Act.put, lA, lZ, lS]
  refine mix_skip hK18 (some 64) (by kernel_rfl) (by kernel_rfl) hS1 (fun K19 hK19 => ?_)
  clear hK18 K18
  simp only [Act.put, lA, lZ, lS]
  refine mix_skip hK19 (some 65) (by kernel_rfl) (by kernel_rfl) hS1 (fun K20 hK20 => ?_)
  clear hK19 K19
  simp only [Act.put, lA, lZ, lS]
  refine mix_skip hK20 (some 66) (by kernel_rfl) (by kernel_rfl) hS1 (fun K21 hK21 => ?_)
  clear hK20 K20
  simp only [Act.put, lA, lZ, lS]
  refine mix_skip hK21 (some 67) (by kernel_rfl) (by kernel_rfl) hS1 (fun K22 hK22 => ?_)
  clear hK21 K21
  simp only [Act.put, lA, lZ, lS]
  refine mix_skip hK22 (some 68) (by kernel_rfl) (by kernel_rfl) hS1 (fun K23 hK23 => ?_)
  clear hK22 K22
  simp only [Act.put, lA, lZ, lS]
  refine mix_skip hK23 (some 69) (by kernel_rfl) (by kernel_rfl) hS1 (fun K24 hK24 => ?_)
  clear hK23 K23
  simp only [Act.put, lA, lZ, lS]
  refine mix_skip hK24 (some 70) (by kernel_rfl) (by kernel_rfl) hS1 (fun K25 hK25 => ?_)
  clear hK24 K24
  simp only [Act.put, lA, lZ, lS]
  refine mix_skip hK25 (some 71) (by kernel_rfl) (by kernel_rfl) hS1 (fun K26 hK26 => ?_)
  clear hK25 K25
  simp only [Act.put, lA, lZ, lS]
  refine mix_skip hK26 (some 72) (by kernel_rfl) (by kernel_rfl) hS1 (fun K27 hK27 => ?_)
  clear hK26 K26
  simp only [Act.put, lA, lZ, lS]
  refine mix_take hK27 (some 73) (.pick (.tmp 59) (.const (Value.bool true)) (.tmp 72)) 4 _ (by kernel_rfl) (by kernel_rfl) (fun w' hS' => by (simp only [opr]; go_simp; try with_reducible rfl)) (fun K28 hK28 => ?_)
  clear hK27 K27
  simp only [Act.put, lA, lZ, lS]
  refine hK28 _ _ (mix_nil ?_)
  clear hK28 K28
  have HS9 := hide' hS1
  clear hS hS1 HA HO t3 p3
  go_wp2
  go_ret
  exact ⟨rfl, HS4.out.trans HS9.out⟩

set_option maxHeartbeats 1000000 in
theorem setpgid24_other_self (x y0 g0 y : Int) (h : TAt w q L md f c) (hy : orI y0 x = y) (g1 : Int) (hp : L[i]? = some p) (hx : p.pid = x) {k : Nat} {t : Pr} (ht : L[k]? = some t) (hty : t.pid = y) (hn : (y != x) = false) (hg : ¬ g0 < 0) (hgo : orI g0 y = g1) (hl : leadB t = false) (hse : (t.ses != p.ses) = true) : Calls Try.prog 24 #[.pointer (some ⟨q.b, 0, none⟩), .int .i64 x, .int .i64 y0, .int .i64 g0] w (Gives (.int .i64 8) w) := by
  have HLD := hide' hl
  clear hl
  have hog := fun (B : Nat) (w : World) (a : w.cell? ⟨B, 0, none⟩ = some (.int .i64 g0)) (b : w.cell? ⟨B, 1, none⟩ = some (.int .i64 y)) => or47 B g0 y w a b
  rw [hgo] at hog
  have HOG := hide' hog
  clear hgo hog
  have HX := hide' hx
  have HP := hide' hp
  have HTT := hide' ht
  have HTY := hide' hty
  clear hx hp ht hty
  have hor := fun (B : Nat) (w : World) (a : w.cell? ⟨B, 0, none⟩ = some (.int .i64 y0)) (b : w.cell? ⟨B, 1, none⟩ = some (.int .i64 x)) => or47 B y0 x w a b
  rw [hy] at hor
  have HOR := hide' hor
  clear hor
  have HT0 := hide' h
  clear h hy
  go_enter Try.func24, Try.ntmps24
  go_wp2_with fail
  refine (HOR.out _ _ (by simp) (by simp)).mono ?_
  rintro _ wa ⟨rfl, hsa⟩
  have hs0 : Stay (fun _ => False) w wa := ((Stay.refl _ _).alloc _).trans hsa
  have HT := hide' (HT0.out.keep hs0)
  have HS0 := hide' hs0
  have HF := hide' (find37 x HT.out.tm)
  clear hs0 hsa HOR HT0
  go_wp2_with fail
  refine HF.out.mono ?_
  rintro _ w1 ⟨h1 | h1, hs⟩
  rotate_left
  · exact absurd HX.out (h1.2 p (mem_at HP.out))
  obtain ⟨j, g, p', rfl, hg, hp', hx'⟩ := h1
  obtain ⟨rfl, rfl⟩ := at_own HT.out.ok.up HP.out hp' (by rw [hx', HX.out])
  have HG := hide' hg
  clear hp' hx' hg
  have HF2 := hide' (find37 y (HT.out.keep hs).tm)
  have HS1 := hide' (HS0.out.trans hs)
  have HT1 := hide' (HT.out.keep hs)
  clear hs HF HT HS0
  go_wp2_with fail
  refine HF2.out.mono ?_
  rintro _ w2 ⟨h2 | h2, hs⟩
  rotate_left
  · exact absurd HTY.out (h2.2 t (mem_at HTT.out))
  obtain ⟨j2, g2, t', rfl, hg2, ht', hy'⟩ := h2
  obtain ⟨rfl, rfl⟩ := at_own HT1.out.ok.up HTT.out ht' (by rw [hy', HTY.out])
  have eg : g2 = g := by have := HG.out; rw [hg2] at this; exact Option.some.inj this
  subst eg
  clear ht' hy' hg2
  have HS2 := hide' (HS1.out.trans hs)
  have HT2 := hide' (HT1.out.keep hs)
  have HBT := hide' (HT2.out.tm.cellsAt HG.out HTT.out)
  have HBP := hide' (HT2.out.tm.cellsAt HG.out HP.out)
  have t1 := HBT.out.1.c1
  clear hs HF2 HS1 HT1
  go_wp2_with fail
  refine (HOG.out _ _ (by simp) (by simp)).mono ?_
  rintro _ w4 ⟨rfl, hs4⟩
  have hs4' : Stay (fun _ => False) w2 w4 := ((Stay.refl _ _).alloc _).trans hs4
  have HS4 := hide' (HS2.out.trans hs4')
  have HT4 := hide' (HT2.out.keep hs4')
  have t3 := (HBT.out.1.keep hs4').c3
  have p3 := (HBP.out.1.keep hs4').c3
  have HO := hide' (fun w' (hs : Stay (fun _ => False) w4 w') => leads44 g2 (j2 * 6) t' w' ((HBT.out.1.keep hs4').keep hs))
  rw [HLD.out] at HO
  have HO := HO.out _ ((Stay.refl (fun _ => False) w4).drew)
  have HO := hide' HO
  have HA := hide' (fun w' (hs : Stay (fun _ => False) w4 w') => has48 g1 t'.ses (HT4.out.keep hs).tm)

  clear hs4 hs4' HS2 HT2 HBT HBP HOG t1
  go_upto_region 8 with fail
  have hS : Stay (fun _ => False) w4 w4.drew := (Stay.refl _ _).drew
  refine wp_region_mix (fun w' => Stay (fun _ => False) w4 w') [(0, true), (1, false), (2, true), (3, true), (4, true), (5, true), (6, true), (7, true), (8, true), (9, true), (10, true), (11, true), (12, true), (13, true), (14, true), (15, true), (16, true), (17, true), (18, true), (19, true), (20, true), (21, true), (22, true), (23, true), (24, false), (25, true), (26, true), (27, true)] (by kernel_rfl) (by kernel_rfl) (fun _ d _ _ _ h => by cases d <;> exact h) hS ?_
  refine mix_begin (fun K0 hK0 => ?_)
  refine mix_take hK0 (some 46) (.move (.tmp 10)) 74 _ (by kernel_rfl) (by kernel_rfl) (fun w' hS' => by (simp only [opr]; go_simp; try with_reducible rfl)) (fun K1 hK1 => ?_)
  clear hK0 K0
  simp only [Act.put, lA, lZ, lS]
  refine mix_call hK1 (some 47) 44 #[.tmp 46] #[74] 4 _ (by kernel_rfl) (by kernel_rfl) (enters Try.func44 (by kernel_rfl) (by kernel_rfl)) (by go_simp; try with_reducible rfl) (fun K2 hK2 => ?_)
  clear hK1 K1
  refine (HO.out).mono ?_
  rintro e wm1 ⟨rfl, hs1⟩
  have hS1 : _ := hS.trans hs1
  refine ⟨_, rfl, hS1, ?_⟩
  clear hs1
  simp only [Act.put, lA, lZ, lS]
  refine mix_take hK2 (some 48) (.move (.tmp 47)) 4 _ (by kernel_rfl) (by kernel_rfl) (fun w' hS' => by (simp only [opr]; go_simp; try with_reducible rfl)) (fun K3 hK3 => ?_)
  clear hK2 K2
  simp only [Act.put, lA, lZ, lS]
  refine mix_take hK3 (some 49) (.move (.tmp 10)) 74 _ (by kernel_rfl) (by kernel_rfl) (fun w' hS' => by (simp only [opr]; go_simp; try with_reducible rfl)) (fun K4 hK4 => ?_)
  clear hK3 K3
  simp only [Act.put, lA, lZ, lS]
  refine mix_take hK4 (some 50) (.nilCheck (.tmp 49)) 0 _ (by kernel_rfl) (by kernel_rfl) (fun w' hS' => by (simp only [opr]; go_simp; try with_reducible rfl)) (fun K5 hK5 => ?_)
  clear hK4 K4
  simp only [Act.put, lA, lZ, lS]
  refine mix_take hK5 (some 51) (.fieldAddr 40 (.tmp 50) 3) 0 _ (by kernel_rfl) (by kernel_rfl) (fun w' hS' => by (simp only [opr]; go_simp; try with_reducible rfl)) (fun K6 hK6 => ?_)
  clear hK5 K5
  simp only [Act.put, lA, lZ, lS]
  refine mix_take hK6 (some 52) (.load 3 (.tmp 51)) 3 _ (by kernel_rfl) (by kernel_rfl) (fun w' hS' => by (have k3 := keep_cell hS' t3; have k4 := keep_cell hS' p3; simp only [opr]; go_simp; try with_reducible rfl)) (fun K7 hK7 => ?_)
  clear hK6 K6
  simp only [Act.put, lA, lZ, lS]
  refine mix_take hK7 (some 53) (.move (.tmp 9)) 74 _ (by kernel_rfl) (by kernel_rfl) (fun w' hS' => by (simp only [opr]; go_simp; try with_reducible rfl)) (fun K8 hK8 => ?_)
  clear hK7 K7
  simp only [Act.put, lA, lZ, lS]
  refine mix_take hK8 (some 54) (.nilCheck (.tmp 53)) 0 _ (by kernel_rfl) (by kernel_rfl) (fun w' hS' => by (simp only [opr]; go_simp; try with_reducible rfl)) (fun K9 hK9 => ?_)
  clear hK8 K8
  simp only [Act.put, lA, lZ, lS]
  refine mix_take hK9 (some 55) (.fieldAddr 40 (.tmp 54) 3) 0 _ (by kernel_rfl) (by kernel_rfl) (fun w' hS' => by (simp only [opr]; go_simp; try with_reducible rfl)) (fun K10 hK10 => ?_)
  clear hK9 K9
  simp only [Act.put, lA, lZ, lS]
  refine mix_take hK10 (some 56) (.load 3 (.tmp 55)) 3 _ (by kernel_rfl) (by kernel_rfl) (fun w' hS' => by (have k3 := keep_cell hS' t3; have k4 := keep_cell hS' p3; simp only [opr]; go_simp; try with_reducible rfl)) (fun K11 hK11 => ?_)
  clear hK10 K10
  simp only [Act.put, lA, lZ, lS]
  refine mix_take hK11 (some 57) (.binOp BinOp.neq 3 (.tmp 52) (.tmp 56) 3) 4 _ (by kernel_rfl) (by kernel_rfl) (fun w' hS' => by (simp only [opr]; go_simp; try with_reducible rfl)) (fun K12 hK12 => ?_)
  clear hK11 K11
  simp only [Act.put, lA, lZ, lS]
  refine mix_take hK12 (some 58) (.pick (.tmp 48) (.const (Value.bool true)) (.tmp 57)) 4 _ (by kernel_rfl) (by kernel_rfl) (fun w' hS' => by (simp only [opr]; go_simp; try with_reducible rfl)) (fun K13 hK13 => ?_)
  clear hK12 K12
  simp only [Act.put, lA, lZ, lS]
  refine mix_take hK13 (some 59) (.move (.tmp 58)) 4 _ (by kernel_rfl) (by kernel_rfl) (fun w' hS' => by (simp only [opr]; go_simp; try with_reducible rfl)) (fun K14 hK14 => ?_)
  clear hK13 K13
  simp only [Act.put, lA, lZ, lS]
  refine mix_skip hK14 (some 60) (by kernel_rfl) (by kernel_rfl) hS1 (fun K15 hK15 => ?_)
  clear hK14 K14
  simp only [Act.put, lA, lZ, lS]
  refine mix_skip hK15 (some 61) (by kernel_rfl) (by kernel_rfl) hS1 (fun K16 hK16 => ?_)
  clear hK15 K15
  simp only [Act.put, lA, lZ, lS]
  refine mix_skip hK16 (some 62) (by kernel_rfl) (by kernel_rfl) hS1 (fun K17 hK17 => ?_)
  clear hK16 K16
  simp only [Act.put, lA, lZ, lS]
  refine mix_skip hK17 (some 63) (by kernel_rfl) (by kernel_rfl) hS1 (fun K18 hK18 => ?_)
  clear hK17 K17
  simp only [Act.put, lA, lZ, lS]
  refine mix_skip hK18 (some 64) (by kernel_rfl) (by kernel_rfl) hS1 (fun K19 hK19 => ?_)
  clear hK18 K18
  simp only [Act.put, lA, lZ, lS]
  refine mix_skip hK19 (some 65) (by kernel_rfl) (by kernel_rfl) hS1 (fun K20 hK20 => ?_)
  clear hK19 K19
  simp only [Act.put, lA, lZ, lS]
  refine mix_skip hK20 (some 66) (by kernel_rfl) (by kernel_rfl) hS1 (fun K21 hK21 => ?_)
  clear hK20 K20
  simp only [Act.put, lA, lZ, lS]
  refine mix_skip hK21 (some 67) (by kernel_rfl) (by kernel_rfl) hS1 (fun K22 hK22 => ?_)
  clear hK21 K21
  simp only [Act.put, lA, lZ, lS]
  refine mix_skip hK22 (some 68) (by kernel_rfl) (by kernel_rfl) hS1 (fun K23 hK23 => ?_)
  clear hK22 K22
  simp only [Act.put, lA, lZ, lS]
  refine mix_skip hK23 (some 69) (by kernel_rfl) (by kernel_rfl) hS1 (fun K24 hK24 => ?_)
  clear hK23 K23
  simp only [Act.put, lA, lZ, lS]
  refine mix_skip hK24 (some 70) (by kernel_rfl) (by kernel_rfl) hS1 (fun K25 hK25 => ?_)
  clear hK24 K24
  simp only [Act.put, lA, lZ, lS]
  refine mix_skip hK25 (some 71) (by kernel_rfl) (by kernel_rfl) hS1 (fun K26 hK26 => ?_)
  clear hK25 K25
  simp only [Act.put, lA, lZ, lS]
  refine mix_skip hK26 (some 72) (by kernel_rfl) (by kernel_rfl) hS1 (fun K27 hK27 => ?_)
  clear hK26 K26
  simp only [Act.put, lA, lZ, lS]
  refine mix_take hK27 (some 73) (.pick (.tmp 59) (.const (Value.bool true)) (.tmp 72)) 4 _ (by kernel_rfl) (by kernel_rfl) (fun w' hS' => by (simp only [opr]; go_simp; try with_reducible rfl)) (fun K28 hK28 => ?_)
  clear hK27 K27
  simp only [Act.put, lA, lZ, lS]
  refine hK28 _ _ (mix_nil ?_)
  clear hK28 K28
  have HS9 := hide' hS1
  clear hS hS1 HA HO t3 p3
  go_wp2
  go_ret
  exact ⟨rfl, HS4.out.trans HS9.out⟩

set_option maxHeartbeats 1000000 in
theorem setpgid24_other_child (x y0 g0 y : Int) (h : TAt w q L md f c) (hy : orI y0 x = y) (g1 : Int) (hp : L[i]? = some p) (hx : p.pid = x) {k : Nat} {t : Pr} (ht : L[k]? = some t) (hty : t.pid = y) (hn : (y != x) = true) (hr : (t.par != x) = false) (hg : ¬ g0 < 0) (hgo : orI g0 y = g1) (hl : leadB t = false) (hse : (t.ses != p.ses) = true) : Calls Try.prog 24 #[.pointer (some ⟨q.b, 0, none⟩), .int .i64 x, .int .i64 y0, .int .i64 g0] w (Gives (.int .i64 8) w) := by
  have HLD := hide' hl
  clear hl
  have hog := fun (B : Nat) (w : World) (a : w.cell? ⟨B, 0, none⟩ = some (.int .i64 g0)) (b : w.cell? ⟨B, 1, none⟩ = some (.int .i64 y)) => or47 B g0 y w a b
  rw [hgo] at hog
  have HOG := hide' hog
  clear hgo hog
  have HX := hide' hx
  have HP := hide' hp
  have HTT := hide' ht
  have HTY := hide' hty
  clear hx hp ht hty
  have hor := fun (B : Nat) (w : World) (a : w.cell? ⟨B, 0, none⟩ = some (.int .i64 y0)) (b : w.cell? ⟨B, 1, none⟩ = some (.int .i64 x)) => or47 B y0 x w a b
  rw [hy] at hor
  have HOR := hide' hor
  clear hor
  have HT0 := hide' h
  clear h hy
  go_enter Try.func24, Try.ntmps24
  go_wp2_with fail
  refine (HOR.out _ _ (by simp) (by simp)).mono ?_
  rintro _ wa ⟨rfl, hsa⟩
  have hs0 : Stay (fun _ => False) w wa := ((Stay.refl _ _).alloc _).trans hsa
  have HT := hide' (HT0.out.keep hs0)
  have HS0 := hide' hs0
  have HF := hide' (find37 x HT.out.tm)
  clear hs0 hsa HOR HT0
  go_wp2_with fail
  refine HF.out.mono ?_
  rintro _ w1 ⟨h1 | h1, hs⟩
  rotate_left
  · exact absurd HX.out (h1.2 p (mem_at HP.out))
  obtain ⟨j, g, p', rfl, hg, hp', hx'⟩ := h1
  obtain ⟨rfl, rfl⟩ := at_own HT.out.ok.up HP.out hp' (by rw [hx', HX.out])
  have HG := hide' hg
  clear hp' hx' hg
  have HF2 := hide' (find37 y (HT.out.keep hs).tm)
  have HS1 := hide' (HS0.out.trans hs)
  have HT1 := hide' (HT.out.keep hs)
  clear hs HF HT HS0
  go_wp2_with fail
  refine HF2.out.mono ?_
  rintro _ w2 ⟨h2 | h2, hs⟩
  rotate_left
  · exact absurd HTY.out (h2.2 t (mem_at HTT.out))
  obtain ⟨j2, g2, t', rfl, hg2, ht', hy'⟩ := h2
  obtain ⟨rfl, rfl⟩ := at_own HT1.out.ok.up HTT.out ht' (by rw [hy', HTY.out])
  have eg : g2 = g := by have := HG.out; rw [hg2] at this; exact Option.some.inj this
  subst eg
  clear ht' hy' hg2
  have HS2 := hide' (HS1.out.trans hs)
  have HT2 := hide' (HT1.out.keep hs)
  have HBT := hide' (HT2.out.tm.cellsAt HG.out HTT.out)
  have HBP := hide' (HT2.out.tm.cellsAt HG.out HP.out)
  have t1 := HBT.out.1.c1
  clear hs HF2 HS1 HT1
  go_wp2_with fail
  refine (HOG.out _ _ (by simp) (by simp)).mono ?_
  rintro _ w4 ⟨rfl, hs4⟩
  have hs4' : Stay (fun _ => False) w2 w4 := ((Stay.refl _ _).alloc _).trans hs4
  have HS4 := hide' (HS2.out.trans hs4')
  have HT4 := hide' (HT2.out.keep hs4')
  have t3 := (HBT.out.1.keep hs4').c3
  have p3 := (HBP.out.1.keep hs4').c3
  have HO := hide' (fun w' (hs : Stay (fun _ => False) w4 w') => leads44 g2 (j2 * 6) t' w' ((HBT.out.1.keep hs4').keep hs))
  rw [HLD.out] at HO
  have HO := HO.out _ ((Stay.refl (fun _ => False) w4).drew)
  have HO := hide' HO
  have HA := hide' (fun w' (hs : Stay (fun _ => False) w4 w') => has48 g1 t'.ses (HT4.out.keep hs).tm)

  clear hs4 hs4' HS2 HT2 HBT HBP HOG t1
  go_upto_region 8 with fail
  have hS : Stay (fun _ => False) w4 w4.drew := (Stay.refl _ _).drew
  refine wp_region_mix (fun w' => Stay (fun _ => False) w4 w') [(0, true), (1, false), (2, true), (3, true), (4, true), (5, true), (6, true), (7, true), (8, true), (9, true), (10, true), (11, true), (12, true), (13, true), (14, true), (15, true), (16, true), (17, true), (18, true), (19, true), (20, true), (21, true), (22, true), (23, true), (24, false), (25, true), (26, true), (27, true)] (by kernel_rfl) (by kernel_rfl) (fun _ d _ _ _ h => by cases d <;> exact h) hS ?_
  refine mix_begin (fun K0 hK0 => ?_)
  refine mix_take hK0 (some 46) (.move (.tmp 10)) 74 _ (by kernel_rfl) (by kernel_rfl) (fun w' hS' => by (simp only [opr]; go_simp; try with_reducible rfl)) (fun K1 hK1 => ?_)
  clear hK0 K0
  simp only [Act.put, lA, lZ, lS]
  refine mix_call hK1 (some 47) 44 #[.tmp 46] #[74] 4 _ (by kernel_rfl) (by kernel_rfl) (enters Try.func44 (by kernel_rfl) (by kernel_rfl)) (by go_simp; try with_reducible rfl) (fun K2 hK2 => ?_)
  clear hK1 K1
  refine (HO.out).mono ?_
  rintro e wm1 ⟨rfl, hs1⟩
  have hS1 : _ := hS.trans hs1
  refine ⟨_, rfl, hS1, ?_⟩
  clear hs1
  simp only [Act.put, lA, lZ, lS]
  refine mix_take hK2 (some 48) (.move (.tmp 47)) 4 _ (by kernel_rfl) (by kernel_rfl) (fun w' hS' => by (simp only [opr]; go_simp; try with_reducible rfl)) (fun K3 hK3 => ?_)
  clear hK2 K2
  simp only [Act.put, lA, lZ, lS]
  refine mix_take hK3 (some 49) (.move (.tmp 10)) 74 _ (by kernel_rfl) (by kernel_rfl) (fun w' hS' => by (simp only [opr]; go_simp; try with_reducible rfl)) (fun K4 hK4 => ?_)
  clear hK3 K3
  simp only [Act.put, lA, lZ, lS]
  refine mix_take hK4 (some 50) (.nilCheck (.tmp 49)) 0 _ (by kernel_rfl) (by kernel_rfl) (fun w' hS' => by (simp only [opr]; go_simp; try with_reducible rfl)) (fun K5 hK5 => ?_)
  clear hK4 K4
  simp only [Act.put, lA, lZ, lS]
  refine mix_take hK5 (some 51) (.fieldAddr 40 (.tmp 50) 3) 0 _ (by kernel_rfl) (by kernel_rfl) (fun w' hS' => by (simp only [opr]; go_simp; try with_reducible rfl)) (fun K6 hK6 => ?_)
  clear hK5 K5
  simp only [Act.put, lA, lZ, lS]
  refine mix_take hK6 (some 52) (.load 3 (.tmp 51)) 3 _ (by kernel_rfl) (by kernel_rfl) (fun w' hS' => by (have k3 := keep_cell hS' t3; have k4 := keep_cell hS' p3; simp only [opr]; go_simp; try with_reducible rfl)) (fun K7 hK7 => ?_)
  clear hK6 K6
  simp only [Act.put, lA, lZ, lS]
  refine mix_take hK7 (some 53) (.move (.tmp 9)) 74 _ (by kernel_rfl) (by kernel_rfl) (fun w' hS' => by (simp only [opr]; go_simp; try with_reducible rfl)) (fun K8 hK8 => ?_)
  clear hK7 K7
  simp only [Act.put, lA, lZ, lS]
  refine mix_take hK8 (some 54) (.nilCheck (.tmp 53)) 0 _ (by kernel_rfl) (by kernel_rfl) (fun w' hS' => by (simp only [opr]; go_simp; try with_reducible rfl)) (fun K9 hK9 => ?_)
  clear hK8 K8
  simp only [Act.put, lA, lZ, lS]
  refine mix_take hK9 (some 55) (.fieldAddr 40 (.tmp 54) 3) 0 _ (by kernel_rfl) (by kernel_rfl) (fun w' hS' => by (simp only [opr]; go_simp; try with_reducible rfl)) (fun K10 hK10 => ?_)
  clear hK9 K9
  simp only [Act.put, lA, lZ, lS]
  refine mix_take hK10 (some 56) (.load 3 (.tmp 55)) 3 _ (by kernel_rfl) (by kernel_rfl) (fun w' hS' => by (have k3 := keep_cell hS' t3; have k4 := keep_cell hS' p3; simp only [opr]; go_simp; try with_reducible rfl)) (fun K11 hK11 => ?_)
  clear hK10 K10
  simp only [Act.put, lA, lZ, lS]
  refine mix_take hK11 (some 57) (.binOp BinOp.neq 3 (.tmp 52) (.tmp 56) 3) 4 _ (by kernel_rfl) (by kernel_rfl) (fun w' hS' => by (simp only [opr]; go_simp; try with_reducible rfl)) (fun K12 hK12 => ?_)
  clear hK11 K11
  simp only [Act.put, lA, lZ, lS]
  refine mix_take hK12 (some 58) (.pick (.tmp 48) (.const (Value.bool true)) (.tmp 57)) 4 _ (by kernel_rfl) (by kernel_rfl) (fun w' hS' => by (simp only [opr]; go_simp; try with_reducible rfl)) (fun K13 hK13 => ?_)
  clear hK12 K12
  simp only [Act.put, lA, lZ, lS]
  refine mix_take hK13 (some 59) (.move (.tmp 58)) 4 _ (by kernel_rfl) (by kernel_rfl) (fun w' hS' => by (simp only [opr]; go_simp; try with_reducible rfl)) (fun K14 hK14 => ?_)
  clear hK13 K13
  simp only [Act.put, lA, lZ, lS]
  refine mix_skip hK14 (some 60) (by kernel_rfl) (by kernel_rfl) hS1 (fun K15 hK15 => ?_)
  clear hK14 K14
  simp only [Act.put, lA, lZ, lS]
  refine mix_skip hK15 (some 61) (by kernel_rfl) (by kernel_rfl) hS1 (fun K16 hK16 => ?_)
  clear hK15 K15
  simp only [Act.put, lA, lZ, lS]
  refine mix_skip hK16 (some 62) (by kernel_rfl) (by kernel_rfl) hS1 (fun K17 hK17 => ?_)
  clear hK16 K16
  simp only [Act.put, lA, lZ, lS]
  refine mix_skip hK17 (some 63) (by kernel_rfl) (by kernel_rfl) hS1 (fun K18 hK18 => ?_)
  clear hK17 K17
  simp only [Act.put, lA, lZ, lS]
  refine mix_skip hK18 (some 64) (by kernel_rfl) (by kernel_rfl) hS1 (fun K19 hK19 => ?_)
  clear hK18 K18
  simp only [Act.put, lA, lZ, lS]
  refine mix_skip hK19 (some 65) (by kernel_rfl) (by kernel_rfl) hS1 (fun K20 hK20 => ?_)
  clear hK19 K19
  simp only [Act.put, lA, lZ, lS]
  refine mix_skip hK20 (some 66) (by kernel_rfl) (by kernel_rfl) hS1 (fun K21 hK21 => ?_)
  clear hK20 K20
  simp only [Act.put, lA, lZ, lS]
  refine mix_skip hK21 (some 67) (by kernel_rfl) (by kernel_rfl) hS1 (fun K22 hK22 => ?_)
  clear hK21 K21
  simp only [Act.put, lA, lZ, lS]
  refine mix_skip hK22 (some 68) (by kernel_rfl) (by kernel_rfl) hS1 (fun K23 hK23 => ?_)
  clear hK22 K22
  simp only [Act.put, lA, lZ, lS]
  refine mix_skip hK23 (some 69) (by kernel_rfl) (by kernel_rfl) hS1 (fun K24 hK24 => ?_)
  clear hK23 K23
  simp only [Act.put, lA, lZ, lS]
  refine mix_skip hK24 (some 70) (by kernel_rfl) (by kernel_rfl) hS1 (fun K25 hK25 => ?_)
  clear hK24 K24
  simp only [Act.put, lA, lZ, lS]
  refine mix_skip hK25 (some 71) (by kernel_rfl) (by kernel_rfl) hS1 (fun K26 hK26 => ?_)
  clear hK25 K25
  simp only [Act.put, lA, lZ, lS]
  refine mix_skip hK26 (some 72) (by kernel_rfl) (by kernel_rfl) hS1 (fun K27 hK27 => ?_)
  clear hK26 K26
  simp only [Act.put, lA, lZ, lS]
  refine mix_take hK27 (some 73) (.pick (.tmp 59) (.const (Value.bool true)) (.tmp 72)) 4 _ (by kernel_rfl) (by kernel_rfl) (fun w' hS' => by (simp only [opr]; go_simp; try with_reducible rfl)) (fun K28 hK28 => ?_)
  clear hK27 K27
  simp only [Act.put, lA, lZ, lS]
  refine hK28 _ _ (mix_nil ?_)
  clear hK28 K28
  have HS9 := hide' hS1
  clear hS hS1 HA HO t3 p3
  go_wp2
  go_ret
  exact ⟨rfl, HS4.out.trans HS9.out⟩

set_option maxHeartbeats 1000000 in
theorem setpgid24_nogroup_self (x y0 g0 y : Int) (h : TAt w q L md f c) (hy : orI y0 x = y) (g1 : Int) (hp : L[i]? = some p) (hx : p.pid = x) {k : Nat} {t : Pr} (ht : L[k]? = some t) (hty : t.pid = y) (hn : (y != x) = false) (hg : ¬ g0 < 0) (hgo : orI g0 y = g1) (hl : leadB t = false) (hse : (t.ses != p.ses) = false) (hgy : (g1 != y) = true) (hh : L.any (fun k => k.grp == g1 && k.ses == t.ses) = false) : Calls Try.prog 24 #[.pointer (some ⟨q.b, 0, none⟩), .int .i64 x, .int .i64 y0, .int .i64 g0] w (Gives (.int .i64 8) w) := by
  have HLD := hide' hl
  have HHH := hide' hh
  clear hl hh
  have hog := fun (B : Nat) (w : World) (a : w.cell? ⟨B, 0, none⟩ = some (.int .i64 g0)) (b : w.cell? ⟨B, 1, none⟩ = some (.int .i64 y)) => or47 B g0 y w a b
  rw [hgo] at hog
  have HOG := hide' hog
  clear hgo hog
  have HX := hide' hx
  have HP := hide' hp
  have HTT := hide' ht
  have HTY := hide' hty
  clear hx hp ht hty
  have hor := fun (B : Nat) (w : World) (a : w.cell? ⟨B, 0, none⟩ = some (.int .i64 y0)) (b : w.cell? ⟨B, 1, none⟩ = some (.int .i64 x)) => or47 B y0 x w a b
  rw [hy] at hor
  have HOR := hide' hor
  clear hor
  have HT0 := hide' h
  clear h hy
  go_enter Try.func24, Try.ntmps24
  go_wp2_with fail
  refine (HOR.out _ _ (by simp) (by simp)).mono ?_
  rintro _ wa ⟨rfl, hsa⟩
  have hs0 : Stay (fun _ => False) w wa := ((Stay.refl _ _).alloc _).trans hsa
  have HT := hide' (HT0.out.keep hs0)
  have HS0 := hide' hs0
  have HF := hide' (find37 x HT.out.tm)
  clear hs0 hsa HOR HT0
  go_wp2_with fail
  refine HF.out.mono ?_
  rintro _ w1 ⟨h1 | h1, hs⟩
  rotate_left
  · exact absurd HX.out (h1.2 p (mem_at HP.out))
  obtain ⟨j, g, p', rfl, hg, hp', hx'⟩ := h1
  obtain ⟨rfl, rfl⟩ := at_own HT.out.ok.up HP.out hp' (by rw [hx', HX.out])
  have HG := hide' hg
  clear hp' hx' hg
  have HF2 := hide' (find37 y (HT.out.keep hs).tm)
  have HS1 := hide' (HS0.out.trans hs)
  have HT1 := hide' (HT.out.keep hs)
  clear hs HF HT HS0
  go_wp2_with fail
  refine HF2.out.mono ?_
  rintro _ w2 ⟨h2 | h2, hs⟩
  rotate_left
  · exact absurd HTY.out (h2.2 t (mem_at HTT.out))
  obtain ⟨j2, g2, t', rfl, hg2, ht', hy'⟩ := h2
  obtain ⟨rfl, rfl⟩ := at_own HT1.out.ok.up HTT.out ht' (by rw [hy', HTY.out])
  have eg : g2 = g := by have := HG.out; rw [hg2] at this; exact Option.some.inj this
  subst eg
  clear ht' hy' hg2
  have HS2 := hide' (HS1.out.trans hs)
  have HT2 := hide' (HT1.out.keep hs)
  have HBT := hide' (HT2.out.tm.cellsAt HG.out HTT.out)
  have HBP := hide' (HT2.out.tm.cellsAt HG.out HP.out)
  have t1 := HBT.out.1.c1
  clear hs HF2 HS1 HT1
  go_wp2_with fail
  refine (HOG.out _ _ (by simp) (by simp)).mono ?_
  rintro _ w4 ⟨rfl, hs4⟩
  have hs4' : Stay (fun _ => False) w2 w4 := ((Stay.refl _ _).alloc _).trans hs4
  have HS4 := hide' (HS2.out.trans hs4')
  have HT4 := hide' (HT2.out.keep hs4')
  have t3 := (HBT.out.1.keep hs4').c3
  have p3 := (HBP.out.1.keep hs4').c3
  have HO := hide' (fun w' (hs : Stay (fun _ => False) w4 w') => leads44 g2 (j2 * 6) t' w' ((HBT.out.1.keep hs4').keep hs))
  rw [HLD.out] at HO
  have HO := HO.out _ ((Stay.refl (fun _ => False) w4).drew)
  have HO := hide' HO
  have HA := hide' (fun w' (hs : Stay (fun _ => False) w4 w') => has48 g1 t'.ses (HT4.out.keep hs).tm)
  rw [HHH.out] at HA
  clear hs4 hs4' HS2 HT2 HBT HBP HOG t1
  go_upto_region 8 with fail
  have hS : Stay (fun _ => False) w4 w4.drew := (Stay.refl _ _).drew
  refine wp_region_mix (fun w' => Stay (fun _ => False) w4 w') [(0, true), (1, false), (2, true), (3, true), (4, true), (5, true), (6, true), (7, true), (8, true), (9, true), (10, true), (11, true), (12, true), (13, true), (14, true), (15, true), (16, true), (17, true), (18, true), (19, true), (20, true), (21, true), (22, true), (23, true), (24, false), (25, true), (26, true), (27, true)] (by kernel_rfl) (by kernel_rfl) (fun _ d _ _ _ h => by cases d <;> exact h) hS ?_
  refine mix_begin (fun K0 hK0 => ?_)
  refine mix_take hK0 (some 46) (.move (.tmp 10)) 74 _ (by kernel_rfl) (by kernel_rfl) (fun w' hS' => by (simp only [opr]; go_simp; try with_reducible rfl)) (fun K1 hK1 => ?_)
  clear hK0 K0
  simp only [Act.put, lA, lZ, lS]
  refine mix_call hK1 (some 47) 44 #[.tmp 46] #[74] 4 _ (by kernel_rfl) (by kernel_rfl) (enters Try.func44 (by kernel_rfl) (by kernel_rfl)) (by go_simp; try with_reducible rfl) (fun K2 hK2 => ?_)
  clear hK1 K1
  refine (HO.out).mono ?_
  rintro e wm1 ⟨rfl, hs1⟩
  have hS1 : _ := hS.trans hs1
  refine ⟨_, rfl, hS1, ?_⟩
  clear hs1
  simp only [Act.put, lA, lZ, lS]
  refine mix_take hK2 (some 48) (.move (.tmp 47)) 4 _ (by kernel_rfl) (by kernel_rfl) (fun w' hS' => by (simp only [opr]; go_simp; try with_reducible rfl)) (fun K3 hK3 => ?_)
  clear hK2 K2
  simp only [Act.put, lA, lZ, lS]
  refine mix_take hK3 (some 49) (.move (.tmp 10)) 74 _ (by kernel_rfl) (by kernel_rfl) (fun w' hS' => by (simp only [opr]; go_simp; try with_reducible rfl)) (fun K4 hK4 => ?_)
  clear hK3 K3
  simp only [Act.put, lA, lZ, lS]
  refine mix_take hK4 (some 50) (.nilCheck (.tmp 49)) 0 _ (by kernel_rfl) (by kernel_rfl) (fun w' hS' => by (simp only [opr]; go_simp; try with_reducible rfl)) (fun K5 hK5 => ?_)
  clear hK4 K4
  simp only [Act.put, lA, lZ, lS]
  refine mix_take hK5 (some 51) (.fieldAddr 40 (.tmp 50) 3) 0 _ (by kernel_rfl) (by kernel_rfl) (fun w' hS' => by (simp only [opr]; go_simp; try with_reducible rfl)) (fun K6 hK6 => ?_)
  clear hK5 K5
  simp only [Act.put, lA, lZ, lS]
  refine mix_take hK6 (some 52) (.load 3 (.tmp 51)) 3 _ (by kernel_rfl) (by kernel_rfl) (fun w' hS' => by (have k3 := keep_cell hS' t3; have k4 := keep_cell hS' p3; simp only [opr]; go_simp; try with_reducible rfl)) (fun K7 hK7 => ?_)
  clear hK6 K6
  simp only [Act.put, lA, lZ, lS]
  refine mix_take hK7 (some 53) (.move (.tmp 9)) 74 _ (by kernel_rfl) (by kernel_rfl) (fun w' hS' => by (simp only [opr]; go_simp; try with_reducible rfl)) (fun K8 hK8 => ?_)
  clear hK7 K7
  simp only [Act.put, lA, lZ, lS]
  refine mix_take hK8 (some 54) (.nilCheck (.tmp 53)) 0 _ (by kernel_rfl) (by kernel_rfl) (fun w' hS' => by (simp only [opr]; go_simp; try with_reducible rfl)) (fun K9 hK9 => ?_)
  clear hK8 K8
  simp only [Act.put, lA, lZ, lS]
  refine mix_take hK9 (some 55) (.fieldAddr 40 (.tmp 54) 3) 0 _ (by kernel_rfl) (by kernel_rfl) (fun w' hS' => by (simp only [opr]; go_simp; try with_reducible rfl)) (fun K10 hK10 => ?_)
  clear hK9 K9
  simp only [Act.put, lA, lZ, lS]
  refine mix_take hK10 (some 56) (.load 3 (.tmp 55)) 3 _ (by kernel_rfl) (by kernel_rfl) (fun w' hS' => by (have k3 := keep_cell hS' t3; have k4 := keep_cell hS' p3; simp only [opr]; go_simp; try with_reducible rfl)) (fun K11 hK11 => ?_)
  clear hK10 K10
  simp only [Act.put, lA, lZ, lS]
  refine mix_take hK11 (some 57) (.binOp BinOp.neq 3 (.tmp 52) (.tmp 56) 3) 4 _ (by kernel_rfl) (by kernel_rfl) (fun w' hS' => by (simp only [opr]; go_simp; try with_reducible rfl)) (fun K12 hK12 => ?_)
  clear hK11 K11
  simp only [Act.put, lA, lZ, lS]
  refine mix_take hK12 (some 58) (.pick (.tmp 48) (.const (Value.bool true)) (.tmp 57)) 4 _ (by kernel_rfl) (by kernel_rfl) (fun w' hS' => by (simp only [opr]; go_simp; try with_reducible rfl)) (fun K13 hK13 => ?_)
  clear hK12 K12
  simp only [Act.put, lA, lZ, lS]
  refine mix_take hK13 (some 59) (.move (.tmp 58)) 4 _ (by kernel_rfl) (by kernel_rfl) (fun w' hS' => by (simp only [opr]; go_simp; try with_reducible rfl)) (fun K14 hK14 => ?_)
  clear hK13 K13
  simp only [Act.put, lA, lZ, lS]
  refine mix_take hK14 (some 60) (.move (.tmp 3)) 3 _ (by kernel_rfl) (by kernel_rfl) (fun w' hS' => by (simp only [opr]; go_simp; try with_reducible rfl)) (fun K15 hK15 => ?_)
  clear hK14 K14
  simp only [Act.put, lA, lZ, lS]
  refine mix_take hK15 (some 61) (.move (.tmp 2)) 3 _ (by kernel_rfl) (by kernel_rfl) (fun w' hS' => by (simp only [opr]; go_simp; try with_reducible rfl)) (fun K16 hK16 => ?_)
  clear hK15 K15
  simp only [Act.put, lA, lZ, lS]
  refine mix_take hK16 (some 62) (.binOp BinOp.neq 3 (.tmp 60) (.tmp 61) 3) 4 _ (by kernel_rfl) (by kernel_rfl) (fun w' hS' => by (simp only [opr]; go_simp; try with_reducible rfl)) (fun K17 hK17 => ?_)
  clear hK16 K16
  simp only [Act.put, lA, lZ, lS]
  refine mix_take hK17 (some 63) (.move (.tmp 62)) 4 _ (by kernel_rfl) (by kernel_rfl) (fun w' hS' => by (simp only [opr]; go_simp; try with_reducible rfl)) (fun K18 hK18 => ?_)
  clear hK17 K17
  simp only [Act.put, lA, lZ, lS]
  refine mix_take hK18 (some 64) (.move (.tmp 0)) 24 _ (by kernel_rfl) (by kernel_rfl) (fun w' hS' => by (simp only [opr]; go_simp; try with_reducible rfl)) (fun K19 hK19 => ?_)
  clear hK18 K18
  simp only [Act.put, lA, lZ, lS]
  refine mix_take hK19 (some 65) (.move (.tmp 3)) 3 _ (by kernel_rfl) (by kernel_rfl) (fun w' hS' => by (simp only [opr]; go_simp; try with_reducible rfl)) (fun K20 hK20 => ?_)
  clear hK19 K19
  simp only [Act.put, lA, lZ, lS]
  refine mix_take hK20 (some 66) (.move (.tmp 10)) 74 _ (by kernel_rfl) (by kernel_rfl) (fun w' hS' => by (simp only [opr]; go_simp; try with_reducible rfl)) (fun K21 hK21 => ?_)
  clear hK20 K20
  simp only [Act.put, lA, lZ, lS]
  refine mix_take hK21 (some 67) (.nilCheck (.tmp 66)) 0 _ (by kernel_rfl) (by kernel_rfl) (fun w' hS' => by (simp only [opr]; go_simp; try with_reducible rfl)) (fun K22 hK22 => ?_)
  clear hK21 K21
  simp only [Act.put, lA, lZ, lS]
  refine mix_take hK22 (some 68) (.fieldAddr 40 (.tmp 67) 3) 0 _ (by kernel_rfl) (by kernel_rfl) (fun w' hS' => by (simp only [opr]; go_simp; try with_reducible rfl)) (fun K23 hK23 => ?_)
  clear hK22 K22
  simp only [Act.put, lA, lZ, lS]
  refine mix_take hK23 (some 69) (.load 3 (.tmp 68)) 3 _ (by kernel_rfl) (by kernel_rfl) (fun w' hS' => by (have k3 := keep_cell hS' t3; have k4 := keep_cell hS' p3; simp only [opr]; go_simp; try with_reducible rfl)) (fun K24 hK24 => ?_)
  clear hK23 K23
  simp only [Act.put, lA, lZ, lS]
  refine mix_call hK24 (some 70) 48 #[.tmp 64, .tmp 65, .tmp 69] #[24, 3, 3] 4 _ (by kernel_rfl) (by kernel_rfl) (enters Try.func48 (by kernel_rfl) (by kernel_rfl)) (by go_simp; try with_reducible rfl) (fun K25 hK25 => ?_)
  clear hK24 K24
  refine (HA.out _ hS1).mono ?_
  rintro e wm2 ⟨rfl, hs2⟩
  have hS2 : _ := hS1.trans hs2
  refine ⟨_, rfl, hS2, ?_⟩
  clear hs2
  simp only [Act.put, lA, lZ, lS]
  refine mix_take hK25 (some 71) (.unOp UnOp.not 4 (.tmp 70)) 4 _ (by kernel_rfl) (by kernel_rfl) (fun w' hS' => by (simp only [opr]; go_simp; try with_reducible rfl)) (fun K26 hK26 => ?_)
  clear hK25 K25
  simp only [Act.put, lA, lZ, lS]
  refine mix_take hK26 (some 72) (.pick (.tmp 63) (.tmp 71) (.const (Value.bool false))) 4 _ (by kernel_rfl) (by kernel_rfl) (fun w' hS' => by (simp only [opr]; go_simp; try with_reducible rfl)) (fun K27 hK27 => ?_)
  clear hK26 K26
  simp only [Act.put, lA, lZ, lS]
  refine mix_take hK27 (some 73) (.pick (.tmp 59) (.const (Value.bool true)) (.tmp 72)) 4 _ (by kernel_rfl) (by kernel_rfl) (fun w' hS' => by (simp only [opr]; go_simp; try with_reducible rfl)) (fun K28 hK28 => ?_)
  clear hK27 K27
  simp only [Act.put, lA, lZ, lS]
  refine hK28 _ _ (mix_nil ?_)
  clear hK28 K28
  have HS9 := hide' hS2
  clear hS hS1 hS2 HA HO t3 p3
  go_wp2
  go_ret
  exact ⟨rfl, HS4.out.trans HS9.out⟩

set_option maxHeartbeats 1000000 in
theorem setpgid24_nogroup_child (x y0 g0 y : Int) (h : TAt w q L md f c) (hy : orI y0 x = y) (g1 : Int) (hp : L[i]? = some p) (hx : p.pid = x) {k : Nat} {t : Pr} (ht : L[k]? = some t) (hty : t.pid = y) (hn : (y != x) = true) (hr : (t.par != x) = false) (hg : ¬ g0 < 0) (hgo : orI g0 y = g1) (hl : leadB t = false) (hse : (t.ses != p.ses) = false) (hgy : (g1 != y) = true) (hh : L.any (fun k => k.grp == g1 && k.ses == t.ses) = false) : Calls Try.prog 24 #[.pointer (some ⟨q.b, 0, none⟩), .int .i64 x, .int .i64 y0, .int .i64 g0] w (Gives (.int .i64 8) w) := by
  have HLD := hide' hl
  have HHH := hide' hh
  clear hl hh
  have hog := fun (B : Nat) (w : World) (a : w.cell? ⟨B, 0, none⟩ = some (.int .i64 g0)) (b : w.cell? ⟨B, 1, none⟩ = some (.int .i64 y)) => or47 B g0 y w a b
  rw [hgo] at hog
  have HOG := hide' hog
  clear hgo hog
  have HX := hide' hx
  have HP := hide' hp
  have HTT := hide' ht
  have HTY := hide' hty
  clear hx hp ht hty
  have hor := fun (B : Nat) (w : World) (a : w.cell? ⟨B, 0, none⟩ = some (.int .i64 y0)) (b : w.cell? ⟨B, 1, none⟩ = some (.int .i64 x)) => or47 B y0 x w a b
  rw [hy] at hor
  have HOR := hide' hor
  clear hor
  have HT0 := hide' h
  clear h hy
  go_enter Try.func24, Try.ntmps24
  go_wp2_with fail
  refine (HOR.out _ _ (by simp) (by simp)).mono ?_
  rintro _ wa ⟨rfl, hsa⟩
  have hs0 : Stay (fun _ => False) w wa := ((Stay.refl _ _).alloc _).trans hsa
  have HT := hide' (HT0.out.keep hs0)
  have HS0 := hide' hs0
  have HF := hide' (find37 x HT.out.tm)
  clear hs0 hsa HOR HT0
  go_wp2_with fail
  refine HF.out.mono ?_
  rintro _ w1 ⟨h1 | h1, hs⟩
  rotate_left
  · exact absurd HX.out (h1.2 p (mem_at HP.out))
  obtain ⟨j, g, p', rfl, hg, hp', hx'⟩ := h1
  obtain ⟨rfl, rfl⟩ := at_own HT.out.ok.up HP.out hp' (by rw [hx', HX.out])
  have HG := hide' hg
  clear hp' hx' hg
  have HF2 := hide' (find37 y (HT.out.keep hs).tm)
  have HS1 := hide' (HS0.out.trans hs)
  have HT1 := hide' (HT.out.keep hs)
  clear hs HF HT HS0
  go_wp2_with fail
  refine HF2.out.mono ?_
  rintro _ w2 ⟨h2 | h2, hs⟩
  rotate_left
  · exact absurd HTY.out (h2.2 t (mem_at HTT.out))
  obtain ⟨j2, g2, t', rfl, hg2, ht', hy'⟩ := h2
  obtain ⟨rfl, rfl⟩ := at_own HT1.out.ok.up HTT.out ht' (by rw [hy', HTY.out])
  have eg : g2 = g := by have := HG.out; rw [hg2] at this; exact Option.some.inj this
  subst eg
  clear ht' hy' hg2
  have HS2 := hide' (HS1.out.trans hs)
  have HT2 := hide' (HT1.out.keep hs)
  have HBT := hide' (HT2.out.tm.cellsAt HG.out HTT.out)
  have HBP := hide' (HT2.out.tm.cellsAt HG.out HP.out)
  have t1 := HBT.out.1.c1
  clear hs HF2 HS1 HT1
  go_wp2_with fail
  refine (HOG.out _ _ (by simp) (by simp)).mono ?_
  rintro _ w4 ⟨rfl, hs4⟩
  have hs4' : Stay (fun _ => False) w2 w4 := ((Stay.refl _ _).alloc _).trans hs4
  have HS4 := hide' (HS2.out.trans hs4')
  have HT4 := hide' (HT2.out.keep hs4')
  have t3 := (HBT.out.1.keep hs4').c3
  have p3 := (HBP.out.1.keep hs4').c3
  have HO := hide' (fun w' (hs : Stay (fun _ => False) w4 w') => leads44 g2 (j2 * 6) t' w' ((HBT.out.1.keep hs4').keep hs))
  rw [HLD.out] at HO
  have HO := HO.out _ ((Stay.refl (fun _ => False) w4).drew)
  have HO := hide' HO
  have HA := hide' (fun w' (hs : Stay (fun _ => False) w4 w') => has48 g1 t'.ses (HT4.out.keep hs).tm)
  rw [HHH.out] at HA
  clear hs4 hs4' HS2 HT2 HBT HBP HOG t1
  go_upto_region 8 with fail
  have hS : Stay (fun _ => False) w4 w4.drew := (Stay.refl _ _).drew
  refine wp_region_mix (fun w' => Stay (fun _ => False) w4 w') [(0, true), (1, false), (2, true), (3, true), (4, true), (5, true), (6, true), (7, true), (8, true), (9, true), (10, true), (11, true), (12, true), (13, true), (14, true), (15, true), (16, true), (17, true), (18, true), (19, true), (20, true), (21, true), (22, true), (23, true), (24, false), (25, true), (26, true), (27, true)] (by kernel_rfl) (by kernel_rfl) (fun _ d _ _ _ h => by cases d <;> exact h) hS ?_
  refine mix_begin (fun K0 hK0 => ?_)
  refine mix_take hK0 (some 46) (.move (.tmp 10)) 74 _ (by kernel_rfl) (by kernel_rfl) (fun w' hS' => by (simp only [opr]; go_simp; try with_reducible rfl)) (fun K1 hK1 => ?_)
  clear hK0 K0
  simp only [Act.put, lA, lZ, lS]
  refine mix_call hK1 (some 47) 44 #[.tmp 46] #[74] 4 _ (by kernel_rfl) (by kernel_rfl) (enters Try.func44 (by kernel_rfl) (by kernel_rfl)) (by go_simp; try with_reducible rfl) (fun K2 hK2 => ?_)
  clear hK1 K1
  refine (HO.out).mono ?_
  rintro e wm1 ⟨rfl, hs1⟩
  have hS1 : _ := hS.trans hs1
  refine ⟨_, rfl, hS1, ?_⟩
  clear hs1
  simp only [Act.put, lA, lZ, lS]
  refine mix_take hK2 (some 48) (.move (.tmp 47)) 4 _ (by kernel_rfl) (by kernel_rfl) (fun w' hS' => by (simp only [opr]; go_simp; try with_reducible rfl)) (fun K3 hK3 => ?_)
  clear hK2 K2
  simp only [Act.put, lA, lZ, lS]
  refine mix_take hK3 (some 49) (.move (.tmp 10)) 74 _ (by kernel_rfl) (by kernel_rfl) (fun w' hS' => by (simp only [opr]; go_simp; try with_reducible rfl)) (fun K4 hK4 => ?_)
  clear hK3 K3
  simp only [Act.put, lA, lZ, lS]
  refine mix_take hK4 (some 50) (.nilCheck (.tmp 49)) 0 _ (by kernel_rfl) (by kernel_rfl) (fun w' hS' => by (simp only [opr]; go_simp; try with_reducible rfl)) (fun K5 hK5 => ?_)
  clear hK4 K4
  simp only [Act.put, lA, lZ, lS]
  refine mix_take hK5 (some 51) (.fieldAddr 40 (.tmp 50) 3) 0 _ (by kernel_rfl) (by kernel_rfl) (fun w' hS' => by (simp only [opr]; go_simp; try with_reducible rfl)) (fun K6 hK6 => ?_)
  clear hK5 K5
  simp only [Act.put, lA, lZ, lS]
  refine mix_take hK6 (some 52) (.load 3 (.tmp 51)) 3 _ (by kernel_rfl) (by kernel_rfl) (fun w' hS' => by (have k3 := keep_cell hS' t3; have k4 := keep_cell hS' p3; simp only [opr]; go_simp; try with_reducible rfl)) (fun K7 hK7 => ?_)
  clear hK6 K6
  simp only [Act.put, lA, lZ, lS]
  refine mix_take hK7 (some 53) (.move (.tmp 9)) 74 _ (by kernel_rfl) (by kernel_rfl) (fun w' hS' => by (simp only [opr]; go_simp; try with_reducible rfl)) (fun K8 hK8 => ?_)
  clear hK7 K7
  simp only [Act.put, lA, lZ, lS]
  refine mix_take hK8 (some 54) (.nilCheck (.tmp 53)) 0 _ (by kernel_rfl) (by kernel_rfl) (fun w' hS' => by (simp only [opr]; go_simp; try with_reducible rfl)) (fun K9 hK9 => ?_)
  clear hK8 K8
  simp only [Act.put, lA, lZ, lS]
  refine mix_take hK9 (some 55) (.fieldAddr 40 (.tmp 54) 3) 0 _ (by kernel_rfl) (by kernel_rfl) (fun w' hS' => by (simp only [opr]; go_simp; try with_reducible rfl)) (fun K10 hK10 => ?_)
  clear hK9 K9
  simp only [Act.put, lA, lZ, lS]
  refine mix_take hK10 (some 56) (.load 3 (.tmp 55)) 3 _ (by kernel_rfl) (by kernel_rfl) (fun w' hS' => by (have k3 := keep_cell hS' t3; have k4 := keep_cell hS' p3; simp only [opr]; go_simp; try with_reducible rfl)) (fun K11 hK11 => ?_)
  clear hK10 K10
  simp only [Act.put, lA, lZ, lS]
  refine mix_take hK11 (some 57) (.binOp BinOp.neq 3 (.tmp 52) (.tmp 56) 3) 4 _ (by kernel_rfl) (by kernel_rfl) (fun w' hS' => by (simp only [opr]; go_simp; try with_reducible rfl)) (fun K12 hK12 => ?_)
  clear hK11 K11
  simp only [Act.put, lA, lZ, lS]
  refine mix_take hK12 (some 58) (.pick (.tmp 48) (.const (Value.bool true)) (.tmp 57)) 4 _ (by kernel_rfl) (by kernel_rfl) (fun w' hS' => by (simp only [opr]; go_simp; try with_reducible rfl)) (fun K13 hK13 => ?_)
  clear hK12 K12
  simp only [Act.put, lA, lZ, lS]
  refine mix_take hK13 (some 59) (.move (.tmp 58)) 4 _ (by kernel_rfl) (by kernel_rfl) (fun w' hS' => by (simp only [opr]; go_simp; try with_reducible rfl)) (fun K14 hK14 => ?_)
  clear hK13 K13
  simp only [Act.put, lA, lZ, lS]
  refine mix_take hK14 (some 60) (.move (.tmp 3)) 3 _ (by kernel_rfl) (by kernel_rfl) (fun w' hS' => by (simp only [opr]; go_simp; try with_reducible rfl)) (fun K15 hK15 => ?_)
  clear hK14 K14
  simp only [Act.put, lA, lZ, lS]
  refine mix_take hK15 (some 61) (.move (.tmp 2)) 3 _ (by kernel_rfl) (by kernel_rfl) (fun w' hS' => by (simp only [opr]; go_simp; try with_reducible rfl)) (fun K16 hK16 => ?_)
  clear hK15 K15
  simp only [Act.put, lA, lZ, lS]
  refine mix_take hK16 (some 62) (.binOp BinOp.neq 3 (.tmp 60) (.tmp 61) 3) 4 _ (by kernel_rfl) (by kernel_rfl) (fun w' hS' => by (simp only [opr]; go_simp; try with_reducible rfl)) (fun K17 hK17 => ?_)
  clear hK16 K16
  simp only [Act.put, lA, lZ, lS]
  refine mix_take hK17 (some 63) (.move (.tmp 62)) 4 _ (by kernel_rfl) (by kernel_rfl) (fun w' hS' => by (simp only [opr]; go_simp; try with_reducible rfl)) (fun K18 hK18 => ?_)
  clear hK17 K17
  simp only [Act.put, lA, lZ, lS]
  refine mix_take hK18 (some 64) (.move (.tmp 0)) 24 _ (by kernel_rfl) (by kernel_rfl) (fun w' hS' => by (simp only [opr]; go_simp; try with_reducible rfl)) (fun K19 hK19 => ?_)
  clear hK18 K18
  simp only [Act.put, lA, lZ, lS]
  refine mix_take hK19 (some 65) (.move (.tmp 3)) 3 _ (by kernel_rfl) (by kernel_rfl) (fun w' hS' => by (simp only [opr]; go_simp; try with_reducible rfl)) (fun K20 hK20 => ?_)
  clear hK19 K19
  simp only [Act.put, lA, lZ, lS]
  refine mix_take hK20 (some 66) (.move (.tmp 10)) 74 _ (by kernel_rfl) (by kernel_rfl) (fun w' hS' => by (simp only [opr]; go_simp; try with_reducible rfl)) (fun K21 hK21 => ?_)
  clear hK20 K20
  simp only [Act.put, lA, lZ, lS]
  refine mix_take hK21 (some 67) (.nilCheck (.tmp 66)) 0 _ (by kernel_rfl) (by kernel_rfl) (fun w' hS' => by (simp only [opr]; go_simp; try with_reducible rfl)) (fun K22 hK22 => ?_)
  clear hK21 K21
  simp only [Act.put, lA, lZ, lS]
  refine mix_take hK22 (some 68) (.fieldAddr 40 (.tmp 67) 3) 0 _ (by kernel_rfl) (by kernel_rfl) (fun w' hS' => by (simp only [opr]; go_simp; try with_reducible rfl)) (fun K23 hK23 => ?_)
  clear hK22 K22
  simp only [Act.put, lA, lZ, lS]
  refine mix_take hK23 (some 69) (.load 3 (.tmp 68)) 3 _ (by kernel_rfl) (by kernel_rfl) (fun w' hS' => by (have k3 := keep_cell hS' t3; have k4 := keep_cell hS' p3; simp only [opr]; go_simp; try with_reducible rfl)) (fun K24 hK24 => ?_)
  clear hK23 K23
  simp only [Act.put, lA, lZ, lS]
  refine mix_call hK24 (some 70) 48 #[.tmp 64, .tmp 65, .tmp 69] #[24, 3, 3] 4 _ (by kernel_rfl) (by kernel_rfl) (enters Try.func48 (by kernel_rfl) (by kernel_rfl)) (by go_simp; try with_reducible rfl) (fun K25 hK25 => ?_)
  clear hK24 K24
  refine (HA.out _ hS1).mono ?_
  rintro e wm2 ⟨rfl, hs2⟩
  have hS2 : _ := hS1.trans hs2
  refine ⟨_, rfl, hS2, ?_⟩
  clear hs2
  simp only [Act.put, lA, lZ, lS]
  refine mix_take hK25 (some 71) (.unOp UnOp.not 4 (.tmp 70)) 4 _ (by kernel_rfl) (by kernel_rfl) (fun w' hS' => by (simp only [opr]; go_simp; try with_reducible rfl)) (fun K26 hK26 => ?_)
  clear hK25 K25
  simp only [Act.put, lA, lZ, lS]
  refine mix_take hK26 (some 72) (.pick (.tmp 63) (.tmp 71) (.const (Value.bool false))) 4 _ (by kernel_rfl) (by kernel_rfl) (fun w' hS' => by (simp only [opr]; go_simp; try with_reducible rfl)) (fun K27 hK27 => ?_)
  clear hK26 K26
  simp only [Act.put, lA, lZ, lS]
  refine mix_take hK27 (some 73) (.pick (.tmp 59) (.const (Value.bool true)) (.tmp 72)) 4 _ (by kernel_rfl) (by kernel_rfl) (fun w' hS' => by (simp only [opr]; go_simp; try with_reducible rfl)) (fun K28 hK28 => ?_)
  clear hK27 K27
  simp only [Act.put, lA, lZ, lS]
  refine hK28 _ _ (mix_nil ?_)
  clear hK28 K28
  have HS9 := hide' hS2
  clear hS hS1 hS2 HA HO t3 p3
  go_wp2
  go_ret
  exact ⟨rfl, HS4.out.trans HS9.out⟩

set_option maxHeartbeats 1000000 in
theorem setpgid24_new_self (x y0 g0 y : Int) (h : TAt w q L md f c) (hy : orI y0 x = y) (g1 : Int) (hp : L[i]? = some p) (hx : p.pid = x) {k : Nat} {t : Pr} (ht : L[k]? = some t) (hty : t.pid = y) (hn : (y != x) = false) (hg : ¬ g0 < 0) (hgo : orI g0 y = g1) (hl : leadB t = false) (hse : (t.ses != p.ses) = false) (hgy : (g1 != y) = false) : Calls Try.prog 24 #[.pointer (some ⟨q.b, 0, none⟩), .int .i64 x, .int .i64 y0, .int .i64 g0] w (Did q (L.set k ⟨t.pid, t.par, g1, t.ses, t.tty, t.df⟩) md f c (.int .i64 0) w) := by
  have HLD := hide' hl
  have HOK : Hid (Ok (L.set k ⟨t.pid, t.par, g1, t.ses, t.tty, t.df⟩) md f) := h.ok.setpgid ht (by unfold leadB at hl; exact beq_eq_false_iff_ne.1 hl) ((.inl (by rw [hty]; simpa using hgy)))
  clear hl
  have hog := fun (B : Nat) (w : World) (a : w.cell? ⟨B, 0, none⟩ = some (.int .i64 g0)) (b : w.cell? ⟨B, 1, none⟩ = some (.int .i64 y)) => or47 B g0 y w a b
  rw [hgo] at hog
  have HOG := hide' hog
  clear hgo hog
  have HX := hide' hx
  have HP := hide' hp
  have HTT := hide' ht
  have HTY := hide' hty
  clear hx hp ht hty
  have hor := fun (B : Nat) (w : World) (a : w.cell? ⟨B, 0, none⟩ = some (.int .i64 y0)) (b : w.cell? ⟨B, 1, none⟩ = some (.int .i64 x)) => or47 B y0 x w a b
  rw [hy] at hor
  have HOR := hide' hor
  clear hor
  have HT0 := hide' h
  clear h hy
  go_enter Try.func24, Try.ntmps24
  go_wp2_with fail
  refine (HOR.out _ _ (by simp) (by simp)).mono ?_
  rintro _ wa ⟨rfl, hsa⟩
  have hs0 : Stay (fun _ => False) w wa := ((Stay.refl _ _).alloc _).trans hsa
  have HT := hide' (HT0.out.keep hs0)
  have HS0 := hide' hs0
  have HF := hide' (find37 x HT.out.tm)
  clear hs0 hsa HOR HT0
  go_wp2_with fail
  refine HF.out.mono ?_
  rintro _ w1 ⟨h1 | h1, hs⟩
  rotate_left
  · exact absurd HX.out (h1.2 p (mem_at HP.out))
  obtain ⟨j, g, p', rfl, hg, hp', hx'⟩ := h1
  obtain ⟨rfl, rfl⟩ := at_own HT.out.ok.up HP.out hp' (by rw [hx', HX.out])
  have HG := hide' hg
  clear hp' hx' hg
  have HF2 := hide' (find37 y (HT.out.keep hs).tm)
  have HS1 := hide' (HS0.out.trans hs)
  have HT1 := hide' (HT.out.keep hs)
  clear hs HF HT HS0
  go_wp2_with fail
  refine HF2.out.mono ?_
  rintro _ w2 ⟨h2 | h2, hs⟩
  rotate_left
  · exact absurd HTY.out (h2.2 t (mem_at HTT.out))
  obtain ⟨j2, g2, t', rfl, hg2, ht', hy'⟩ := h2
  obtain ⟨rfl, rfl⟩ := at_own HT1.out.ok.up HTT.out ht' (by rw [hy', HTY.out])
  have eg : g2 = g := by have := HG.out; rw [hg2] at this; exact Option.some.inj this
  subst eg
  clear ht' hy' hg2
  have HS2 := hide' (HS1.out.trans hs)
  have HT2 := hide' (HT1.out.keep hs)
  have HBT := hide' (HT2.out.tm.cellsAt HG.out HTT.out)
  have HBP := hide' (HT2.out.tm.cellsAt HG.out HP.out)
  have t1 := HBT.out.1.c1
  clear hs HF2 HS1 HT1
  go_wp2_with fail
  refine (HOG.out _ _ (by simp) (by simp)).mono ?_
  rintro _ w4 ⟨rfl, hs4⟩
  have hs4' : Stay (fun _ => False) w2 w4 := ((Stay.refl _ _).alloc _).trans hs4
  have HS4 := hide' (HS2.out.trans hs4')
  have HT4 := hide' (HT2.out.keep hs4')
  have t3 := (HBT.out.1.keep hs4').c3
  have p3 := (HBP.out.1.keep hs4').c3
  have HO := hide' (fun w' (hs : Stay (fun _ => False) w4 w') => leads44 g2 (j2 * 6) t' w' ((HBT.out.1.keep hs4').keep hs))
  rw [HLD.out] at HO
  have HO := HO.out _ ((Stay.refl (fun _ => False) w4).drew)
  have HO := hide' HO
  have HA := hide' (fun w' (hs : Stay (fun _ => False) w4 w') => has48 g1 t'.ses (HT4.out.keep hs).tm)

  clear hs4 hs4' HS2 HT2 HBT HBP HOG t1
  go_upto_region 8 with fail
  have hS : Stay (fun _ => False) w4 w4.drew := (Stay.refl _ _).drew
  refine wp_region_mix (fun w' => Stay (fun _ => False) w4 w') [(0, true), (1, false), (2, true), (3, true), (4, true), (5, true), (6, true), (7, true), (8, true), (9, true), (10, true), (11, true), (12, true), (13, true), (14, true), (15, true), (16, true), (17, true), (18, true), (19, true), (20, true), (21, true), (22, true), (23, true), (24, false), (25, true), (26, true), (27, true)] (by kernel_rfl) (by kernel_rfl) (fun _ d _ _ _ h => by cases d <;> exact h) hS ?_
  refine mix_begin (fun K0 hK0 => ?_)
  refine mix_take hK0 (some 46) (.move (.tmp 10)) 74 _ (by kernel_rfl) (by kernel_rfl) (fun w' hS' => by (simp only [opr]; go_simp; try with_reducible rfl)) (fun K1 hK1 => ?_)
  clear hK0 K0
  simp only [Act.put, lA, lZ, lS]
  refine mix_call hK1 (some 47) 44 #[.tmp 46] #[74] 4 _ (by kernel_rfl) (by kernel_rfl) (enters Try.func44 (by kernel_rfl) (by kernel_rfl)) (by go_simp; try with_reducible rfl) (fun K2 hK2 => ?_)
  clear hK1 K1
  refine (HO.out).mono ?_
  rintro e wm1 ⟨rfl, hs1⟩
  have hS1 : _ := hS.trans hs1
  refine ⟨_, rfl, hS1, ?_⟩
  clear hs1
  simp only [Act.put, lA, lZ, lS]
  refine mix_take hK2 (some 48) (.move (.tmp 47)) 4 _ (by kernel_rfl) (by kernel_rfl) (fun w' hS' => by (simp only [opr]; go_simp; try with_reducible rfl)) (fun K3 hK3 => ?_)
  clear hK2 K2
  simp only [Act.put, lA, lZ, lS]
  refine mix_take hK3 (some 49) (.move (.tmp 10)) 74 _ (by kernel_rfl) (by kernel_rfl) (fun w' hS' => by (simp only [opr]; go_simp; try with_reducible rfl)) (fun K4 hK4 => ?_)
  clear hK3 K3
  simp only [Act.put, lA, lZ, lS]
  refine mix_take hK4 (some 50) (.nilCheck (.tmp 49)) 0 _ (by kernel_rfl) (by kernel_rfl) (fun w' hS' => by (simp only [opr]; go_simp; try with_reducible rfl)) (fun K5 hK5 => ?_)
  clear hK4 K4
  simp only [Act.put, lA, lZ, lS]
  refine mix_take hK5 (some 51) (.fieldAddr 40 (.tmp 50) 3) 0 _ (by kernel_rfl) (by kernel_rfl) (fun w' hS' => by (simp only [opr]; go_simp; try with_reducible rfl)) (fun K6 hK6 => ?_)
  clear hK5 K5
  simp only [Act.put, lA, lZ, lS]
  refine mix_take hK6 (some 52) (.load 3 (.tmp 51)) 3 _ (by kernel_rfl) (by kernel_rfl) (fun w' hS' => by (have k3 := keep_cell hS' t3; have k4 := keep_cell hS' p3; simp only [opr]; go_simp; try with_reducible rfl)) (fun K7 hK7 => ?_)
  clear hK6 K6
  simp only [Act.put, lA, lZ, lS]
  refine mix_take hK7 (some 53) (.move (.tmp 9)) 74 _ (by kernel_rfl) (by kernel_rfl) (fun w' hS' => by (simp only [opr]; go_simp; try with_reducible rfl)) (fun K8 hK8 => ?_)
  clear hK7 K7
  simp only [Act.put, lA, lZ, lS]
  refine mix_take hK8 (some 54) (.nilCheck (.tmp 53)) 0 _ (by kernel_rfl) (by kernel_rfl) (fun w' hS' => by (simp only [opr]; go_simp; try with_reducible rfl)) (fun K9 hK9 => ?_)
  clear hK8 K8
  simp only [Act.put, lA, lZ, lS]
  refine mix_take hK9 (some 55) (.fieldAddr 40 (.tmp 54) 3) 0 _ (by kernel_rfl) (by kernel_rfl) (fun w' hS' => by (simp only [opr]; go_simp; try with_reducible rfl)) (fun K10 hK10 => ?_)
  clear hK9 K9
  simp only [Act.put, lA, lZ, lS]
  refine mix_take hK10 (some 56) (.load 3 (.tmp 55)) 3 _ (by kernel_rfl) (by kernel_rfl) (fun w' hS' => by (have k3 := keep_cell hS' t3; have k4 := keep_cell hS' p3; simp only [opr]; go_simp; try with_reducible rfl)) (fun K11 hK11 => ?_)
  clear hK10 K10
  simp only [Act.put, lA, lZ, lS]
  refine mix_take hK11 (some 57) (.binOp BinOp.neq 3 (.tmp 52) (.tmp 56) 3) 4 _ (by kernel_rfl) (by kernel_rfl) (fun w' hS' => by (simp only [opr]; go_simp; try with_reducible rfl)) (fun K12 hK12 => ?_)
  clear hK11 K11
  simp only [Act.put, lA, lZ, lS]
  refine mix_take hK12 (some 58) (.pick (.tmp 48) (.const (Value.bool true)) (.tmp 57)) 4 _ (by kernel_rfl) (by kernel_rfl) (fun w' hS' => by (simp only [opr]; go_simp; try with_reducible rfl)) (fun K13 hK13 => ?_)
  clear hK12 K12
  simp only [Act.put, lA, lZ, lS]
  refine mix_take hK13 (some 59) (.move (.tmp 58)) 4 _ (by kernel_rfl) (by kernel_rfl) (fun w' hS' => by (simp only [opr]; go_simp; try with_reducible rfl)) (fun K14 hK14 => ?_)
  clear hK13 K13
  simp only [Act.put, lA, lZ, lS]
  refine mix_take hK14 (some 60) (.move (.tmp 3)) 3 _ (by kernel_rfl) (by kernel_rfl) (fun w' hS' => by (simp only [opr]; go_simp; try with_reducible rfl)) (fun K15 hK15 => ?_)
  clear hK14 K14
  simp only [Act.put, lA, lZ, lS]
  refine mix_take hK15 (some 61) (.move (.tmp 2)) 3 _ (by kernel_rfl) (by kernel_rfl) (fun w' hS' => by (simp only [opr]; go_simp; try with_reducible rfl)) (fun K16 hK16 => ?_)
  clear hK15 K15
  simp only [Act.put, lA, lZ, lS]
  refine mix_take hK16 (some 62) (.binOp BinOp.neq 3 (.tmp 60) (.tmp 61) 3) 4 _ (by kernel_rfl) (by kernel_rfl) (fun w' hS' => by (simp only [opr]; go_simp; try with_reducible rfl)) (fun K17 hK17 => ?_)
  clear hK16 K16
  simp only [Act.put, lA, lZ, lS]
  refine mix_take hK17 (some 63) (.move (.tmp 62)) 4 _ (by kernel_rfl) (by kernel_rfl) (fun w' hS' => by (simp only [opr]; go_simp; try with_reducible rfl)) (fun K18 hK18 => ?_)
  clear hK17 K17
  simp only [Act.put, lA, lZ, lS]
  refine mix_skip hK18 (some 64) (by kernel_rfl) (by kernel_rfl) hS1 (fun K19 hK19 => ?_)
  clear hK18 K18
  simp only [Act.put, lA, lZ, lS]
  refine mix_skip hK19 (some 65) (by kernel_rfl) (by kernel_rfl) hS1 (fun K20 hK20 => ?_)
  clear hK19 K19
  simp only [Act.put, lA, lZ, lS]
  refine mix_skip hK20 (some 66) (by kernel_rfl) (by kernel_rfl) hS1 (fun K21 hK21 => ?_)
  clear hK20 K20
  simp only [Act.put, lA, lZ, lS]
  refine mix_skip hK21 (some 67) (by kernel_rfl) (by kernel_rfl) hS1 (fun K22 hK22 => ?_)
  clear hK21 K21
  simp only [Act.put, lA, lZ, lS]
  refine mix_skip hK22 (some 68) (by kernel_rfl) (by kernel_rfl) hS1 (fun K23 hK23 => ?_)
  clear hK22 K22
  simp only [Act.put, lA, lZ, lS]
  refine mix_skip hK23 (some 69) (by kernel_rfl) (by kernel_rfl) hS1 (fun K24 hK24 => ?_)
  clear hK23 K23
  simp only [Act.put, lA, lZ, lS]
  refine mix_skip hK24 (some 70) (by kernel_rfl) (by kernel_rfl) hS1 (fun K25 hK25 => ?_)
  clear hK24 K24
  simp only [Act.put, lA, lZ, lS]
  refine mix_skip hK25 (some 71) (by kernel_rfl) (by kernel_rfl) hS1 (fun K26 hK26 => ?_)
  clear hK25 K25
  simp only [Act.put, lA, lZ, lS]
  refine mix_take hK26 (some 72) (.pick (.tmp 63) (.tmp 71) (.const (Value.bool false))) 4 _ (by kernel_rfl) (by kernel_rfl) (fun w' hS' => by (simp only [opr]; go_simp; try with_reducible rfl)) (fun K27 hK27 => ?_)
  clear hK26 K26
  simp only [Act.put, lA, lZ, lS]
  refine mix_take hK27 (some 73) (.pick (.tmp 59) (.const (Value.bool true)) (.tmp 72)) 4 _ (by kernel_rfl) (by kernel_rfl) (fun w' hS' => by (simp only [opr]; go_simp; try with_reducible rfl)) (fun K28 hK28 => ?_)
  clear hK27 K27
  simp only [Act.put, lA, lZ, lS]
  refine hK28 _ _ (mix_nil ?_)
  clear hK28 K28
  have HS9 := hide' hS1
  clear hS hS1 HA HO t3 p3
  have HT9 := hide' (HT4.out.keep HS9.out)
  obtain ⟨hb9, fz9⟩ := HT9.out.tm.cellsAt HG.out HTT.out
  have fz2 := fz9 2 (by decide)
  have k2 := hb9.c2
  have HM := hide' (Moved.of_stay (q := q) (HS4.out.trans HS9.out))
  clear hb9 fz9
  go_wp2
  go_ret
  have h9 := HT9.out.write HG.out HTT.out (p' := ⟨t'.pid, t'.par, g1, t'.ses, t'.tty, t'.df⟩) (k := 2) (vs := [.int .i64 g1]) (by simp) rfl rfl HOK.out
  exact ⟨q, rfl, rfl, h9.1, HM.out.trans h9.2⟩

set_option maxHeartbeats 1000000 in
theorem setpgid24_new_child (x y0 g0 y : Int) (h : TAt w q L md f c) (hy : orI y0 x = y) (g1 : Int) (hp : L[i]? = some p) (hx : p.pid = x) {k : Nat} {t : Pr} (ht : L[k]? = some t) (hty : t.pid = y) (hn : (y != x) = true) (hr : (t.par != x) = false) (hg : ¬ g0 < 0) (hgo : orI g0 y = g1) (hl : leadB t = false) (hse : (t.ses != p.ses) = false) (hgy : (g1 != y) = false) : Calls Try.prog 24 #[.pointer (some ⟨q.b, 0, none⟩), .int .i64 x, .int .i64 y0, .int .i64 g0] w (Did q (L.set k ⟨t.pid, t.par, g1, t.ses, t.tty, t.df⟩) md f c (.int .i64 0) w) := by
  have HLD := hide' hl
  have HOK : Hid (Ok (L.set k ⟨t.pid, t.par, g1, t.ses, t.tty, t.df⟩) md f) := h.ok.setpgid ht (by unfold leadB at hl; exact beq_eq_false_iff_ne.1 hl) ((.inl (by rw [hty]; simpa using hgy)))
  clear hl
  have hog := fun (B : Nat) (w : World) (a : w.cell? ⟨B, 0, none⟩ = some (.int .i64 g0)) (b : w.cell? ⟨B, 1, none⟩ = some (.int .i64 y)) => or47 B g0 y w a b
  rw [hgo] at hog
  have HOG := hide' hog
  clear hgo hog
  have HX := hide' hx
  have HP := hide' hp
  have HTT := hide' ht
  have HTY := hide' hty
  clear hx hp ht hty
  have hor := fun (B : Nat) (w : World) (a : w.cell? ⟨B, 0, none⟩ = some (.int .i64 y0)) (b : w.cell? ⟨B, 1, none⟩ = some (.int .i64 x)) => or47 B y0 x w a b
  rw [hy] at hor
  have HOR := hide' hor
  clear hor
  have HT0 := hide' h
  clear h hy
  go_enter Try.func24, Try.ntmps24
  go_wp2_with fail
  refine (HOR.out _ _ (by simp) (by simp)).mono ?_
  rintro _ wa ⟨rfl, hsa⟩
  have hs0 : Stay (fun _ => False) w wa := ((Stay.refl _ _).alloc _).trans hsa
  have HT := hide' (HT0.out.keep hs0)
  have HS0 := hide' hs0
  have HF := hide' (find37 x HT.out.tm)
  clear hs0 hsa HOR HT0
  go_wp2_with fail
  refine HF.out.mono ?_
  rintro _ w1 ⟨h1 | h1, hs⟩
  rotate_left
  · exact absurd HX.out (h1.2 p (mem_at HP.out))
  obtain ⟨j, g, p', rfl, hg, hp', hx'⟩ := h1
  obtain ⟨rfl, rfl⟩ := at_own HT.out.ok.up HP.out hp' (by rw [hx', HX.out])
  have HG := hide' hg
  clear hp' hx' hg
  have HF2 := hide' (find37 y (HT.out.keep hs).tm)
  have HS1 := hide' (HS0.out.trans hs)
  have HT1 := hide' (HT.out.keep hs)
  clear hs HF HT HS0
  go_wp2_with fail
  refine HF2.out.mono ?_
  rintro _ w2 ⟨h2 | h2, hs⟩
  rotate_left
  · exact absurd HTY.out (h2.2 t (mem_at HTT.out))
  obtain ⟨j2, g2, t', rfl, hg2, ht', hy'⟩ := h2
  obtain ⟨rfl, rfl⟩ := at_own HT1.out.ok.up HTT.out ht' (by rw [hy', HTY.out])
  have eg : g2 = g := by have := HG.out; rw [hg2] at this; exact Option.some.inj this
  subst eg
  clear ht' hy' hg2
  have HS2 := hide' (HS1.out.trans hs)
  have HT2 := hide' (HT1.out.keep hs)
  have HBT := hide' (HT2.out.tm.cellsAt HG.out HTT.out)
  have HBP := hide' (HT2.out.tm.cellsAt HG.out HP.out)
  have t1 := HBT.out.1.c1
  clear hs HF2 HS1 HT1
  go_wp2_with fail
  refine (HOG.out _ _ (by simp) (by simp)).mono ?_
  rintro _ w4 ⟨rfl, hs4⟩
  have hs4' : Stay (fun _ => False) w2 w4 := ((Stay.refl _ _).alloc _).trans hs4
  have HS4 := hide' (HS2.out.trans hs4')
  have HT4 := hide' (HT2.out.keep hs4')
  have t3 := (HBT.out.1.keep hs4').c3
  have p3 := (HBP.out.1.keep hs4').c3
  have HO := hide' (fun w' (hs : Stay (fun _ => False) w4 w') => leads44 g2 (j2 * 6) t' w' ((HBT.out.1.keep hs4').keep hs))
  rw [HLD.out] at HO
  have HO := HO.out _ ((Stay.refl (fun _ => False) w4).drew)
  have HO := hide' HO
  have HA := hide' (fun w' (hs : Stay (fun _ => False) w4 w') => has48 g1 t'.ses (HT4.out.keep hs).tm)

  clear hs4 hs4' HS2 HT2 HBT HBP HOG t1
  go_upto_region 8 with fail
  have hS : Stay (fun _ => False) w4 w4.drew := (Stay.refl _ _).drew
  refine wp_region_mix (fun w' => Stay (fun _ => False) w4 w') [(0, true), (1, false), (2, true), (3, true), (4, true), (5, true), (6, true), (7, true), (8, true), (9, true), (10, true), (11, true), (12, true), (13, true), (14, true), (15, true), (16, true), (17, true), (18, true), (19, true), (20, true), (21, true), (22, true), (23, true), (24, false), (25, true), (26, true), (27, true)] (by kernel_rfl) (by kernel_rfl) (fun _ d _ _ _ h => by cases d <;> exact h) hS ?_
  refine mix_begin (fun K0 hK0 => ?_)
  refine mix_take hK0 (some 46) (.move (.tmp 10)) 74 _ (by kernel_rfl) (by kernel_rfl) (fun w' hS' => by (simp only [opr]; go_simp; try with_reducible rfl)) (fun K1 hK1 => ?_)
  clear hK0 K0
  simp only [Act.put, lA, lZ, lS]
  refine mix_call hK1 (some 47) 44 #[.tmp 46] #[74] 4 _ (by kernel_rfl) (by kernel_rfl) (enters Try.func44 (by kernel_rfl) (by kernel_rfl)) (by go_simp; try with_reducible rfl) (fun K2 hK2 => ?_)
  clear hK1 K1
  refine (HO.out).mono ?_
  rintro e wm1 ⟨rfl, hs1⟩
  have hS1 : _ := hS.trans hs1
  refine ⟨_, rfl, hS1, ?_⟩
  clear hs1
  simp only [Act.put, lA, lZ, lS]
  refine mix_take hK2 (some 48) (.move (.tmp 47)) 4 _ (by kernel_rfl) (by kernel_rfl) (fun w' hS' => by (simp only [opr]; go_simp; try with_reducible rfl)) (fun K3 hK3 => ?_)
  clear hK2 K2
  simp only [Act.put, lA, lZ, lS]
  refine mix_take hK3 (some 49) (.move (.tmp 10)) 74 _ (by kernel_rfl) (by kernel_rfl) (fun w' hS' => by (simp only [opr]; go_simp; try with_reducible rfl)) (fun K4 hK4 => ?_)
  clear hK3 K3
  simp only [Act.put, lA, lZ, lS]
  refine mix_take hK4 (some 50) (.nilCheck (.tmp 49)) 0 _ (by kernel_rfl) (by kernel_rfl) (fun w' hS' => by (simp only [opr]; go_simp; try with_reducible rfl)) (fun K5 hK5 => ?_)
  clear hK4 K4
  simp only [Act.put, lA, lZ, lS]
  refine mix_take hK5 (some 51) (.fieldAddr 40 (.tmp 50) 3) 0 _ (by kernel_rfl) (by kernel_rfl) (fun w' hS' => by (simp only [opr]; go_simp; try with_reducible rfl)) (fun K6 hK6 => ?_)
  clear hK5 K5
  simp only [Act.put, lA, lZ, lS]
  refine mix_take hK6 (some 52) (.load 3 (.tmp 51)) 3 _ (by kernel_rfl) (by kernel_rfl) (fun w' hS' => by (have k3 := keep_cell hS' t3; have k4 := keep_cell hS' p3; simp only [opr]; go_simp; try with_reducible rfl)) (fun K7 hK7 => ?_)
  clear hK6 K6
  simp only [Act.put, lA, lZ, lS]
  refine mix_take hK7 (some 53) (.move (.tmp 9)) 74 _ (by kernel_rfl) (by kernel_rfl) (fun w' hS' => by (simp only [opr]; go_simp; try with_reducible rfl)) (fun K8 hK8 => ?_)
  clear hK7 K7
  simp only [Act.put, lA, lZ, lS]
  refine mix_take hK8 (some 54) (.nilCheck (.tmp 53)) 0 _ (by kernel_rfl) (by kernel_rfl) (fun w' hS' => by (simp only [opr]; go_simp; try with_reducible rfl)) (fun K9 hK9 => ?_)
  clear hK8 K8
  simp only [Act.put, lA, lZ, lS]
  refine mix_take hK9 (some 55) (.fieldAddr 40 (.tmp 54) 3) 0 _ (by kernel_rfl) (by kernel_rfl) (fun w' hS' => by (simp only [opr]; go_simp; try with_reducible rfl)) (fun K10 hK10 => ?_)
  clear hK9 K9
  simp only [Act.put, lA, lZ, lS]
  refine mix_take hK10 (some 56) (.load 3 (.tmp 55)) 3 _ (by kernel_rfl) (by kernel_rfl) (fun w' hS' => by (have k3 := keep_cell hS' t3; have k4 := keep_cell hS' p3; simp only [opr]; go_simp; try with_reducible rfl)) (fun K11 hK11 => ?_)
  clear hK10 K10
  simp only [Act.put, lA, lZ, lS]
  refine mix_take hK11 (some 57) (.binOp BinOp.neq 3 (.tmp 52) (.tmp 56) 3) 4 _ (by kernel_rfl) (by kernel_rfl) (fun w' hS' => by (simp only [opr]; go_simp; try with_reducible rfl)) (fun K12 hK12 => ?_)
  clear hK11 K11
  simp only [Act.put, lA, lZ, lS]
  refine mix_take hK12 (some 58) (.pick (.tmp 48) (.const (Value.bool true)) (.tmp 57)) 4 _ (by kernel_rfl) (by kernel_rfl) (fun w' hS' => by (simp only [opr]; go_simp; try with_reducible rfl)) (fun K13 hK13 => ?_)
  clear hK12 K12
  simp only [Act.put, lA, lZ, lS]
  refine mix_take hK13 (some 59) (.move (.tmp 58)) 4 _ (by kernel_rfl) (by kernel_rfl) (fun w' hS' => by (simp only [opr]; go_simp; try with_reducible rfl)) (fun K14 hK14 => ?_)
  clear hK13 K13
  simp only [Act.put, lA, lZ, lS]
  refine mix_take hK14 (some 60) (.move (.tmp 3)) 3 _ (by kernel_rfl) (by kernel_rfl) (fun w' hS' => by (simp only [opr]; go_simp; try with_reducible rfl)) (fun K15 hK15 => ?_)
  clear hK14 K14
  simp only [Act.put, lA, lZ, lS]
  refine mix_take hK15 (some 61) (.move (.tmp 2)) 3 _ (by kernel_rfl) (by kernel_rfl) (fun w' hS' => by (simp only [opr]; go_simp; try with_reducible rfl)) (fun K16 hK16 => ?_)
  clear hK15 K15
  simp only [Act.put, lA, lZ, lS]
  refine mix_take hK16 (some 62) (.binOp BinOp.neq 3 (.tmp 60) (.tmp 61) 3) 4 _ (by kernel_rfl) (by kernel_rfl) (fun w' hS' => by (simp only [opr]; go_simp; try with_reducible rfl)) (fun K17 hK17 => ?_)
  clear hK16 K16
  simp only [Act.put, lA, lZ, lS]
  refine mix_take hK17 (some 63) (.move (.tmp 62)) 4 _ (by kernel_rfl) (by kernel_rfl) (fun w' hS' => by (simp only [opr]; go_simp; try with_reducible rfl)) (fun K18 hK18 => ?_)
  clear hK17 K17
  simp only [Act.put, lA, lZ, lS]
  refine mix_skip hK18 (some 64) (by kernel_rfl) (by kernel_rfl) hS1 (fun K19 hK19 => ?_)
  clear hK18 K18
  simp only [Act.put, lA, lZ, lS]
  refine mix_skip hK19 (some 65) (by kernel_rfl) (by kernel_rfl) hS1 (fun K20 hK20 => ?_)
  clear hK19 K19
  simp only [Act.put, lA, lZ, lS]
  refine mix_skip hK20 (some 66) (by kernel_rfl) (by kernel_rfl) hS1 (fun K21 hK21 => ?_)
  clear hK20 K20
  simp only [Act.put, lA, lZ, lS]
  refine mix_skip hK21 (some 67) (by kernel_rfl) (by kernel_rfl) hS1 (fun K22 hK22 => ?_)
  clear hK21 K21
  simp only [Act.put, lA, lZ, lS]
  refine mix_skip hK22 (some 68) (by kernel_rfl) (by kernel_rfl) hS1 (fun K23 hK23 => ?_)
  clear hK22 K22
  simp only [Act.put, lA, lZ, lS]
  refine mix_skip hK23 (some 69) (by kernel_rfl) (by kernel_rfl) hS1 (fun K24 hK24 => ?_)
  clear hK23 K23
  simp only [Act.put, lA, lZ, lS]
  refine mix_skip hK24 (some 70) (by kernel_rfl) (by kernel_rfl) hS1 (fun K25 hK25 => ?_)
  clear hK24 K24
  simp only [Act.put, lA, lZ, lS]
  refine mix_skip hK25 (some 71) (by kernel_rfl) (by kernel_rfl) hS1 (fun K26 hK26 => ?_)
  clear hK25 K25
  simp only [Act.put, lA, lZ, lS]
  refine mix_take hK26 (some 72) (.pick (.tmp 63) (.tmp 71) (.const (Value.bool false))) 4 _ (by kernel_rfl) (by kernel_rfl) (fun w' hS' => by (simp only [opr]; go_simp; try with_reducible rfl)) (fun K27 hK27 => ?_)
  clear hK26 K26
  simp only [Act.put, lA, lZ, lS]
  refine mix_take hK27 (some 73) (.pick (.tmp 59) (.const (Value.bool true)) (.tmp 72)) 4 _ (by kernel_rfl) (by kernel_rfl) (fun w' hS' => by (simp only [opr]; go_simp; try with_reducible rfl)) (fun K28 hK28 => ?_)
  clear hK27 K27
  simp only [Act.put, lA, lZ, lS]
  refine hK28 _ _ (mix_nil ?_)
  clear hK28 K28
  have HS9 := hide' hS1
  clear hS hS1 HA HO t3 p3
  have HT9 := hide' (HT4.out.keep HS9.out)
  obtain ⟨hb9, fz9⟩ := HT9.out.tm.cellsAt HG.out HTT.out
  have fz2 := fz9 2 (by decide)
  have k2 := hb9.c2
  have HM := hide' (Moved.of_stay (q := q) (HS4.out.trans HS9.out))
  clear hb9 fz9
  go_wp2
  go_ret
  have h9 := HT9.out.write HG.out HTT.out (p' := ⟨t'.pid, t'.par, g1, t'.ses, t'.tty, t'.df⟩) (k := 2) (vs := [.int .i64 g1]) (by simp) rfl rfl HOK.out
  exact ⟨q, rfl, rfl, h9.1, HM.out.trans h9.2⟩

set_option maxHeartbeats 1000000 in
theorem setpgid24_join_self (x y0 g0 y : Int) (h : TAt w q L md f c) (hy : orI y0 x = y) (g1 : Int) (hp : L[i]? = some p) (hx : p.pid = x) {k : Nat} {t : Pr} (ht : L[k]? = some t) (hty : t.pid = y) (hn : (y != x) = false) (hg : ¬ g0 < 0) (hgo : orI g0 y = g1) (hl : leadB t = false) (hse : (t.ses != p.ses) = false) (hgy : (g1 != y) = true) (hh : L.any (fun k => k.grp == g1 && k.ses == t.ses) = true) : Calls Try.prog 24 #[.pointer (some ⟨q.b, 0, none⟩), .int .i64 x, .int .i64 y0, .int .i64 g0] w (Did q (L.set k ⟨t.pid, t.par, g1, t.ses, t.tty, t.df⟩) md f c (.int .i64 0) w) := by
  have HLD := hide' hl
  have HHH := hide' hh
  have HOK : Hid (Ok (L.set k ⟨t.pid, t.par, g1, t.ses, t.tty, t.df⟩) md f) := h.ok.setpgid ht (by unfold leadB at hl; exact beq_eq_false_iff_ne.1 hl) ((.inr (by obtain ⟨m, hm, hm2⟩ := List.any_eq_true.1 hh; rw [Bool.and_eq_true] at hm2; exact ⟨m, hm, beq_iff_eq.1 hm2.1, beq_iff_eq.1 hm2.2⟩)))
  clear hl hh
  have hog := fun (B : Nat) (w : World) (a : w.cell? ⟨B, 0, none⟩ = some (.int .i64 g0)) (b : w.cell? ⟨B, 1, none⟩ = some (.int .i64 y)) => or47 B g0 y w a b
  rw [hgo] at hog
  have HOG := hide' hog
  clear hgo hog
  have HX := hide' hx
  have HP := hide' hp
  have HTT := hide' ht
  have HTY := hide' hty
  clear hx hp ht hty
  have hor := fun (B : Nat) (w : World) (a : w.cell? ⟨B, 0, none⟩ = some (.int .i64 y0)) (b : w.cell? ⟨B, 1, none⟩ = some (.int .i64 x)) => or47 B y0 x w a b
  rw [hy] at hor
  have HOR := hide' hor
  clear hor
  have HT0 := hide' h
  clear h hy
  go_enter Try.func24, Try.ntmps24
  go_wp2_with fail
  refine (HOR.out _ _ (by simp) (by simp)).mono ?_
  rintro _ wa ⟨rfl, hsa⟩
  have hs0 : Stay (fun _ => False) w wa := ((Stay.refl _ _).alloc _).trans hsa
  have HT := hide' (HT0.out.keep hs0)
  have HS0 := hide' hs0
  have HF := hide' (find37 x HT.out.tm)
  clear hs0 hsa HOR HT0
  go_wp2_with fail
  refine HF.out.mono ?_
  rintro _ w1 ⟨h1 | h1, hs⟩
  rotate_left
  · exact absurd HX.out (h1.2 p (mem_at HP.out))
  obtain ⟨j, g, p', rfl, hg, hp', hx'⟩ := h1
  obtain ⟨rfl, rfl⟩ := at_own HT.out.ok.up HP.out hp' (by rw [hx', HX.out])
  have HG := hide' hg
  clear hp' hx' hg
  have HF2 := hide' (find37 y (HT.out.keep hs).tm)
  have HS1 := hide' (HS0.out.trans hs)
  have HT1 := hide' (HT.out.keep hs)
  clear hs HF HT HS0
  go_wp2_with fail
  refine HF2.out.mono ?_
  rintro _ w2 ⟨h2 | h2, hs⟩
  rotate_left
  · exact absurd HTY.out (h2.2 t (mem_at HTT.out))
  obtain ⟨j2, g2, t', rfl, hg2, ht', hy'⟩ := h2
  obtain ⟨rfl, rfl⟩ := at_own HT1.out.ok.up HTT.out ht' (by rw [hy', HTY.out])
  have eg : g2 = g := by have := HG.out; rw [hg2] at this; exact Option.some.inj this
  subst eg
  clear ht' hy' hg2
  have HS2 := hide' (HS1.out.trans hs)
  have HT2 := hide' (HT1.out.keep hs)
  have HBT := hide' (HT2.out.tm.cellsAt HG.out HTT.out)
  have HBP := hide' (HT2.out.tm.cellsAt HG.out HP.out)
  have t1 := HBT.out.1.c1
  clear hs HF2 HS1 HT1
  go_wp2_with fail
  refine (HOG.out _ _ (by simp) (by simp)).mono ?_
  rintro _ w4 ⟨rfl, hs4⟩
  have hs4' : Stay (fun _ => False) w2 w4 := ((Stay.refl _ _).alloc _).trans hs4
  have HS4 := hide' (HS2.out.trans hs4')
  have HT4 := hide' (HT2.out.keep hs4')
  have t3 := (HBT.out.1.keep hs4').c3
  have p3 := (HBP.out.1.keep hs4').c3
  have HO := hide' (fun w' (hs : Stay (fun _ => False) w4 w') => leads44 g2 (j2 * 6) t' w' ((HBT.out.1.keep hs4').keep hs))
  rw [HLD.out] at HO
  have HO := HO.out _ ((Stay.refl (fun _ => False) w4).drew)
  have HO := hide' HO
  have HA := hide' (fun w' (hs : Stay (fun _ => False) w4 w') => has48 g1 t'.ses (HT4.out.keep hs).tm)
  rw [HHH.out] at HA
  clear hs4 hs4' HS2 HT2 HBT HBP HOG t1
  go_upto_region 8 with fail
  have hS : Stay (fun _ => False) w4 w4.drew := (Stay.refl _ _).drew
  refine wp_region_mix (fun w' => Stay (fun _ => False) w4 w') [(0, true), (1, false), (2, true), (3, true), (4, true), (5, true), (6, true), (7, true), (8, true), (9, true), (10, true), (11, true), (12, true), (13, true), (14, true), (15, true), (16, true), (17, true), (18, true), (19, true), (20, true), (21, true), (22, true), (23, true), (24, false), (25, true), (26, true), (27, true)] (by kernel_rfl) (by kernel_rfl) (fun _ d _ _ _ h => by cases d <;> exact h) hS ?_
  refine mix_begin (fun K0 hK0 => ?_)
  refine mix_take hK0 (some 46) (.move (.tmp 10)) 74 _ (by kernel_rfl) (by kernel_rfl) (fun w' hS' => by (simp only [opr]; go_simp; try with_reducible rfl)) (fun K1 hK1 => ?_)
  clear hK0 K0
  simp only [Act.put, lA, lZ, lS]
  refine mix_call hK1 (some 47) 44 #[.tmp 46] #[74] 4 _ (by kernel_rfl) (by kernel_rfl) (enters Try.func44 (by kernel_rfl) (by kernel_rfl)) (by go_simp; try with_reducible rfl) (fun K2 hK2 => ?_)
  clear hK1 K1
  refine (HO.out).mono ?_
  rintro e wm1 ⟨rfl, hs1⟩
  have hS1 : _ := hS.trans hs1
  refine ⟨_, rfl, hS1, ?_⟩
  clear hs1
  simp only [Act.put, lA, lZ, lS]
  refine mix_take hK2 (some 48) (.move (.tmp 47)) 4 _ (by kernel_rfl) (by kernel_rfl) (fun w' hS' => by (simp only [opr]; go_simp; try with_reducible rfl)) (fun K3 hK3 => ?_)
  clear hK2 K2
  simp only [Act.put, lA, lZ, lS]
  refine mix_take hK3 (some 49) (.move (.tmp 10)) 74 _ (by kernel_rfl) (by kernel_rfl) (fun w' hS' => by (simp only [opr]; go_simp; try with_reducible rfl)) (fun K4 hK4 => ?_)
  clear hK3 K3
  simp only [Act.put, lA, lZ, lS]
  refine mix_take hK4 (some 50) (.nilCheck (.tmp 49)) 0 _ (by kernel_rfl) (by kernel_rfl) (fun w' hS' => by (simp only [opr]; go_simp; try with_reducible rfl)) (fun K5 hK5 => ?_)
  clear hK4 K4
  simp only [Act.put, lA, lZ, lS]
  refine mix_take hK5 (some 51) (.fieldAddr 40 (.tmp 50) 3) 0 _ (by kernel_rfl) (by kernel_rfl) (fun w' hS' => by (simp only [opr]; go_simp; try with_reducible rfl)) (fun K6 hK6 => ?_)
  clear hK5 K5
  simp only [Act.put, lA, lZ, lS]
  refine mix_take hK6 (some 52) (.load 3 (.tmp 51)) 3 _ (by kernel_rfl) (by kernel_rfl) (fun w' hS' => by (have k3 := keep_cell hS' t3; have k4 := keep_cell hS' p3; simp only [opr]; go_simp; try with_reducible rfl)) (fun K7 hK7 => ?_)
  clear hK6 K6
  simp only [Act.put, lA, lZ, lS]
  refine mix_take hK7 (some 53) (.move (.tmp 9)) 74 _ (by kernel_rfl) (by kernel_rfl) (fun w' hS' => by (simp only [opr]; go_simp; try with_reducible rfl)) (fun K8 hK8 => ?_)
  clear hK7 K7
  simp only [Act.put, lA, lZ, lS]
  refine mix_take hK8 (some 54) (.nilCheck (.tmp 53)) 0 _ (by kernel_rfl) (by kernel_rfl) (fun w' hS' => by (simp only [opr]; go_simp; try with_reducible rfl)) (fun K9 hK9 => ?_)
  clear hK8 K8
  simp only [Act.put, lA, lZ, lS]
  refine mix_take hK9 (some 55) (.fieldAddr 40 (.tmp 54) 3) 0 _ (by kernel_rfl) (by kernel_rfl) (fun w' hS' => by (simp only [opr]; go_simp; try with_reducible rfl)) (fun K10 hK10 => ?_)
  clear hK9 K9
  simp only [Act.put, lA, lZ, lS]
  refine mix_take hK10 (some 56) (.load 3 (.tmp 55)) 3 _ (by kernel_rfl) (by kernel_rfl) (fun w' hS' => by (have k3 := keep_cell hS' t3; have k4 := keep_cell hS' p3; simp only [opr]; go_simp; try with_reducible rfl)) (fun K11 hK11 => ?_)
  clear hK10 K10
  simp only [Act.put, lA, lZ, lS]
  refine mix_take hK11 (some 57) (.binOp BinOp.neq 3 (.tmp 52) (.tmp 56) 3) 4 _ (by kernel_rfl) (by kernel_rfl) (fun w' hS' => by (simp only [opr]; go_simp; try with_reducible rfl)) (fun K12 hK12 => ?_)
  clear hK11 K11
  simp only [Act.put, lA, lZ, lS]
  refine mix_take hK12 (some 58) (.pick (.tmp 48) (.const (Value.bool true)) (.tmp 57)) 4 _ (by kernel_rfl) (by kernel_rfl) (fun w' hS' => by (simp only [opr]; go_simp; try with_reducible rfl)) (fun K13 hK13 => ?_)
  clear hK12 K12
  simp only [Act.put, lA, lZ, lS]
  refine mix_take hK13 (some 59) (.move (.tmp 58)) 4 _ (by kernel_rfl) (by kernel_rfl) (fun w' hS' => by (simp only [opr]; go_simp; try with_reducible rfl)) (fun K14 hK14 => ?_)
  clear hK13 K13
  simp only [Act.put, lA, lZ, lS]
  refine mix_take hK14 (some 60) (.move (.tmp 3)) 3 _ (by kernel_rfl) (by kernel_rfl) (fun w' hS' => by (simp only [opr]; go_simp; try with_reducible rfl)) (fun K15 hK15 => ?_)
  clear hK14 K14
  simp only [Act.put, lA, lZ, lS]
  refine mix_take hK15 (some 61) (.move (.tmp 2)) 3 _ (by kernel_rfl) (by kernel_rfl) (fun w' hS' => by (simp only [opr]; go_simp; try with_reducible rfl)) (fun K16 hK16 => ?_)
  clear hK15 K15
  simp only [Act.put, lA, lZ, lS]
  refine mix_take hK16 (some 62) (.binOp BinOp.neq 3 (.tmp 60) (.tmp 61) 3) 4 _ (by kernel_rfl) (by kernel_rfl) (fun w' hS' => by (simp only [opr]; go_simp; try with_reducible rfl)) (fun K17 hK17 => ?_)
  clear hK16 K16
  simp only [Act.put, lA, lZ, lS]
  refine mix_take hK17 (some 63) (.move (.tmp 62)) 4 _ (by kernel_rfl) (by kernel_rfl) (fun w' hS' => by (simp only [opr]; go_simp; try with_reducible rfl)) (fun K18 hK18 => ?_)
  clear hK17 K17
  simp only [Act.put, lA, lZ, lS]
  refine mix_take hK18 (some 64) (.move (.tmp 0)) 24 _ (by kernel_rfl) (by kernel_rfl) (fun w' hS' => by (simp only [opr]; go_simp; try with_reducible rfl)) (fun K19 hK19 => ?_)
  clear hK18 K18
  simp only [Act.put, lA, lZ, lS]
  refine mix_take hK19 (some 65) (.move (.tmp 3)) 3 _ (by kernel_rfl) (by kernel_rfl) (fun w' hS' => by (simp only [opr]; go_simp; try with_reducible rfl)) (fun K20 hK20 => ?_)
  clear hK19 K19
  simp only [Act.put, lA, lZ, lS]
  refine mix_take hK20 (some 66) (.move (.tmp 10)) 74 _ (by kernel_rfl) (by kernel_rfl) (fun w' hS' => by (simp only [opr]; go_simp; try with_reducible rfl)) (fun K21 hK21 => ?_)
  clear hK20 K20
  simp only [Act.put, lA, lZ, lS]
  refine mix_take hK21 (some 67) (.nilCheck (.tmp 66)) 0 _ (by kernel_rfl) (by kernel_rfl) (fun w' hS' => by (simp only [opr]; go_simp; try with_reducible rfl)) (fun K22 hK22 => ?_)
  clear hK21 K21
  simp only [Act.put, lA, lZ, lS]
  refine mix_take hK22 (some 68) (.fieldAddr 40 (.tmp 67) 3) 0 _ (by kernel_rfl) (by kernel_rfl) (fun w' hS' => by (simp only [opr]; go_simp; try with_reducible rfl)) (fun K23 hK23 => ?_)
  clear hK22 K22
  simp only [Act.put, lA, lZ, lS]
  refine mix_take hK23 (some 69) (.load 3 (.tmp 68)) 3 _ (by kernel_rfl) (by kernel_rfl) (fun w' hS' => by (have k3 := keep_cell hS' t3; have k4 := keep_cell hS' p3; simp only [opr]; go_simp; try with_reducible rfl)) (fun K24 hK24 => ?_)
  clear hK23 K23
  simp only [Act.put, lA, lZ, lS]
  refine mix_call hK24 (some 70) 48 #[.tmp 64, .tmp 65, .tmp 69] #[24, 3, 3] 4 _ (by kernel_rfl) (by kernel_rfl) (enters Try.func48 (by kernel_rfl) (by kernel_rfl)) (by go_simp; try with_reducible rfl) (fun K25 hK25 => ?_)
  clear hK24 K24
  refine (HA.out _ hS1).mono ?_
  rintro e wm2 ⟨rfl, hs2⟩
  have hS2 : _ := hS1.trans hs2
  refine ⟨_, rfl, hS2, ?_⟩
  clear hs2
  simp only [Act.put, lA, lZ, lS]
  refine mix_take hK25 (some 71) (.unOp UnOp.not 4 (.tmp 70)) 4 _ (by kernel_rfl) (by kernel_rfl) (fun w' hS' => by (simp only [opr]; go_simp; try with_reducible rfl)) (fun K26 hK26 => ?_)
  clear hK25 K25
  simp only [Act.put, lA, lZ, lS]
  refine mix_take hK26 (some 72) (.pick (.tmp 63) (.tmp 71) (.const (Value.bool false))) 4 _ (by kernel_rfl) (by kernel_rfl) (fun w' hS' => by (simp only [opr]; go_simp; try with_reducible rfl)) (fun K27 hK27 => ?_)
  clear hK26 K26
  simp only [Act.put, lA, lZ, lS]
  refine mix_take hK27 (some 73) (.pick (.tmp 59) (.const (Value.bool true)) (.tmp 72)) 4 _ (by kernel_rfl) (by kernel_rfl) (fun w' hS' => by (simp only [opr]; go_simp; try with_reducible rfl)) (fun K28 hK28 => ?_)
  clear hK27 K27
  simp only [Act.put, lA, lZ, lS]
  refine hK28 _ _ (mix_nil ?_)
  clear hK28 K28
  have HS9 := hide' hS2
  clear hS hS1 hS2 HA HO t3 p3
  have HT9 := hide' (HT4.out.keep HS9.out)
  obtain ⟨hb9, fz9⟩ := HT9.out.tm.cellsAt HG.out HTT.out
  have fz2 := fz9 2 (by decide)
  have k2 := hb9.c2
  have HM := hide' (Moved.of_stay (q := q) (HS4.out.trans HS9.out))
  clear hb9 fz9
  go_wp2
  go_ret
  have h9 := HT9.out.write HG.out HTT.out (p' := ⟨t'.pid, t'.par, g1, t'.ses, t'.tty, t'.df⟩) (k := 2) (vs := [.int .i64 g1]) (by simp) rfl rfl HOK.out
  exact ⟨q, rfl, rfl, h9.1, HM.out.trans h9.2⟩

set_option maxHeartbeats 1000000 in
theorem setpgid24_join_child (x y0 g0 y : Int) (h : TAt w q L md f c) (hy : orI y0 x = y) (g1 : Int) (hp : L[i]? = some p) (hx : p.pid = x) {k : Nat} {t : Pr} (ht : L[k]? = some t) (hty : t.pid = y) (hn : (y != x) = true) (hr : (t.par != x) = false) (hg : ¬ g0 < 0) (hgo : orI g0 y = g1) (hl : leadB t = false) (hse : (t.ses != p.ses) = false) (hgy : (g1 != y) = true) (hh : L.any (fun k => k.grp == g1 && k.ses == t.ses) = true) : Calls Try.prog 24 #[.pointer (some ⟨q.b, 0, none⟩), .int .i64 x, .int .i64 y0, .int .i64 g0] w (Did q (L.set k ⟨t.pid, t.par, g1, t.ses, t.tty, t.df⟩) md f c (.int .i64 0) w) := by
  have HLD := hide' hl
  have HHH := hide' hh
  have HOK : Hid (Ok (L.set k ⟨t.pid, t.par, g1, t.ses, t.tty, t.df⟩) md f) := h.ok.setpgid ht (by unfold leadB at hl; exact beq_eq_false_iff_ne.1 hl) ((.inr (by obtain ⟨m, hm, hm2⟩ := List.any_eq_true.1 hh; rw [Bool.and_eq_true] at hm2; exact ⟨m, hm, beq_iff_eq.1 hm2.1, beq_iff_eq.1 hm2.2⟩)))
  clear hl hh
  have hog := fun (B : Nat) (w : World) (a : w.cell? ⟨B, 0, none⟩ = some (.int .i64 g0)) (b : w.cell? ⟨B, 1, none⟩ = some (.int .i64 y)) => or47 B g0 y w a b
  rw [hgo] at hog
  have HOG := hide' hog
  clear hgo hog
  have HX := hide' hx
  have HP := hide' hp
  have HTT := hide' ht
  have HTY := hide' hty
  clear hx hp ht hty
  have hor := fun (B : Nat) (w : World) (a : w.cell? ⟨B, 0, none⟩ = some (.int .i64 y0)) (b : w.cell? ⟨B, 1, none⟩ = some (.int .i64 x)) => or47 B y0 x w a b
  rw [hy] at hor
  have HOR := hide' hor
  clear hor
  have HT0 := hide' h
  clear h hy
  go_enter Try.func24, Try.ntmps24
  go_wp2_with fail
  refine (HOR.out _ _ (by simp) (by simp)).mono ?_
  rintro _ wa ⟨rfl, hsa⟩
  have hs0 : Stay (fun _ => False) w wa := ((Stay.refl _ _).alloc _).trans hsa
  have HT := hide' (HT0.out.keep hs0)
  have HS0 := hide' hs0
  have HF := hide' (find37 x HT.out.tm)
  clear hs0 hsa HOR HT0
  go_wp2_with fail
  refine HF.out.mono ?_
  rintro _ w1 ⟨h1 | h1, hs⟩
  rotate_left
  · exact absurd HX.out (h1.2 p (mem_at HP.out))
  obtain ⟨j, g, p', rfl, hg, hp', hx'⟩ := h1
  obtain ⟨rfl, rfl⟩ := at_own HT.out.ok.up HP.out hp' (by rw [hx', HX.out])
  have HG := hide' hg
  clear hp' hx' hg
  have HF2 := hide' (find37 y (HT.out.keep hs).tm)
  have HS1 := hide' (HS0.out.trans hs)
  have HT1 := hide' (HT.out.keep hs)
  clear hs HF HT HS0
  go_wp2_with fail
  refine HF2.out.mono ?_
  rintro _ w2 ⟨h2 | h2, hs⟩
  rotate_left
  · exact absurd HTY.out (h2.2 t (mem_at HTT.out))
  obtain ⟨j2, g2, t', rfl, hg2, ht', hy'⟩ := h2
  obtain ⟨rfl, rfl⟩ := at_own HT1.out.ok.up HTT.out ht' (by rw [hy', HTY.out])
  have eg : g2 = g := by have := HG.out; rw [hg2] at this; exact Option.some.inj this
  subst eg
  clear ht' hy' hg2
  have HS2 := hide' (HS1.out.trans hs)
  have HT2 := hide' (HT1.out.keep hs)
  have HBT := hide' (HT2.out.tm.cellsAt HG.out HTT.out)
  have HBP := hide' (HT2.out.tm.cellsAt HG.out HP.out)
  have t1 := HBT.out.1.c1
  clear hs HF2 HS1 HT1
  go_wp2_with fail
  refine (HOG.out _ _ (by simp) (by simp)).mono ?_
  rintro _ w4 ⟨rfl, hs4⟩
  have hs4' : Stay (fun _ => False) w2 w4 := ((Stay.refl _ _).alloc _).trans hs4
  have HS4 := hide' (HS2.out.trans hs4')
  have HT4 := hide' (HT2.out.keep hs4')
  have t3 := (HBT.out.1.keep hs4').c3
  have p3 := (HBP.out.1.keep hs4').c3
  have HO := hide' (fun w' (hs : Stay (fun _ => False) w4 w') => leads44 g2 (j2 * 6) t' w' ((HBT.out.1.keep hs4').keep hs))
  rw [HLD.out] at HO
  have HO := HO.out _ ((Stay.refl (fun _ => False) w4).drew)
  have HO := hide' HO
  have HA := hide' (fun w' (hs : Stay (fun _ => False) w4 w') => has48 g1 t'.ses (HT4.out.keep hs).tm)
  rw [HHH.out] at HA
  clear hs4 hs4' HS2 HT2 HBT HBP HOG t1
  go_upto_region 8 with fail
  have hS : Stay (fun _ => False) w4 w4.drew := (Stay.refl _ _).drew
  refine wp_region_mix (fun w' => Stay (fun _ => False) w4 w') [(0, true), (1, false), (2, true), (3, true), (4, true), (5, true), (6, true), (7, true), (8, true), (9, true), (10, true), (11, true), (12, true), (13, true), (14, true), (15, true), (16, true), (17, true), (18, true), (19, true), (20, true), (21, true), (22, true), (23, true), (24, false), (25, true), (26, true), (27, true)] (by kernel_rfl) (by kernel_rfl) (fun _ d _ _ _ h => by cases d <;> exact h) hS ?_
  refine mix_begin (fun K0 hK0 => ?_)
  refine mix_take hK0 (some 46) (.move (.tmp 10)) 74 _ (by kernel_rfl) (by kernel_rfl) (fun w' hS' => by (simp only [opr]; go_simp; try with_reducible rfl)) (fun K1 hK1 => ?_)
  clear hK0 K0
  simp only [Act.put, lA, lZ, lS]
  refine mix_call hK1 (some 47) 44 #[.tmp 46] #[74] 4 _ (by kernel_rfl) (by kernel_rfl) (enters Try.func44 (by kernel_rfl) (by kernel_rfl)) (by go_simp; try with_reducible rfl) (fun K2 hK2 => ?_)
  clear hK1 K1
  refine (HO.out).mono ?_
  rintro e wm1 ⟨rfl, hs1⟩
  have hS1 : _ := hS.trans hs1
  refine ⟨_, rfl, hS1, ?_⟩
  clear hs1
  simp only [Act.put, lA, lZ, lS]
  refine mix_take hK2 (some 48) (.move (.tmp 47)) 4 _ (by kernel_rfl) (by kernel_rfl) (fun w' hS' => by (simp only [opr]; go_simp; try with_reducible rfl)) (fun K3 hK3 => ?_)
  clear hK2 K2
  simp only [Act.put, lA, lZ, lS]
  refine mix_take hK3 (some 49) (.move (.tmp 10)) 74 _ (by kernel_rfl) (by kernel_rfl) (fun w' hS' => by (simp only [opr]; go_simp; try with_reducible rfl)) (fun K4 hK4 => ?_)
  clear hK3 K3
  simp only [Act.put, lA, lZ, lS]
  refine mix_take hK4 (some 50) (.nilCheck (.tmp 49)) 0 _ (by kernel_rfl) (by kernel_rfl) (fun w' hS' => by (simp only [opr]; go_simp; try with_reducible rfl)) (fun K5 hK5 => ?_)
  clear hK4 K4
  simp only [Act.put, lA, lZ, lS]
  refine mix_take hK5 (some 51) (.fieldAddr 40 (.tmp 50) 3) 0 _ (by kernel_rfl) (by kernel_rfl) (fun w' hS' => by (simp only [opr]; go_simp; try with_reducible rfl)) (fun K6 hK6 => ?_)
  clear hK5 K5
  simp only [Act.put, lA, lZ, lS]
  refine mix_take hK6 (some 52) (.load 3 (.tmp 51)) 3 _ (by kernel_rfl) (by kernel_rfl) (fun w' hS' => by (have k3 := keep_cell hS' t3; have k4 := keep_cell hS' p3; simp only [opr]; go_simp; try with_reducible rfl)) (fun K7 hK7 => ?_)
  clear hK6 K6
  simp only [Act.put, lA, lZ, lS]
  refine mix_take hK7 (some 53) (.move (.tmp 9)) 74 _ (by kernel_rfl) (by kernel_rfl) (fun w' hS' => by (simp only [opr]; go_simp; try with_reducible rfl)) (fun K8 hK8 => ?_)
  clear hK7 K7
  simp only [Act.put, lA, lZ, lS]
  refine mix_take hK8 (some 54) (.nilCheck (.tmp 53)) 0 _ (by kernel_rfl) (by kernel_rfl) (fun w' hS' => by (simp only [opr]; go_simp; try with_reducible rfl)) (fun K9 hK9 => ?_)
  clear hK8 K8
  simp only [Act.put, lA, lZ, lS]
  refine mix_take hK9 (some 55) (.fieldAddr 40 (.tmp 54) 3) 0 _ (by kernel_rfl) (by kernel_rfl) (fun w' hS' => by (simp only [opr]; go_simp; try with_reducible rfl)) (fun K10 hK10 => ?_)
  clear hK9 K9
  simp only [Act.put, lA, lZ, lS]
  refine mix_take hK10 (some 56) (.load 3 (.tmp 55)) 3 _ (by kernel_rfl) (by kernel_rfl) (fun w' hS' => by (have k3 := keep_cell hS' t3; have k4 := keep_cell hS' p3; simp only [opr]; go_simp; try with_reducible rfl)) (fun K11 hK11 => ?_)
  clear hK10 K10
  simp only [Act.put, lA, lZ, lS]
  refine mix_take hK11 (some 57) (.binOp BinOp.neq 3 (.tmp 52) (.tmp 56) 3) 4 _ (by kernel_rfl) (by kernel_rfl) (fun w' hS' => by (simp only [opr]; go_simp; try with_reducible rfl)) (fun K12 hK12 => ?_)
  clear hK11 K11
  simp only [Act.put, lA, lZ, lS]
  refine mix_take hK12 (some 58) (.pick (.tmp 48) (.const (Value.bool true)) (.tmp 57)) 4 _ (by kernel_rfl) (by kernel_rfl) (fun w' hS' => by (simp only [opr]; go_simp; try with_reducible rfl)) (fun K13 hK13 => ?_)
  clear hK12 K12
  simp only [Act.put, lA, lZ, lS]
  refine mix_take hK13 (some 59) (.move (.tmp 58)) 4 _ (by kernel_rfl) (by kernel_rfl) (fun w' hS' => by (simp only [opr]; go_simp; try with_reducible rfl)) (fun K14 hK14 => ?_)
  clear hK13 K13
  simp only [Act.put, lA, lZ, lS]
  refine mix_take hK14 (some 60) (.move (.tmp 3)) 3 _ (by kernel_rfl) (by kernel_rfl) (fun w' hS' => by (simp only [opr]; go_simp; try with_reducible rfl)) (fun K15 hK15 => ?_)
  clear hK14 K14
  simp only [Act.put, lA, lZ, lS]
  refine mix_take hK15 (some 61) (.move (.tmp 2)) 3 _ (by kernel_rfl) (by kernel_rfl) (fun w' hS' => by (simp only [opr]; go_simp; try with_reducible rfl)) (fun K16 hK16 => ?_)
  clear hK15 K15
  simp only [Act.put, lA, lZ, lS]
  refine mix_take hK16 (some 62) (.binOp BinOp.neq 3 (.tmp 60) (.tmp 61) 3) 4 _ (by kernel_rfl) (by kernel_rfl) (fun w' hS' => by (simp only [opr]; go_simp; try with_reducible rfl)) (fun K17 hK17 => ?_)
  clear hK16 K16
  simp only [Act.put, lA, lZ, lS]
  refine mix_take hK17 (some 63) (.move (.tmp 62)) 4 _ (by kernel_rfl) (by kernel_rfl) (fun w' hS' => by (simp only [opr]; go_simp; try with_reducible rfl)) (fun K18 hK18 => ?_)
  clear hK17 K17
  simp only [Act.put, lA, lZ, lS]
  refine mix_take hK18 (some 64) (.move (.tmp 0)) 24 _ (by kernel_rfl) (by kernel_rfl) (fun w' hS' => by (simp only [opr]; go_simp; try with_reducible rfl)) (fun K19 hK19 => ?_)
  clear hK18 K18
  simp only [Act.put, lA, lZ, lS]
  refine mix_take hK19 (some 65) (.move (.tmp 3)) 3 _ (by kernel_rfl) (by kernel_rfl) (fun w' hS' => by (simp only [opr]; go_simp; try with_reducible rfl)) (fun K20 hK20 => ?_)
  clear hK19 K19
  simp only [Act.put, lA, lZ, lS]
  refine mix_take hK20 (some 66) (.move (.tmp 10)) 74 _ (by kernel_rfl) (by kernel_rfl) (fun w' hS' => by (simp only [opr]; go_simp; try with_reducible rfl)) (fun K21 hK21 => ?_)
  clear hK20 K20
  simp only [Act.put, lA, lZ, lS]
  refine mix_take hK21 (some 67) (.nilCheck (.tmp 66)) 0 _ (by kernel_rfl) (by kernel_rfl) (fun w' hS' => by (simp only [opr]; go_simp; try with_reducible rfl)) (fun K22 hK22 => ?_)
  clear hK21 K21
  simp only [Act.put, lA, lZ, lS]
  refine mix_take hK22 (some 68) (.fieldAddr 40 (.tmp 67) 3) 0 _ (by kernel_rfl) (by kernel_rfl) (fun w' hS' => by (simp only [opr]; go_simp; try with_reducible rfl)) (fun K23 hK23 => ?_)
  clear hK22 K22
  simp only [Act.put, lA, lZ, lS]
  refine mix_take hK23 (some 69) (.load 3 (.tmp 68)) 3 _ (by kernel_rfl) (by kernel_rfl) (fun w' hS' => by (have k3 := keep_cell hS' t3; have k4 := keep_cell hS' p3; simp only [opr]; go_simp; try with_reducible rfl)) (fun K24 hK24 => ?_)
  clear hK23 K23
  simp only [Act.put, lA, lZ, lS]
  refine mix_call hK24 (some 70) 48 #[.tmp 64, .tmp 65, .tmp 69] #[24, 3, 3] 4 _ (by kernel_rfl) (by kernel_rfl) (enters Try.func48 (by kernel_rfl) (by kernel_rfl)) (by go_simp; try with_reducible rfl) (fun K25 hK25 => ?_)
  clear hK24 K24
  refine (HA.out _ hS1).mono ?_
  rintro e wm2 ⟨rfl, hs2⟩
  have hS2 : _ := hS1.trans hs2
  refine ⟨_, rfl, hS2, ?_⟩
  clear hs2
  simp only [Act.put, lA, lZ, lS]
  refine mix_take hK25 (some 71) (.unOp UnOp.not 4 (.tmp 70)) 4 _ (by kernel_rfl) (by kernel_rfl) (fun w' hS' => by (simp only [opr]; go_simp; try with_reducible rfl)) (fun K26 hK26 => ?_)
  clear hK25 K25
  simp only [Act.put, lA, lZ, lS]
  refine mix_take hK26 (some 72) (.pick (.tmp 63) (.tmp 71) (.const (Value.bool false))) 4 _ (by kernel_rfl) (by kernel_rfl) (fun w' hS' => by (simp only [opr]; go_simp; try with_reducible rfl)) (fun K27 hK27 => ?_)
  clear hK26 K26
  simp only [Act.put, lA, lZ, lS]
  refine mix_take hK27 (some 73) (.pick (.tmp 59) (.const (Value.bool true)) (.tmp 72)) 4 _ (by kernel_rfl) (by kernel_rfl) (fun w' hS' => by (simp only [opr]; go_simp; try with_reducible rfl)) (fun K28 hK28 => ?_)
  clear hK27 K27
  simp only [Act.put, lA, lZ, lS]
  refine hK28 _ _ (mix_nil ?_)
  clear hK28 K28
  have HS9 := hide' hS2
  clear hS hS1 hS2 HA HO t3 p3
  have HT9 := hide' (HT4.out.keep HS9.out)
  obtain ⟨hb9, fz9⟩ := HT9.out.tm.cellsAt HG.out HTT.out
  have fz2 := fz9 2 (by decide)
  have k2 := hb9.c2
  have HM := hide' (Moved.of_stay (q := q) (HS4.out.trans HS9.out))
  clear hb9 fz9
  go_wp2
  go_ret
  have h9 := HT9.out.write HG.out HTT.out (p' := ⟨t'.pid, t'.par, g1, t'.ses, t'.tty, t'.df⟩) (k := 2) (vs := [.int .i64 g1]) (by simp) rfl rfl HOK.out
  exact ⟨q, rfl, rfl, h9.1, HM.out.trans h9.2⟩

end Go.Proofs.Ytefpifnfinkbaaa
