/-
  Both do the same: one act of a table, and of the document's. No conditions.
-/
import Derived.Test.YtefpifnfinkbaaaG4
import Derived.Test.YtefpifnfinkbaaaFA
import Derived.Test.YtefpifnfinkbaaaFB
import Derived.Test.YtefpifnfinkbaaaFC
import Derived.Test.YtefpifnfinkbaaaFE
import Derived.Test.YtefpifnfinkbaaaFG
import Derived.Test.YtefpifnfinkbaaaFH
import Derived.Test.YtefpifnfinkbaaaFI
import Derived.Test.YtefpifnfinkbaaaFJ
namespace Go.Proofs.Ytefpifnfinkbaaa
open Go.RowKit

variable {q : Tq} {L : List Pr} {md : Int} {f : Int → Int} {c : Nat} {w : World}

theorem one_or (L : List Pr) (y : Int) : (∀ p ∈ L, p.pid ≠ y) ∨ ∃ (i : Nat) (p : Pr), L[i]? = some p ∧ p.pid = y := by
  by_cases h : ∀ p ∈ L, p.pid ≠ y
  · exact .inl h
  · by_cases hh : ∃ p ∈ L, p.pid = y
    · obtain ⟨p, hp, hx⟩ := hh
      obtain ⟨i, hi⟩ := List.getElem?_of_mem hp
      exact .inr ⟨i, p, hi, hx⟩
    · exact absurd (fun p hp e => hh ⟨p, hp, e⟩) h

theorem Did.more {g : Nat} {xs : Array Value} {L' : List Pr} {md' : Int} {f' : Int → Int} {c' : Nat} {v : Value} (h : Calls Try.prog g xs w (Did q L' md' f' c v w)) (hc : c ≤ c') : Calls Try.prog g xs w (Did q L' md' f' c' v w) :=
  h.mono (fun e w' hd => by
    obtain ⟨q', e1, e2, e3, e4⟩ := hd
    exact ⟨q', e1, e2, e3.more hc, e4⟩)

theorem upd_id {f : Int → Int} {t v : Int} (h : f t = v) : upd f t v = f := by
  funext z
  by_cases e : z = t
  · rw [e, upd_same, h]
  · rw [upd_other _ _ e]

theorem both_fork (y : Int) (h : TAt w q L md f c) (hc : c ≤ 2000) : ∃ (L' : List Pr) (md' n er : Int), Calls Try.prog 21 #[.pointer (some ⟨q.b, 0, none⟩), .int .i64 y] w (Did q L' md' f (c + 1) (.tuple #[.int .i64 n, .int .i64 er]) w) ∧
    ∀ (w2 : World) (x : Xr), XAt w2 x L f → Calls Try.prog 28 #[.agg #[.slice x.a L.length x.cap, .int .i64 (md + 1), .slice x.a2 65 x.c2], .int .i64 y] w2 (XG3 x L' (md' + 1) f n er w2) := by
  have hm := h.mc
  have hm1 := h.ok.m1
  rcases one_or L y with hx | ⟨i, p, hp, hx⟩
  · exact ⟨L, md, 0, 5, Gives.did (h.more (Nat.le_succ c)) (fork21_none y h hx), fun w2 x hX => rfork28_none y (md + 1) hX hx⟩
  · subst hx
    by_cases hl : L.length < 256
    · exact ⟨_, md + 1, md + 1, 0, fork21 p.pid h hp rfl hl (by omega), fun w2 x hX => rfork28 p.pid (md + 1) hX h.ok.up hp rfl hl (by omega) (by omega)⟩
    · exact ⟨L, md, 0, 3, Gives.did (h.more (Nat.le_succ c)) (fork21_full p.pid h hp rfl (by omega)), fun w2 x hX => rfork28_full p.pid (md + 1) hX h.ok.up hp rfl (by omega)⟩

theorem both_setsid (y : Int) (h : TAt w q L md f c) (_hc : c ≤ 2000) : ∃ (L' : List Pr) (er : Int), Calls Try.prog 22 #[.pointer (some ⟨q.b, 0, none⟩), .int .i64 y] w (Did q L' md f (c + 1) (.int .i64 er) w) ∧
    ∀ (w2 : World) (x : Xr), XAt w2 x L f → Calls Try.prog 29 #[.agg #[.slice x.a L.length x.cap, .int .i64 (md + 1), .slice x.a2 65 x.c2], .int .i64 y] w2 (XG2 x L' (md + 1) f er w2) := by
  rcases one_or L y with hx | ⟨i, p, hp, hx⟩
  · exact ⟨L, 5, Gives.did (h.more (Nat.le_succ c)) (setsid22_none y h hx), fun w2 x hX => rsetsid29_none y (md + 1) hX hx⟩
  · subst hx
    cases hn : L.any (fun t => t.grp == p.pid)
    · exact ⟨_, 0, Did.more (setsid22 p.pid h hp rfl hn) (Nat.le_succ c), fun w2 x hX => rsetsid29 p.pid (md + 1) hX h.ok.up hp rfl hn⟩
    · exact ⟨L, 8, Gives.did (h.more (Nat.le_succ c)) (setsid22_perm p.pid h hp rfl hn), fun w2 x hX => rsetsid29_perm p.pid (md + 1) hX h.ok.up hp rfl hn⟩

theorem both_setpgid (x1 y0 g0 : Int) (h : TAt w q L md f c) (_hc : c ≤ 2000) : ∃ (L' : List Pr) (er : Int), Calls Try.prog 24 #[.pointer (some ⟨q.b, 0, none⟩), .int .i64 x1, .int .i64 y0, .int .i64 g0] w (Did q L' md f (c + 1) (.int .i64 er) w) ∧
    ∀ (w2 : World) (x : Xr), XAt w2 x L f → Calls Try.prog 30 #[.agg #[.slice x.a L.length x.cap, .int .i64 (md + 1), .slice x.a2 65 x.c2], .int .i64 x1, .int .i64 y0, .int .i64 g0] w2 (XG2 x L' (md + 1) f er w2) := by
  obtain ⟨y, hy⟩ : ∃ y, orI y0 x1 = y := ⟨_, rfl⟩
  have hm := h.more (Nat.le_succ c)
  have hu := h.ok.up
  rcases one_or L x1 with hx | ⟨i, p, hp, hx⟩
  · exact ⟨L, 5, Gives.did hm (setpgid24_nop x1 y0 g0 y h hy hx), fun w2 x hX => rsetpgid30_nop x1 y0 g0 y (md + 1) hX hu hy hx⟩
  rcases one_or L y with hny | ⟨k, t, ht, hty⟩
  · exact ⟨L, 5, Gives.did hm (setpgid24_now x1 y0 g0 y h hy hp hx hny), fun w2 x hX => rsetpgid30_now x1 y0 g0 y (md + 1) hX hu hy hp hx hny⟩
  obtain ⟨g1, hgo⟩ : ∃ g1, orI g0 y = g1 := ⟨_, rfl⟩
  have hz : t.ses ≠ 0 := by have := (h.ok.sd t (mem_at ht)).1; omega
  cases hn : (y != x1)
  · have htp : t = p := hu.mem (mem_at ht) (mem_at hp) (by rw [hty, hx]; simpa using hn)
    have hse : (t.ses != p.ses) = false := by rw [htp]; simp
    by_cases hg : g0 < 0
    · exact ⟨L, 1, Gives.did hm (setpgid24_arg_self x1 y0 g0 y h hy hp hx ht hty hn hg), fun w2 x hX => rsetpgid30_arg_self x1 y0 g0 y (md + 1) hX hu hy hp hx ht hty hn hg⟩
    · cases hl : leadB t
      · have hl2 : (t.ses == y) = false := by unfold leadB at hl; rw [hty] at hl; exact hl
        cases hgy : (g1 != y)
        · exact ⟨_, 0, Did.more (setpgid24_new_self x1 y0 g0 y h hy g1 hp hx ht hty hn hg hgo hl hse hgy) (Nat.le_succ c), fun w2 x hX => rsetpgid30_new_self x1 y0 g0 y (md + 1) hX hu hy g1 hp hx ht hty hn hg hgo hl2 hse hgy⟩
        · cases hh : L.any (fun k => k.grp == g1 && k.ses == t.ses)
          · exact ⟨L, 8, Gives.did hm (setpgid24_nogroup_self x1 y0 g0 y h hy g1 hp hx ht hty hn hg hgo hl hse hgy hh), fun w2 x hX => rsetpgid30_nogroup_self x1 y0 g0 y (md + 1) hX hu hy g1 hp hx ht hty hn hg hgo hl2 hse hgy hz hh⟩
          · exact ⟨_, 0, Did.more (setpgid24_join_self x1 y0 g0 y h hy g1 hp hx ht hty hn hg hgo hl hse hgy hh) (Nat.le_succ c), fun w2 x hX => rsetpgid30_join_self x1 y0 g0 y (md + 1) hX hu hy g1 hp hx ht hty hn hg hgo hl2 hse hgy hz hh⟩
      · have hl2 : (t.ses == y) = true := by unfold leadB at hl; rw [hty] at hl; exact hl
        exact ⟨L, 8, Gives.did hm (setpgid24_lead_self x1 y0 g0 y h hy g1 hp hx ht hty hn hg hgo hl), fun w2 x hX => rsetpgid30_lead_self x1 y0 g0 y (md + 1) hX hu hy g1 hp hx ht hty hn hg hgo hl2⟩
  · cases hr : (t.par != x1)
    · by_cases hg : g0 < 0
      · exact ⟨L, 1, Gives.did hm (setpgid24_arg_child x1 y0 g0 y h hy hp hx ht hty hn hr hg), fun w2 x hX => rsetpgid30_arg_child x1 y0 g0 y (md + 1) hX hu hy hp hx ht hty hn hr hg⟩
      · cases hl : leadB t
        · have hl2 : (t.ses == y) = false := by unfold leadB at hl; rw [hty] at hl; exact hl
          cases hse : (t.ses != p.ses)
          · cases hgy : (g1 != y)
            · exact ⟨_, 0, Did.more (setpgid24_new_child x1 y0 g0 y h hy g1 hp hx ht hty hn hr hg hgo hl hse hgy) (Nat.le_succ c), fun w2 x hX => rsetpgid30_new_child x1 y0 g0 y (md + 1) hX hu hy g1 hp hx ht hty hn hr hg hgo hl2 hse hgy⟩
            · cases hh : L.any (fun k => k.grp == g1 && k.ses == t.ses)
              · exact ⟨L, 8, Gives.did hm (setpgid24_nogroup_child x1 y0 g0 y h hy g1 hp hx ht hty hn hr hg hgo hl hse hgy hh), fun w2 x hX => rsetpgid30_nogroup_child x1 y0 g0 y (md + 1) hX hu hy g1 hp hx ht hty hn hr hg hgo hl2 hse hgy hz hh⟩
              · exact ⟨_, 0, Did.more (setpgid24_join_child x1 y0 g0 y h hy g1 hp hx ht hty hn hr hg hgo hl hse hgy hh) (Nat.le_succ c), fun w2 x hX => rsetpgid30_join_child x1 y0 g0 y (md + 1) hX hu hy g1 hp hx ht hty hn hr hg hgo hl2 hse hgy hz hh⟩
          · exact ⟨L, 8, Gives.did hm (setpgid24_other_child x1 y0 g0 y h hy g1 hp hx ht hty hn hr hg hgo hl hse), fun w2 x hX => rsetpgid30_other_child x1 y0 g0 y (md + 1) hX hu hy g1 hp hx ht hty hn hr hg hgo hl2 hse⟩
        · have hl2 : (t.ses == y) = true := by unfold leadB at hl; rw [hty] at hl; exact hl
          exact ⟨L, 8, Gives.did hm (setpgid24_lead_child x1 y0 g0 y h hy g1 hp hx ht hty hn hr hg hgo hl), fun w2 x hX => rsetpgid30_lead_child x1 y0 g0 y (md + 1) hX hu hy g1 hp hx ht hty hn hr hg hgo hl2⟩
    · exact ⟨L, 5, Gives.did hm (setpgid24_nochild x1 y0 g0 y h hy hp hx ht hty hn hr), fun w2 x hX => rsetpgid30_nochild x1 y0 g0 y (md + 1) hX hu hy hp hx ht hty hn hr⟩

/-- A terminal has a group in front exactly where it has a session. -/
theorem ses_front (h : Ok L md f) {t : Int} (ht : t ≠ 0) : (sesI L t != 0) = (f t != 0) := by
  unfold sesI
  rw [if_neg ht]
  cases hf : L.find? (fun p => p.tty == t) with
  | none =>
    have h0 : f t = 0 := by
      by_cases e : f t = 0
      · exact e
      · obtain ⟨_, p, hp, hpt⟩ := h.f1 t e
        have := List.find?_eq_none.1 hf p hp
        simp [hpt] at this
    rw [h0]
  | some p =>
    have hp := List.mem_of_find?_eq_some hf
    have hpt : p.tty = t := by simpa using List.find?_some hf
    have h1 : f t ≠ 0 := by rw [← hpt]; exact h.f2 p hp (by rw [hpt]; exact ht)
    have h2 : p.ses ≠ 0 := by have := (h.sd p hp).1; omega
    show (p.ses != 0) = _
    rw [bne_iff_ne.2 h1, bne_iff_ne.2 h2]

theorem both_attach (y t : Int) (h : TAt w q L md f c) (hc : c ≤ 2000) : ∃ (L' : List Pr) (f' : Int → Int) (er : Int), Calls Try.prog 23 #[.pointer (some ⟨q.b, 0, none⟩), .int .i64 y, .int .i64 t] w (Did q L' md f' (c + 1) (.int .i64 er) w) ∧
    ∀ (w2 : World) (x : Xr), XAt w2 x L f → Calls Try.prog 31 #[.agg #[.slice x.a L.length x.cap, .int .i64 (md + 1), .slice x.a2 65 x.c2], .int .i64 y, .int .i64 t] w2 (XG2 x L' (md + 1) f' er w2) := by
  have hm := h.more (Nat.le_succ c)
  have hu := h.ok.up
  rcases one_or L y with hx | ⟨i, p, hp, hx⟩
  · exact ⟨L, f, 5, Gives.did hm (attach23_none y t h hx), fun w2 x hX => rattach31_none y t (md + 1) hX hx⟩
  by_cases h1 : t < 1
  · exact ⟨L, f, 1, Gives.did hm (attach23_lo y t h hp hx h1), fun w2 x hX => rattach31_lo y t (md + 1) hX hu hp hx h1⟩
  have h1 : 1 ≤ t := by omega
  by_cases h2 : 64 < t
  · exact ⟨L, f, 1, Gives.did hm (attach23_hi y t h hp hx h1 h2), fun w2 x hX => rattach31_hi y t (md + 1) hX hu hp hx h1 h2⟩
  have h2 : t ≤ 64 := by omega
  have hsf := ses_front h.ok (t := t) (by omega)
  cases hl : leadB p
  · have hl2 : (p.ses != y) = true := by unfold leadB at hl; rw [hx] at hl; unfold bne; rw [hl]; rfl
    exact ⟨L, f, 8, Gives.did hm (attach23_nolead y t h hp hx h1 h2 hl), fun w2 x hX => rattach31_nolead y t (md + 1) hX hu hp hx h1 h2 hl2⟩
  · have hl2 : (p.ses != y) = false := by unfold leadB at hl; rw [hx] at hl; unfold bne; rw [hl]; rfl
    cases hy : (p.tty != 0)
    · cases hf : (f t != 0)
      · exact ⟨_, _, 0, attach23 y t h hp hx h1 h2 hl hy hf (by omega), fun w2 x hX => rattach31 y t (md + 1) hX hu hp hx h1 h2 hl2 hy (by rw [hsf, hf])⟩
      · exact ⟨L, f, 8, Gives.did hm (attach23_busy y t h hp hx h1 h2 hl hy hf), fun w2 x hX => rattach31_busy y t (md + 1) hX hu hp hx h1 h2 hl2 hy (by rw [hsf, hf])⟩
    · exact ⟨L, f, 8, Gives.did hm (attach23_has y t h hp hx h1 h2 hl hy), fun w2 x hX => rattach31_has y t (md + 1) hX hu hp hx h1 h2 hl2 hy⟩

theorem both_fore (y t z : Int) (h : TAt w q L md f c) (hc : c ≤ 2000) : ∃ (f' : Int → Int) (er : Int), Calls Try.prog 32 #[.pointer (some ⟨q.b, 0, none⟩), .int .i64 y, .int .i64 t, .int .i64 z] w (Did q L md f' (c + 1) (.int .i64 er) w) ∧
    ∀ (w2 : World) (x : Xr), XAt w2 x L f → Calls Try.prog 33 #[.agg #[.slice x.a L.length x.cap, .int .i64 (md + 1), .slice x.a2 65 x.c2], .int .i64 y, .int .i64 t, .int .i64 z] w2 (XG2 x L (md + 1) f' er w2) := by
  have hm := h.more (Nat.le_succ c)
  have hu := h.ok.up
  rcases one_or L y with hx | ⟨i, p, hp, hx⟩
  · exact ⟨f, 5, Gives.did hm (fore32_none y t z h hx), fun w2 x hX => rfore33_none y t z (md + 1) hX hx⟩
  have hz : p.ses ≠ 0 := by have := (h.ok.sd p (mem_at hp)).1; omega
  cases h0 : (t == 0)
  · cases ht : (p.tty != t)
    · have e : p.tty = t := by simpa using ht
      have e0 : t ≠ 0 := by simpa using h0
      have hon : onB p t = true := by
        unfold onB bne
        rw [h0, e]
        simp
      have hr := h.ok.td p (mem_at hp)
      cases hh : L.any (fun k => k.grp == z && k.ses == p.ses)
      · exact ⟨f, 8, Gives.did hm (fore32_perm y t z h hp hx hon hh), fun w2 x hX => rfore33_perm y t z (md + 1) hX hu hp hx h0 ht hz hh⟩
      · exact ⟨_, 0, fore32 y t z h hp hx hon hh (by omega), fun w2 x hX => rfore33 y t z (md + 1) hX hu hp hx (by omega) (by omega) h0 ht hz hh⟩
    · have hon : onB p t = false := by
        unfold onB
        unfold bne at ht
        cases hq : (p.tty == t)
        · rw [Bool.and_false]
        · rw [hq] at ht; cases ht
      exact ⟨f, 14, Gives.did hm (fore32_tty y t z h hp hx hon), fun w2 x hX => rfore33_tty y t z (md + 1) hX hu hp hx h0 ht⟩
  · have hon : onB p t = false := by
      unfold onB bne
      rw [h0]
      rfl
    exact ⟨f, 14, Gives.did hm (fore32_tty y t z h hp hx hon), fun w2 x hX => rfore33_zero y t z (md + 1) hX hu hp hx h0⟩

end Go.Proofs.Ytefpifnfinkbaaa
