/-
  Both do the same when a process goes, and when a terminal hangs up; both let the same. No conditions.
-/
import Derived.Test.YtefpifnfinkbaaaGA
namespace Go.Proofs.Ytefpifnfinkbaaa
open Go.RowKit

variable {q : Tq} {L : List Pr} {md : Int} {f : Int → Int} {c : Nat} {w : World}

/-- What is told the groups is the same, whether the groups that are there are gone through, or all numbers. -/
theorem tell_filter (L L3 : List Pr) (P : Int → Bool) : ∀ (T : List Int), (∀ g ∈ T, P g = true → orphS L L3 g = orphD L L3 g) → (∀ g ∈ T, P g = false → orphD L L3 g = []) → tellS L L3 (T.filter P) = T.flatMap (orphD L L3)
  | [], _, _ => rfl
  | g :: T, h1, h2 => by
    have ih := tell_filter L L3 P T (fun g hg => h1 g (List.mem_cons_of_mem _ hg)) (fun g hg => h2 g (List.mem_cons_of_mem _ hg))
    unfold tellS at ih ⊢
    rw [List.flatMap_cons, ← ih]
    cases hp : P g
    · rw [List.filter_cons_of_neg (by rw [hp]; decide), h2 g (List.mem_cons_self ..) hp, List.nil_append]
    · rw [List.filter_cons_of_pos hp, List.flatMap_cons, h1 g (List.mem_cons_self ..) hp]

theorem tell_eq (L L3 : List Pr) (hL : ∀ g, L3.any (fun p => p.grp == g) = true → L.any (fun p => p.grp == g) = true) (md : Int) : tellS L L3 (grps md L3) = tellD L L3 md.toNat := by
  unfold grps tellD
  rw [tell_filter L L3 (fun g => L3.any (fun p => p.grp == g)), List.flatMap_map]
  · intro g _ hg
    have hg2 := hL g hg
    have h0 := (tiesF_le L L.length g).1
    unfold orphS orphD orphB
    rw [hg, hg2, Bool.true_and, Bool.true_and]
    by_cases e1 : tiesF L3 L3.length g = 0
    · by_cases e2 : tiesF L L.length g = 0
      · rw [if_neg (by omega), e1, e2]
        rfl
      · rw [if_pos ⟨by omega, e1⟩, e1, beq_eq_false_iff_ne.2 e2]
        unfold sigsTo
        rw [if_pos hg]
        rfl
    · rw [if_neg (fun e => e1 e.2), beq_eq_false_iff_ne.2 e1]
      rfl
  · intro g _ hg
    unfold orphD orphB
    rw [hg]
    rfl

theorem grp_left {L : List Pr} {i : Nat} {y : Int} (g : Int) (h : ((L.eraseIdx i).map (adopt y)).any (fun p => p.grp == g) = true) : L.any (fun p => p.grp == g) = true := by
  obtain ⟨p, hp, hg⟩ := List.any_eq_true.1 h
  obtain ⟨t, ht, rfl⟩ := List.mem_map.1 hp
  exact List.any_eq_true.2 ⟨t, List.mem_of_mem_eraseIdx ht, by rw [← (adopt_parts y t).2.1]; exact hg⟩

theorem grp_give {L : List Pr} {y t : Int} (g : Int) (h : (L.map (giveS y t)).any (fun p => p.grp == g) = true) : L.any (fun p => p.grp == g) = true := by
  obtain ⟨p, hp, hg⟩ := List.any_eq_true.1 h
  obtain ⟨u, hu, rfl⟩ := List.mem_map.1 hp
  exact List.any_eq_true.2 ⟨u, hu, by rw [← (giveS_parts y t u).2.2.1]; exact hg⟩

/-- A table that moved on, and signals that are told. -/
def DidS (q : Tq) (L : List Pr) (md : Int) (f : Int → Int) (c : Nat) (S : List Sg) (w : World) (e : Ending) (w' : World) : Prop := ∃ (q' : Tq) (a : Option Addr) (cap : Nat), q'.b = q.b ∧ e = .returned (.slice a S.length cap) ∧ SV w' a cap S ∧ TAt w' q' L md f c ∧ Moved q q' w w' ∧ ∀ j, a.map Addr.block = some j → w.heap.size ≤ j ∧ ¬ q'.own j

theorem Gone.did {g : Nat} {xs : Array Value} {L' : List Pr} {f' : Int → Int} {c' : Nat} {S : List Sg} (h : Calls Try.prog g xs w (Gone q L' md f' c S w)) (hk : Ok L' md f') (hm : md ≤ c) (hc : c ≤ c') : Calls Try.prog g xs w (DidS q L' md f' c' S w) :=
  h.mono (fun e w' hd => by
    obtain ⟨q', a, cap, e1, e2, e3, e4, e5, e6⟩ := hd
    exact ⟨q', a, cap, e1, e2, e3, ⟨e4.more hc, hk, by omega⟩, e5, e6⟩)

theorem both_exit (y : Int) (h : TAt w q L md f c) (hc : c ≤ 2000) : ∃ (L' : List Pr) (f' : Int → Int) (S : List Sg), S.length ≤ 10000 ∧ Calls Try.prog 26 #[.pointer (some ⟨q.b, 0, none⟩), .int .i64 y] w (DidS q L' md f' (c + 1) S w) ∧
    ∀ (w2 : World) (x : Xr), XAt w2 x L f → Calls Try.prog 34 #[.agg #[.slice x.a L.length x.cap, .int .i64 (md + 1), .slice x.a2 65 x.c2], .int .i64 y] w2 (XG4 x L' (md + 1) f' S w2) := by
  have hmc := h.mc
  have hm1 := h.ok.m1
  have hu := h.ok.up
  have hcc : c ≤ c + 1 := Nat.le_succ c
  have hmd : (md + 1 - 1).toNat = md.toNat := by rw [show md + 1 - 1 = md by omega]
  rcases one_or L y with hx | ⟨i, p, hp, hx⟩
  · refine ⟨L, f, [], by simp, (exit26_no y h.tm hx).mono (fun e w' hg => ?_), fun w2 x hX => rexit34_none y (md + 1) hX hx⟩
    obtain ⟨rfl, hs⟩ := hg
    exact ⟨q, none, 0, rfl, rfl, SV.nil _, (h.keep hs).more hcc, Moved.of_stay hs, fun j hj => by cases hj⟩
  subst hx
  cases hl : leadB p
  · have hok := h.ok.gone hp (fun e => by unfold leadB at hl; rw [e] at hl; simp at hl)
    refine ⟨_, f, _, (by rw [tell_eq L _ (fun g hg => grp_left g hg)]; have := tellD_len L ((L.eraseIdx i).map (adopt p.pid)) md.toNat; omega), Gone.did (exit26_nolead p.pid h hp rfl hc hl hok.gd) hok hmc hcc, fun w2 x hX => ?_⟩
    have := rexit34_nolead p.pid (md + 1) hX hu hp rfl _ rfl hok.up (by omega) (by omega) hl
    unfold allS at this
    rw [hmd, ← tell_eq L _ (fun g hg => grp_left g hg), List.nil_append] at this
    exact this
  · cases hy : (p.tty != 0)
    · have hok := h.ok.gone hp (fun _ => by simpa using hy)
      refine ⟨_, f, _, (by rw [tell_eq L _ (fun g hg => grp_left g hg)]; have := tellD_len L ((L.eraseIdx i).map (adopt p.pid)) md.toNat; omega), Gone.did (exit26_notty p.pid h hp rfl hc hl hy hok.gd) hok hmc hcc, fun w2 x hX => ?_⟩
      have := rexit34_notty p.pid (md + 1) hX hu hp rfl _ rfl hok.up (by omega) (by omega) hl hy
      unfold allS at this
      rw [hmd, ← tell_eq L _ (fun g hg => grp_left g hg), List.nil_append] at this
      exact this
    · have ht : p.tty ≠ 0 := by simpa using hy
      have hse : p.ses = p.pid := by unfold leadB at hl; simpa using hl
      have hok := h.ok.goneT hp ht
      have htd := h.ok.td p (mem_at hp)
      have hfg : ((L.eraseIdx i).map (adopt p.pid)).map (freeT p.tty) = ((L.eraseIdx i).map (adopt p.pid)).map (giveS p.pid 0) := by
        refine List.map_congr_left (fun u hu' => ?_)
        obtain ⟨v, hv, rfl⟩ := List.mem_map.1 hu'
        have hvL := List.mem_of_mem_eraseIdx hv
        obtain ⟨a1, a2, a3, a4, a5, _⟩ := adopt_parts p.pid v
        by_cases e : v.tty = p.tty
        · have e2 : v.ses = p.ses := h.ok.ts v hvL p (mem_at hp) (by rw [e]; exact ht) e
          rw [freeT_yes (by rw [a4]; exact e), giveS_yes (by rw [a3, e2, hse])]
        · have e2 : ¬ v.ses = p.pid := fun e3 => e (h.ok.st v hvL p (mem_at hp) (by rw [e3, hse]))
          rw [freeT_no (by rw [a4]; exact e), giveS_no (by rw [a3]; exact e2)]
      have hsub : ∀ g, (((L.eraseIdx i).map (adopt p.pid)).map (giveS p.pid 0)).any (fun p => p.grp == g) = true → L.any (fun p => p.grp == g) = true := fun g hg => grp_left g (grp_give g hg)
      have hP := Gone.did (exit26_lead p.pid h hp rfl hc hl hy hok.gd) hok hmc hcc
      rw [hfg] at hP hok
      refine ⟨_, _, _, ?_, hP, fun w2 x hX => ?_⟩
      · rw [tell_eq L _ hsub, List.length_append]
        have h1 := tellD_len L (((L.eraseIdx i).map (adopt p.pid)).map (giveS p.pid 0)) md.toNat
        have h2 := sigsTo_len ((L.eraseIdx i).map (adopt p.pid)) (f p.tty) [4]
        simp only [List.length_cons, List.length_nil] at h2
        omega
      rw [tell_eq L _ hsub]
      unfold sigsTo
      cases hh : ((L.eraseIdx i).map (adopt p.pid)).any (fun t => t.grp == f p.tty)
      · have := rexit34_leadno p.pid (md + 1) hX hu hp rfl _ rfl _ rfl hok.up (by omega) (by omega) hl hy hh (by omega) (by omega)
        unfold allS at this
        rw [hmd] at this
        exact this
      · have := rexit34_leadhas p.pid (md + 1) hX hu hp rfl _ rfl _ rfl hok.up (by omega) (by omega) hl hy hh (by omega) (by omega)
        unfold allS at this
        rw [hmd] at this
        exact this

theorem both_hang (t : Int) (h : TAt w q L md f c) (_hc : c ≤ 2000) (ht : W64 t) : ∃ (L' : List Pr) (f' : Int → Int) (S : List Sg), S.length ≤ 10000 ∧ Calls Try.prog 27 #[.pointer (some ⟨q.b, 0, none⟩), .int .i64 t] w (DidS q L' md f' (c + 1) S w) ∧
    ∀ (w2 : World) (x : Xr), XAt w2 x L f → Calls Try.prog 35 #[.agg #[.slice x.a L.length x.cap, .int .i64 (md + 1), .slice x.a2 65 x.c2], .int .i64 t] w2 (XG4 x L' (md + 1) f' S w2) := by
  have hmc := h.mc
  have hcc : c ≤ c + 1 := Nat.le_succ c
  have hH := hangup27 t h.tm ht
  by_cases hs : sesI L t = 0
  · have hf : f t = 0 := by
      by_cases e0 : t = 0
      · rw [e0]
        by_cases e : f 0 = 0
        · exact e
        · exact absurd rfl (h.ok.f1 0 e).1
      · have := ses_front h.ok e0
        rw [hs] at this
        simpa using this.symm
    have hL : L.map (freeT t) = L := by
      by_cases e0 : t = 0
      · rw [e0]; exact freeT_zero L
      · refine freeT_none (fun p hp e => ?_)
        exact h.ok.f2 p hp (by rw [e]; exact e0) (by rw [e]; exact hf)
    have hno : L.any (fun p => p.grp == (0 : Int)) = false := List.any_eq_false.2 (fun p hp => by have := (h.ok.gd p hp).1; simp; omega)
    rw [hL, hf, upd_id hf] at hH
    unfold sigsTo at hH
    rw [hno] at hH
    refine ⟨L, f, [], by simp, hH.mono (fun e w' hg => ?_), fun w2 x hX => rhang35_none t (md + 1) hX hs⟩
    obtain ⟨a, cap, e1, e2, e3, e4, e5⟩ := hg
    exact ⟨q, a, cap, rfl, e1, e2, ⟨e3.more hcc, h.ok, by omega⟩, e4, fun j hj => ⟨e5 j hj, fun hq => by have := e5 j hj; have := h.lt j hq; omega⟩⟩
  · have e0 : t ≠ 0 := fun e => hs (by unfold sesI; rw [if_pos e])
    obtain ⟨p, hp, hpt, hps⟩ : ∃ p ∈ L, p.tty = t ∧ p.ses = sesI L t := by
      unfold sesI at hs ⊢
      rw [if_neg e0] at hs ⊢
      cases hf : L.find? (fun p => p.tty == t) with
      | none => rw [hf] at hs; exact absurd rfl hs
      | some p => exact ⟨p, List.mem_of_find?_eq_some hf, by simpa using List.find?_some hf, rfl⟩
    have htd := h.ok.td p hp
    have hfr := h.ok.free hp (by rw [hpt]; exact e0)
    have hfg := h.ok.free_give hp (by rw [hpt]; exact e0)
    rw [hpt] at hfr hfg
    rw [hps] at hfg
    rw [hfg] at hH hfr
    obtain ⟨z, hz⟩ : ∃ z, sesI L t = z := ⟨_, rfl⟩
    rw [hz] at hH hfr hs
    refine ⟨L.map (giveS z 0), upd f t 0, sigsTo (L.map (giveS z 0)) (f t) [4, 5], (by have h2 := sigsTo_len (L.map (giveS z 0)) (f t) [4, 5]; simp only [List.length_cons, List.length_nil] at h2; omega), hH.mono (fun e w' hg => ?_), fun w2 x hX => ?_⟩
    · obtain ⟨a, cap, e1, e2, e3, e4, e5⟩ := hg
      exact ⟨q, a, cap, rfl, e1, e2, ⟨e3.more hcc, hfr, by omega⟩, e4, fun j hj => ⟨e5 j hj, fun hq => by have := e5 j hj; have := h.lt j hq; omega⟩⟩
    · unfold sigsTo
      cases hh : (L.map (giveS z 0)).any (fun p => p.grp == f t)
      · exact rhang35_no t (md + 1) z hX (by omega) (by omega) hz (beq_eq_false_iff_ne.2 hs) _ rfl hh
      · exact rhang35_has t (md + 1) z hX (by omega) (by omega) hz (beq_eq_false_iff_ne.2 hs) _ rfl hh

theorem Ok.out (h : Ok L md f) {t : Int} (ht : ¬ (1 ≤ t ∧ t ≤ 64)) : f t = 0 := by
  by_cases e : f t = 0
  · exact e
  · obtain ⟨e1, p, hp, hpt⟩ := h.f1 t e
    have := h.td p hp
    omega

theorem both_may (y t : Int) (wr ts : Bool) (h : TAt w q L md f c) (hc : c ≤ 2000) (ht : W64 t) : ∃ (n : Int) (K : List Sg), K.length ≤ 1 ∧ Calls Try.prog 11 #[.pointer (some ⟨q.b, 0, none⟩), .int .i64 y, .int .i64 t, .bool wr, .bool ts] w (GivesNS n K w) ∧
    ∀ (w2 : World) (x : Xr), XAt w2 x L f → Calls Try.prog 12 #[.agg #[.slice x.a L.length x.cap, .int .i64 (md + 1), .slice x.a2 65 x.c2], .int .i64 y, .int .i64 t, .bool wr, .bool ts] w2 (GivesNS n K w2) := by
  have hmc := h.mc
  have hu := h.ok.up
  have hw := TM.w64 h (by omega)
  have hf : ¬ (1 ≤ t ∧ t ≤ 64) → f t = 0 := fun hh => h.ok.out hh
  rcases one_or L y with hx | ⟨i, p, hp, hx⟩
  · exact ⟨2, [], by simp, may11_none y t wr ts h.tm hx, fun w2 x hX => rmay12_none y t (md + 1) wr ts hX hx⟩
  cases h0 : (t == 0)
  · cases h1 : (p.tty != t)
    · have hon : onB p t = true := by
        unfold onB bne
        unfold bne at h1
        cases hq : (p.tty == t)
        · rw [hq] at h1; cases h1
        · rw [h0]; rfl
      cases hsame : (p.grp == f t)
      · cases wr
        · cases hdf : p.df
          · cases hor : orphB L p.grp
            · have hk : sigsTo L p.grp [6] = [⟨p.grp, 6⟩] := by
                unfold sigsTo
                rw [if_pos (List.any_eq_true.2 ⟨p, mem_at hp, by simp⟩)]
                rfl
              have hP := may11_E3 y t ts h.tm hp hx ht hw hon hsame hdf hor
              rw [hk] at hP
              exact ⟨1, _, (by simp), hP, fun w2 x hX => rmay12_E3 y t (md + 1) ts hX hu hp hx hf h0 h1 hsame hdf hor⟩
            · exact ⟨2, [], by simp, may11_E2 y t ts h.tm hp hx ht hw hon hsame hdf hor, fun w2 x hX => rmay12_E2 y t (md + 1) ts hX hu hp hx hf h0 h1 hsame hdf hor⟩
          · exact ⟨2, [], by simp, may11_E1 y t ts h.tm hp hx ht hw hon hsame hdf, fun w2 x hX => rmay12_E1 y t (md + 1) ts hX hu hp hx hf h0 h1 hsame hdf⟩
        · cases ts
          · exact ⟨0, [], by simp, may11_C y t h.tm hp hx ht hw hon hsame, fun w2 x hX => rmay12_C y t (md + 1) hX hu hp hx hf h0 h1 hsame⟩
          · cases hdf : p.df
            · cases hor : orphB L p.grp
              · have hk : sigsTo L p.grp [7] = [⟨p.grp, 7⟩] := by
                  unfold sigsTo
                  rw [if_pos (List.any_eq_true.2 ⟨p, mem_at hp, by simp⟩)]
                  rfl
                have hP := may11_F2 y t h.tm hp hx ht hw hon hsame hdf hor
                rw [hk] at hP
                exact ⟨1, _, (by simp), hP, fun w2 x hX => rmay12_F2 y t (md + 1) hX hu hp hx hf h0 h1 hsame hdf hor⟩
              · exact ⟨2, [], by simp, may11_F1 y t h.tm hp hx ht hw hon hsame hdf hor, fun w2 x hX => rmay12_F1 y t (md + 1) hX hu hp hx hf h0 h1 hsame hdf hor⟩
            · exact ⟨0, [], by simp, may11_D y t h.tm hp hx ht hw hon hsame hdf, fun w2 x hX => rmay12_D y t (md + 1) hX hu hp hx hf h0 h1 hsame hdf⟩
      · exact ⟨0, [], by simp, may11_B y t wr ts h.tm hp hx ht hw hon hsame, fun w2 x hX => rmay12_B y t (md + 1) wr ts hX hu hp hx hf h0 h1 hsame⟩
    · have hon : onB p t = false := by
        unfold onB
        unfold bne at h1
        cases hq : (p.tty == t)
        · rw [Bool.and_false]
        · rw [hq] at h1; cases h1
      exact ⟨0, [], by simp, may11_A y t wr ts h.tm hp hx ht hw hon, fun w2 x hX => rmay12_A2 y t (md + 1) wr ts hX hu hp hx hf h0 h1⟩
  · have hon : onB p t = false := by
      unfold onB bne
      rw [h0]
      rfl
    exact ⟨0, [], by simp, may11_A y t wr ts h.tm hp hx ht hw hon, fun w2 x hX => rmay12_A1 y t (md + 1) wr ts hX hu hp hx hf h0⟩

end Go.Proofs.Ytefpifnfinkbaaa
