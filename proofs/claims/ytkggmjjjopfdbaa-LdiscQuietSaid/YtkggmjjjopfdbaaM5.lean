/-
  A discipline that shows nothing beside one that does: plain. No conditions.
-/
import Derived.Test.YtkggmjjjopfdbaaM4
namespace Go.Proofs.Ytkggmjjjopfdbaa
open Go.RowKit
open L17

/-- The same, quiet. -/
def qt (a : DS) (e : List Int) : DS := ⟨pl 621, a.line, a.lines, a.raw, a.stp, a.nxt, e⟩

theorem isB_621 (k : Int) (c : Int) : isB (pl 621) k c = isB (pl 623) k c := rfl

theorem loc_l {a : DS} (h : a.t = pl 623) (f : Int) : a.loc f = hasB 623 f := by unfold DS.loc; rw [h]; rfl
theorem loc_q (a : DS) (e : List Int) (f : Int) : (qt a e).loc f = hasB 621 f := rfl
theorem q1 : hasB 621 1 = true ∧ hasB 621 2 = false ∧ hasB 621 4 = true ∧ hasB 621 8 = true ∧ hasB 621 16 = false ∧ hasB 621 64 = true ∧ hasB 621 128 = false ∧ hasB 621 512 = true := by decide
theorem l1 : hasB 623 1 = true ∧ hasB 623 2 = true ∧ hasB 623 4 = true ∧ hasB 623 8 = true ∧ hasB 623 16 = false ∧ hasB 623 64 = true ∧ hasB 623 128 = false ∧ hasB 623 512 = true := by decide

theorem t_shw (a : DS) (c : Int) : (a.shw c).t = a.t := by unfold DS.shw; split <;> rfl
theorem t_lost (a : DS) : a.lost.t = a.t := by unfold DS.lost; split <;> rfl
theorem t_nl (a : DS) (c : Int) : (a.nl c).t = a.t := by unfold DS.nl; split <;> rfl
theorem t_lay (a : DS) (c : Int) : (a.lay c).t = a.t := by unfold DS.lay; split <;> rfl
theorem t_put (a : DS) (c : Int) : (a.put c).t = a.t := by
  unfold DS.put
  split
  · rw [t_shw, t_nl, t_lay]
  · exact t_lost a
theorem t_ready (a : DS) : a.ready.t = a.t := by
  unfold DS.ready
  split
  · rw [t_lost]; rfl
  · rfl
theorem t_backs (p : Int → Bool) : ∀ (n : Nat) (a : DS), (DS.backs p n a).t = a.t
  | 0, _ => rfl
  | n + 1, a => by
    show (if a.line = [] then a else if p (a.line.getLastD 0) = true then DS.backs p n a.back else a).t = a.t
    split
    · rfl
    · split
      · rw [t_backs p n]; rfl
      · rfl

theorem qt_shw (a : DS) (c : Int) (e : List Int) : qt (a.shw c) e = qt a e := by unfold DS.shw; split <;> rfl
theorem shw_qt (a : DS) (c : Int) (e : List Int) : (qt a e).shw c = qt a e := by
  unfold DS.shw
  rw [if_neg (by rw [loc_q, q1.2.1]; simp)]
theorem lost_qt (a : DS) (e : List Int) : (qt a e).lost = qt a.lost (e ++ [7]) := by
  have h : qt a.lost (e ++ [7]) = qt a (e ++ [7]) := by unfold DS.lost; split <;> rfl
  rw [h, lost_84 _ rfl]
  rfl
theorem ends_qt {a : DS} (h : a.t = pl 623) (e : List Int) (c : Int) : (qt a e).ends c = a.ends c := by unfold DS.ends; rw [h]; rfl
theorem room_qt {a : DS} (h : a.t = pl 623) (e : List Int) (c : Int) : (qt a e).room c = a.room c := by
  unfold DS.room
  rw [ends_qt h, loc_l h, loc_q, q1.1, l1.1]
  rfl
theorem lay_qt {a : DS} (h : a.t = pl 623) (e : List Int) (c : Int) : (qt a e).lay c = qt (a.lay c) e := by
  unfold DS.lay
  rw [loc_l h, loc_q, if_pos q1.1, if_pos l1.1]
  rfl
theorem nl_qt (a : DS) (e : List Int) (c : Int) : (qt a e).nl c = qt a e := by
  unfold DS.nl
  rw [if_neg (fun k => by have := k.2.2.1; rw [loc_q, q1.2.2.2.2.1] at this; cases this)]
theorem qt_nl (a : DS) (c : Int) (e : List Int) : qt (a.nl c) e = qt a e := by unfold DS.nl; split <;> rfl

theorem put_qt {a : DS} (h : a.t = pl 623) (c : Int) : (qt a []).put c = qt (a.put c) (if a.room c = true then [] else [7]) := by
  unfold DS.put
  rw [room_qt h]
  by_cases hr : a.room c = true
  · rw [if_pos hr, if_pos hr, if_pos hr, lay_qt h, nl_qt, shw_qt, qt_shw, qt_nl]
  · rw [if_neg hr, if_neg hr, if_neg hr, lost_qt]
    rfl

theorem back_qt (a : DS) (e : List Int) : (qt a e).back = qt a.back e := by
  unfold DS.back DS.rub
  rw [if_neg (fun k => by have := k.1; rw [loc_q, q1.2.1] at this; cases this)]
  show qt _ (e ++ []) = _
  rw [List.append_nil]
  rfl

theorem backs_qt (p : Int → Bool) : ∀ (n : Nat) (a : DS) (e : List Int), DS.backs p n (qt a e) = qt (DS.backs p n a) e
  | 0, _, _ => rfl
  | n + 1, a, e => by
    show (if a.line = [] then qt a e else if p (a.line.getLastD 0) = true then DS.backs p n (qt a e).back else qt a e) = qt (if a.line = [] then a else if p (a.line.getLastD 0) = true then DS.backs p n a.back else a) e
    split
    · rfl
    · split
      · rw [back_qt, backs_qt p n]
      · rfl

theorem ready_qt (a : DS) : (qt a []).ready = qt a.ready (if (a.setLine []).cnt + a.line.length > 1024 then [7] else []) := by
  unfold DS.ready
  by_cases hs : (a.setLine []).cnt + a.line.length > 1024
  · have hs2 : ((qt a []).setLine []).cnt + (qt a []).line.length > 1024 := hs
    rw [if_pos hs2, if_pos hs, if_pos hs]
    exact lost_qt (a.setLine []) []
  · have hs2 : ¬ ((qt a []).setLine []).cnt + (qt a []).line.length > 1024 := hs
    rw [if_neg hs2, if_neg hs, if_neg hs]
    rfl

theorem shows_qt : ∀ (l : List Int) (a : DS) (e : List Int), DS.shows l (qt a e) = qt a e
  | [], _, _ => rfl
  | c :: l, a, e => by
    show DS.shows l ((qt a e).shw c) = _
    rw [shw_qt, shows_qt l]
theorem qt_shows : ∀ (l : List Int) (a : DS) (e : List Int), qt (DS.shows l a) e = qt a e
  | [], _, _ => rfl
  | c :: l, a, e => by
    show qt (DS.shows l (a.shw c)) e = _
    rw [qt_shows l, qt_shw]

/-- Nothing is shown, or the bell. -/
def Bell (e : List Int) : Prop := e = [] ∨ e = [7]

theorem bell_if (p : Prop) [Decidable p] : Bell (if p then [] else [7]) := by
  by_cases h : p
  · rw [if_pos h]; exact .inl rfl
  · rw [if_neg h]; exact .inr rfl
theorem bell_fi (p : Prop) [Decidable p] : Bell (if p then [7] else []) := by
  by_cases h : p
  · rw [if_pos h]; exact .inr rfl
  · rw [if_neg h]; exact .inl rfl

theorem enter_qt {a : DS} (h : a.t = pl 623) (c : Int) : ∃ e, Bell e ∧ (qt a []).enter c = qt (a.enter c) e := by
  unfold DS.enter
  rw [room_qt h, ends_qt h, put_qt h]
  by_cases hc : a.room c = true ∧ a.ends c = true
  · rw [if_pos hc, if_pos hc, if_pos hc.1, ready_qt]
    exact ⟨_, bell_fi _, rfl⟩
  · rw [if_neg hc, if_neg hc]
    exact ⟨_, bell_if _, rfl⟩

theorem kills_qt {a : DS} (h : a.t = pl 623) (c : Int) : (qt a []).kills c = qt (a.kills c) [] := by
  unfold DS.kills
  rw [h]
  show (if isB (pl 623) 5 c = false ∧ (qt a []).loc 8 = true ∧ (qt a []).loc 2 = true then _ else (if (qt a []).loc 4 = false then (DS.backs (fun _ => true) (if isB (pl 623) 5 c = true then 1 else a.line.length) (qt a [])).shw c else DS.backs (fun _ => true) (if isB (pl 623) 5 c = true then 1 else a.line.length) (qt a []))) = _
  rw [if_neg (fun k => by have := k.2.2; rw [loc_q, q1.2.1] at this; cases this), if_neg (by rw [loc_q, q1.2.2.1]; simp), backs_qt]
  simp only
  rw [if_neg (show ¬ a.loc 4 = false by rw [loc_l h, l1.2.2.1]; simp)]
  generalize DS.backs (fun _ => true) _ a = b
  by_cases hq : isB (pl 623) 5 c = false ∧ a.loc 8 = true ∧ a.loc 2 = true
  · rw [if_pos hq]; rfl
  · rw [if_neg hq]

theorem again_qt {a : DS} (_h : a.t = pl 623) (c : Int) : (qt a []).again c = qt (a.again c) [] := by
  unfold DS.again
  simp only
  rw [qt_shows, shw_qt]
  rw [if_neg (by rw [loc_q, q1.2.1]; simp), shows_qt]
  split
  · show qt a [] = qt (a.shw c) []
    rw [qt_shw]
  · rw [qt_shw]

theorem canon_qt {a : DS} (h : a.t = pl 623) (c : Int) : ∃ e, Bell e ∧ (qt a []).canon c = qt (a.canon c) e := by
  unfold DS.canon
  have l5 : (qt a []).loc 512 = true := q1.2.2.2.2.2.2.2
  have k5 : a.loc 512 = true := by rw [loc_l h]; exact l1.2.2.2.2.2.2.2
  have l2 : (qt a []).loc 2 = false := q1.2.1
  rw [h, l5, k5, l2]
  have ht : (qt a []).t = pl 621 := rfl
  rw [ht]
  rw [isB_621 9, isB_621 7, isB_621 8, isB_621 5, isB_621 6, isB_621 3]
  simp only [true_and, Bool.false_eq_true, if_false]
  by_cases h9 : isB (pl 623) 9 c = true
  · rw [if_pos h9, if_pos h9]
    refine ⟨[], .inl rfl, ?_⟩
    split <;> rfl
  rw [if_neg h9, if_neg h9]
  by_cases h7 : isB (pl 623) 7 c = true
  · rw [if_pos h7, if_pos h7]
    refine ⟨[], .inl rfl, ?_⟩
    have hl : (qt a []).line = a.line := rfl
    rw [hl, backs_qt, backs_qt]
    rfl
  rw [if_neg h7, if_neg h7]
  by_cases h8 : isB (pl 623) 8 c = true
  · rw [if_pos h8, if_pos h8]
    exact ⟨[], .inl rfl, again_qt h c⟩
  rw [if_neg h8, if_neg h8]
  by_cases h5 : isB (pl 623) 5 c = true ∨ isB (pl 623) 6 c = true
  · rw [if_pos h5, if_pos h5]
    exact ⟨[], .inl rfl, kills_qt h c⟩
  rw [if_neg h5, if_neg h5]
  by_cases h3 : isB (pl 623) 3 c = true
  · rw [if_pos h3, if_pos h3, ready_qt]
    exact ⟨_, bell_fi _, rfl⟩
  rw [if_neg h3, if_neg h3]
  exact enter_qt h c

theorem sigOf_qt {a : DS} (h : a.t = pl 623) (c : Int) : (qt a []).sigOf c = a.sigOf c := by
  unfold DS.sigOf
  rw [h, loc_l h, loc_q, q1.2.2.2.2.2.1, l1.2.2.2.2.2.1]
  rfl

theorem signal_qt {a : DS} (h : a.t = pl 623) (c : Int) : (qt a []).signal c = qt (a.signal c) [] := by
  unfold DS.signal
  rw [shw_qt, if_pos (show (qt a []).loc 128 = false from q1.2.2.2.2.2.2.1), if_pos (show (a.shw c).loc 128 = false by rw [loc_l (by rw [t_shw]; exact h)]; exact l1.2.2.2.2.2.2.1)]
  have hx : (a.shw c).nxt = a.nxt := by unfold DS.shw; split <;> rfl
  show (⟨pl 621, [], [], [], false, a.nxt, []⟩ : DS) = ⟨pl 621, [], [], [], false, (a.shw c).nxt, []⟩
  rw [hx]

theorem plainIn_qt {a : DS} (h : a.t = pl 623) (c : Int) : ∃ e, Bell e ∧ (qt a []).plainIn c = (qt (a.plainIn c).1 e, (a.plainIn c).2) := by
  unfold DS.plainIn
  rw [sigOf_qt h]
  by_cases hs : a.sigOf c < 3
  · rw [if_pos hs, if_pos hs, signal_qt h]
    exact ⟨[], .inl rfl, rfl⟩
  · rw [if_neg hs, if_neg hs, if_neg (by rw [loc_q, q1.1]; simp), if_neg (by rw [loc_l h, l1.1]; simp)]
    obtain ⟨e, he, hq⟩ := canon_qt h c
    rw [hq]
    exact ⟨e, he, rfl⟩

theorem input_qt {a : DS} (h : a.t = pl 623) (e0 : List Int) (c : Int) : ∃ e, Bell e ∧ (qt a e0).input c = (qt (a.input c).1 e, (a.input c).2) := by
  unfold DS.input
  simp only
  have hn : (qt a e0).nxt = a.nxt := rfl
  rw [hn, h]
  by_cases hx : a.nxt = true
  · rw [if_pos hx, if_pos hx]
    have hp := put_qt (a := (a.setEc []).setNxt false) h (low (pl 623).fi c)
    refine ⟨_, bell_if _, Prod.ext hp rfl⟩
  · rw [if_neg hx, if_neg hx]
    have hm : mapI (qt a e0).t.fi c = mapI (pl 623).fi c := rfl
    rw [hm]
    by_cases hl : mapI (pl 623).fi c < 0
    · rw [if_pos hl, if_pos hl]
      exact ⟨[], .inl rfl, rfl⟩
    · rw [if_neg hl, if_neg hl]
      show ∃ e, Bell e ∧ (qt (a.setEc []) []).mapped _ = _
      have h : (a.setEc []).t = pl 623 := h
      generalize a.setEc [] = b at h
      generalize mapI (pl 623).fi c = y
      unfold DS.mapped
      have i16 : (qt b []).inp 16 = true := by show hasB 84 16 = true; decide
      have j16 : b.inp 16 = true := by unfold DS.inp; rw [h]; decide
      have i32 : (qt b []).inp 32 = false := by show hasB 84 32 = false; decide
      have j32 : b.inp 32 = false := by unfold DS.inp; rw [h]; decide
      have ht : (qt b []).t = pl 621 := rfl
      rw [i16, j16, i32, j32, ht, h]
      rw [isB_621 11, isB_621 10]
      simp only [true_and, Bool.false_eq_true, and_false, if_false]
      split
      · exact ⟨[], .inl rfl, rfl⟩
      · exact plainIn_qt h y

theorem t_enter (a : DS) (c : Int) : (a.enter c).t = a.t := by
  unfold DS.enter
  split
  · rw [t_ready, t_put]
  · exact t_put a c

theorem t_shows : ∀ (l : List Int) (a : DS), (DS.shows l a).t = a.t
  | [], _ => rfl
  | c :: l, a => by
    show (DS.shows l (a.shw c)).t = _
    rw [t_shows l, t_shw]

theorem t_kills (a : DS) (c : Int) : (a.kills c).t = a.t := by
  have h1 : ∀ n, (DS.backs (fun _ => true) n a).t = a.t := fun n => t_backs _ n a
  have h2 : ∀ b : DS, b.t = a.t → (if a.loc 4 = false then b.shw c else b).t = a.t := fun b hb => by
    split
    · rw [t_shw]; exact hb
    · exact hb
  unfold DS.kills
  simp only
  split
  · exact h2 _ (h1 _)
  · exact h2 _ (h1 _)

theorem t_again (a : DS) (c : Int) : (a.again c).t = a.t := by
  unfold DS.again
  simp only
  rw [t_shows]
  split
  · exact t_shw a c
  · exact t_shw a c

theorem t_canon (a : DS) (c : Int) : (a.canon c).t = a.t := by
  unfold DS.canon
  split
  · split <;> rfl
  split
  · rw [t_backs, t_backs]
  split
  · exact t_again a c
  split
  · exact t_kills a c
  split
  · exact t_ready a
  · exact t_enter a c

theorem t_plainIn (a : DS) (c : Int) : (a.plainIn c).1.t = a.t := by
  unfold DS.plainIn
  split
  · show (a.signal c).t = a.t
    unfold DS.signal
    split
    · exact t_shw a c
    · exact t_shw a c
  split
  · exact t_put a c
  · exact t_canon a c

theorem t_input (a : DS) (c : Int) : (a.input c).1.t = a.t := by
  unfold DS.input
  simp only
  split
  · exact t_put _ _
  split
  · rfl
  · unfold DS.mapped
    split
    · rfl
    split
    · exact t_plainIn _ _
    · exact t_plainIn _ _

/-- All that the statement compares. -/
theorem quiet_one {a : DS} (h : a.t = pl 623) (e0 : List Int) (c : Int) : (a.input c).1.t = pl 623 ∧ ∃ e, Bell e ∧ (qt a e0).input c = (qt (a.input c).1 e, (a.input c).2) := ⟨(t_input a c).trans h, input_qt h e0 c⟩

theorem ok_qt {N : Nat} {a : DS} (h : Ok N a) (ht : a.t = pl 623) (e : List Int) : Ok N (qt a e) :=
  ⟨by show rightB (pl 621) = true; decide +kernel, h.line, h.raw, h.flat, h.lines, fun _ => h.canon (by rw [loc_l ht]; exact l1.1), fun k => Bool.noConfusion (q1.1.symm.trans k)⟩

theorem right_621 : rightB (pl 621) = true := by decide +kernel

end Go.Proofs.Ytkggmjjjopfdbaa
