/-
  A read that waits: what each function does, walked. No conditions.
-/
import Derived.Test.YtdhlgjkjdmejfaaB0
import Derived.Lib.MinMax
import Derived.BigQuiet
namespace Go.Proofs.Ytdhlgjkjdmejfaa
open Go.RowKit

/-- A read in a box of its own, over the oldest world. -/
structure At (W0 w : World) (b : Nat) (r : Wt) : Prop where
  box : WBox w b r
  new : W0.heap.size ≤ b
  stay : Stay (fun _ => False) W0 w

theorem At.keep {W0 w w1 : World} {b : Nat} {r : Wt} (h : At W0 w b r) (hs : Stay (fun _ => False) w w1) : At W0 w1 b r := ⟨h.box.keep hs, h.new, h.stay.trans hs⟩

theorem At.put {W0 w w1 : World} {b : Nat} {r q : Wt} (h : At W0 w b r) (hs : Stay (fun j => j = b) w w1) (hb : WBox w1 b q) : At W0 w1 b q :=
  ⟨hb, h.new, h.stay.trans2 hs (fun j hj e => by have := h.new; omega)⟩

/-- What is answered, and what the read is then. -/
def Does (W0 : World) (b : Nat) (r : Wt) (v : Value) (e : Ending) (w' : World) : Prop := e = .returned v ∧ At W0 w' b r

theorem Gives.does {W0 w : World} {b : Nat} {r : Wt} {v : Value} {f : Nat} {xs : Array Value} (hA : At W0 w b r) (h : Calls Try.prog f xs w (Gives v w)) : Calls Try.prog f xs w (Does W0 b r v) :=
  h.mono (fun _ _ h => ⟨h.1, hA.keep h.2⟩)

theorem late17 (b : Nat) (r : Wt) (w : World) (h : WBox w b r) : Calls Try.prog 17 #[.pointer (some ⟨b, 0, none⟩)] w (Gives (.bool (lateW r)) w) := by
  obtain ⟨mi, ti, wa, ha, qu⟩ := r
  have HS := hide' (Stay.refl (fun _ => False) w)
  obtain ⟨c0, c1, c2, c3, c4, _⟩ := h
  simp only at c0 c1 c2 c3 c4
  clear c0 c2 c3
  go_enter Try.func17, Try.ntmps17
  go_wp2_with fail
  go_quiet (fail)
  go_wp2
  go_ret
  exact ⟨rfl, HS.out.drewN _⟩

theorem full16 (b : Nat) (r : Wt) (w : World) (h : WBox w b r) : Calls Try.prog 16 #[.pointer (some ⟨b, 0, none⟩)] w (Gives (.bool (fullW r)) w) := by
  obtain ⟨mi, ti, wa, ha, qu⟩ := r
  have HS := hide' (Stay.refl (fun _ => False) w)
  obtain ⟨c0, c1, c2, c3, c4, _⟩ := h
  simp only at c0 c1 c2 c3 c4
  clear c1 c4
  by_cases hd : mi ≤ ha
  · have h1 : decide (mi ≤ ha) = true := decide_eq_true hd
    go_enter Try.func16, Try.ntmps16
    go_wp2_with fail
    go_quiet (fail)
    go_wp2
    go_ret
    exact ⟨by unfold fullW; rw [h1]; rfl, HS.out.drewN _⟩
  · have h1 : decide (mi ≤ ha) = false := decide_eq_false hd
    go_enter Try.func16, Try.ntmps16
    go_wp2_with fail
    go_quiet (fail)
    go_wp2
    go_ret
    exact ⟨by unfold fullW; rw [h1]; rfl, HS.out.drewN _⟩

theorem within14 (n t : Int) (w : World) : Calls Try.prog 14 #[.int .i64 n, .int .i64 t] w (Gives (.bool (decide (0 ≤ n) && decide (n ≤ t))) w) := by
  have HS := hide' (Stay.refl (fun _ => False) w)
  by_cases h : 0 ≤ n
  · have h1 : decide (0 ≤ n) = true := decide_eq_true h
    go_enter Try.func14, Try.ntmps14
    go_wp2
    go_ret
    exact ⟨by first | rfl | (rw [h1]; rfl), HS.out⟩
  · have h1 : decide (0 ≤ n) = false := decide_eq_false h
    go_enter Try.func14, Try.ntmps14
    go_wp2
    go_ret
    exact ⟨by first | rfl | (rw [h1]; rfl), HS.out⟩

theorem count10 (b : Nat) (r : Wt) (w : World) (h : WBox w b r) : Calls Try.prog 10 #[.pointer (some ⟨b, 0, none⟩)] w (Gives (.int .i64 r.ha) w) := by
  obtain ⟨mi, ti, wa, ha, qu⟩ := r
  have HS := hide' (Stay.refl (fun _ => False) w)
  obtain ⟨c0, c1, c2, c3, c4, _⟩ := h
  simp only at c0 c1 c2 c3 c4
  clear c0 c1 c2 c4
  go_enter Try.func10, Try.ntmps10
  go_wp2
  go_ret
  exact ⟨rfl, HS.out⟩

theorem add15 (W0 : World) (b : Nat) (r : Wt) (n : Int) (w : World) (h : At W0 w b r) (h0 : 0 ≤ r.ha) (h1 : r.ha ≤ 1048576) (h2 : 0 ≤ n) (h3 : n ≤ 1048576) : Calls Try.prog 15 #[.pointer (some ⟨b, 0, none⟩), .int .i64 n] w (Does W0 b (addW r n) (.tuple #[])) := by
  obtain ⟨mi, ti, wa, ha, qu⟩ := r
  obtain ⟨x, hx⟩ : ∃ x, x = ha + n := ⟨_, rfl⟩
  simp only at h0 h1
  have e1 : IntKind.i64.wrap (ha + n) = x := by rw [IntKind.wrap_i64]; omega
  have HH := hide' h
  have HX := hide' hx
  obtain ⟨c0, c1, c2, c3, c4, f0, f1, f2, f3, f4⟩ := h.box
  simp only at c0 c1 c2 c3 c4
  have HG : Hid (∀ w', Stay (fun _ => False) w w' → At W0 (w'.setCell ⟨b, 3, none⟩ (.int .i64 (min x wa))) b ⟨mi, ti, wa, min x wa, qu⟩) := fun w' hs => (HH.out.keep hs).put ((Stay.refl (fun j => j = b) w').setCell (p := ⟨b, 3, none⟩) rfl _) ((HH.out.keep hs).box.put3 rfl)
  clear h c0 c1 c4 f0 f1 f2 f4 h0 h1 h2 h3 hx
  go_enter Try.func15, Try.ntmps15
  go_wp2_with fail
  go_region
  all_goals
    go_wp2
    go_returns
    rw [show addW ⟨mi, ti, wa, ha, qu⟩ n = ⟨mi, ti, wa, min x wa, qu⟩ from by unfold addW; rw [HX.out]]
    exact ⟨rfl, HG.out _ ((Stay.refl _ _).drewN _)⟩


end Go.Proofs.Ytdhlgjkjdmejfaa
