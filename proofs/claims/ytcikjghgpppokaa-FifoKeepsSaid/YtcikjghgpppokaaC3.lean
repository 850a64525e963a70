/-
  The first number is taken: walked. No conditions.
-/
import Derived.Test.YtcikjghgpppokaaC2
namespace Go.Proofs.Ytcikjghgpppokaa
open Go.RowKit

/-- The queue without its first number. -/
def Qu.took (q : Qu) : Qu := ⟨q.b, q.v, q.c, (q.f + 1) % q.c, q.n - 1, q.r, q.k, q.p - 1, q.z⟩

theorem RingAt.stay {T : Nat → Prop} {w w1 : World} {b c : Nat} {v : Value} {g : Nat → Int} (h : RingAt w b v c g) (hs : Stay T w w1) (hn : ∀ j, v.ownBlock = some j → ¬ T j) : RingAt w1 b v c g := by
  rcases h with h | ⟨rb, e, h1, h2, h3⟩
  · exact .inl h
  · exact .inr ⟨rb, e, h1, h2, hs.row h3 (hn rb (by rw [e]; rfl))⟩

theorem RingAt.ne {w : World} {b c : Nat} {v : Value} {g : Nat → Int} (h : RingAt w b v c g) : ∀ j, v.ownBlock = some j → ¬ j = b := by
  intro j hj e
  rcases h with ⟨h, _⟩ | ⟨rb, h, h1, _, _⟩
  · rw [h] at hj; cases hj
  · rw [h] at hj; cases hj; exact h1 e

theorem QAt.took {w w1 : World} {q : Qu} {L : List Int} (h : QAt w q L) (hn : 0 < q.n) (hs : Stay (fun j => j = q.b) w w1) (hb : QBox w1 q.b q.took.bx) : QAt w1 q.took L.tail := by
  obtain ⟨g, hg, he⟩ := h.ring
  have h1 := h.n1
  have h2 := h.p1
  have h3 := h.m1
  refine ⟨hb, ⟨g, hg.stay hs hg.ne, fun i hi => ?_⟩, ?_, .inl (Nat.mod_lt _ (by omega)), ?_, h.c1, h.r1, h.r2, ?_, ?_, h.z1⟩
  · show g (((q.f + 1) % q.c + i) % q.c) = _
    have hi' : i < q.n - 1 := hi
    rw [Nat.mod_add_mod, show q.f + 1 + i = q.f + (i + 1) by omega, he (i + 1) (by omega)]
    cases L with
    | nil => rfl
    | cons x l => simp
  · rw [List.length_tail, h.len]; rfl
  · show q.n - 1 ≤ q.c; omega
  · show q.p - 1 ≤ q.n - 1; omega
  · show q.n - 1 ≤ q.r ∨ (0 < q.p - 1 ∧ q.n - 1 = q.r + 1); omega

theorem take9_no (q : Qu) (L : List Int) (w : World) (hq : QAt w q L) (hn : q.n = 0) : Calls Try.prog 9 #[.pointer (some ⟨q.b, 0, none⟩)] w (Gives (.tuple #[.int .i64 0, .bool false]) w) := by
  have HL := hide' (len8 q w hq.box)
  rw [hn] at HL
  clear hq hn
  go_enter Try.func9, Try.ntmps9
  go_wp2_with fail
  refine (HL.out).mono ?_
  rintro e w1 ⟨rfl, hs⟩
  have HS := hide' hs
  clear hs HL
  go_wp2
  go_returns
  exact ⟨rfl, HS.out⟩

theorem take9 (q : Qu) (L : List Int) (w : World) (hq : QAt w q L) (hn : 0 < q.n) : Calls Try.prog 9 #[.pointer (some ⟨q.b, 0, none⟩)] w fun e w' => e = .returned (.tuple #[.int .i64 (L.getD 0 0), .bool true]) ∧ Stay (fun j => j = q.b) w w' ∧ QAt w' q.took L.tail := by
  have h1 := hq.n1
  have h2 := hq.p1
  have h3 := hq.c1
  have h4 := hq.r2
  obtain ⟨g, hg, he⟩ := hq.ring
  rcases hg with ⟨_, hc⟩ | ⟨rb, hv, hne, hc, hrow⟩
  · omega
  have hfc : q.f < q.c := by rcases hq.f1 with h | h <;> omega
  have hx : g q.f = L.getD 0 0 := by rw [← he 0 hn, Nat.add_zero, Nat.mod_eq_of_lt hfc]
  obtain ⟨x, hxx⟩ : ∃ x, x = L.getD 0 0 := ⟨_, rfl⟩
  rw [← hxx] at hx
  rw [← hxx]
  have hel : w.cell? ⟨rb, q.f, none⟩ = some (.int .i64 x) := by rw [← hx]; exact hrow.cell hfc
  have HEL := hide' hel
  have HL := hide' (len8 q w hq.box)
  obtain ⟨fs, hfs⟩ : ∃ s, s = (q.f + 1) % q.c := ⟨_, rfl⟩
  have HAT := hide' (fun w h => at14 q 1 fs q.c (some ⟨rb, 0, none⟩) w h hv hc (by omega) (by omega) (by omega) hfs)
  have HFS := hide' hfs
  obtain ⟨m, hm⟩ : ∃ m, m = q.n - 1 := ⟨_, rfl⟩
  have e1 : IntKind.i64.wrap ((q.n : Int) - 1) = (m : Nat) := by rw [IntKind.wrap_i64]; omega
  have HM := hide' hm
  obtain ⟨p, hp⟩ : ∃ m, m = q.p - 1 := ⟨_, rfl⟩
  have HP := hide' hp
  have HV := hide' hv
  have HQ := hide' hq
  have i1 : ¬ ((q.n : Nat) : Int) = 0 := by omega
  have i2 : (q.f : Int) < (q.c : Nat) := by omega
  by_cases hp0 : 0 < q.p
  · have i3 : (0 : Int) < (q.p : Nat) := by omega
    have e2 : IntKind.i64.wrap ((q.p : Int) - 1) = (p : Nat) := by rw [IntKind.wrap_i64]; omega
    have HP0 := hide' hp0
    have HN := hide' hn
    clear hfs hm hp hv hq he hrow hx hxx hel hn hp0 hfc hne h1 h2 h3 h4 hc
    go_enter Try.func9, Try.ntmps9
    go_wp2_with fail
    refine (HL.out).mono ?_
    rintro e w1 ⟨rfl, hs⟩
    have HS1 := hide' hs
    have HB := hide' (HQ.out.box.keep hs)
    have hel1 := keep_cell hs HEL.out
    clear hs HL
    obtain ⟨b0, b1, b2, b3, b4, b5, b6, f0, f1, f2, f3, f4, f5, f6⟩ := HB.out
    simp only [Qu.bx] at b0 b1 b2 b3 b4 b5 b6
    rw [HV.out] at b0
    go_wp2
    go_quiet (fail)
    have HB2 : Hid (QBox (w1.drewN nq) q.b q.bx) := HB.out.keep ((Stay.refl _ _).drewN _)
    have HS2 : Hid (Stay (fun _ => False) w (w1.drewN nq)) := HS1.out.drewN _
    obtain ⟨w2, hw2⟩ : ∃ x, x = w1.drewN nq := ⟨_, rfl⟩
    rw [← hw2] at HB2 HS2
    try rw [← hw2]
    clear hw2 HS1 HB b0 b1 b2 b3 b4 b5 b6 f0 f1 f2 f3 f4 f5 f6 hel1
    go_wp2_with fail
    refine (HAT.out _ HB2.out).mono ?_
    rintro e w3 ⟨rfl, hs⟩
    have HS3 := hide' (HS2.out.trans hs)
    have HB3 := hide' (HB2.out.keep hs)
    clear hs HB2 HS2 HAT
    obtain ⟨b0, b1, b2, b3, b4, b5, b6, f0, f1, f2, f3, f4, f5, f6⟩ := HB3.out
    simp only [Qu.bx] at b0 b1 b2 b3 b4 b5 b6
    go_wp2
    go_returns
    generalize hW : World.setCell (World.setCell (World.setCell _ _ _) _ _) _ _ = W
    have hst : Stay (fun j => j = q.b) w W := (HS3.out.mono (fun _ _ h => h.elim)).trans (by rw [← hW]; exact ((((Stay.refl (fun j => j = q.b) w3).setCell (p := ⟨q.b, 1, none⟩) rfl _).setCell (p := ⟨q.b, 2, none⟩) rfl _).setCell (p := ⟨q.b, 5, none⟩) rfl _))
    have hb1 := HB3.out.put1 (x := (fs : Nat)) (q := ⟨q.v, (fs : Nat), (q.n : Nat), (q.r : Nat), q.k, (q.p : Nat), (q.z : Nat)⟩) rfl
    have hb2 := hb1.put2 (x := (m : Nat)) (q := ⟨q.v, (fs : Nat), (m : Nat), (q.r : Nat), q.k, (q.p : Nat), (q.z : Nat)⟩) rfl
    have hb3 := hb2.put5 (x := (p : Nat)) (q := ⟨q.v, (fs : Nat), (m : Nat), (q.r : Nat), q.k, (p : Nat), (q.z : Nat)⟩) rfl
    rw [hW] at hb3
    exact ⟨rfl, hst, HQ.out.took HN.out hst (by rw [show q.took.bx = _ from rfl]; unfold Qu.bx Qu.took; rw [← HFS.out, ← HM.out, ← HP.out]; exact hb3)⟩
  · have i3 : ¬ (0 : Int) < (q.p : Nat) := by omega
    have HP0 := hide' hp0
    have HN := hide' hn
    clear hfs hm hp hv hq he hrow hx hxx hel hn hp0 hfc hne h1 h2 h3 h4 hc
    go_enter Try.func9, Try.ntmps9
    go_wp2_with fail
    refine (HL.out).mono ?_
    rintro e w1 ⟨rfl, hs⟩
    have HS1 := hide' hs
    have HB := hide' (HQ.out.box.keep hs)
    have hel1 := keep_cell hs HEL.out
    clear hs HL
    obtain ⟨b0, b1, b2, b3, b4, b5, b6, f0, f1, f2, f3, f4, f5, f6⟩ := HB.out
    simp only [Qu.bx] at b0 b1 b2 b3 b4 b5 b6
    rw [HV.out] at b0
    go_wp2
    go_quiet (fail)
    have HB2 : Hid (QBox (w1.drewN nq) q.b q.bx) := HB.out.keep ((Stay.refl _ _).drewN _)
    have HS2 : Hid (Stay (fun _ => False) w (w1.drewN nq)) := HS1.out.drewN _
    obtain ⟨w2, hw2⟩ : ∃ x, x = w1.drewN nq := ⟨_, rfl⟩
    rw [← hw2] at HB2 HS2
    try rw [← hw2]
    clear hw2 HS1 HB b0 b1 b2 b3 b4 b5 b6 f0 f1 f2 f3 f4 f5 f6 hel1
    go_wp2_with fail
    refine (HAT.out _ HB2.out).mono ?_
    rintro e w3 ⟨rfl, hs⟩
    have HS3 := hide' (HS2.out.trans hs)
    have HB3 := hide' (HB2.out.keep hs)
    clear hs HB2 HS2 HAT
    obtain ⟨b0, b1, b2, b3, b4, b5, b6, f0, f1, f2, f3, f4, f5, f6⟩ := HB3.out
    simp only [Qu.bx] at b0 b1 b2 b3 b4 b5 b6
    go_wp2
    go_returns
    generalize hW : World.setCell (World.setCell _ _ _) _ _ = W
    have hst : Stay (fun j => j = q.b) w W := (HS3.out.mono (fun _ _ h => h.elim)).trans (by rw [← hW]; exact (((Stay.refl (fun j => j = q.b) w3).setCell (p := ⟨q.b, 1, none⟩) rfl _).setCell (p := ⟨q.b, 2, none⟩) rfl _))
    have hb1 := HB3.out.put1 (x := (fs : Nat)) (q := ⟨q.v, (fs : Nat), (q.n : Nat), (q.r : Nat), q.k, (q.p : Nat), (q.z : Nat)⟩) rfl
    have hb2 := hb1.put2 (x := (m : Nat)) (q := ⟨q.v, (fs : Nat), (m : Nat), (q.r : Nat), q.k, (q.p : Nat), (q.z : Nat)⟩) rfl
    rw [hW] at hb2
    exact ⟨rfl, hst, HQ.out.took HN.out hst (by rw [show q.took.bx = _ from rfl]; unfold Qu.bx Qu.took; rw [← HFS.out, ← HM.out, show q.p - 1 = q.p by have := HP0.out; omega]; exact hb2)⟩

end Go.Proofs.Ytcikjghgpppokaa
