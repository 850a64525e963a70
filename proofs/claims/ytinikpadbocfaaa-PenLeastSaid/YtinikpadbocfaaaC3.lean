/-
  What one parameter makes of a pen, walked. No conditions.
-/
import Derived.Test.YtinikpadbocfaaaC1
namespace Go.Proofs.Ytinikpadbocfaaa
open Go.RowKit

theorem inB_t {n lo hi : Int} (h1 : lo ≤ n) (h2 : n ≤ hi) : inB n lo hi = true := by unfold inB; simp [h1, h2]

theorem inB_f {n lo hi : Int} (h : n < lo ∨ hi < n) : inB n lo hi = false := by
  unfold inB
  rw [Bool.and_eq_false_iff, decide_eq_false_iff_not, decide_eq_false_iff_not]
  omega

theorem Box.other {w : World} {b b' o : Nat} {r : Pn} {v : Value} (h : Box w b r) (hb : b' ≠ b) : Box (w.setCell ⟨b', o, none⟩ v) b r :=
  h.stay (T := fun k => k = b') ((Stay.refl (fun k => k = b') w).setCell (S := fun k => k = b') (p := ⟨b', o, none⟩) rfl v) (fun e => hb e.symm)

/-- What a pen is after a call, and nothing that was there has turned. -/
theorem one_ends {w W : World} {fn : Func} {p : Tmp} (h : fn.results = #[.cell p 23]) {tmps : Array Value} {r q : Pn} {g : Nat} (hp : tmps.getD p undef = .pointer (some ⟨g, 0, none⟩)) (hb : Box W g r) (hq : r = q) (hs : Stay (fun _ => False) w W)
    {d : List Deferred} (hd : d = []) : bodyPost Try.prog fn (Gives (.agg #[.int .i64 q.fg, .int .i64 q.bg, .int .i64 q.fl]) w) Exit.ret { tmps := tmps, defers := d } W := by
  subst hq hd
  exact bodyPost_ret (results_box h _ _ _ r hp hb) rfl ⟨rfl, hs⟩

theorem Box.put0_by {w : World} {b : Nat} {r : Pn} (h : Box w b r) {x : Int} {q : Pn} (hq : q = ⟨x, r.bg, r.fl⟩) : Box (w.setCell ⟨b, 0, none⟩ (.int .i64 x)) b q := by rw [hq]; exact h.put0 x

theorem Box.put1_by {w : World} {b : Nat} {r : Pn} (h : Box w b r) {x : Int} {q : Pn} (hq : q = ⟨r.fg, x, r.fl⟩) : Box (w.setCell ⟨b, 1, none⟩ (.int .i64 x)) b q := by rw [hq]; exact h.put1 x

theorem Box.put2_by {w : World} {b : Nat} {r : Pn} (h : Box w b r) {x : Int} {q : Pn} (hq : q = ⟨r.fg, r.bg, x⟩) : Box (w.setCell ⟨b, 2, none⟩ (.int .i64 x)) b q := by rw [hq]; exact h.put2 x

set_option maxHeartbeats 1000000 in
theorem one22_zero (p q : Pn) (n : Int) (w : World) (h0 : n = 0) (hq : ⟨0, 0, 0⟩ = q) : Calls Try.prog 22 #[.agg #[.int .i64 p.fg, .int .i64 p.bg, .int .i64 p.fl], .int .i64 n] w (Gives (.agg #[.int .i64 q.fg, .int .i64 q.bg, .int .i64 q.fl]) w) := by
  have HS := hide' (((Stay.refl (fun _ => False) w).alloc (.cells #[.int .i64 p.fg, .int .i64 p.bg, .int .i64 p.fl] 23)).alloc (.cells #[.int .i64 0, .int .i64 0, .int .i64 0] 23))
  have HBp := hide' ((Box.new (w := w) p rfl).alloc (.cells #[.int .i64 0, .int .i64 0, .int .i64 0] 23))
  have HBz := hide' (Box.new ⟨0, 0, 0⟩ (by simp) : Box ((w.alloc (.cells #[.int .i64 p.fg, .int .i64 p.bg, .int .i64 p.fl] 23)).alloc (.cells #[.int .i64 0, .int .i64 0, .int .i64 0] 23)) (w.heap.size + 1) ⟨0, 0, 0⟩)
  have HQ := hide' hq
  clear hq
  subst h0
  · skip
    go_enter Try.func22, Try.ntmps22
    go_upto_region 1 with fail
    obtain ⟨W, hW⟩ : ∃ W, W = ((w.alloc (.cells #[.int .i64 p.fg, .int .i64 p.bg, .int .i64 p.fl] 23)).alloc (.cells #[.int .i64 0, .int .i64 0, .int .i64 0] 23)) := ⟨_, rfl⟩
    rw [← hW] at HS HBp HBz
    rw [← hW]
    clear hW
    obtain ⟨c0, c1, c2, f0, f1, f2⟩ := HBp.out
    obtain ⟨z0, z1, z2, e0, e1, e2⟩ := HBz.out
    go_wp2_with fail
    exact one_ends rfl rfl (HBz.out.put ⟨0, 0, 0⟩) HQ.out (HS.out.put (by omega) _ _ _) rfl

set_option maxHeartbeats 1000000 in
theorem one22_fg (p q : Pn) (n : Int) (w : World) (h0 : 30 ≤ n) (h1 : n ≤ 37) (hq : ⟨n - 29, p.bg, p.fl⟩ = q) : Calls Try.prog 22 #[.agg #[.int .i64 p.fg, .int .i64 p.bg, .int .i64 p.fl], .int .i64 n] w (Gives (.agg #[.int .i64 q.fg, .int .i64 q.bg, .int .i64 q.fl]) w) := by
  have HS := hide' (((Stay.refl (fun _ => False) w).alloc (.cells #[.int .i64 p.fg, .int .i64 p.bg, .int .i64 p.fl] 23)).alloc (.cells #[.int .i64 0, .int .i64 0, .int .i64 0] 23))
  have HBp := hide' ((Box.new (w := w) p rfl).alloc (.cells #[.int .i64 0, .int .i64 0, .int .i64 0] 23))
  have HBz := hide' (Box.new ⟨0, 0, 0⟩ (by simp) : Box ((w.alloc (.cells #[.int .i64 p.fg, .int .i64 p.bg, .int .i64 p.fl] 23)).alloc (.cells #[.int .i64 0, .int .i64 0, .int .i64 0] 23)) (w.heap.size + 1) ⟨0, 0, 0⟩)
  have HQ := hide' hq
  clear hq
  · skip
    go_enter Try.func22, Try.ntmps22
    go_upto_region 1 with fail
    obtain ⟨W, hW⟩ : ∃ W, W = ((w.alloc (.cells #[.int .i64 p.fg, .int .i64 p.bg, .int .i64 p.fl] 23)).alloc (.cells #[.int .i64 0, .int .i64 0, .int .i64 0] 23)) := ⟨_, rfl⟩
    rw [← hW] at HS HBp HBz
    rw [← hW]
    clear hW
    obtain ⟨c0, c1, c2, f0, f1, f2⟩ := HBp.out
    obtain ⟨z0, z1, z2, e0, e1, e2⟩ := HBz.out
    go_wp2_with fail
    refine (within20_at _ 23 29 false (inB_f (by omega)) _).mono ?_
    rintro e w' ⟨rfl, rfl⟩
    go_wp2_with fail
    refine (within20_at _ 90 97 false (inB_f (by omega)) _).mono ?_
    rintro e w' ⟨rfl, rfl⟩
    go_wp2_with fail
    refine (within20_at _ 30 37 true (inB_t (by omega) (by omega)) _).mono ?_
    rintro e w' ⟨rfl, rfl⟩
    go_upto_region 20 with fail
    generalize hW2 : World.setCell W _ _ = W2
    have HBp2 : Hid (Box W2 w.heap.size q) := by
      show Box W2 w.heap.size q
      rw [← hW2]; exact Box.put0_by HBp.out (HQ.out.symm.trans (by simp only [Pn.mk.injEq, and_true] <;> omega))
    have HBz2 : Hid (Box W2 (w.heap.size + 1) ⟨0, 0, 0⟩) := by
      show Box W2 (w.heap.size + 1) ⟨0, 0, 0⟩
      rw [← hW2]; exact Box.other HBz.out (by omega)
    have HS2 : Hid (Stay (fun _ => False) w W2) := by
      show Stay (fun _ => False) w W2
      rw [← hW2]; exact HS.out.setNew (p := ⟨w.heap.size, 0, none⟩) (Nat.le_refl _) _
    clear HS HBp HBz c0 c1 c2 f0 f1 f2 z0 z1 z2 e0 e1 e2 hW2
    obtain ⟨c0, c1, c2, f0, f1, f2⟩ := HBp2.out
    obtain ⟨z0, z1, z2, e0, e1, e2⟩ := HBz2.out
    go_wp2
    exact one_ends rfl rfl (HBz2.out.put q) rfl (HS2.out.put (by omega) _ _ _) rfl

set_option maxHeartbeats 1000000 in
theorem one22_bfg (p q : Pn) (n : Int) (w : World) (h0 : 90 ≤ n) (h1 : n ≤ 97) (hq : ⟨n - 81, p.bg, p.fl⟩ = q) : Calls Try.prog 22 #[.agg #[.int .i64 p.fg, .int .i64 p.bg, .int .i64 p.fl], .int .i64 n] w (Gives (.agg #[.int .i64 q.fg, .int .i64 q.bg, .int .i64 q.fl]) w) := by
  have HS := hide' (((Stay.refl (fun _ => False) w).alloc (.cells #[.int .i64 p.fg, .int .i64 p.bg, .int .i64 p.fl] 23)).alloc (.cells #[.int .i64 0, .int .i64 0, .int .i64 0] 23))
  have HBp := hide' ((Box.new (w := w) p rfl).alloc (.cells #[.int .i64 0, .int .i64 0, .int .i64 0] 23))
  have HBz := hide' (Box.new ⟨0, 0, 0⟩ (by simp) : Box ((w.alloc (.cells #[.int .i64 p.fg, .int .i64 p.bg, .int .i64 p.fl] 23)).alloc (.cells #[.int .i64 0, .int .i64 0, .int .i64 0] 23)) (w.heap.size + 1) ⟨0, 0, 0⟩)
  have HQ := hide' hq
  clear hq
  · skip
    go_enter Try.func22, Try.ntmps22
    go_upto_region 1 with fail
    obtain ⟨W, hW⟩ : ∃ W, W = ((w.alloc (.cells #[.int .i64 p.fg, .int .i64 p.bg, .int .i64 p.fl] 23)).alloc (.cells #[.int .i64 0, .int .i64 0, .int .i64 0] 23)) := ⟨_, rfl⟩
    rw [← hW] at HS HBp HBz
    rw [← hW]
    clear hW
    obtain ⟨c0, c1, c2, f0, f1, f2⟩ := HBp.out
    obtain ⟨z0, z1, z2, e0, e1, e2⟩ := HBz.out
    go_wp2_with fail
    refine (within20_at _ 23 29 false (inB_f (by omega)) _).mono ?_
    rintro e w' ⟨rfl, rfl⟩
    go_wp2_with fail
    refine (within20_at _ 90 97 true (inB_t (by omega) (by omega)) _).mono ?_
    rintro e w' ⟨rfl, rfl⟩
    go_upto_region 20 with fail
    generalize hW2 : World.setCell W _ _ = W2
    have HBp2 : Hid (Box W2 w.heap.size q) := by
      show Box W2 w.heap.size q
      rw [← hW2]; exact Box.put0_by HBp.out (HQ.out.symm.trans (by simp only [Pn.mk.injEq, and_true] <;> omega))
    have HBz2 : Hid (Box W2 (w.heap.size + 1) ⟨0, 0, 0⟩) := by
      show Box W2 (w.heap.size + 1) ⟨0, 0, 0⟩
      rw [← hW2]; exact Box.other HBz.out (by omega)
    have HS2 : Hid (Stay (fun _ => False) w W2) := by
      show Stay (fun _ => False) w W2
      rw [← hW2]; exact HS.out.setNew (p := ⟨w.heap.size, 0, none⟩) (Nat.le_refl _) _
    clear HS HBp HBz c0 c1 c2 f0 f1 f2 z0 z1 z2 e0 e1 e2 hW2
    obtain ⟨c0, c1, c2, f0, f1, f2⟩ := HBp2.out
    obtain ⟨z0, z1, z2, e0, e1, e2⟩ := HBz2.out
    go_wp2
    exact one_ends rfl rfl (HBz2.out.put q) rfl (HS2.out.put (by omega) _ _ _) rfl

set_option maxHeartbeats 1000000 in
theorem one22_bg (p q : Pn) (n : Int) (w : World) (h0 : 40 ≤ n) (h1 : n ≤ 47) (hq : ⟨p.fg, n - 39, p.fl⟩ = q) : Calls Try.prog 22 #[.agg #[.int .i64 p.fg, .int .i64 p.bg, .int .i64 p.fl], .int .i64 n] w (Gives (.agg #[.int .i64 q.fg, .int .i64 q.bg, .int .i64 q.fl]) w) := by
  have HS := hide' (((Stay.refl (fun _ => False) w).alloc (.cells #[.int .i64 p.fg, .int .i64 p.bg, .int .i64 p.fl] 23)).alloc (.cells #[.int .i64 0, .int .i64 0, .int .i64 0] 23))
  have HBp := hide' ((Box.new (w := w) p rfl).alloc (.cells #[.int .i64 0, .int .i64 0, .int .i64 0] 23))
  have HBz := hide' (Box.new ⟨0, 0, 0⟩ (by simp) : Box ((w.alloc (.cells #[.int .i64 p.fg, .int .i64 p.bg, .int .i64 p.fl] 23)).alloc (.cells #[.int .i64 0, .int .i64 0, .int .i64 0] 23)) (w.heap.size + 1) ⟨0, 0, 0⟩)
  have HQ := hide' hq
  clear hq
  · skip
    go_enter Try.func22, Try.ntmps22
    go_upto_region 1 with fail
    obtain ⟨W, hW⟩ : ∃ W, W = ((w.alloc (.cells #[.int .i64 p.fg, .int .i64 p.bg, .int .i64 p.fl] 23)).alloc (.cells #[.int .i64 0, .int .i64 0, .int .i64 0] 23)) := ⟨_, rfl⟩
    rw [← hW] at HS HBp HBz
    rw [← hW]
    clear hW
    obtain ⟨c0, c1, c2, f0, f1, f2⟩ := HBp.out
    obtain ⟨z0, z1, z2, e0, e1, e2⟩ := HBz.out
    go_wp2_with fail
    refine (within20_at _ 23 29 false (inB_f (by omega)) _).mono ?_
    rintro e w' ⟨rfl, rfl⟩
    go_wp2_with fail
    refine (within20_at _ 90 97 false (inB_f (by omega)) _).mono ?_
    rintro e w' ⟨rfl, rfl⟩
    go_wp2_with fail
    refine (within20_at _ 30 37 false (inB_f (by omega)) _).mono ?_
    rintro e w' ⟨rfl, rfl⟩
    go_wp2_with fail
    refine (within20_at _ 100 107 false (inB_f (by omega)) _).mono ?_
    rintro e w' ⟨rfl, rfl⟩
    go_wp2_with fail
    refine (within20_at _ 40 47 true (inB_t (by omega) (by omega)) _).mono ?_
    rintro e w' ⟨rfl, rfl⟩
    go_upto_region 20 with fail
    generalize hW2 : World.setCell W _ _ = W2
    have HBp2 : Hid (Box W2 w.heap.size q) := by
      show Box W2 w.heap.size q
      rw [← hW2]; exact Box.put1_by HBp.out (HQ.out.symm.trans (by simp only [Pn.mk.injEq, true_and, and_true] <;> omega))
    have HBz2 : Hid (Box W2 (w.heap.size + 1) ⟨0, 0, 0⟩) := by
      show Box W2 (w.heap.size + 1) ⟨0, 0, 0⟩
      rw [← hW2]; exact Box.other HBz.out (by omega)
    have HS2 : Hid (Stay (fun _ => False) w W2) := by
      show Stay (fun _ => False) w W2
      rw [← hW2]; exact HS.out.setNew (p := ⟨w.heap.size, 1, none⟩) (Nat.le_refl _) _
    clear HS HBp HBz c0 c1 c2 f0 f1 f2 z0 z1 z2 e0 e1 e2 hW2
    obtain ⟨c0, c1, c2, f0, f1, f2⟩ := HBp2.out
    obtain ⟨z0, z1, z2, e0, e1, e2⟩ := HBz2.out
    go_wp2
    exact one_ends rfl rfl (HBz2.out.put q) rfl (HS2.out.put (by omega) _ _ _) rfl

set_option maxHeartbeats 1000000 in
theorem one22_bbg (p q : Pn) (n : Int) (w : World) (h0 : 100 ≤ n) (h1 : n ≤ 107) (hq : ⟨p.fg, n - 91, p.fl⟩ = q) : Calls Try.prog 22 #[.agg #[.int .i64 p.fg, .int .i64 p.bg, .int .i64 p.fl], .int .i64 n] w (Gives (.agg #[.int .i64 q.fg, .int .i64 q.bg, .int .i64 q.fl]) w) := by
  have HS := hide' (((Stay.refl (fun _ => False) w).alloc (.cells #[.int .i64 p.fg, .int .i64 p.bg, .int .i64 p.fl] 23)).alloc (.cells #[.int .i64 0, .int .i64 0, .int .i64 0] 23))
  have HBp := hide' ((Box.new (w := w) p rfl).alloc (.cells #[.int .i64 0, .int .i64 0, .int .i64 0] 23))
  have HBz := hide' (Box.new ⟨0, 0, 0⟩ (by simp) : Box ((w.alloc (.cells #[.int .i64 p.fg, .int .i64 p.bg, .int .i64 p.fl] 23)).alloc (.cells #[.int .i64 0, .int .i64 0, .int .i64 0] 23)) (w.heap.size + 1) ⟨0, 0, 0⟩)
  have HQ := hide' hq
  clear hq
  · skip
    go_enter Try.func22, Try.ntmps22
    go_upto_region 1 with fail
    obtain ⟨W, hW⟩ : ∃ W, W = ((w.alloc (.cells #[.int .i64 p.fg, .int .i64 p.bg, .int .i64 p.fl] 23)).alloc (.cells #[.int .i64 0, .int .i64 0, .int .i64 0] 23)) := ⟨_, rfl⟩
    rw [← hW] at HS HBp HBz
    rw [← hW]
    clear hW
    obtain ⟨c0, c1, c2, f0, f1, f2⟩ := HBp.out
    obtain ⟨z0, z1, z2, e0, e1, e2⟩ := HBz.out
    go_wp2_with fail
    refine (within20_at _ 23 29 false (inB_f (by omega)) _).mono ?_
    rintro e w' ⟨rfl, rfl⟩
    go_wp2_with fail
    refine (within20_at _ 90 97 false (inB_f (by omega)) _).mono ?_
    rintro e w' ⟨rfl, rfl⟩
    go_wp2_with fail
    refine (within20_at _ 30 37 false (inB_f (by omega)) _).mono ?_
    rintro e w' ⟨rfl, rfl⟩
    go_wp2_with fail
    refine (within20_at _ 100 107 true (inB_t (by omega) (by omega)) _).mono ?_
    rintro e w' ⟨rfl, rfl⟩
    go_upto_region 20 with fail
    generalize hW2 : World.setCell W _ _ = W2
    have HBp2 : Hid (Box W2 w.heap.size q) := by
      show Box W2 w.heap.size q
      rw [← hW2]; exact Box.put1_by HBp.out (HQ.out.symm.trans (by simp only [Pn.mk.injEq, true_and, and_true] <;> omega))
    have HBz2 : Hid (Box W2 (w.heap.size + 1) ⟨0, 0, 0⟩) := by
      show Box W2 (w.heap.size + 1) ⟨0, 0, 0⟩
      rw [← hW2]; exact Box.other HBz.out (by omega)
    have HS2 : Hid (Stay (fun _ => False) w W2) := by
      show Stay (fun _ => False) w W2
      rw [← hW2]; exact HS.out.setNew (p := ⟨w.heap.size, 1, none⟩) (Nat.le_refl _) _
    clear HS HBp HBz c0 c1 c2 f0 f1 f2 z0 z1 z2 e0 e1 e2 hW2
    obtain ⟨c0, c1, c2, f0, f1, f2⟩ := HBp2.out
    obtain ⟨z0, z1, z2, e0, e1, e2⟩ := HBz2.out
    go_wp2
    exact one_ends rfl rfl (HBz2.out.put q) rfl (HS2.out.put (by omega) _ _ _) rfl

set_option maxHeartbeats 1000000 in
theorem one22_nofg (p q : Pn) (n : Int) (w : World) (h0 : n = 39) (hq : ⟨0, p.bg, p.fl⟩ = q) : Calls Try.prog 22 #[.agg #[.int .i64 p.fg, .int .i64 p.bg, .int .i64 p.fl], .int .i64 n] w (Gives (.agg #[.int .i64 q.fg, .int .i64 q.bg, .int .i64 q.fl]) w) := by
  have HS := hide' (((Stay.refl (fun _ => False) w).alloc (.cells #[.int .i64 p.fg, .int .i64 p.bg, .int .i64 p.fl] 23)).alloc (.cells #[.int .i64 0, .int .i64 0, .int .i64 0] 23))
  have HBp := hide' ((Box.new (w := w) p rfl).alloc (.cells #[.int .i64 0, .int .i64 0, .int .i64 0] 23))
  have HBz := hide' (Box.new ⟨0, 0, 0⟩ (by simp) : Box ((w.alloc (.cells #[.int .i64 p.fg, .int .i64 p.bg, .int .i64 p.fl] 23)).alloc (.cells #[.int .i64 0, .int .i64 0, .int .i64 0] 23)) (w.heap.size + 1) ⟨0, 0, 0⟩)
  have HQ := hide' hq
  clear hq
  subst h0
  · skip
    go_enter Try.func22, Try.ntmps22
    go_upto_region 1 with fail
    obtain ⟨W, hW⟩ : ∃ W, W = ((w.alloc (.cells #[.int .i64 p.fg, .int .i64 p.bg, .int .i64 p.fl] 23)).alloc (.cells #[.int .i64 0, .int .i64 0, .int .i64 0] 23)) := ⟨_, rfl⟩
    rw [← hW] at HS HBp HBz
    rw [← hW]
    clear hW
    obtain ⟨c0, c1, c2, f0, f1, f2⟩ := HBp.out
    obtain ⟨z0, z1, z2, e0, e1, e2⟩ := HBz.out
    go_wp2_with fail
    refine (within20_at _ 23 29 false (inB_f (by omega)) _).mono ?_
    rintro e w' ⟨rfl, rfl⟩
    go_wp2_with fail
    refine (within20_at _ 90 97 false (inB_f (by omega)) _).mono ?_
    rintro e w' ⟨rfl, rfl⟩
    go_wp2_with fail
    refine (within20_at _ 30 37 false (inB_f (by omega)) _).mono ?_
    rintro e w' ⟨rfl, rfl⟩
    go_wp2_with fail
    refine (within20_at _ 100 107 false (inB_f (by omega)) _).mono ?_
    rintro e w' ⟨rfl, rfl⟩
    go_wp2_with fail
    refine (within20_at _ 40 47 false (inB_f (by omega)) _).mono ?_
    rintro e w' ⟨rfl, rfl⟩
    go_upto_region 20 with fail
    generalize hW2 : World.setCell W _ _ = W2
    have HBp2 : Hid (Box W2 w.heap.size q) := by
      show Box W2 w.heap.size q
      rw [← hW2]; exact Box.put0_by HBp.out (HQ.out.symm)
    have HBz2 : Hid (Box W2 (w.heap.size + 1) ⟨0, 0, 0⟩) := by
      show Box W2 (w.heap.size + 1) ⟨0, 0, 0⟩
      rw [← hW2]; exact Box.other HBz.out (by omega)
    have HS2 : Hid (Stay (fun _ => False) w W2) := by
      show Stay (fun _ => False) w W2
      rw [← hW2]; exact HS.out.setNew (p := ⟨w.heap.size, 0, none⟩) (Nat.le_refl _) _
    clear HS HBp HBz c0 c1 c2 f0 f1 f2 z0 z1 z2 e0 e1 e2 hW2
    obtain ⟨c0, c1, c2, f0, f1, f2⟩ := HBp2.out
    obtain ⟨z0, z1, z2, e0, e1, e2⟩ := HBz2.out
    go_wp2
    exact one_ends rfl rfl (HBz2.out.put q) rfl (HS2.out.put (by omega) _ _ _) rfl

set_option maxHeartbeats 1000000 in
theorem one22_nobg (p q : Pn) (n : Int) (w : World) (h0 : n = 49) (hq : ⟨p.fg, 0, p.fl⟩ = q) : Calls Try.prog 22 #[.agg #[.int .i64 p.fg, .int .i64 p.bg, .int .i64 p.fl], .int .i64 n] w (Gives (.agg #[.int .i64 q.fg, .int .i64 q.bg, .int .i64 q.fl]) w) := by
  have HS := hide' (((Stay.refl (fun _ => False) w).alloc (.cells #[.int .i64 p.fg, .int .i64 p.bg, .int .i64 p.fl] 23)).alloc (.cells #[.int .i64 0, .int .i64 0, .int .i64 0] 23))
  have HBp := hide' ((Box.new (w := w) p rfl).alloc (.cells #[.int .i64 0, .int .i64 0, .int .i64 0] 23))
  have HBz := hide' (Box.new ⟨0, 0, 0⟩ (by simp) : Box ((w.alloc (.cells #[.int .i64 p.fg, .int .i64 p.bg, .int .i64 p.fl] 23)).alloc (.cells #[.int .i64 0, .int .i64 0, .int .i64 0] 23)) (w.heap.size + 1) ⟨0, 0, 0⟩)
  have HQ := hide' hq
  clear hq
  subst h0
  · skip
    go_enter Try.func22, Try.ntmps22
    go_upto_region 1 with fail
    obtain ⟨W, hW⟩ : ∃ W, W = ((w.alloc (.cells #[.int .i64 p.fg, .int .i64 p.bg, .int .i64 p.fl] 23)).alloc (.cells #[.int .i64 0, .int .i64 0, .int .i64 0] 23)) := ⟨_, rfl⟩
    rw [← hW] at HS HBp HBz
    rw [← hW]
    clear hW
    obtain ⟨c0, c1, c2, f0, f1, f2⟩ := HBp.out
    obtain ⟨z0, z1, z2, e0, e1, e2⟩ := HBz.out
    go_wp2_with fail
    refine (within20_at _ 23 29 false (inB_f (by omega)) _).mono ?_
    rintro e w' ⟨rfl, rfl⟩
    go_wp2_with fail
    refine (within20_at _ 90 97 false (inB_f (by omega)) _).mono ?_
    rintro e w' ⟨rfl, rfl⟩
    go_wp2_with fail
    refine (within20_at _ 30 37 false (inB_f (by omega)) _).mono ?_
    rintro e w' ⟨rfl, rfl⟩
    go_wp2_with fail
    refine (within20_at _ 100 107 false (inB_f (by omega)) _).mono ?_
    rintro e w' ⟨rfl, rfl⟩
    go_wp2_with fail
    refine (within20_at _ 40 47 false (inB_f (by omega)) _).mono ?_
    rintro e w' ⟨rfl, rfl⟩
    go_upto_region 20 with fail
    generalize hW2 : World.setCell W _ _ = W2
    have HBp2 : Hid (Box W2 w.heap.size q) := by
      show Box W2 w.heap.size q
      rw [← hW2]; exact Box.put1_by HBp.out (HQ.out.symm)
    have HBz2 : Hid (Box W2 (w.heap.size + 1) ⟨0, 0, 0⟩) := by
      show Box W2 (w.heap.size + 1) ⟨0, 0, 0⟩
      rw [← hW2]; exact Box.other HBz.out (by omega)
    have HS2 : Hid (Stay (fun _ => False) w W2) := by
      show Stay (fun _ => False) w W2
      rw [← hW2]; exact HS.out.setNew (p := ⟨w.heap.size, 1, none⟩) (Nat.le_refl _) _
    clear HS HBp HBz c0 c1 c2 f0 f1 f2 z0 z1 z2 e0 e1 e2 hW2
    obtain ⟨c0, c1, c2, f0, f1, f2⟩ := HBp2.out
    obtain ⟨z0, z1, z2, e0, e1, e2⟩ := HBz2.out
    go_wp2
    exact one_ends rfl rfl (HBz2.out.put q) rfl (HS2.out.put (by omega) _ _ _) rfl

set_option maxHeartbeats 1000000 in
theorem one22_gone (p q : Pn) (n : Int) (w : World) (h0 : 23 ≤ n) (h1 : n ≤ 29) (hq : ⟨p.fg, p.bg, bits .andNot .i64 p.fl (val (n - 20))⟩ = q) : Calls Try.prog 22 #[.agg #[.int .i64 p.fg, .int .i64 p.bg, .int .i64 p.fl], .int .i64 n] w (Gives (.agg #[.int .i64 q.fg, .int .i64 q.bg, .int .i64 q.fl]) w) := by
  have HS := hide' (((Stay.refl (fun _ => False) w).alloc (.cells #[.int .i64 p.fg, .int .i64 p.bg, .int .i64 p.fl] 23)).alloc (.cells #[.int .i64 0, .int .i64 0, .int .i64 0] 23))
  have HBp := hide' ((Box.new (w := w) p rfl).alloc (.cells #[.int .i64 0, .int .i64 0, .int .i64 0] 23))
  have HBz := hide' (Box.new ⟨0, 0, 0⟩ (by simp) : Box ((w.alloc (.cells #[.int .i64 p.fg, .int .i64 p.bg, .int .i64 p.fl] 23)).alloc (.cells #[.int .i64 0, .int .i64 0, .int .i64 0] 23)) (w.heap.size + 1) ⟨0, 0, 0⟩)
  have HQ := hide' hq
  clear hq
  · skip
    go_enter Try.func22, Try.ntmps22
    go_upto_region 1 with fail
    obtain ⟨W, hW⟩ : ∃ W, W = ((w.alloc (.cells #[.int .i64 p.fg, .int .i64 p.bg, .int .i64 p.fl] 23)).alloc (.cells #[.int .i64 0, .int .i64 0, .int .i64 0] 23)) := ⟨_, rfl⟩
    rw [← hW] at HS HBp HBz
    rw [← hW]
    clear hW
    obtain ⟨c0, c1, c2, f0, f1, f2⟩ := HBp.out
    obtain ⟨z0, z1, z2, e0, e1, e2⟩ := HBz.out
    go_wp2_with fail
    refine (within20_at _ 23 29 true (inB_t (by omega) (by omega)) _).mono ?_
    rintro e w' ⟨rfl, rfl⟩
    go_wp2_with fail
    go_still_tail 7, (by kernel_rfl)
    still_call ((flag28 _ _).mono (fun _ _ h => ⟨h.1, h.2.symm⟩))
    repeat still_step
    refine wpStill_nil ?_
    change wpList _ _ _ _ _ W.drew
    have HS2 := hide' (HS.out.drew)
    have HBp2 := hide' (HBp.out.keep (Stay.refl _ _).drew)
    have HBz2 := hide' (HBz.out.keep (Stay.refl _ _).drew)
    clear HS HBp HBz c0 c1 c2 f0 f1 f2 z0 z1 z2 e0 e1 e2
    obtain ⟨W5, hW5⟩ : ∃ W5, W5 = W.drew := ⟨_, rfl⟩
    rw [← hW5] at HS2 HBp2 HBz2
    rw [← hW5]
    clear hW5
    have HS := HS2
    have HBz := HBz2
    have HBp := HBp2
    clear HS2 HBz2 HBp2
    obtain ⟨c0, c1, c2, f0, f1, f2⟩ := HBp.out
    obtain ⟨z0, z1, z2, e0, e1, e2⟩ := HBz.out
    go_upto_region 20 with fail
    generalize hW2 : World.setCell W5 _ _ = W2
    have HBp2 : Hid (Box W2 w.heap.size q) := by
      show Box W2 w.heap.size q
      rw [← hW2]; exact Box.put2_by HBp.out (HQ.out.symm)
    have HBz2 : Hid (Box W2 (w.heap.size + 1) ⟨0, 0, 0⟩) := by
      show Box W2 (w.heap.size + 1) ⟨0, 0, 0⟩
      rw [← hW2]; exact Box.other HBz.out (by omega)
    have HS2 : Hid (Stay (fun _ => False) w W2) := by
      show Stay (fun _ => False) w W2
      rw [← hW2]; exact HS.out.setNew (p := ⟨w.heap.size, 2, none⟩) (Nat.le_refl _) _
    clear HS HBp HBz c0 c1 c2 f0 f1 f2 z0 z1 z2 e0 e1 e2 hW2
    obtain ⟨c0, c1, c2, f0, f1, f2⟩ := HBp2.out
    obtain ⟨z0, z1, z2, e0, e1, e2⟩ := HBz2.out
    go_wp2
    exact one_ends rfl rfl (HBz2.out.put q) rfl (HS2.out.put (by omega) _ _ _) rfl

set_option maxHeartbeats 1000000 in
theorem one22_other (p q : Pn) (n : Int) (w : World) (h0 : n ≠ 0) (h1 : n < 22 ∨ 29 < n ∧ n < 30 ∨ 37 < n ∧ n < 39 ∨ 47 < n ∧ n ≠ 49 ∧ n < 90 ∨ 97 < n ∧ n < 100 ∨ 107 < n) (hq : ⟨p.fg, p.bg, bits .or .i64 p.fl (val n)⟩ = q) : Calls Try.prog 22 #[.agg #[.int .i64 p.fg, .int .i64 p.bg, .int .i64 p.fl], .int .i64 n] w (Gives (.agg #[.int .i64 q.fg, .int .i64 q.bg, .int .i64 q.fl]) w) := by
  have HS := hide' (((Stay.refl (fun _ => False) w).alloc (.cells #[.int .i64 p.fg, .int .i64 p.bg, .int .i64 p.fl] 23)).alloc (.cells #[.int .i64 0, .int .i64 0, .int .i64 0] 23))
  have HBp := hide' ((Box.new (w := w) p rfl).alloc (.cells #[.int .i64 0, .int .i64 0, .int .i64 0] 23))
  have HBz := hide' (Box.new ⟨0, 0, 0⟩ (by simp) : Box ((w.alloc (.cells #[.int .i64 p.fg, .int .i64 p.bg, .int .i64 p.fl] 23)).alloc (.cells #[.int .i64 0, .int .i64 0, .int .i64 0] 23)) (w.heap.size + 1) ⟨0, 0, 0⟩)
  have HQ := hide' hq
  clear hq
  · have a1 : ¬ n = 22 := by omega
    have a2 : ¬ n = 39 := by omega
    have a3 : ¬ n = 49 := by omega
    go_enter Try.func22, Try.ntmps22
    go_upto_region 1 with fail
    obtain ⟨W, hW⟩ : ∃ W, W = ((w.alloc (.cells #[.int .i64 p.fg, .int .i64 p.bg, .int .i64 p.fl] 23)).alloc (.cells #[.int .i64 0, .int .i64 0, .int .i64 0] 23)) := ⟨_, rfl⟩
    rw [← hW] at HS HBp HBz
    rw [← hW]
    clear hW
    obtain ⟨c0, c1, c2, f0, f1, f2⟩ := HBp.out
    obtain ⟨z0, z1, z2, e0, e1, e2⟩ := HBz.out
    go_wp2_with fail
    refine (within20_at _ 23 29 false (inB_f (by omega)) _).mono ?_
    rintro e w' ⟨rfl, rfl⟩
    go_wp2_with fail
    refine (within20_at _ 90 97 false (inB_f (by omega)) _).mono ?_
    rintro e w' ⟨rfl, rfl⟩
    go_wp2_with fail
    refine (within20_at _ 30 37 false (inB_f (by omega)) _).mono ?_
    rintro e w' ⟨rfl, rfl⟩
    go_wp2_with fail
    refine (within20_at _ 100 107 false (inB_f (by omega)) _).mono ?_
    rintro e w' ⟨rfl, rfl⟩
    go_wp2_with fail
    refine (within20_at _ 40 47 false (inB_f (by omega)) _).mono ?_
    rintro e w' ⟨rfl, rfl⟩
    go_wp2_with fail
    go_still_tail 6, (by kernel_rfl)
    still_call ((flag28 _ _).mono (fun _ _ h => ⟨h.1, h.2.symm⟩))
    repeat still_step
    refine wpStill_nil ?_
    change wpList _ _ _ _ _ W.drew
    have HS2 := hide' (HS.out.drew)
    have HBp2 := hide' (HBp.out.keep (Stay.refl _ _).drew)
    have HBz2 := hide' (HBz.out.keep (Stay.refl _ _).drew)
    clear HS HBp HBz c0 c1 c2 f0 f1 f2 z0 z1 z2 e0 e1 e2
    obtain ⟨W5, hW5⟩ : ∃ W5, W5 = W.drew := ⟨_, rfl⟩
    rw [← hW5] at HS2 HBp2 HBz2
    rw [← hW5]
    clear hW5
    have HS := HS2
    have HBz := HBz2
    have HBp := HBp2
    clear HS2 HBz2 HBp2
    obtain ⟨c0, c1, c2, f0, f1, f2⟩ := HBp.out
    obtain ⟨z0, z1, z2, e0, e1, e2⟩ := HBz.out
    go_upto_region 20 with fail
    generalize hW2 : World.setCell W5 _ _ = W2
    have HBp2 : Hid (Box W2 w.heap.size q) := by
      show Box W2 w.heap.size q
      rw [← hW2]; exact Box.put2_by HBp.out (HQ.out.symm)
    have HBz2 : Hid (Box W2 (w.heap.size + 1) ⟨0, 0, 0⟩) := by
      show Box W2 (w.heap.size + 1) ⟨0, 0, 0⟩
      rw [← hW2]; exact Box.other HBz.out (by omega)
    have HS2 : Hid (Stay (fun _ => False) w W2) := by
      show Stay (fun _ => False) w W2
      rw [← hW2]; exact HS.out.setNew (p := ⟨w.heap.size, 2, none⟩) (Nat.le_refl _) _
    clear HS HBp HBz c0 c1 c2 f0 f1 f2 z0 z1 z2 e0 e1 e2 hW2
    obtain ⟨c0, c1, c2, f0, f1, f2⟩ := HBp2.out
    obtain ⟨z0, z1, z2, e0, e1, e2⟩ := HBz2.out
    go_wp2
    exact one_ends rfl rfl (HBz2.out.put q) rfl (HS2.out.put (by omega) _ _ _) rfl

set_option maxHeartbeats 1000000 in
theorem one22_dim (p q : Pn) (n : Int) (w : World) (h0 : n = 22) (hq : ⟨p.fg, p.bg, bits .andNot .i64 (bits .andNot .i64 p.fl 1) 2⟩ = q) : Calls Try.prog 22 #[.agg #[.int .i64 p.fg, .int .i64 p.bg, .int .i64 p.fl], .int .i64 n] w (Gives (.agg #[.int .i64 q.fg, .int .i64 q.bg, .int .i64 q.fl]) w) := by
  have HS := hide' (((Stay.refl (fun _ => False) w).alloc (.cells #[.int .i64 p.fg, .int .i64 p.bg, .int .i64 p.fl] 23)).alloc (.cells #[.int .i64 0, .int .i64 0, .int .i64 0] 23))
  have HBp := hide' ((Box.new (w := w) p rfl).alloc (.cells #[.int .i64 0, .int .i64 0, .int .i64 0] 23))
  have HBz := hide' (Box.new ⟨0, 0, 0⟩ (by simp) : Box ((w.alloc (.cells #[.int .i64 p.fg, .int .i64 p.bg, .int .i64 p.fl] 23)).alloc (.cells #[.int .i64 0, .int .i64 0, .int .i64 0] 23)) (w.heap.size + 1) ⟨0, 0, 0⟩)
  have HQ := hide' hq
  clear hq
  subst h0
  · skip
    go_enter Try.func22, Try.ntmps22
    go_upto_region 1 with fail
    obtain ⟨W, hW⟩ : ∃ W, W = ((w.alloc (.cells #[.int .i64 p.fg, .int .i64 p.bg, .int .i64 p.fl] 23)).alloc (.cells #[.int .i64 0, .int .i64 0, .int .i64 0] 23)) := ⟨_, rfl⟩
    rw [← hW] at HS HBp HBz
    rw [← hW]
    clear hW
    obtain ⟨c0, c1, c2, f0, f1, f2⟩ := HBp.out
    obtain ⟨z0, z1, z2, e0, e1, e2⟩ := HBz.out
    go_upto_region 12 with fail
    obtain ⟨W1, hW1⟩ : ∃ W1, W1 = W.setCell ⟨w.heap.size, 2, none⟩ (.int .i64 (bits .andNot .i64 p.fl 1)) := ⟨_, rfl⟩
    have HS1 := hide' (HS.out.setNew (p := ⟨w.heap.size, 2, none⟩) (Nat.le_refl _) (.int .i64 (bits .andNot .i64 p.fl 1)))
    have HBp1 := hide' (HBp.out.put2 (bits .andNot .i64 p.fl 1))
    have HBz1 := hide' (Box.other (b' := w.heap.size) (o := 2) (v := .int .i64 (bits .andNot .i64 p.fl 1)) HBz.out (by omega))
    rw [← hW1] at HS1 HBp1 HBz1
    rw [← hW1]
    clear HS HBp HBz c0 c1 c2 f0 f1 f2 z0 z1 z2 e0 e1 e2 hW1
    have HS := HS1
    have HBz := HBz1
    have HBp := HBp1
    clear HS1 HBz1 HBp1
    obtain ⟨c0, c1, c2, f0, f1, f2⟩ := HBp.out
    obtain ⟨z0, z1, z2, e0, e1, e2⟩ := HBz.out
    go_wp2_with fail
    go_still_tail 7, (by kernel_rfl)
    still_call ((flag28 _ _).mono (fun _ _ h => ⟨h.1, h.2.symm⟩))
    repeat still_step
    refine wpStill_nil ?_
    change wpList _ _ _ _ _ W1.drew
    have HS2 := hide' (HS.out.drew)
    have HBp2 := hide' (HBp.out.keep (Stay.refl _ _).drew)
    have HBz2 := hide' (HBz.out.keep (Stay.refl _ _).drew)
    clear HS HBp HBz c0 c1 c2 f0 f1 f2 z0 z1 z2 e0 e1 e2
    obtain ⟨W5, hW5⟩ : ∃ W5, W5 = W1.drew := ⟨_, rfl⟩
    rw [← hW5] at HS2 HBp2 HBz2
    rw [← hW5]
    clear hW5
    have HS := HS2
    have HBz := HBz2
    have HBp := HBp2
    clear HS2 HBz2 HBp2
    obtain ⟨c0, c1, c2, f0, f1, f2⟩ := HBp.out
    obtain ⟨z0, z1, z2, e0, e1, e2⟩ := HBz.out
    go_upto_region 20 with fail
    generalize hW2 : World.setCell W5 _ _ = W2
    have HBp2 : Hid (Box W2 w.heap.size q) := by
      show Box W2 w.heap.size q
      rw [← hW2]; exact Box.put2_by HBp.out (HQ.out.symm)
    have HBz2 : Hid (Box W2 (w.heap.size + 1) ⟨0, 0, 0⟩) := by
      show Box W2 (w.heap.size + 1) ⟨0, 0, 0⟩
      rw [← hW2]; exact Box.other HBz.out (by omega)
    have HS2 : Hid (Stay (fun _ => False) w W2) := by
      show Stay (fun _ => False) w W2
      rw [← hW2]; exact HS.out.setNew (p := ⟨w.heap.size, 2, none⟩) (Nat.le_refl _) _
    clear HS HBp HBz c0 c1 c2 f0 f1 f2 z0 z1 z2 e0 e1 e2 hW2
    obtain ⟨c0, c1, c2, f0, f1, f2⟩ := HBp2.out
    obtain ⟨z0, z1, z2, e0, e1, e2⟩ := HBz2.out
    go_wp2
    exact one_ends rfl rfl (HBz2.out.put q) rfl (HS2.out.put (by omega) _ _ _) rfl

theorem one22 (p : Pn) (n : Int) (w : World) : Calls Try.prog 22 #[.agg #[.int .i64 p.fg, .int .i64 p.bg, .int .i64 p.fl], .int .i64 n] w (Gives (.agg #[.int .i64 (one p n).fg, .int .i64 (one p n).bg, .int .i64 (one p n).fl]) w) := by
  by_cases h0 : n = 0
  · exact one22_zero p _ n w h0 (by unfold one; rw [if_pos h0])
  by_cases h1 : n = 22
  · exact one22_dim p _ n w h1 (by unfold one; rw [if_neg h0, if_pos h1])
  by_cases h2 : 23 ≤ n ∧ n ≤ 29
  · exact one22_gone p _ n w h2.1 h2.2 (by unfold one; rw [if_neg h0, if_neg h1, if_pos h2])
  by_cases h3 : 90 ≤ n ∧ n ≤ 97
  · exact one22_bfg p _ n w h3.1 h3.2 (by unfold one; rw [if_neg h0, if_neg h1, if_neg h2, if_pos h3])
  by_cases h4 : 30 ≤ n ∧ n ≤ 37
  · exact one22_fg p _ n w h4.1 h4.2 (by unfold one; rw [if_neg h0, if_neg h1, if_neg h2, if_neg h3, if_pos h4])
  by_cases h5 : 100 ≤ n ∧ n ≤ 107
  · exact one22_bbg p _ n w h5.1 h5.2 (by unfold one; rw [if_neg h0, if_neg h1, if_neg h2, if_neg h3, if_neg h4, if_pos h5])
  by_cases h6 : 40 ≤ n ∧ n ≤ 47
  · exact one22_bg p _ n w h6.1 h6.2 (by unfold one; rw [if_neg h0, if_neg h1, if_neg h2, if_neg h3, if_neg h4, if_neg h5, if_pos h6])
  by_cases h7 : n = 39
  · exact one22_nofg p _ n w h7 (by unfold one; rw [if_neg h0, if_neg h1, if_neg h2, if_neg h3, if_neg h4, if_neg h5, if_neg h6, if_pos h7])
  by_cases h8 : n = 49
  · exact one22_nobg p _ n w h8 (by unfold one; rw [if_neg h0, if_neg h1, if_neg h2, if_neg h3, if_neg h4, if_neg h5, if_neg h6, if_neg h7, if_pos h8])
  exact one22_other p _ n w h0 (by omega) (by unfold one; rw [if_neg h0, if_neg h1, if_neg h2, if_neg h3, if_neg h4, if_neg h5, if_neg h6, if_neg h7, if_neg h8])

end Go.Proofs.Ytinikpadbocfaaa
