/-
  Steps of the document's Apply: a colour is told by its parts. No conditions.
-/
import Derived.Test.YtinikpadbocfaaaD0
namespace Go.Proofs.Ytinikpadbocfaaa
open Go.RowKit

set_option maxRecDepth 100000 in
set_option maxHeartbeats 4000000 in
theorem step38_two (p : Pn) (b off n cap : Nat) (r0 r1 r2 r3 : Int) (w : World) (hn : n ≤ 1000) (h0 : 0 < n) (hc : n ≤ cap) (cx : w.cell? ⟨b, off, none⟩ = some (.int .i64 38)) (Q : Pn) (l : List Int) (hR : Rec w b off n l) (hl : l.length = n) (_hW : W64 p.fl) (k0 : w.cell? ⟨b, off + 1, none⟩ = some (.int .i64 r0)) (k1 : w.cell? ⟨b, off + 2, none⟩ = some (.int .i64 r1)) (k2 : w.cell? ⟨b, off + 3, none⟩ = some (.int .i64 r2)) (k3 : w.cell? ⟨b, off + 4, none⟩ = some (.int .i64 r3))
    (hn1 : 5 ≤ n) (e : r0 = 2) (hb1 : byteB r1 = true) (hb2 : byteB r2 = true) (hb3 : byteB r3 = true) (q : Pn) (hq0 : ⟨16777216 + 65536 * r1 + 256 * r2 + r3, p.bg, p.fl⟩ = q) (hWq : W64 q.fl) (hQ : Q = runL q (l.drop 5)) : Calls Try.prog 12 #[.agg #[.int .i64 p.fg, .int .i64 p.bg, .int .i64 p.fl], .slice (some ⟨b, off, none⟩) n cap] w (Gives (.agg #[.int .i64 Q.fg, .int .i64 Q.bg, .int .i64 Q.fl]) w) := by
  have HS0 := hide' (refStart w p)
  have n0 : (0 : Int) < n := by omega
  have n1 : (n : Int) ≤ 1000 := by omega
  have n2 : (1 : Int) ≤ n := by omega
  have dz : ((n : Int) == 0) = false := by simp; omega
  subst e
  obtain ⟨p1, q1⟩ := byte_bd hb1
  obtain ⟨p2, q2⟩ := byte_bd hb2
  obtain ⟨p3, q3⟩ := byte_bd hb3
  have HP1 := hide' (part24 r1)
  rw [hb1] at HP1
  clear hb1
  have HP2 := hide' (part24 r2)
  rw [hb2] at HP2
  clear hb2
  have HP3 := hide' (part24 r3)
  rw [hb3] at HP3
  clear hb3
  have HQ0 := hide' hq0
  have HWq := hide' hWq
  have HQ := hide' hQ
  have HL := hide' hl
  have HR := hide' hR
  clear hq0 hWq hQ hl hR
  by_cases hn3 : n = 5
  · subst hn3
    have HQ' : Hid (Q = q) := show Q = q from by rw [HQ.out, List.drop_eq_nil_of_le (by rw [HL.out]; omega), runL_nil]
    clear HQ
    have HQ := HQ'
    obtain ⟨c', rfl⟩ : ∃ c', cap = c' + 1 := ⟨cap - 1, by omega⟩
    have hc1 : ¬ c' + 1 = 1 := by omega
    by_cases hc2 : c' = 4
    · subst hc2
      go_enter Try.func12, Try.ntmps12
      go_upto_region 1 with fail
      have cx2 := keep_cell HS0.out.1 cx
      have kk0 := keep_cell HS0.out.1 k0
      have kk1 := keep_cell HS0.out.1 k1
      have kk2 := keep_cell HS0.out.1 k2
      have kk3 := keep_cell HS0.out.1 k3
      obtain ⟨W, hW⟩ : ∃ W, W = ((w.alloc (.cells #[.int .i64 p.fg, .int .i64 p.bg, .int .i64 p.fl] 23)).alloc (.cells #[.int .i64 0, .int .i64 0, .int .i64 0] 23)) := ⟨_, rfl⟩
      rw [← hW] at HS0 cx2 kk0 kk1 kk2 kk3
      rw [← hW]
      clear hW
      have HS := hide' HS0.out.1
      have HBp := hide' HS0.out.2.1
      have HBz := hide' HS0.out.2.2
      clear HS0
      obtain ⟨c0, c1, c2, f0, f1, f2⟩ := HBp.out
      obtain ⟨z0, z1, z2, e0, e1, e2⟩ := HBz.out
      go_wp2_with fail
      refine (HP1.out _).mono ?_
      rintro e w' ⟨rfl, rfl⟩
      go_wp2_with fail
      refine (HP2.out _).mono ?_
      rintro e w' ⟨rfl, rfl⟩
      go_wp2_with fail
      refine (HP3.out _).mono ?_
      rintro e w' ⟨rfl, rfl⟩
      go_wp2_with fail
      go_quiet (fail)
      have hs : Stay (fun _ => False) W (W.drewN nq) := (Stay.refl _ _).drewN _
      have HS2 := hide' (HS.out.trans hs)
      have HBp2 := hide' (HBp.out.keep hs)
      have HBz2 := hide' (HBz.out.keep hs)
      clear hs
      clear HS HBp HBz c0 c1 c2 f0 f1 f2 z0 z1 z2 e0 e1 e2
      have HS := HS2
      have HBp := HBp2
      have HBz := HBz2
      clear HS2 HBp2 HBz2
      obtain ⟨c0, c1, c2, f0, f1, f2⟩ := HBp.out
      obtain ⟨z0, z1, z2, e0, e1, e2⟩ := HBz.out
      go_upto_region 38 with fail
      generalize hW2 : World.setCell _ _ _ = W2
      have HBq : Hid (Box W2 w.heap.size q) := show Box W2 w.heap.size q from by rw [← hW2]; exact Box.put0_by HBp.out (HQ0.out.symm)
      have HBz2 : Hid (Box W2 (w.heap.size + 1) ⟨0, 0, 0⟩) := show Box W2 (w.heap.size + 1) ⟨0, 0, 0⟩ from by rw [← hW2]; exact Box.other HBz.out (by omega)
      have HS2 : Hid (Stay (fun _ => False) w W2) := show Stay (fun _ => False) w W2 from by rw [← hW2]; exact HS.out.setNew (p := ⟨w.heap.size, 0, none⟩) (Nat.le_refl _) _
      clear HS HBp HBz c0 c1 c2 f0 f1 f2 z0 z1 z2 e0 e1 e2 hW2
      have HBz := HBz2
      have HS := HS2
      clear HBz2 HS2
      obtain ⟨c0, c1, c2, f0, f1, f2⟩ := HBq.out
      obtain ⟨z0, z1, z2, e0, e1, e2⟩ := HBz.out
      go_wp2
      exact one_ends rfl rfl (HBz.out.put q) HQ.out.symm (HS.out.put (by omega) _ _ _) rfl
    · skip
      go_enter Try.func12, Try.ntmps12
      go_upto_region 1 with fail
      have cx2 := keep_cell HS0.out.1 cx
      have kk0 := keep_cell HS0.out.1 k0
      have kk1 := keep_cell HS0.out.1 k1
      have kk2 := keep_cell HS0.out.1 k2
      have kk3 := keep_cell HS0.out.1 k3
      obtain ⟨W, hW⟩ : ∃ W, W = ((w.alloc (.cells #[.int .i64 p.fg, .int .i64 p.bg, .int .i64 p.fl] 23)).alloc (.cells #[.int .i64 0, .int .i64 0, .int .i64 0] 23)) := ⟨_, rfl⟩
      rw [← hW] at HS0 cx2 kk0 kk1 kk2 kk3
      rw [← hW]
      clear hW
      have HS := hide' HS0.out.1
      have HBp := hide' HS0.out.2.1
      have HBz := hide' HS0.out.2.2
      clear HS0
      obtain ⟨c0, c1, c2, f0, f1, f2⟩ := HBp.out
      obtain ⟨z0, z1, z2, e0, e1, e2⟩ := HBz.out
      go_wp2_with fail
      refine (HP1.out _).mono ?_
      rintro e w' ⟨rfl, rfl⟩
      go_wp2_with fail
      refine (HP2.out _).mono ?_
      rintro e w' ⟨rfl, rfl⟩
      go_wp2_with fail
      refine (HP3.out _).mono ?_
      rintro e w' ⟨rfl, rfl⟩
      go_wp2_with fail
      go_quiet (fail)
      have hs : Stay (fun _ => False) W (W.drewN nq) := (Stay.refl _ _).drewN _
      have HS2 := hide' (HS.out.trans hs)
      have HBp2 := hide' (HBp.out.keep hs)
      have HBz2 := hide' (HBz.out.keep hs)
      clear hs
      clear HS HBp HBz c0 c1 c2 f0 f1 f2 z0 z1 z2 e0 e1 e2
      have HS := HS2
      have HBp := HBp2
      have HBz := HBz2
      clear HS2 HBp2 HBz2
      obtain ⟨c0, c1, c2, f0, f1, f2⟩ := HBp.out
      obtain ⟨z0, z1, z2, e0, e1, e2⟩ := HBz.out
      go_upto_region 38 with fail
      generalize hW2 : World.setCell _ _ _ = W2
      have HBq : Hid (Box W2 w.heap.size q) := show Box W2 w.heap.size q from by rw [← hW2]; exact Box.put0_by HBp.out (HQ0.out.symm)
      have HBz2 : Hid (Box W2 (w.heap.size + 1) ⟨0, 0, 0⟩) := show Box W2 (w.heap.size + 1) ⟨0, 0, 0⟩ from by rw [← hW2]; exact Box.other HBz.out (by omega)
      have HS2 : Hid (Stay (fun _ => False) w W2) := show Stay (fun _ => False) w W2 from by rw [← hW2]; exact HS.out.setNew (p := ⟨w.heap.size, 0, none⟩) (Nat.le_refl _) _
      clear HS HBp HBz c0 c1 c2 f0 f1 f2 z0 z1 z2 e0 e1 e2 hW2
      have HBz := HBz2
      have HS := HS2
      clear HBz2 HS2
      obtain ⟨c0, c1, c2, f0, f1, f2⟩ := HBq.out
      obtain ⟨z0, z1, z2, e0, e1, e2⟩ := HBz.out
      go_wp2
      exact one_ends rfl rfl (HBz.out.put q) HQ.out.symm (HS.out.put (by omega) _ _ _) rfl
  · obtain ⟨c', rfl⟩ : ∃ c', cap = c' + 1 := ⟨cap - 1, by omega⟩
    have hc1 : ¬ c' + 1 = 1 := by omega
    have hc2 : ¬ c' = 4 := by omega
    have m2 : (4 : Int) ≤ (n - 1 : Nat) := by omega
    have dz1 : (((n - 1 - 4 : Nat) : Int) == 0) = false := by simp; omega
    go_enter Try.func12, Try.ntmps12
    go_upto_region 1 with fail
    have cx2 := keep_cell HS0.out.1 cx
    have kk0 := keep_cell HS0.out.1 k0
    have kk1 := keep_cell HS0.out.1 k1
    have kk2 := keep_cell HS0.out.1 k2
    have kk3 := keep_cell HS0.out.1 k3
    obtain ⟨W, hW⟩ : ∃ W, W = ((w.alloc (.cells #[.int .i64 p.fg, .int .i64 p.bg, .int .i64 p.fl] 23)).alloc (.cells #[.int .i64 0, .int .i64 0, .int .i64 0] 23)) := ⟨_, rfl⟩
    rw [← hW] at HS0 cx2 kk0 kk1 kk2 kk3
    rw [← hW]
    clear hW
    have HS := hide' HS0.out.1
    have HBp := hide' HS0.out.2.1
    have HBz := hide' HS0.out.2.2
    clear HS0
    obtain ⟨c0, c1, c2, f0, f1, f2⟩ := HBp.out
    obtain ⟨z0, z1, z2, e0, e1, e2⟩ := HBz.out
    go_wp2_with fail
    refine (HP1.out _).mono ?_
    rintro e w' ⟨rfl, rfl⟩
    go_wp2_with fail
    refine (HP2.out _).mono ?_
    rintro e w' ⟨rfl, rfl⟩
    go_wp2_with fail
    refine (HP3.out _).mono ?_
    rintro e w' ⟨rfl, rfl⟩
    go_wp2_with fail
    go_quiet (fail)
    have hs : Stay (fun _ => False) W (W.drewN nq) := (Stay.refl _ _).drewN _
    have HS2 := hide' (HS.out.trans hs)
    have HBp2 := hide' (HBp.out.keep hs)
    have HBz2 := hide' (HBz.out.keep hs)
    clear hs
    clear HS HBp HBz c0 c1 c2 f0 f1 f2 z0 z1 z2 e0 e1 e2
    have HS := HS2
    have HBp := HBp2
    have HBz := HBz2
    clear HS2 HBp2 HBz2
    obtain ⟨c0, c1, c2, f0, f1, f2⟩ := HBp.out
    obtain ⟨z0, z1, z2, e0, e1, e2⟩ := HBz.out
    go_upto_region 38 with fail
    generalize hW2 : World.setCell _ _ _ = W2
    have HBq : Hid (Box W2 w.heap.size q) := show Box W2 w.heap.size q from by rw [← hW2]; exact Box.put0_by HBp.out (HQ0.out.symm)
    have HBz2 : Hid (Box W2 (w.heap.size + 1) ⟨0, 0, 0⟩) := show Box W2 (w.heap.size + 1) ⟨0, 0, 0⟩ from by rw [← hW2]; exact Box.other HBz.out (by omega)
    have HS2 : Hid (Stay (fun _ => False) w W2) := show Stay (fun _ => False) w W2 from by rw [← hW2]; exact HS.out.setNew (p := ⟨w.heap.size, 0, none⟩) (Nat.le_refl _) _
    clear HS HBp HBz c0 c1 c2 f0 f1 f2 z0 z1 z2 e0 e1 e2 hW2
    have HBz := HBz2
    have HS := HS2
    clear HBz2 HS2
    obtain ⟨c0, c1, c2, f0, f1, f2⟩ := HBq.out
    obtain ⟨z0, z1, z2, e0, e1, e2⟩ := HBz.out
    go_wp2_with fail
    refine (HR.out 5 (by omega) (by omega) _ (by omega) _ (by omega) _ (by omega) q HWq.out Q HQ.out _ HS.out).mono ?_
    rintro e w3 ⟨rfl, hs⟩
    have HS3 := hide' (HS.out.trans hs)
    have HBz3 := hide' (HBz.out.keep hs)
    clear hs z0 z1 z2 e0 e1 e2
    obtain ⟨z0, z1, z2, e0, e1, e2⟩ := HBz3.out
    go_wp2
    exact one_ends rfl rfl (HBz3.out.put Q) rfl (HS3.out.put (by omega) _ _ _) rfl

set_option maxRecDepth 100000 in
set_option maxHeartbeats 4000000 in
theorem step48_two (p : Pn) (b off n cap : Nat) (r0 r1 r2 r3 : Int) (w : World) (hn : n ≤ 1000) (h0 : 0 < n) (hc : n ≤ cap) (cx : w.cell? ⟨b, off, none⟩ = some (.int .i64 48)) (Q : Pn) (l : List Int) (hR : Rec w b off n l) (hl : l.length = n) (_hW : W64 p.fl) (k0 : w.cell? ⟨b, off + 1, none⟩ = some (.int .i64 r0)) (k1 : w.cell? ⟨b, off + 2, none⟩ = some (.int .i64 r1)) (k2 : w.cell? ⟨b, off + 3, none⟩ = some (.int .i64 r2)) (k3 : w.cell? ⟨b, off + 4, none⟩ = some (.int .i64 r3))
    (hn1 : 5 ≤ n) (e : r0 = 2) (hb1 : byteB r1 = true) (hb2 : byteB r2 = true) (hb3 : byteB r3 = true) (q : Pn) (hq0 : ⟨p.fg, 16777216 + 65536 * r1 + 256 * r2 + r3, p.fl⟩ = q) (hWq : W64 q.fl) (hQ : Q = runL q (l.drop 5)) : Calls Try.prog 12 #[.agg #[.int .i64 p.fg, .int .i64 p.bg, .int .i64 p.fl], .slice (some ⟨b, off, none⟩) n cap] w (Gives (.agg #[.int .i64 Q.fg, .int .i64 Q.bg, .int .i64 Q.fl]) w) := by
  have HS0 := hide' (refStart w p)
  have n0 : (0 : Int) < n := by omega
  have n1 : (n : Int) ≤ 1000 := by omega
  have n2 : (1 : Int) ≤ n := by omega
  have dz : ((n : Int) == 0) = false := by simp; omega
  subst e
  obtain ⟨p1, q1⟩ := byte_bd hb1
  obtain ⟨p2, q2⟩ := byte_bd hb2
  obtain ⟨p3, q3⟩ := byte_bd hb3
  have HP1 := hide' (part24 r1)
  rw [hb1] at HP1
  clear hb1
  have HP2 := hide' (part24 r2)
  rw [hb2] at HP2
  clear hb2
  have HP3 := hide' (part24 r3)
  rw [hb3] at HP3
  clear hb3
  have HQ0 := hide' hq0
  have HWq := hide' hWq
  have HQ := hide' hQ
  have HL := hide' hl
  have HR := hide' hR
  clear hq0 hWq hQ hl hR
  by_cases hn3 : n = 5
  · subst hn3
    have HQ' : Hid (Q = q) := show Q = q from by rw [HQ.out, List.drop_eq_nil_of_le (by rw [HL.out]; omega), runL_nil]
    clear HQ
    have HQ := HQ'
    obtain ⟨c', rfl⟩ : ∃ c', cap = c' + 1 := ⟨cap - 1, by omega⟩
    have hc1 : ¬ c' + 1 = 1 := by omega
    by_cases hc2 : c' = 4
    · subst hc2
      go_enter Try.func12, Try.ntmps12
      go_upto_region 1 with fail
      have cx2 := keep_cell HS0.out.1 cx
      have kk0 := keep_cell HS0.out.1 k0
      have kk1 := keep_cell HS0.out.1 k1
      have kk2 := keep_cell HS0.out.1 k2
      have kk3 := keep_cell HS0.out.1 k3
      obtain ⟨W, hW⟩ : ∃ W, W = ((w.alloc (.cells #[.int .i64 p.fg, .int .i64 p.bg, .int .i64 p.fl] 23)).alloc (.cells #[.int .i64 0, .int .i64 0, .int .i64 0] 23)) := ⟨_, rfl⟩
      rw [← hW] at HS0 cx2 kk0 kk1 kk2 kk3
      rw [← hW]
      clear hW
      have HS := hide' HS0.out.1
      have HBp := hide' HS0.out.2.1
      have HBz := hide' HS0.out.2.2
      clear HS0
      obtain ⟨c0, c1, c2, f0, f1, f2⟩ := HBp.out
      obtain ⟨z0, z1, z2, e0, e1, e2⟩ := HBz.out
      go_wp2_with fail
      refine (HP1.out _).mono ?_
      rintro e w' ⟨rfl, rfl⟩
      go_wp2_with fail
      refine (HP2.out _).mono ?_
      rintro e w' ⟨rfl, rfl⟩
      go_wp2_with fail
      refine (HP3.out _).mono ?_
      rintro e w' ⟨rfl, rfl⟩
      go_wp2_with fail
      go_quiet (fail)
      have hs : Stay (fun _ => False) W (W.drewN nq) := (Stay.refl _ _).drewN _
      have HS2 := hide' (HS.out.trans hs)
      have HBp2 := hide' (HBp.out.keep hs)
      have HBz2 := hide' (HBz.out.keep hs)
      clear hs
      clear HS HBp HBz c0 c1 c2 f0 f1 f2 z0 z1 z2 e0 e1 e2
      have HS := HS2
      have HBp := HBp2
      have HBz := HBz2
      clear HS2 HBp2 HBz2
      obtain ⟨c0, c1, c2, f0, f1, f2⟩ := HBp.out
      obtain ⟨z0, z1, z2, e0, e1, e2⟩ := HBz.out
      go_upto_region 38 with fail
      generalize hW2 : World.setCell _ _ _ = W2
      have HBq : Hid (Box W2 w.heap.size q) := show Box W2 w.heap.size q from by rw [← hW2]; exact Box.put1_by HBp.out (HQ0.out.symm)
      have HBz2 : Hid (Box W2 (w.heap.size + 1) ⟨0, 0, 0⟩) := show Box W2 (w.heap.size + 1) ⟨0, 0, 0⟩ from by rw [← hW2]; exact Box.other HBz.out (by omega)
      have HS2 : Hid (Stay (fun _ => False) w W2) := show Stay (fun _ => False) w W2 from by rw [← hW2]; exact HS.out.setNew (p := ⟨w.heap.size, 1, none⟩) (Nat.le_refl _) _
      clear HS HBp HBz c0 c1 c2 f0 f1 f2 z0 z1 z2 e0 e1 e2 hW2
      have HBz := HBz2
      have HS := HS2
      clear HBz2 HS2
      obtain ⟨c0, c1, c2, f0, f1, f2⟩ := HBq.out
      obtain ⟨z0, z1, z2, e0, e1, e2⟩ := HBz.out
      go_wp2
      exact one_ends rfl rfl (HBz.out.put q) HQ.out.symm (HS.out.put (by omega) _ _ _) rfl
    · skip
      go_enter Try.func12, Try.ntmps12
      go_upto_region 1 with fail
      have cx2 := keep_cell HS0.out.1 cx
      have kk0 := keep_cell HS0.out.1 k0
      have kk1 := keep_cell HS0.out.1 k1
      have kk2 := keep_cell HS0.out.1 k2
      have kk3 := keep_cell HS0.out.1 k3
      obtain ⟨W, hW⟩ : ∃ W, W = ((w.alloc (.cells #[.int .i64 p.fg, .int .i64 p.bg, .int .i64 p.fl] 23)).alloc (.cells #[.int .i64 0, .int .i64 0, .int .i64 0] 23)) := ⟨_, rfl⟩
      rw [← hW] at HS0 cx2 kk0 kk1 kk2 kk3
      rw [← hW]
      clear hW
      have HS := hide' HS0.out.1
      have HBp := hide' HS0.out.2.1
      have HBz := hide' HS0.out.2.2
      clear HS0
      obtain ⟨c0, c1, c2, f0, f1, f2⟩ := HBp.out
      obtain ⟨z0, z1, z2, e0, e1, e2⟩ := HBz.out
      go_wp2_with fail
      refine (HP1.out _).mono ?_
      rintro e w' ⟨rfl, rfl⟩
      go_wp2_with fail
      refine (HP2.out _).mono ?_
      rintro e w' ⟨rfl, rfl⟩
      go_wp2_with fail
      refine (HP3.out _).mono ?_
      rintro e w' ⟨rfl, rfl⟩
      go_wp2_with fail
      go_quiet (fail)
      have hs : Stay (fun _ => False) W (W.drewN nq) := (Stay.refl _ _).drewN _
      have HS2 := hide' (HS.out.trans hs)
      have HBp2 := hide' (HBp.out.keep hs)
      have HBz2 := hide' (HBz.out.keep hs)
      clear hs
      clear HS HBp HBz c0 c1 c2 f0 f1 f2 z0 z1 z2 e0 e1 e2
      have HS := HS2
      have HBp := HBp2
      have HBz := HBz2
      clear HS2 HBp2 HBz2
      obtain ⟨c0, c1, c2, f0, f1, f2⟩ := HBp.out
      obtain ⟨z0, z1, z2, e0, e1, e2⟩ := HBz.out
      go_upto_region 38 with fail
      generalize hW2 : World.setCell _ _ _ = W2
      have HBq : Hid (Box W2 w.heap.size q) := show Box W2 w.heap.size q from by rw [← hW2]; exact Box.put1_by HBp.out (HQ0.out.symm)
      have HBz2 : Hid (Box W2 (w.heap.size + 1) ⟨0, 0, 0⟩) := show Box W2 (w.heap.size + 1) ⟨0, 0, 0⟩ from by rw [← hW2]; exact Box.other HBz.out (by omega)
      have HS2 : Hid (Stay (fun _ => False) w W2) := show Stay (fun _ => False) w W2 from by rw [← hW2]; exact HS.out.setNew (p := ⟨w.heap.size, 1, none⟩) (Nat.le_refl _) _
      clear HS HBp HBz c0 c1 c2 f0 f1 f2 z0 z1 z2 e0 e1 e2 hW2
      have HBz := HBz2
      have HS := HS2
      clear HBz2 HS2
      obtain ⟨c0, c1, c2, f0, f1, f2⟩ := HBq.out
      obtain ⟨z0, z1, z2, e0, e1, e2⟩ := HBz.out
      go_wp2
      exact one_ends rfl rfl (HBz.out.put q) HQ.out.symm (HS.out.put (by omega) _ _ _) rfl
  · obtain ⟨c', rfl⟩ : ∃ c', cap = c' + 1 := ⟨cap - 1, by omega⟩
    have hc1 : ¬ c' + 1 = 1 := by omega
    have hc2 : ¬ c' = 4 := by omega
    have m2 : (4 : Int) ≤ (n - 1 : Nat) := by omega
    have dz1 : (((n - 1 - 4 : Nat) : Int) == 0) = false := by simp; omega
    go_enter Try.func12, Try.ntmps12
    go_upto_region 1 with fail
    have cx2 := keep_cell HS0.out.1 cx
    have kk0 := keep_cell HS0.out.1 k0
    have kk1 := keep_cell HS0.out.1 k1
    have kk2 := keep_cell HS0.out.1 k2
    have kk3 := keep_cell HS0.out.1 k3
    obtain ⟨W, hW⟩ : ∃ W, W = ((w.alloc (.cells #[.int .i64 p.fg, .int .i64 p.bg, .int .i64 p.fl] 23)).alloc (.cells #[.int .i64 0, .int .i64 0, .int .i64 0] 23)) := ⟨_, rfl⟩
    rw [← hW] at HS0 cx2 kk0 kk1 kk2 kk3
    rw [← hW]
    clear hW
    have HS := hide' HS0.out.1
    have HBp := hide' HS0.out.2.1
    have HBz := hide' HS0.out.2.2
    clear HS0
    obtain ⟨c0, c1, c2, f0, f1, f2⟩ := HBp.out
    obtain ⟨z0, z1, z2, e0, e1, e2⟩ := HBz.out
    go_wp2_with fail
    refine (HP1.out _).mono ?_
    rintro e w' ⟨rfl, rfl⟩
    go_wp2_with fail
    refine (HP2.out _).mono ?_
    rintro e w' ⟨rfl, rfl⟩
    go_wp2_with fail
    refine (HP3.out _).mono ?_
    rintro e w' ⟨rfl, rfl⟩
    go_wp2_with fail
    go_quiet (fail)
    have hs : Stay (fun _ => False) W (W.drewN nq) := (Stay.refl _ _).drewN _
    have HS2 := hide' (HS.out.trans hs)
    have HBp2 := hide' (HBp.out.keep hs)
    have HBz2 := hide' (HBz.out.keep hs)
    clear hs
    clear HS HBp HBz c0 c1 c2 f0 f1 f2 z0 z1 z2 e0 e1 e2
    have HS := HS2
    have HBp := HBp2
    have HBz := HBz2
    clear HS2 HBp2 HBz2
    obtain ⟨c0, c1, c2, f0, f1, f2⟩ := HBp.out
    obtain ⟨z0, z1, z2, e0, e1, e2⟩ := HBz.out
    go_upto_region 38 with fail
    generalize hW2 : World.setCell _ _ _ = W2
    have HBq : Hid (Box W2 w.heap.size q) := show Box W2 w.heap.size q from by rw [← hW2]; exact Box.put1_by HBp.out (HQ0.out.symm)
    have HBz2 : Hid (Box W2 (w.heap.size + 1) ⟨0, 0, 0⟩) := show Box W2 (w.heap.size + 1) ⟨0, 0, 0⟩ from by rw [← hW2]; exact Box.other HBz.out (by omega)
    have HS2 : Hid (Stay (fun _ => False) w W2) := show Stay (fun _ => False) w W2 from by rw [← hW2]; exact HS.out.setNew (p := ⟨w.heap.size, 1, none⟩) (Nat.le_refl _) _
    clear HS HBp HBz c0 c1 c2 f0 f1 f2 z0 z1 z2 e0 e1 e2 hW2
    have HBz := HBz2
    have HS := HS2
    clear HBz2 HS2
    obtain ⟨c0, c1, c2, f0, f1, f2⟩ := HBq.out
    obtain ⟨z0, z1, z2, e0, e1, e2⟩ := HBz.out
    go_wp2_with fail
    refine (HR.out 5 (by omega) (by omega) _ (by omega) _ (by omega) _ (by omega) q HWq.out Q HQ.out _ HS.out).mono ?_
    rintro e w3 ⟨rfl, hs⟩
    have HS3 := hide' (HS.out.trans hs)
    have HBz3 := hide' (HBz.out.keep hs)
    clear hs z0 z1 z2 e0 e1 e2
    obtain ⟨z0, z1, z2, e0, e1, e2⟩ := HBz3.out
    go_wp2
    exact one_ends rfl rfl (HBz3.out.put Q) rfl (HS3.out.put (by omega) _ _ _) rfl

end Go.Proofs.Ytinikpadbocfaaa
