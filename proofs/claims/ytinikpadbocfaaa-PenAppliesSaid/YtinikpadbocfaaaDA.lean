/-
  Steps of the document's Apply: no colour behind 48. No conditions.
-/
import Derived.Test.YtinikpadbocfaaaD0
namespace Go.Proofs.Ytinikpadbocfaaa
open Go.RowKit

set_option maxRecDepth 100000 in
set_option maxHeartbeats 4000000 in
theorem step48_n0 (p : Pn) (b off n cap : Nat) (w : World) (hn : n ≤ 1000) (h0 : 0 < n) (hc : n ≤ cap) (cx : w.cell? ⟨b, off, none⟩ = some (.int .i64 48)) 
    (hn1 : n = 1) : Calls Try.prog 12 #[.agg #[.int .i64 p.fg, .int .i64 p.bg, .int .i64 p.fl], .slice (some ⟨b, off, none⟩) n cap] w (Gives (.agg #[.int .i64 p.fg, .int .i64 p.bg, .int .i64 p.fl]) w) := by
  have HS0 := hide' (refStart w p)
  have n0 : (0 : Int) < n := by omega
  have n1 : (n : Int) ≤ 1000 := by omega
  have n2 : (1 : Int) ≤ n := by omega
  have dz : ((n : Int) == 0) = false := by simp; omega
  subst hn1
  by_cases hc1 : cap = 1
  · subst hc1
    go_enter Try.func12, Try.ntmps12
    go_upto_region 1 with fail
    have cx2 := keep_cell HS0.out.1 cx
    obtain ⟨W, hW⟩ : ∃ W, W = ((w.alloc (.cells #[.int .i64 p.fg, .int .i64 p.bg, .int .i64 p.fl] 23)).alloc (.cells #[.int .i64 0, .int .i64 0, .int .i64 0] 23)) := ⟨_, rfl⟩
    rw [← hW] at HS0 cx2 
    rw [← hW]
    clear hW
    have HS := hide' HS0.out.1
    have HBp := hide' HS0.out.2.1
    have HBz := hide' HS0.out.2.2
    clear HS0
    obtain ⟨c0, c1, c2, f0, f1, f2⟩ := HBp.out
    obtain ⟨z0, z1, z2, e0, e1, e2⟩ := HBz.out
    go_wp2
    exact one_ends rfl rfl (HBz.out.put p) rfl (HS.out.put (by omega) _ _ _) rfl
  · skip
    go_enter Try.func12, Try.ntmps12
    go_upto_region 1 with fail
    have cx2 := keep_cell HS0.out.1 cx
    obtain ⟨W, hW⟩ : ∃ W, W = ((w.alloc (.cells #[.int .i64 p.fg, .int .i64 p.bg, .int .i64 p.fl] 23)).alloc (.cells #[.int .i64 0, .int .i64 0, .int .i64 0] 23)) := ⟨_, rfl⟩
    rw [← hW] at HS0 cx2 
    rw [← hW]
    clear hW
    have HS := hide' HS0.out.1
    have HBp := hide' HS0.out.2.1
    have HBz := hide' HS0.out.2.2
    clear HS0
    obtain ⟨c0, c1, c2, f0, f1, f2⟩ := HBp.out
    obtain ⟨z0, z1, z2, e0, e1, e2⟩ := HBz.out
    go_wp2
    exact one_ends rfl rfl (HBz.out.put p) rfl (HS.out.put (by omega) _ _ _) rfl

set_option maxRecDepth 100000 in
set_option maxHeartbeats 4000000 in
theorem step48_n1 (p : Pn) (b off n cap : Nat) (w : World) (hn : n ≤ 1000) (h0 : 0 < n) (hc : n ≤ cap) (cx : w.cell? ⟨b, off, none⟩ = some (.int .i64 48)) 
    (hn1 : n = 2) : Calls Try.prog 12 #[.agg #[.int .i64 p.fg, .int .i64 p.bg, .int .i64 p.fl], .slice (some ⟨b, off, none⟩) n cap] w (Gives (.agg #[.int .i64 p.fg, .int .i64 p.bg, .int .i64 p.fl]) w) := by
  have HS0 := hide' (refStart w p)
  have n0 : (0 : Int) < n := by omega
  have n1 : (n : Int) ≤ 1000 := by omega
  have n2 : (1 : Int) ≤ n := by omega
  have dz : ((n : Int) == 0) = false := by simp; omega
  subst hn1
  obtain ⟨c', rfl⟩ : ∃ c', cap = c' + 1 := ⟨cap - 1, by omega⟩
  have hc1 : ¬ c' + 1 = 1 := by omega
  go_enter Try.func12, Try.ntmps12
  go_upto_region 1 with fail
  have cx2 := keep_cell HS0.out.1 cx
  obtain ⟨W, hW⟩ : ∃ W, W = ((w.alloc (.cells #[.int .i64 p.fg, .int .i64 p.bg, .int .i64 p.fl] 23)).alloc (.cells #[.int .i64 0, .int .i64 0, .int .i64 0] 23)) := ⟨_, rfl⟩
  rw [← hW] at HS0 cx2 
  rw [← hW]
  clear hW
  have HS := hide' HS0.out.1
  have HBp := hide' HS0.out.2.1
  have HBz := hide' HS0.out.2.2
  clear HS0
  obtain ⟨c0, c1, c2, f0, f1, f2⟩ := HBp.out
  obtain ⟨z0, z1, z2, e0, e1, e2⟩ := HBz.out
  go_wp2
  exact one_ends rfl rfl (HBz.out.put p) rfl (HS.out.put (by omega) _ _ _) rfl

set_option maxRecDepth 100000 in
set_option maxHeartbeats 4000000 in
theorem step48_n2 (p : Pn) (b off n cap : Nat) (r0 r1 : Int) (w : World) (hn : n ≤ 1000) (h0 : 0 < n) (hc : n ≤ cap) (cx : w.cell? ⟨b, off, none⟩ = some (.int .i64 48)) (k0 : w.cell? ⟨b, off + 1, none⟩ = some (.int .i64 r0)) (k1 : w.cell? ⟨b, off + 2, none⟩ = some (.int .i64 r1))
    (hn1 : 3 ≤ n) (e : r0 = 5) (hb1 : byteB r1 = false) : Calls Try.prog 12 #[.agg #[.int .i64 p.fg, .int .i64 p.bg, .int .i64 p.fl], .slice (some ⟨b, off, none⟩) n cap] w (Gives (.agg #[.int .i64 p.fg, .int .i64 p.bg, .int .i64 p.fl]) w) := by
  have HS0 := hide' (refStart w p)
  have n0 : (0 : Int) < n := by omega
  have n1 : (n : Int) ≤ 1000 := by omega
  have n2 : (1 : Int) ≤ n := by omega
  have dz : ((n : Int) == 0) = false := by simp; omega
  subst e
  have HP1 := hide' (part24 r1)
  rw [hb1] at HP1
  clear hb1
  have m2 : (2 : Int) ≤ (n - 1 : Nat) := by omega
  obtain ⟨c', rfl⟩ : ∃ c', cap = c' + 1 := ⟨cap - 1, by omega⟩
  have hc1 : ¬ c' + 1 = 1 := by omega
  by_cases h4 : (4 : Int) ≤ (n - 1 : Nat)
  · skip
    go_enter Try.func12, Try.ntmps12
    go_upto_region 1 with fail
    have cx2 := keep_cell HS0.out.1 cx
    have kk0 := keep_cell HS0.out.1 k0
    have kk1 := keep_cell HS0.out.1 k1
    obtain ⟨W, hW⟩ : ∃ W, W = ((w.alloc (.cells #[.int .i64 p.fg, .int .i64 p.bg, .int .i64 p.fl] 23)).alloc (.cells #[.int .i64 0, .int .i64 0, .int .i64 0] 23)) := ⟨_, rfl⟩
    rw [← hW] at HS0 cx2 kk0 kk1
    rw [← hW]
    clear hW
    have HS := hide' HS0.out.1
    have HBp := hide' HS0.out.2.1
    have HBz := hide' HS0.out.2.2
    clear HS0
    obtain ⟨c0, c1, c2, f0, f1, f2⟩ := HBp.out
    obtain ⟨z0, z1, z2, e0, e1, e2⟩ := HBz.out
    go_wp2_with fail
    refine (HP1.out _).mono ?_
    rintro e w' ⟨rfl, rfl⟩
    go_wp2_with fail
    exact one_ends rfl rfl (HBz.out.put p) rfl (HS.out.put (by omega) _ _ _) rfl
  · skip
    go_enter Try.func12, Try.ntmps12
    go_upto_region 1 with fail
    have cx2 := keep_cell HS0.out.1 cx
    have kk0 := keep_cell HS0.out.1 k0
    have kk1 := keep_cell HS0.out.1 k1
    obtain ⟨W, hW⟩ : ∃ W, W = ((w.alloc (.cells #[.int .i64 p.fg, .int .i64 p.bg, .int .i64 p.fl] 23)).alloc (.cells #[.int .i64 0, .int .i64 0, .int .i64 0] 23)) := ⟨_, rfl⟩
    rw [← hW] at HS0 cx2 kk0 kk1
    rw [← hW]
    clear hW
    have HS := hide' HS0.out.1
    have HBp := hide' HS0.out.2.1
    have HBz := hide' HS0.out.2.2
    clear HS0
    obtain ⟨c0, c1, c2, f0, f1, f2⟩ := HBp.out
    obtain ⟨z0, z1, z2, e0, e1, e2⟩ := HBz.out
    go_wp2_with fail
    refine (HP1.out _).mono ?_
    rintro e w' ⟨rfl, rfl⟩
    go_wp2_with fail
    exact one_ends rfl rfl (HBz.out.put p) rfl (HS.out.put (by omega) _ _ _) rfl

set_option maxRecDepth 100000 in
set_option maxHeartbeats 4000000 in
theorem step48_n3 (p : Pn) (b off n cap : Nat) (r0 : Int) (w : World) (hn : n ≤ 1000) (h0 : 0 < n) (hc : n ≤ cap) (cx : w.cell? ⟨b, off, none⟩ = some (.int .i64 48)) (k0 : w.cell? ⟨b, off + 1, none⟩ = some (.int .i64 r0))
    (hn1 : 3 ≤ n) (hn4 : n < 5) (e : (r0 == 5) = false) : Calls Try.prog 12 #[.agg #[.int .i64 p.fg, .int .i64 p.bg, .int .i64 p.fl], .slice (some ⟨b, off, none⟩) n cap] w (Gives (.agg #[.int .i64 p.fg, .int .i64 p.bg, .int .i64 p.fl]) w) := by
  have HS0 := hide' (refStart w p)
  have n0 : (0 : Int) < n := by omega
  have n1 : (n : Int) ≤ 1000 := by omega
  have n2 : (1 : Int) ≤ n := by omega
  have dz : ((n : Int) == 0) = false := by simp; omega
  have m2 : (2 : Int) ≤ (n - 1 : Nat) := by omega
  have m4 : ((n - 1 : Nat) : Int) < 4 := by omega
  obtain ⟨c', rfl⟩ : ∃ c', cap = c' + 1 := ⟨cap - 1, by omega⟩
  have hc1 : ¬ c' + 1 = 1 := by omega
  go_enter Try.func12, Try.ntmps12
  go_upto_region 1 with fail
  have cx2 := keep_cell HS0.out.1 cx
  have kk0 := keep_cell HS0.out.1 k0
  obtain ⟨W, hW⟩ : ∃ W, W = ((w.alloc (.cells #[.int .i64 p.fg, .int .i64 p.bg, .int .i64 p.fl] 23)).alloc (.cells #[.int .i64 0, .int .i64 0, .int .i64 0] 23)) := ⟨_, rfl⟩
  rw [← hW] at HS0 cx2 kk0
  rw [← hW]
  clear hW
  have HS := hide' HS0.out.1
  have HBp := hide' HS0.out.2.1
  have HBz := hide' HS0.out.2.2
  clear HS0
  obtain ⟨c0, c1, c2, f0, f1, f2⟩ := HBp.out
  obtain ⟨z0, z1, z2, e0, e1, e2⟩ := HBz.out
  go_wp2
  exact one_ends rfl rfl (HBz.out.put p) rfl (HS.out.put (by omega) _ _ _) rfl

set_option maxRecDepth 100000 in
set_option maxHeartbeats 4000000 in
theorem step48_n4 (p : Pn) (b off n cap : Nat) (r0 : Int) (w : World) (hn : n ≤ 1000) (h0 : 0 < n) (hc : n ≤ cap) (cx : w.cell? ⟨b, off, none⟩ = some (.int .i64 48)) (k0 : w.cell? ⟨b, off + 1, none⟩ = some (.int .i64 r0))
    (hn1 : 5 ≤ n) (e : (r0 == 5) = false) (e2 : (r0 == 2) = false) : Calls Try.prog 12 #[.agg #[.int .i64 p.fg, .int .i64 p.bg, .int .i64 p.fl], .slice (some ⟨b, off, none⟩) n cap] w (Gives (.agg #[.int .i64 p.fg, .int .i64 p.bg, .int .i64 p.fl]) w) := by
  have HS0 := hide' (refStart w p)
  have n0 : (0 : Int) < n := by omega
  have n1 : (n : Int) ≤ 1000 := by omega
  have n2 : (1 : Int) ≤ n := by omega
  have dz : ((n : Int) == 0) = false := by simp; omega
  have m2 : (4 : Int) ≤ (n - 1 : Nat) := by omega
  obtain ⟨c', rfl⟩ : ∃ c', cap = c' + 1 := ⟨cap - 1, by omega⟩
  have hc1 : ¬ c' + 1 = 1 := by omega
  go_enter Try.func12, Try.ntmps12
  go_upto_region 1 with fail
  have cx2 := keep_cell HS0.out.1 cx
  have kk0 := keep_cell HS0.out.1 k0
  obtain ⟨W, hW⟩ : ∃ W, W = ((w.alloc (.cells #[.int .i64 p.fg, .int .i64 p.bg, .int .i64 p.fl] 23)).alloc (.cells #[.int .i64 0, .int .i64 0, .int .i64 0] 23)) := ⟨_, rfl⟩
  rw [← hW] at HS0 cx2 kk0
  rw [← hW]
  clear hW
  have HS := hide' HS0.out.1
  have HBp := hide' HS0.out.2.1
  have HBz := hide' HS0.out.2.2
  clear HS0
  obtain ⟨c0, c1, c2, f0, f1, f2⟩ := HBp.out
  obtain ⟨z0, z1, z2, e0, e1, e2⟩ := HBz.out
  go_wp2
  exact one_ends rfl rfl (HBz.out.put p) rfl (HS.out.put (by omega) _ _ _) rfl

set_option maxRecDepth 100000 in
set_option maxHeartbeats 4000000 in
theorem step48_n5 (p : Pn) (b off n cap : Nat) (r0 r1 : Int) (w : World) (hn : n ≤ 1000) (h0 : 0 < n) (hc : n ≤ cap) (cx : w.cell? ⟨b, off, none⟩ = some (.int .i64 48)) (k0 : w.cell? ⟨b, off + 1, none⟩ = some (.int .i64 r0)) (k1 : w.cell? ⟨b, off + 2, none⟩ = some (.int .i64 r1))
    (hn1 : 5 ≤ n) (e : r0 = 2) (hb1 : byteB r1 = false) : Calls Try.prog 12 #[.agg #[.int .i64 p.fg, .int .i64 p.bg, .int .i64 p.fl], .slice (some ⟨b, off, none⟩) n cap] w (Gives (.agg #[.int .i64 p.fg, .int .i64 p.bg, .int .i64 p.fl]) w) := by
  have HS0 := hide' (refStart w p)
  have n0 : (0 : Int) < n := by omega
  have n1 : (n : Int) ≤ 1000 := by omega
  have n2 : (1 : Int) ≤ n := by omega
  have dz : ((n : Int) == 0) = false := by simp; omega
  subst e
  have HP1 := hide' (part24 r1)
  rw [hb1] at HP1
  clear hb1
  have m2 : (4 : Int) ≤ (n - 1 : Nat) := by omega
  obtain ⟨c', rfl⟩ : ∃ c', cap = c' + 1 := ⟨cap - 1, by omega⟩
  have hc1 : ¬ c' + 1 = 1 := by omega
  go_enter Try.func12, Try.ntmps12
  go_upto_region 1 with fail
  have cx2 := keep_cell HS0.out.1 cx
  have kk0 := keep_cell HS0.out.1 k0
  have kk1 := keep_cell HS0.out.1 k1
  obtain ⟨W, hW⟩ : ∃ W, W = ((w.alloc (.cells #[.int .i64 p.fg, .int .i64 p.bg, .int .i64 p.fl] 23)).alloc (.cells #[.int .i64 0, .int .i64 0, .int .i64 0] 23)) := ⟨_, rfl⟩
  rw [← hW] at HS0 cx2 kk0 kk1
  rw [← hW]
  clear hW
  have HS := hide' HS0.out.1
  have HBp := hide' HS0.out.2.1
  have HBz := hide' HS0.out.2.2
  clear HS0
  obtain ⟨c0, c1, c2, f0, f1, f2⟩ := HBp.out
  obtain ⟨z0, z1, z2, e0, e1, e2⟩ := HBz.out
  go_wp2_with fail
  refine (HP1.out _).mono ?_
  rintro e w' ⟨rfl, rfl⟩
  go_wp2_with fail
  exact one_ends rfl rfl (HBz.out.put p) rfl (HS.out.put (by omega) _ _ _) rfl

set_option maxRecDepth 100000 in
set_option maxHeartbeats 4000000 in
theorem step48_n6 (p : Pn) (b off n cap : Nat) (r0 r1 r2 : Int) (w : World) (hn : n ≤ 1000) (h0 : 0 < n) (hc : n ≤ cap) (cx : w.cell? ⟨b, off, none⟩ = some (.int .i64 48)) (k0 : w.cell? ⟨b, off + 1, none⟩ = some (.int .i64 r0)) (k1 : w.cell? ⟨b, off + 2, none⟩ = some (.int .i64 r1)) (k2 : w.cell? ⟨b, off + 3, none⟩ = some (.int .i64 r2))
    (hn1 : 5 ≤ n) (e : r0 = 2) (hb1 : byteB r1 = true) (hb2 : byteB r2 = false) : Calls Try.prog 12 #[.agg #[.int .i64 p.fg, .int .i64 p.bg, .int .i64 p.fl], .slice (some ⟨b, off, none⟩) n cap] w (Gives (.agg #[.int .i64 p.fg, .int .i64 p.bg, .int .i64 p.fl]) w) := by
  have HS0 := hide' (refStart w p)
  have n0 : (0 : Int) < n := by omega
  have n1 : (n : Int) ≤ 1000 := by omega
  have n2 : (1 : Int) ≤ n := by omega
  have dz : ((n : Int) == 0) = false := by simp; omega
  subst e
  have HP1 := hide' (part24 r1)
  rw [hb1] at HP1
  clear hb1
  have HP2 := hide' (part24 r2)
  rw [hb2] at HP2
  clear hb2
  have m2 : (4 : Int) ≤ (n - 1 : Nat) := by omega
  obtain ⟨c', rfl⟩ : ∃ c', cap = c' + 1 := ⟨cap - 1, by omega⟩
  have hc1 : ¬ c' + 1 = 1 := by omega
  go_enter Try.func12, Try.ntmps12
  go_upto_region 1 with fail
  have cx2 := keep_cell HS0.out.1 cx
  have kk0 := keep_cell HS0.out.1 k0
  have kk1 := keep_cell HS0.out.1 k1
  have kk2 := keep_cell HS0.out.1 k2
  obtain ⟨W, hW⟩ : ∃ W, W = ((w.alloc (.cells #[.int .i64 p.fg, .int .i64 p.bg, .int .i64 p.fl] 23)).alloc (.cells #[.int .i64 0, .int .i64 0, .int .i64 0] 23)) := ⟨_, rfl⟩
  rw [← hW] at HS0 cx2 kk0 kk1 kk2
  rw [← hW]
  clear hW
  have HS := hide' HS0.out.1
  have HBp := hide' HS0.out.2.1
  have HBz := hide' HS0.out.2.2
  clear HS0
  obtain ⟨c0, c1, c2, f0, f1, f2⟩ := HBp.out
  obtain ⟨z0, z1, z2, e0, e1, e2⟩ := HBz.out
  go_wp2_with fail
  refine (HP1.out _).mono ?_
  rintro e w' ⟨rfl, rfl⟩
  go_wp2_with fail
  refine (HP2.out _).mono ?_
  rintro e w' ⟨rfl, rfl⟩
  go_wp2_with fail
  exact one_ends rfl rfl (HBz.out.put p) rfl (HS.out.put (by omega) _ _ _) rfl

set_option maxRecDepth 100000 in
set_option maxHeartbeats 4000000 in
theorem step48_n7 (p : Pn) (b off n cap : Nat) (r0 r1 r2 r3 : Int) (w : World) (hn : n ≤ 1000) (h0 : 0 < n) (hc : n ≤ cap) (cx : w.cell? ⟨b, off, none⟩ = some (.int .i64 48)) (k0 : w.cell? ⟨b, off + 1, none⟩ = some (.int .i64 r0)) (k1 : w.cell? ⟨b, off + 2, none⟩ = some (.int .i64 r1)) (k2 : w.cell? ⟨b, off + 3, none⟩ = some (.int .i64 r2)) (k3 : w.cell? ⟨b, off + 4, none⟩ = some (.int .i64 r3))
    (hn1 : 5 ≤ n) (e : r0 = 2) (hb1 : byteB r1 = true) (hb2 : byteB r2 = true) (hb3 : byteB r3 = false) : Calls Try.prog 12 #[.agg #[.int .i64 p.fg, .int .i64 p.bg, .int .i64 p.fl], .slice (some ⟨b, off, none⟩) n cap] w (Gives (.agg #[.int .i64 p.fg, .int .i64 p.bg, .int .i64 p.fl]) w) := by
  have HS0 := hide' (refStart w p)
  have n0 : (0 : Int) < n := by omega
  have n1 : (n : Int) ≤ 1000 := by omega
  have n2 : (1 : Int) ≤ n := by omega
  have dz : ((n : Int) == 0) = false := by simp; omega
  subst e
  have HP1 := hide' (part24 r1)
  rw [hb1] at HP1
  clear hb1
  have HP2 := hide' (part24 r2)
  rw [hb2] at HP2
  clear hb2
  have HP3 := hide' (part24 r3)
  rw [hb3] at HP3
  clear hb3
  have m2 : (4 : Int) ≤ (n - 1 : Nat) := by omega
  obtain ⟨c', rfl⟩ : ∃ c', cap = c' + 1 := ⟨cap - 1, by omega⟩
  have hc1 : ¬ c' + 1 = 1 := by omega
  go_enter Try.func12, Try.ntmps12
  go_upto_region 1 with fail
  have cx2 := keep_cell HS0.out.1 cx
  have kk0 := keep_cell HS0.out.1 k0
  have kk1 := keep_cell HS0.out.1 k1
  have kk2 := keep_cell HS0.out.1 k2
  have kk3 := keep_cell HS0.out.1 k3
  obtain ⟨W, hW⟩ : ∃ W, W = ((w.alloc (.cells #[.int .i64 p.fg, .int .i64 p.bg, .int .i64 p.fl] 23)).alloc (.cells #[.int .i64 0, .int .i64 0, .int .i64 0] 23)) := ⟨_, rfl⟩
  rw [← hW] at HS0 cx2 kk0 kk1 kk2 kk3
  rw [← hW]
  clear hW
  have HS := hide' HS0.out.1
  have HBp := hide' HS0.out.2.1
  have HBz := hide' HS0.out.2.2
  clear HS0
  obtain ⟨c0, c1, c2, f0, f1, f2⟩ := HBp.out
  obtain ⟨z0, z1, z2, e0, e1, e2⟩ := HBz.out
  go_wp2_with fail
  refine (HP1.out _).mono ?_
  rintro e w' ⟨rfl, rfl⟩
  go_wp2_with fail
  refine (HP2.out _).mono ?_
  rintro e w' ⟨rfl, rfl⟩
  go_wp2_with fail
  refine (HP3.out _).mono ?_
  rintro e w' ⟨rfl, rfl⟩
  go_wp2_with fail
  exact one_ends rfl rfl (HBz.out.put p) rfl (HS.out.put (by omega) _ _ _) rfl

end Go.Proofs.Ytinikpadbocfaaa
