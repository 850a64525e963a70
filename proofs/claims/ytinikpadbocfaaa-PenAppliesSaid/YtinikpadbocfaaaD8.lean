/-
  Steps of the document's Apply: nothing. No conditions.
-/
import Derived.Test.YtinikpadbocfaaaD0
namespace Go.Proofs.Ytinikpadbocfaaa
open Go.RowKit

set_option maxRecDepth 100000 in
set_option maxHeartbeats 4000000 in
theorem step_other3 (p Q : Pn) (l : List Int) (b off n cap : Nat) (x : Int) (w : World) (hn : n ≤ 1000) (h0 : 0 < n) (hc : n ≤ cap) (cx : w.cell? ⟨b, off, none⟩ = some (.int .i64 x)) (hR : Rec w b off n l) (hW : W64 p.fl)
    (hv : val x = 0) (h1 : 97 < x) (h2 : x < 100) (q : Pn) (hq0 : p = q) (hWq : W64 q.fl) (hQ : Q = runL q (l.drop 1)) (hl : l.length = n) : Calls Try.prog 12 #[.agg #[.int .i64 p.fg, .int .i64 p.bg, .int .i64 p.fl], .slice (some ⟨b, off, none⟩) n cap] w (Gives (.agg #[.int .i64 Q.fg, .int .i64 Q.bg, .int .i64 Q.fl]) w) := by
  have HS0 := hide' (refStart w p)
  have HR := hide' hR
  have HW := hide' hW
  have n0 : (0 : Int) < n := by omega
  have n1 : (n : Int) ≤ 1000 := by omega
  have n2 : (1 : Int) ≤ n := by omega
  have dz : ((n : Int) == 0) = false := by simp; omega
  clear hR hW
  have x38 : (x == 38) = false := by simp; omega
  have x48 : (x == 48) = false := by simp; omega
  have x0 : (x == 0) = false := by simp; omega
  have x22 : (x == 22) = false := by simp; omega
  have x39 : (x == 39) = false := by simp; omega
  have x49 : (x == 49) = false := by simp; omega
  have HV := hide' (value25 x)
  rw [hv] at HV
  clear hv
  have HQ0 := hide' hq0
  have HWq := hide' hWq
  have HQ := hide' hQ
  have HL := hide' hl
  clear hq0 hWq hQ hl
  by_cases hn1 : n = 1
  · subst hn1
    have HQ' : Hid (Q = q) := show Q = q from by rw [HQ.out, List.drop_eq_nil_of_le (by rw [HL.out]; exact Nat.le_refl _), runL_nil]
    clear HQ
    have HQ := HQ'
    by_cases hc1 : cap = 1
    · subst hc1
      go_enter Try.func12, Try.ntmps12
      go_upto_region 1 with fail
      have cx2 := keep_cell HS0.out.1 cx
      obtain ⟨W, hW⟩ : ∃ W, W = ((w.alloc (.cells #[.int .i64 p.fg, .int .i64 p.bg, .int .i64 p.fl] 23)).alloc (.cells #[.int .i64 0, .int .i64 0, .int .i64 0] 23)) := ⟨_, rfl⟩
      rw [← hW] at HS0 cx2
      rw [← hW]
      clear hW
      have HS := hide' HS0.out.1
      have HBp := hide' HS0.out.2.1
      have HBz := hide' HS0.out.2.2
      clear HS0
      obtain ⟨c0, c1, c2, f0, f1, f2⟩ := HBp.out
      obtain ⟨z0, z1, z2, e0, e1, e2⟩ := HBz.out
      go_wp2_with fail
      refine (HV.out _).mono ?_
      rintro e w1 ⟨rfl, hs⟩
      have HS2 := hide' (HS.out.trans hs)
      have HBp2 := hide' (HBp.out.keep hs)
      have HBz2 := hide' (HBz.out.keep hs)
      clear hs
      clear HS HBp HBz c0 c1 c2 f0 f1 f2 z0 z1 z2 e0 e1 e2
      have HS := HS2
      have HBp := HBp2
      have HBz := HBz2
      clear HS2 HBp2 HBz2
      obtain ⟨c0, c1, c2, f0, f1, f2⟩ := HBp.out
      obtain ⟨z0, z1, z2, e0, e1, e2⟩ := HBz.out
      go_upto_region 38 with fail
      have HBq := HBp
      rw [HQ0.out] at HBq
      clear c0 c1 c2 f0 f1 f2
      obtain ⟨c0, c1, c2, f0, f1, f2⟩ := HBq.out
      go_wp2
      exact one_ends rfl rfl (HBz.out.put q) HQ.out.symm (HS.out.put (by omega) _ _ _) rfl
    · skip
      go_enter Try.func12, Try.ntmps12
      go_upto_region 1 with fail
      have cx2 := keep_cell HS0.out.1 cx
      obtain ⟨W, hW⟩ : ∃ W, W = ((w.alloc (.cells #[.int .i64 p.fg, .int .i64 p.bg, .int .i64 p.fl] 23)).alloc (.cells #[.int .i64 0, .int .i64 0, .int .i64 0] 23)) := ⟨_, rfl⟩
      rw [← hW] at HS0 cx2
      rw [← hW]
      clear hW
      have HS := hide' HS0.out.1
      have HBp := hide' HS0.out.2.1
      have HBz := hide' HS0.out.2.2
      clear HS0
      obtain ⟨c0, c1, c2, f0, f1, f2⟩ := HBp.out
      obtain ⟨z0, z1, z2, e0, e1, e2⟩ := HBz.out
      go_wp2_with fail
      refine (HV.out _).mono ?_
      rintro e w1 ⟨rfl, hs⟩
      have HS2 := hide' (HS.out.trans hs)
      have HBp2 := hide' (HBp.out.keep hs)
      have HBz2 := hide' (HBz.out.keep hs)
      clear hs
      clear HS HBp HBz c0 c1 c2 f0 f1 f2 z0 z1 z2 e0 e1 e2
      have HS := HS2
      have HBp := HBp2
      have HBz := HBz2
      clear HS2 HBp2 HBz2
      obtain ⟨c0, c1, c2, f0, f1, f2⟩ := HBp.out
      obtain ⟨z0, z1, z2, e0, e1, e2⟩ := HBz.out
      go_upto_region 38 with fail
      have HBq := HBp
      rw [HQ0.out] at HBq
      clear c0 c1 c2 f0 f1 f2
      obtain ⟨c0, c1, c2, f0, f1, f2⟩ := HBq.out
      go_wp2
      exact one_ends rfl rfl (HBz.out.put q) HQ.out.symm (HS.out.put (by omega) _ _ _) rfl
  · obtain ⟨c', rfl⟩ : ∃ c', cap = c' + 1 := ⟨cap - 1, by omega⟩
    have hc1 : ¬ c' + 1 = 1 := by omega
    have dz1 : (((n - 1 : Nat) : Int) == 0) = false := by simp; omega
    go_enter Try.func12, Try.ntmps12
    go_upto_region 1 with fail
    have cx2 := keep_cell HS0.out.1 cx
    obtain ⟨W, hW⟩ : ∃ W, W = ((w.alloc (.cells #[.int .i64 p.fg, .int .i64 p.bg, .int .i64 p.fl] 23)).alloc (.cells #[.int .i64 0, .int .i64 0, .int .i64 0] 23)) := ⟨_, rfl⟩
    rw [← hW] at HS0 cx2
    rw [← hW]
    clear hW
    have HS := hide' HS0.out.1
    have HBp := hide' HS0.out.2.1
    have HBz := hide' HS0.out.2.2
    clear HS0
    obtain ⟨c0, c1, c2, f0, f1, f2⟩ := HBp.out
    obtain ⟨z0, z1, z2, e0, e1, e2⟩ := HBz.out
    go_wp2_with fail
    refine (HV.out _).mono ?_
    rintro e w1 ⟨rfl, hs⟩
    have HS2 := hide' (HS.out.trans hs)
    have HBp2 := hide' (HBp.out.keep hs)
    have HBz2 := hide' (HBz.out.keep hs)
    clear hs
    clear HS HBp HBz c0 c1 c2 f0 f1 f2 z0 z1 z2 e0 e1 e2
    have HS := HS2
    have HBp := HBp2
    have HBz := HBz2
    clear HS2 HBp2 HBz2
    obtain ⟨c0, c1, c2, f0, f1, f2⟩ := HBp.out
    obtain ⟨z0, z1, z2, e0, e1, e2⟩ := HBz.out
    go_upto_region 38 with fail
    have HBq := HBp
    rw [HQ0.out] at HBq
    clear c0 c1 c2 f0 f1 f2
    obtain ⟨c0, c1, c2, f0, f1, f2⟩ := HBq.out
    go_wp2_with fail
    refine (HR.out 1 (by omega) (by omega) _ (by omega) _ (by omega) _ (by omega) q HWq.out Q HQ.out _ HS.out).mono ?_
    rintro e w3 ⟨rfl, hs⟩
    have HS3 := hide' (HS.out.trans hs)
    have HBz3 := hide' (HBz.out.keep hs)
    clear hs z0 z1 z2 e0 e1 e2
    obtain ⟨z0, z1, z2, e0, e1, e2⟩ := HBz3.out
    go_wp2
    exact one_ends rfl rfl (HBz3.out.put Q) rfl (HS3.out.put (by omega) _ _ _) rfl

set_option maxRecDepth 100000 in
set_option maxHeartbeats 4000000 in
theorem step_other4 (p Q : Pn) (l : List Int) (b off n cap : Nat) (x : Int) (w : World) (hn : n ≤ 1000) (h0 : 0 < n) (hc : n ≤ cap) (cx : w.cell? ⟨b, off, none⟩ = some (.int .i64 x)) (hR : Rec w b off n l) (hW : W64 p.fl)
    (hv : val x = 0) (h1 : 107 < x) (q : Pn) (hq0 : p = q) (hWq : W64 q.fl) (hQ : Q = runL q (l.drop 1)) (hl : l.length = n) : Calls Try.prog 12 #[.agg #[.int .i64 p.fg, .int .i64 p.bg, .int .i64 p.fl], .slice (some ⟨b, off, none⟩) n cap] w (Gives (.agg #[.int .i64 Q.fg, .int .i64 Q.bg, .int .i64 Q.fl]) w) := by
  have HS0 := hide' (refStart w p)
  have HR := hide' hR
  have HW := hide' hW
  have n0 : (0 : Int) < n := by omega
  have n1 : (n : Int) ≤ 1000 := by omega
  have n2 : (1 : Int) ≤ n := by omega
  have dz : ((n : Int) == 0) = false := by simp; omega
  clear hR hW
  have x38 : (x == 38) = false := by simp; omega
  have x48 : (x == 48) = false := by simp; omega
  have x0 : (x == 0) = false := by simp; omega
  have x22 : (x == 22) = false := by simp; omega
  have x39 : (x == 39) = false := by simp; omega
  have x49 : (x == 49) = false := by simp; omega
  have HV := hide' (value25 x)
  rw [hv] at HV
  clear hv
  have HQ0 := hide' hq0
  have HWq := hide' hWq
  have HQ := hide' hQ
  have HL := hide' hl
  clear hq0 hWq hQ hl
  by_cases hn1 : n = 1
  · subst hn1
    have HQ' : Hid (Q = q) := show Q = q from by rw [HQ.out, List.drop_eq_nil_of_le (by rw [HL.out]; exact Nat.le_refl _), runL_nil]
    clear HQ
    have HQ := HQ'
    by_cases hc1 : cap = 1
    · subst hc1
      go_enter Try.func12, Try.ntmps12
      go_upto_region 1 with fail
      have cx2 := keep_cell HS0.out.1 cx
      obtain ⟨W, hW⟩ : ∃ W, W = ((w.alloc (.cells #[.int .i64 p.fg, .int .i64 p.bg, .int .i64 p.fl] 23)).alloc (.cells #[.int .i64 0, .int .i64 0, .int .i64 0] 23)) := ⟨_, rfl⟩
      rw [← hW] at HS0 cx2
      rw [← hW]
      clear hW
      have HS := hide' HS0.out.1
      have HBp := hide' HS0.out.2.1
      have HBz := hide' HS0.out.2.2
      clear HS0
      obtain ⟨c0, c1, c2, f0, f1, f2⟩ := HBp.out
      obtain ⟨z0, z1, z2, e0, e1, e2⟩ := HBz.out
      go_wp2_with fail
      refine (HV.out _).mono ?_
      rintro e w1 ⟨rfl, hs⟩
      have HS2 := hide' (HS.out.trans hs)
      have HBp2 := hide' (HBp.out.keep hs)
      have HBz2 := hide' (HBz.out.keep hs)
      clear hs
      clear HS HBp HBz c0 c1 c2 f0 f1 f2 z0 z1 z2 e0 e1 e2
      have HS := HS2
      have HBp := HBp2
      have HBz := HBz2
      clear HS2 HBp2 HBz2
      obtain ⟨c0, c1, c2, f0, f1, f2⟩ := HBp.out
      obtain ⟨z0, z1, z2, e0, e1, e2⟩ := HBz.out
      go_upto_region 38 with fail
      have HBq := HBp
      rw [HQ0.out] at HBq
      clear c0 c1 c2 f0 f1 f2
      obtain ⟨c0, c1, c2, f0, f1, f2⟩ := HBq.out
      go_wp2
      exact one_ends rfl rfl (HBz.out.put q) HQ.out.symm (HS.out.put (by omega) _ _ _) rfl
    · skip
      go_enter Try.func12, Try.ntmps12
      go_upto_region 1 with fail
      have cx2 := keep_cell HS0.out.1 cx
      obtain ⟨W, hW⟩ : ∃ W, W = ((w.alloc (.cells #[.int .i64 p.fg, .int .i64 p.bg, .int .i64 p.fl] 23)).alloc (.cells #[.int .i64 0, .int .i64 0, .int .i64 0] 23)) := ⟨_, rfl⟩
      rw [← hW] at HS0 cx2
      rw [← hW]
      clear hW
      have HS := hide' HS0.out.1
      have HBp := hide' HS0.out.2.1
      have HBz := hide' HS0.out.2.2
      clear HS0
      obtain ⟨c0, c1, c2, f0, f1, f2⟩ := HBp.out
      obtain ⟨z0, z1, z2, e0, e1, e2⟩ := HBz.out
      go_wp2_with fail
      refine (HV.out _).mono ?_
      rintro e w1 ⟨rfl, hs⟩
      have HS2 := hide' (HS.out.trans hs)
      have HBp2 := hide' (HBp.out.keep hs)
      have HBz2 := hide' (HBz.out.keep hs)
      clear hs
      clear HS HBp HBz c0 c1 c2 f0 f1 f2 z0 z1 z2 e0 e1 e2
      have HS := HS2
      have HBp := HBp2
      have HBz := HBz2
      clear HS2 HBp2 HBz2
      obtain ⟨c0, c1, c2, f0, f1, f2⟩ := HBp.out
      obtain ⟨z0, z1, z2, e0, e1, e2⟩ := HBz.out
      go_upto_region 38 with fail
      have HBq := HBp
      rw [HQ0.out] at HBq
      clear c0 c1 c2 f0 f1 f2
      obtain ⟨c0, c1, c2, f0, f1, f2⟩ := HBq.out
      go_wp2
      exact one_ends rfl rfl (HBz.out.put q) HQ.out.symm (HS.out.put (by omega) _ _ _) rfl
  · obtain ⟨c', rfl⟩ : ∃ c', cap = c' + 1 := ⟨cap - 1, by omega⟩
    have hc1 : ¬ c' + 1 = 1 := by omega
    have dz1 : (((n - 1 : Nat) : Int) == 0) = false := by simp; omega
    go_enter Try.func12, Try.ntmps12
    go_upto_region 1 with fail
    have cx2 := keep_cell HS0.out.1 cx
    obtain ⟨W, hW⟩ : ∃ W, W = ((w.alloc (.cells #[.int .i64 p.fg, .int .i64 p.bg, .int .i64 p.fl] 23)).alloc (.cells #[.int .i64 0, .int .i64 0, .int .i64 0] 23)) := ⟨_, rfl⟩
    rw [← hW] at HS0 cx2
    rw [← hW]
    clear hW
    have HS := hide' HS0.out.1
    have HBp := hide' HS0.out.2.1
    have HBz := hide' HS0.out.2.2
    clear HS0
    obtain ⟨c0, c1, c2, f0, f1, f2⟩ := HBp.out
    obtain ⟨z0, z1, z2, e0, e1, e2⟩ := HBz.out
    go_wp2_with fail
    refine (HV.out _).mono ?_
    rintro e w1 ⟨rfl, hs⟩
    have HS2 := hide' (HS.out.trans hs)
    have HBp2 := hide' (HBp.out.keep hs)
    have HBz2 := hide' (HBz.out.keep hs)
    clear hs
    clear HS HBp HBz c0 c1 c2 f0 f1 f2 z0 z1 z2 e0 e1 e2
    have HS := HS2
    have HBp := HBp2
    have HBz := HBz2
    clear HS2 HBp2 HBz2
    obtain ⟨c0, c1, c2, f0, f1, f2⟩ := HBp.out
    obtain ⟨z0, z1, z2, e0, e1, e2⟩ := HBz.out
    go_upto_region 38 with fail
    have HBq := HBp
    rw [HQ0.out] at HBq
    clear c0 c1 c2 f0 f1 f2
    obtain ⟨c0, c1, c2, f0, f1, f2⟩ := HBq.out
    go_wp2_with fail
    refine (HR.out 1 (by omega) (by omega) _ (by omega) _ (by omega) _ (by omega) q HWq.out Q HQ.out _ HS.out).mono ?_
    rintro e w3 ⟨rfl, hs⟩
    have HS3 := hide' (HS.out.trans hs)
    have HBz3 := hide' (HBz.out.keep hs)
    clear hs z0 z1 z2 e0 e1 e2
    obtain ⟨z0, z1, z2, e0, e1, e2⟩ := HBz3.out
    go_wp2
    exact one_ends rfl rfl (HBz3.out.put Q) rfl (HS3.out.put (by omega) _ _ _) rfl

end Go.Proofs.Ytinikpadbocfaaa
