/-
  The law of the background: walked. No conditions.
-/
import Derived.Test.YtefpifnfinkbaaaH2
import Derived.BigQuiet
import Derived.Deep.DeepCutAuto
namespace Go.Proofs.Ytefpifnfinkbaaa
open Go.RowKit

variable {w : World}

/-- What stands in front of the second terminal. -/
def fB : Int → Int := upd (fun _ => 0) 2 2

set_option maxRecDepth 100000 in
theorem background_tttt : Calls Try.prog 5 #[.bool true, .bool true, .bool true, .bool true] w (Gives (.bool true) w) := by
  have HN8 := hide' (new8 w)
  go_enter Try.func5, Try.ntmps5
  go_wp2_with fail
  refine HN8.out.mono ?_
  rintro _ w0 ⟨q0, rfl, hT, hs, hq0⟩
  have HS0 := hide' hs
  have HQ0 := hide' hq0
  have HM0 : Hid (Moved q0 q0 w0 w0) := Moved.of_stay (Stay.refl _ w0)
  have HQ : Hid (q0.b = q0.b) := rfl
  clear hs hq0 HN8
  have hc : Calls Try.prog 21 #[.pointer (some ⟨q0.b, 0, none⟩), .int .i64 1] w0 (Did q0 [⟨1, 0, 1, 1, 0, false⟩, ⟨2, 1, 1, 1, 0, false⟩] 2 (fun _ => 0) 2 (.tuple #[.int .i64 2, .int .i64 0]) w0) := by
    
    exact fork21 (i := 0) (p := ⟨1, 0, 1, 1, 0, false⟩) 1 hT rfl rfl (by decide) (by decide)
  have HC := hide' hc
  clear hT hc
  go_wp2_with fail
  refine HC.out.mono ?_
  rintro _ w1 ⟨q1, hq, rfl, hT, hM⟩
  have HM1 := hide' (HM0.out.trans hM)
  have HQ' : Hid (q1.b = q0.b) := hq
  clear hM hq HC HQ HM0
  have HQ := HQ'
  clear HQ'
  have hc : Calls Try.prog 22 #[.pointer (some ⟨q0.b, 0, none⟩), .int .i64 2] w1 (Did q1 [⟨1, 0, 1, 1, 0, false⟩, ⟨2, 1, 2, 2, 0, false⟩] 2 (fun _ => 0) 2 (.int .i64 0) w1) := by
    rw [← HQ.out]
    exact setsid22 (i := 1) (p := ⟨2, 1, 1, 1, 0, false⟩) 2 hT rfl rfl (by decide)
  have HC := hide' hc
  clear hT hc
  go_wp2_with fail
  refine HC.out.mono ?_
  rintro _ w2 ⟨q2, hq, rfl, hT, hM⟩
  have HM2 := hide' (HM1.out.trans hM)
  have HQ' : Hid (q2.b = q0.b) := hq.trans HQ.out
  clear hM hq HC HQ HM1
  have HQ := HQ'
  clear HQ'
  have hc : Calls Try.prog 23 #[.pointer (some ⟨q0.b, 0, none⟩), .int .i64 2, .int .i64 2] w2 (Did q2 [⟨1, 0, 1, 1, 0, false⟩, ⟨2, 1, 2, 2, 2, false⟩] 2 fB 3 (.int .i64 0) w2) := by
    rw [← HQ.out]
    exact attach23 (i := 1) (p := ⟨2, 1, 2, 2, 0, false⟩) 2 2 hT rfl rfl (by decide) (by decide) (by decide) (by decide) (by decide) (by decide)
  have HC := hide' hc
  clear hT hc
  go_wp2_with fail
  refine HC.out.mono ?_
  rintro _ w3 ⟨q3, hq, rfl, hT, hM⟩
  have HM3 := hide' (HM2.out.trans hM)
  have HQ' : Hid (q3.b = q0.b) := hq.trans HQ.out
  clear hM hq HC HQ HM2
  have HQ := HQ'
  clear HQ'
  have hc : Calls Try.prog 21 #[.pointer (some ⟨q0.b, 0, none⟩), .int .i64 2] w3 (Did q3 [⟨1, 0, 1, 1, 0, false⟩, ⟨2, 1, 2, 2, 2, false⟩, ⟨3, 2, 2, 2, 2, false⟩] 3 fB 4 (.tuple #[.int .i64 3, .int .i64 0]) w3) := by
    rw [← HQ.out]
    exact fork21 (i := 1) (p := ⟨2, 1, 2, 2, 2, false⟩) 2 hT rfl rfl (by decide) (by decide)
  have HC := hide' hc
  clear hT hc
  go_wp2_with fail
  refine HC.out.mono ?_
  rintro _ w4 ⟨q4, hq, rfl, hT, hM⟩
  have HM4 := hide' (HM3.out.trans hM)
  have HQ' : Hid (q4.b = q0.b) := hq.trans HQ.out
  clear hM hq HC HQ HM3
  have HQ := HQ'
  clear HQ'
  have hc : Calls Try.prog 21 #[.pointer (some ⟨q0.b, 0, none⟩), .int .i64 3] w4 (Did q4 [⟨1, 0, 1, 1, 0, false⟩, ⟨2, 1, 2, 2, 2, false⟩, ⟨3, 2, 2, 2, 2, false⟩, ⟨4, 3, 2, 2, 2, false⟩] 4 fB 5 (.tuple #[.int .i64 4, .int .i64 0]) w4) := by
    rw [← HQ.out]
    exact fork21 (i := 2) (p := ⟨3, 2, 2, 2, 2, false⟩) 3 hT rfl rfl (by decide) (by decide)
  have HC := hide' hc
  clear hT hc
  go_wp2_with fail
  refine HC.out.mono ?_
  rintro _ w5 ⟨q5, hq, rfl, hT, hM⟩
  have HM5 := hide' (HM4.out.trans hM)
  have HQ' : Hid (q5.b = q0.b) := hq.trans HQ.out
  clear hM hq HC HQ HM4
  have HQ := HQ'
  clear HQ'
  have hc : Calls Try.prog 24 #[.pointer (some ⟨q0.b, 0, none⟩), .int .i64 2, .int .i64 3, .int .i64 0] w5 (Did q5 [⟨1, 0, 1, 1, 0, false⟩, ⟨2, 1, 2, 2, 2, false⟩, ⟨3, 2, 3, 2, 2, false⟩, ⟨4, 3, 2, 2, 2, false⟩] 4 fB 5 (.int .i64 0) w5) := by
    rw [← HQ.out]
    exact setpgid24_new_child (i := 1) (p := ⟨2, 1, 2, 2, 2, false⟩) (k := 2) (t := ⟨3, 2, 2, 2, 2, false⟩) 2 3 0 3 hT (by decide) 3 rfl rfl rfl rfl (by decide) (by decide) (by decide) (by decide) (by decide) (by decide) (by decide)
  have HC := hide' hc
  clear hT hc
  go_wp2_with fail
  refine HC.out.mono ?_
  rintro _ w6 ⟨q6, hq, rfl, hT, hM⟩
  have HM6 := hide' (HM5.out.trans hM)
  have HQ' : Hid (q6.b = q0.b) := hq.trans HQ.out
  clear hM hq HC HQ HM5
  have HQ := HQ'
  clear HQ'
  have hc : Calls Try.prog 24 #[.pointer (some ⟨q0.b, 0, none⟩), .int .i64 3, .int .i64 4, .int .i64 3] w6 (Did q6 [⟨1, 0, 1, 1, 0, false⟩, ⟨2, 1, 2, 2, 2, false⟩, ⟨3, 2, 3, 2, 2, false⟩, ⟨4, 3, 3, 2, 2, false⟩] 4 fB 5 (.int .i64 0) w6) := by
    rw [← HQ.out]
    exact setpgid24_join_child (i := 2) (p := ⟨3, 2, 3, 2, 2, false⟩) (k := 3) (t := ⟨4, 3, 2, 2, 2, false⟩) 3 4 3 4 hT (by decide) 3 rfl rfl rfl rfl (by decide) (by decide) (by decide) (by decide) (by decide) (by decide) (by decide) (by decide)
  have HC := hide' hc
  clear hT hc
  go_wp2_with fail
  refine HC.out.mono ?_
  rintro _ w7 ⟨q7, hq, rfl, hT, hM⟩
  have HM7 := hide' (HM6.out.trans hM)
  have HQ' : Hid (q7.b = q0.b) := hq.trans HQ.out
  clear hM hq HC HQ HM6
  have HQ := HQ'
  clear HQ'
  have hc : Calls Try.prog 25 #[.pointer (some ⟨q0.b, 0, none⟩), .int .i64 4, .bool true] w7 (Did q7 [⟨1, 0, 1, 1, 0, false⟩, ⟨2, 1, 2, 2, 2, false⟩, ⟨3, 2, 3, 2, 2, false⟩, ⟨4, 3, 3, 2, 2, true⟩] 4 fB 5 (.int .i64 0) w7) := by
    rw [← HQ.out]
    exact deaf25 (i := 3) (p := ⟨4, 3, 3, 2, 2, false⟩) 4 true hT rfl rfl
  have HC := hide' hc
  clear hT hc
  go_wp2_with fail
  refine HC.out.mono ?_
  rintro _ w8 ⟨q8, hq, rfl, hT, hM⟩
  have HM8 := hide' (HM7.out.trans hM)
  have HQ' : Hid (q8.b = q0.b) := hq.trans HQ.out
  clear hM hq HC HQ HM7
  have HQ := HQ'
  clear HQ'
  have hy : Calls Try.prog 11 #[.pointer (some ⟨q0.b, 0, none⟩), .int .i64 2, .int .i64 2, .bool true, .bool true] w8 (GivesNS 0 [] w8) := by
    rw [← HQ.out]
    exact may11_B (i := 1) (p := ⟨2, 1, 2, 2, 2, false⟩) 2 2 true true hT.tm rfl rfl (w64_of (by decide) (by decide)) (TM.w64 hT (by decide)) (by decide) (by decide)
  have HY := hide' hy
  have HT := hide' hT
  clear hT hy
  go_wp2_with fail
  refine HY.out.mono ?_
  rintro _ w9 ⟨a, cap, rfl, _, hs, _⟩
  have hT := HT.out.keep hs
  have HM9 := hide' (HM8.out.trans (Moved.of_stay hs))
  clear hs HY HT HM8
  have hx : Calls Try.prog 26 #[.pointer (some ⟨q0.b, 0, none⟩), .int .i64 3] w9 (Gone q8 [⟨1, 0, 1, 1, 0, false⟩, ⟨2, 1, 2, 2, 2, false⟩, ⟨4, 1, 3, 2, 2, true⟩] 4 fB 5 (tellS [⟨1, 0, 1, 1, 0, false⟩, ⟨2, 1, 2, 2, 2, false⟩, ⟨3, 2, 3, 2, 2, false⟩, ⟨4, 3, 3, 2, 2, true⟩] [⟨1, 0, 1, 1, 0, false⟩, ⟨2, 1, 2, 2, 2, false⟩, ⟨4, 1, 3, 2, 2, true⟩] (grps 4 [⟨1, 0, 1, 1, 0, false⟩, ⟨2, 1, 2, 2, 2, false⟩, ⟨4, 1, 3, 2, 2, true⟩])) w9) := by
    rw [← HQ.out]
    exact exit26_nolead (i := 2) (p := ⟨3, 2, 3, 2, 2, false⟩) 3 hT rfl rfl (by decide) (by decide) (hT.ok.gone (i := 2) (p := ⟨3, 2, 3, 2, 2, false⟩) rfl (by decide)).gd
  have HX := hide' hx
  have HO := hide' (hT.ok.gone (i := 2) (p := ⟨3, 2, 3, 2, 2, false⟩) rfl (by decide))
  clear hT hx
  go_wp2_with fail
  refine HX.out.mono ?_
  rintro _ wA ⟨q9, a9, cap9, hq, rfl, _, hTM, hM, _⟩
  have hT : TAt wA q9 [⟨1, 0, 1, 1, 0, false⟩, ⟨2, 1, 2, 2, 2, false⟩, ⟨4, 1, 3, 2, 2, true⟩] 4 fB 5 := ⟨hTM, HO.out, by decide⟩
  have HM10 := hide' (HM9.out.trans hM)
  have HQ' : Hid (q9.b = q0.b) := hq.trans HQ.out
  clear hM hq HX HQ HM9 HO hTM
  have HQ := HQ'
  clear HQ'
  have hy : Calls Try.prog 11 #[.pointer (some ⟨q0.b, 0, none⟩), .int .i64 4, .int .i64 2, .bool true, .bool true] wA (GivesNS 0 [] wA) := by
    rw [← HQ.out]
    exact may11_D (i := 2) (p := ⟨4, 1, 3, 2, 2, true⟩) 4 2 hT.tm rfl rfl (w64_of (by decide) (by decide)) (TM.w64 hT (by decide)) (by decide) (by decide) rfl
  have HY := hide' hy
  clear hT hy
  go_wp2_with fail
  refine HY.out.mono ?_
  rintro _ wB ⟨a, cap, rfl, hsv, hs, _⟩
  have HS := hide' (HS0.out.trans2 (HM10.out.1.trans (hs.mono (fun _ _ e => e.elim))) (fun j hj e => by have := HQ0.out j e; omega))
  have HAW := hide' (awake7 (w := wB))
  clear hs HY HM10 hsv HQ
  go_wp2_with fail
  refine HAW.out.mono ?_
  rintro _ wC ⟨rfl, hs⟩
  have HSC := hide' (HS.out.trans hs)
  clear hs HAW HS
  go_wp2
  go_ret
  exact ⟨rfl, HSC.out⟩

set_option maxRecDepth 100000 in
theorem background_tttf : Calls Try.prog 5 #[.bool true, .bool true, .bool true, .bool false] w (Gives (.bool true) w) := by
  have HN8 := hide' (new8 w)
  go_enter Try.func5, Try.ntmps5
  go_wp2_with fail
  refine HN8.out.mono ?_
  rintro _ w0 ⟨q0, rfl, hT, hs, hq0⟩
  have HS0 := hide' hs
  have HQ0 := hide' hq0
  have HM0 : Hid (Moved q0 q0 w0 w0) := Moved.of_stay (Stay.refl _ w0)
  have HQ : Hid (q0.b = q0.b) := rfl
  clear hs hq0 HN8
  have hc : Calls Try.prog 21 #[.pointer (some ⟨q0.b, 0, none⟩), .int .i64 1] w0 (Did q0 [⟨1, 0, 1, 1, 0, false⟩, ⟨2, 1, 1, 1, 0, false⟩] 2 (fun _ => 0) 2 (.tuple #[.int .i64 2, .int .i64 0]) w0) := by
    
    exact fork21 (i := 0) (p := ⟨1, 0, 1, 1, 0, false⟩) 1 hT rfl rfl (by decide) (by decide)
  have HC := hide' hc
  clear hT hc
  go_wp2_with fail
  refine HC.out.mono ?_
  rintro _ w1 ⟨q1, hq, rfl, hT, hM⟩
  have HM1 := hide' (HM0.out.trans hM)
  have HQ' : Hid (q1.b = q0.b) := hq
  clear hM hq HC HQ HM0
  have HQ := HQ'
  clear HQ'
  have hc : Calls Try.prog 22 #[.pointer (some ⟨q0.b, 0, none⟩), .int .i64 2] w1 (Did q1 [⟨1, 0, 1, 1, 0, false⟩, ⟨2, 1, 2, 2, 0, false⟩] 2 (fun _ => 0) 2 (.int .i64 0) w1) := by
    rw [← HQ.out]
    exact setsid22 (i := 1) (p := ⟨2, 1, 1, 1, 0, false⟩) 2 hT rfl rfl (by decide)
  have HC := hide' hc
  clear hT hc
  go_wp2_with fail
  refine HC.out.mono ?_
  rintro _ w2 ⟨q2, hq, rfl, hT, hM⟩
  have HM2 := hide' (HM1.out.trans hM)
  have HQ' : Hid (q2.b = q0.b) := hq.trans HQ.out
  clear hM hq HC HQ HM1
  have HQ := HQ'
  clear HQ'
  have hc : Calls Try.prog 23 #[.pointer (some ⟨q0.b, 0, none⟩), .int .i64 2, .int .i64 2] w2 (Did q2 [⟨1, 0, 1, 1, 0, false⟩, ⟨2, 1, 2, 2, 2, false⟩] 2 fB 3 (.int .i64 0) w2) := by
    rw [← HQ.out]
    exact attach23 (i := 1) (p := ⟨2, 1, 2, 2, 0, false⟩) 2 2 hT rfl rfl (by decide) (by decide) (by decide) (by decide) (by decide) (by decide)
  have HC := hide' hc
  clear hT hc
  go_wp2_with fail
  refine HC.out.mono ?_
  rintro _ w3 ⟨q3, hq, rfl, hT, hM⟩
  have HM3 := hide' (HM2.out.trans hM)
  have HQ' : Hid (q3.b = q0.b) := hq.trans HQ.out
  clear hM hq HC HQ HM2
  have HQ := HQ'
  clear HQ'
  have hc : Calls Try.prog 21 #[.pointer (some ⟨q0.b, 0, none⟩), .int .i64 2] w3 (Did q3 [⟨1, 0, 1, 1, 0, false⟩, ⟨2, 1, 2, 2, 2, false⟩, ⟨3, 2, 2, 2, 2, false⟩] 3 fB 4 (.tuple #[.int .i64 3, .int .i64 0]) w3) := by
    rw [← HQ.out]
    exact fork21 (i := 1) (p := ⟨2, 1, 2, 2, 2, false⟩) 2 hT rfl rfl (by decide) (by decide)
  have HC := hide' hc
  clear hT hc
  go_wp2_with fail
  refine HC.out.mono ?_
  rintro _ w4 ⟨q4, hq, rfl, hT, hM⟩
  have HM4 := hide' (HM3.out.trans hM)
  have HQ' : Hid (q4.b = q0.b) := hq.trans HQ.out
  clear hM hq HC HQ HM3
  have HQ := HQ'
  clear HQ'
  have hc : Calls Try.prog 21 #[.pointer (some ⟨q0.b, 0, none⟩), .int .i64 3] w4 (Did q4 [⟨1, 0, 1, 1, 0, false⟩, ⟨2, 1, 2, 2, 2, false⟩, ⟨3, 2, 2, 2, 2, false⟩, ⟨4, 3, 2, 2, 2, false⟩] 4 fB 5 (.tuple #[.int .i64 4, .int .i64 0]) w4) := by
    rw [← HQ.out]
    exact fork21 (i := 2) (p := ⟨3, 2, 2, 2, 2, false⟩) 3 hT rfl rfl (by decide) (by decide)
  have HC := hide' hc
  clear hT hc
  go_wp2_with fail
  refine HC.out.mono ?_
  rintro _ w5 ⟨q5, hq, rfl, hT, hM⟩
  have HM5 := hide' (HM4.out.trans hM)
  have HQ' : Hid (q5.b = q0.b) := hq.trans HQ.out
  clear hM hq HC HQ HM4
  have HQ := HQ'
  clear HQ'
  have hc : Calls Try.prog 24 #[.pointer (some ⟨q0.b, 0, none⟩), .int .i64 2, .int .i64 3, .int .i64 0] w5 (Did q5 [⟨1, 0, 1, 1, 0, false⟩, ⟨2, 1, 2, 2, 2, false⟩, ⟨3, 2, 3, 2, 2, false⟩, ⟨4, 3, 2, 2, 2, false⟩] 4 fB 5 (.int .i64 0) w5) := by
    rw [← HQ.out]
    exact setpgid24_new_child (i := 1) (p := ⟨2, 1, 2, 2, 2, false⟩) (k := 2) (t := ⟨3, 2, 2, 2, 2, false⟩) 2 3 0 3 hT (by decide) 3 rfl rfl rfl rfl (by decide) (by decide) (by decide) (by decide) (by decide) (by decide) (by decide)
  have HC := hide' hc
  clear hT hc
  go_wp2_with fail
  refine HC.out.mono ?_
  rintro _ w6 ⟨q6, hq, rfl, hT, hM⟩
  have HM6 := hide' (HM5.out.trans hM)
  have HQ' : Hid (q6.b = q0.b) := hq.trans HQ.out
  clear hM hq HC HQ HM5
  have HQ := HQ'
  clear HQ'
  have hc : Calls Try.prog 24 #[.pointer (some ⟨q0.b, 0, none⟩), .int .i64 3, .int .i64 4, .int .i64 3] w6 (Did q6 [⟨1, 0, 1, 1, 0, false⟩, ⟨2, 1, 2, 2, 2, false⟩, ⟨3, 2, 3, 2, 2, false⟩, ⟨4, 3, 3, 2, 2, false⟩] 4 fB 5 (.int .i64 0) w6) := by
    rw [← HQ.out]
    exact setpgid24_join_child (i := 2) (p := ⟨3, 2, 3, 2, 2, false⟩) (k := 3) (t := ⟨4, 3, 2, 2, 2, false⟩) 3 4 3 4 hT (by decide) 3 rfl rfl rfl rfl (by decide) (by decide) (by decide) (by decide) (by decide) (by decide) (by decide) (by decide)
  have HC := hide' hc
  clear hT hc
  go_wp2_with fail
  refine HC.out.mono ?_
  rintro _ w7 ⟨q7, hq, rfl, hT, hM⟩
  have HM7 := hide' (HM6.out.trans hM)
  have HQ' : Hid (q7.b = q0.b) := hq.trans HQ.out
  clear hM hq HC HQ HM6
  have HQ := HQ'
  clear HQ'
  have hc : Calls Try.prog 25 #[.pointer (some ⟨q0.b, 0, none⟩), .int .i64 4, .bool true] w7 (Did q7 [⟨1, 0, 1, 1, 0, false⟩, ⟨2, 1, 2, 2, 2, false⟩, ⟨3, 2, 3, 2, 2, false⟩, ⟨4, 3, 3, 2, 2, true⟩] 4 fB 5 (.int .i64 0) w7) := by
    rw [← HQ.out]
    exact deaf25 (i := 3) (p := ⟨4, 3, 3, 2, 2, false⟩) 4 true hT rfl rfl
  have HC := hide' hc
  clear hT hc
  go_wp2_with fail
  refine HC.out.mono ?_
  rintro _ w8 ⟨q8, hq, rfl, hT, hM⟩
  have HM8 := hide' (HM7.out.trans hM)
  have HQ' : Hid (q8.b = q0.b) := hq.trans HQ.out
  clear hM hq HC HQ HM7
  have HQ := HQ'
  clear HQ'
  have hy : Calls Try.prog 11 #[.pointer (some ⟨q0.b, 0, none⟩), .int .i64 2, .int .i64 2, .bool true, .bool true] w8 (GivesNS 0 [] w8) := by
    rw [← HQ.out]
    exact may11_B (i := 1) (p := ⟨2, 1, 2, 2, 2, false⟩) 2 2 true true hT.tm rfl rfl (w64_of (by decide) (by decide)) (TM.w64 hT (by decide)) (by decide) (by decide)
  have HY := hide' hy
  have HT := hide' hT
  clear hT hy
  go_wp2_with fail
  refine HY.out.mono ?_
  rintro _ w9 ⟨a, cap, rfl, _, hs, _⟩
  have hT := HT.out.keep hs
  have HM9 := hide' (HM8.out.trans (Moved.of_stay hs))
  clear hs HY HT HM8
  have HM10 := HM9
  clear HM9
  have hy : Calls Try.prog 11 #[.pointer (some ⟨q0.b, 0, none⟩), .int .i64 4, .int .i64 2, .bool true, .bool true] w9 (GivesNS 0 [] w9) := by
    rw [← HQ.out]
    exact may11_D (i := 3) (p := ⟨4, 3, 3, 2, 2, true⟩) 4 2 hT.tm rfl rfl (w64_of (by decide) (by decide)) (TM.w64 hT (by decide)) (by decide) (by decide) rfl
  have HY := hide' hy
  clear hT hy
  go_wp2_with fail
  refine HY.out.mono ?_
  rintro _ wB ⟨a, cap, rfl, hsv, hs, _⟩
  have HS := hide' (HS0.out.trans2 (HM10.out.1.trans (hs.mono (fun _ _ e => e.elim))) (fun j hj e => by have := HQ0.out j e; omega))
  have HAW := hide' (awake7 (w := wB))
  clear hs HY HM10 hsv HQ
  go_wp2_with fail
  refine HAW.out.mono ?_
  rintro _ wC ⟨rfl, hs⟩
  have HSC := hide' (HS.out.trans hs)
  clear hs HAW HS
  go_wp2
  go_ret
  exact ⟨rfl, HSC.out⟩

set_option maxRecDepth 100000 in
theorem background_ttft : Calls Try.prog 5 #[.bool true, .bool true, .bool false, .bool true] w (Gives (.bool true) w) := by
  have HN8 := hide' (new8 w)
  go_enter Try.func5, Try.ntmps5
  go_wp2_with fail
  refine HN8.out.mono ?_
  rintro _ w0 ⟨q0, rfl, hT, hs, hq0⟩
  have HS0 := hide' hs
  have HQ0 := hide' hq0
  have HM0 : Hid (Moved q0 q0 w0 w0) := Moved.of_stay (Stay.refl _ w0)
  have HQ : Hid (q0.b = q0.b) := rfl
  clear hs hq0 HN8
  have hc : Calls Try.prog 21 #[.pointer (some ⟨q0.b, 0, none⟩), .int .i64 1] w0 (Did q0 [⟨1, 0, 1, 1, 0, false⟩, ⟨2, 1, 1, 1, 0, false⟩] 2 (fun _ => 0) 2 (.tuple #[.int .i64 2, .int .i64 0]) w0) := by
    
    exact fork21 (i := 0) (p := ⟨1, 0, 1, 1, 0, false⟩) 1 hT rfl rfl (by decide) (by decide)
  have HC := hide' hc
  clear hT hc
  go_wp2_with fail
  refine HC.out.mono ?_
  rintro _ w1 ⟨q1, hq, rfl, hT, hM⟩
  have HM1 := hide' (HM0.out.trans hM)
  have HQ' : Hid (q1.b = q0.b) := hq
  clear hM hq HC HQ HM0
  have HQ := HQ'
  clear HQ'
  have hc : Calls Try.prog 22 #[.pointer (some ⟨q0.b, 0, none⟩), .int .i64 2] w1 (Did q1 [⟨1, 0, 1, 1, 0, false⟩, ⟨2, 1, 2, 2, 0, false⟩] 2 (fun _ => 0) 2 (.int .i64 0) w1) := by
    rw [← HQ.out]
    exact setsid22 (i := 1) (p := ⟨2, 1, 1, 1, 0, false⟩) 2 hT rfl rfl (by decide)
  have HC := hide' hc
  clear hT hc
  go_wp2_with fail
  refine HC.out.mono ?_
  rintro _ w2 ⟨q2, hq, rfl, hT, hM⟩
  have HM2 := hide' (HM1.out.trans hM)
  have HQ' : Hid (q2.b = q0.b) := hq.trans HQ.out
  clear hM hq HC HQ HM1
  have HQ := HQ'
  clear HQ'
  have hc : Calls Try.prog 23 #[.pointer (some ⟨q0.b, 0, none⟩), .int .i64 2, .int .i64 2] w2 (Did q2 [⟨1, 0, 1, 1, 0, false⟩, ⟨2, 1, 2, 2, 2, false⟩] 2 fB 3 (.int .i64 0) w2) := by
    rw [← HQ.out]
    exact attach23 (i := 1) (p := ⟨2, 1, 2, 2, 0, false⟩) 2 2 hT rfl rfl (by decide) (by decide) (by decide) (by decide) (by decide) (by decide)
  have HC := hide' hc
  clear hT hc
  go_wp2_with fail
  refine HC.out.mono ?_
  rintro _ w3 ⟨q3, hq, rfl, hT, hM⟩
  have HM3 := hide' (HM2.out.trans hM)
  have HQ' : Hid (q3.b = q0.b) := hq.trans HQ.out
  clear hM hq HC HQ HM2
  have HQ := HQ'
  clear HQ'
  have hc : Calls Try.prog 21 #[.pointer (some ⟨q0.b, 0, none⟩), .int .i64 2] w3 (Did q3 [⟨1, 0, 1, 1, 0, false⟩, ⟨2, 1, 2, 2, 2, false⟩, ⟨3, 2, 2, 2, 2, false⟩] 3 fB 4 (.tuple #[.int .i64 3, .int .i64 0]) w3) := by
    rw [← HQ.out]
    exact fork21 (i := 1) (p := ⟨2, 1, 2, 2, 2, false⟩) 2 hT rfl rfl (by decide) (by decide)
  have HC := hide' hc
  clear hT hc
  go_wp2_with fail
  refine HC.out.mono ?_
  rintro _ w4 ⟨q4, hq, rfl, hT, hM⟩
  have HM4 := hide' (HM3.out.trans hM)
  have HQ' : Hid (q4.b = q0.b) := hq.trans HQ.out
  clear hM hq HC HQ HM3
  have HQ := HQ'
  clear HQ'
  have hc : Calls Try.prog 21 #[.pointer (some ⟨q0.b, 0, none⟩), .int .i64 3] w4 (Did q4 [⟨1, 0, 1, 1, 0, false⟩, ⟨2, 1, 2, 2, 2, false⟩, ⟨3, 2, 2, 2, 2, false⟩, ⟨4, 3, 2, 2, 2, false⟩] 4 fB 5 (.tuple #[.int .i64 4, .int .i64 0]) w4) := by
    rw [← HQ.out]
    exact fork21 (i := 2) (p := ⟨3, 2, 2, 2, 2, false⟩) 3 hT rfl rfl (by decide) (by decide)
  have HC := hide' hc
  clear hT hc
  go_wp2_with fail
  refine HC.out.mono ?_
  rintro _ w5 ⟨q5, hq, rfl, hT, hM⟩
  have HM5 := hide' (HM4.out.trans hM)
  have HQ' : Hid (q5.b = q0.b) := hq.trans HQ.out
  clear hM hq HC HQ HM4
  have HQ := HQ'
  clear HQ'
  have hc : Calls Try.prog 24 #[.pointer (some ⟨q0.b, 0, none⟩), .int .i64 2, .int .i64 3, .int .i64 0] w5 (Did q5 [⟨1, 0, 1, 1, 0, false⟩, ⟨2, 1, 2, 2, 2, false⟩, ⟨3, 2, 3, 2, 2, false⟩, ⟨4, 3, 2, 2, 2, false⟩] 4 fB 5 (.int .i64 0) w5) := by
    rw [← HQ.out]
    exact setpgid24_new_child (i := 1) (p := ⟨2, 1, 2, 2, 2, false⟩) (k := 2) (t := ⟨3, 2, 2, 2, 2, false⟩) 2 3 0 3 hT (by decide) 3 rfl rfl rfl rfl (by decide) (by decide) (by decide) (by decide) (by decide) (by decide) (by decide)
  have HC := hide' hc
  clear hT hc
  go_wp2_with fail
  refine HC.out.mono ?_
  rintro _ w6 ⟨q6, hq, rfl, hT, hM⟩
  have HM6 := hide' (HM5.out.trans hM)
  have HQ' : Hid (q6.b = q0.b) := hq.trans HQ.out
  clear hM hq HC HQ HM5
  have HQ := HQ'
  clear HQ'
  have hc : Calls Try.prog 24 #[.pointer (some ⟨q0.b, 0, none⟩), .int .i64 3, .int .i64 4, .int .i64 3] w6 (Did q6 [⟨1, 0, 1, 1, 0, false⟩, ⟨2, 1, 2, 2, 2, false⟩, ⟨3, 2, 3, 2, 2, false⟩, ⟨4, 3, 3, 2, 2, false⟩] 4 fB 5 (.int .i64 0) w6) := by
    rw [← HQ.out]
    exact setpgid24_join_child (i := 2) (p := ⟨3, 2, 3, 2, 2, false⟩) (k := 3) (t := ⟨4, 3, 2, 2, 2, false⟩) 3 4 3 4 hT (by decide) 3 rfl rfl rfl rfl (by decide) (by decide) (by decide) (by decide) (by decide) (by decide) (by decide) (by decide)
  have HC := hide' hc
  clear hT hc
  go_wp2_with fail
  refine HC.out.mono ?_
  rintro _ w7 ⟨q7, hq, rfl, hT, hM⟩
  have HM7 := hide' (HM6.out.trans hM)
  have HQ' : Hid (q7.b = q0.b) := hq.trans HQ.out
  clear hM hq HC HQ HM6
  have HQ := HQ'
  clear HQ'
  have hc : Calls Try.prog 25 #[.pointer (some ⟨q0.b, 0, none⟩), .int .i64 4, .bool true] w7 (Did q7 [⟨1, 0, 1, 1, 0, false⟩, ⟨2, 1, 2, 2, 2, false⟩, ⟨3, 2, 3, 2, 2, false⟩, ⟨4, 3, 3, 2, 2, true⟩] 4 fB 5 (.int .i64 0) w7) := by
    rw [← HQ.out]
    exact deaf25 (i := 3) (p := ⟨4, 3, 3, 2, 2, false⟩) 4 true hT rfl rfl
  have HC := hide' hc
  clear hT hc
  go_wp2_with fail
  refine HC.out.mono ?_
  rintro _ w8 ⟨q8, hq, rfl, hT, hM⟩
  have HM8 := hide' (HM7.out.trans hM)
  have HQ' : Hid (q8.b = q0.b) := hq.trans HQ.out
  clear hM hq HC HQ HM7
  have HQ := HQ'
  clear HQ'
  have hy : Calls Try.prog 11 #[.pointer (some ⟨q0.b, 0, none⟩), .int .i64 2, .int .i64 2, .bool true, .bool false] w8 (GivesNS 0 [] w8) := by
    rw [← HQ.out]
    exact may11_B (i := 1) (p := ⟨2, 1, 2, 2, 2, false⟩) 2 2 true false hT.tm rfl rfl (w64_of (by decide) (by decide)) (TM.w64 hT (by decide)) (by decide) (by decide)
  have HY := hide' hy
  have HT := hide' hT
  clear hT hy
  go_wp2_with fail
  refine HY.out.mono ?_
  rintro _ w9 ⟨a, cap, rfl, _, hs, _⟩
  have hT := HT.out.keep hs
  have HM9 := hide' (HM8.out.trans (Moved.of_stay hs))
  clear hs HY HT HM8
  have hx : Calls Try.prog 26 #[.pointer (some ⟨q0.b, 0, none⟩), .int .i64 3] w9 (Gone q8 [⟨1, 0, 1, 1, 0, false⟩, ⟨2, 1, 2, 2, 2, false⟩, ⟨4, 1, 3, 2, 2, true⟩] 4 fB 5 (tellS [⟨1, 0, 1, 1, 0, false⟩, ⟨2, 1, 2, 2, 2, false⟩, ⟨3, 2, 3, 2, 2, false⟩, ⟨4, 3, 3, 2, 2, true⟩] [⟨1, 0, 1, 1, 0, false⟩, ⟨2, 1, 2, 2, 2, false⟩, ⟨4, 1, 3, 2, 2, true⟩] (grps 4 [⟨1, 0, 1, 1, 0, false⟩, ⟨2, 1, 2, 2, 2, false⟩, ⟨4, 1, 3, 2, 2, true⟩])) w9) := by
    rw [← HQ.out]
    exact exit26_nolead (i := 2) (p := ⟨3, 2, 3, 2, 2, false⟩) 3 hT rfl rfl (by decide) (by decide) (hT.ok.gone (i := 2) (p := ⟨3, 2, 3, 2, 2, false⟩) rfl (by decide)).gd
  have HX := hide' hx
  have HO := hide' (hT.ok.gone (i := 2) (p := ⟨3, 2, 3, 2, 2, false⟩) rfl (by decide))
  clear hT hx
  go_wp2_with fail
  refine HX.out.mono ?_
  rintro _ wA ⟨q9, a9, cap9, hq, rfl, _, hTM, hM, _⟩
  have hT : TAt wA q9 [⟨1, 0, 1, 1, 0, false⟩, ⟨2, 1, 2, 2, 2, false⟩, ⟨4, 1, 3, 2, 2, true⟩] 4 fB 5 := ⟨hTM, HO.out, by decide⟩
  have HM10 := hide' (HM9.out.trans hM)
  have HQ' : Hid (q9.b = q0.b) := hq.trans HQ.out
  clear hM hq HX HQ HM9 HO hTM
  have HQ := HQ'
  clear HQ'
  have hy : Calls Try.prog 11 #[.pointer (some ⟨q0.b, 0, none⟩), .int .i64 4, .int .i64 2, .bool true, .bool false] wA (GivesNS 0 [] wA) := by
    rw [← HQ.out]
    exact may11_C (i := 2) (p := ⟨4, 1, 3, 2, 2, true⟩) 4 2 hT.tm rfl rfl (w64_of (by decide) (by decide)) (TM.w64 hT (by decide)) (by decide) (by decide)
  have HY := hide' hy
  clear hT hy
  go_wp2_with fail
  refine HY.out.mono ?_
  rintro _ wB ⟨a, cap, rfl, hsv, hs, _⟩
  have HS := hide' (HS0.out.trans2 (HM10.out.1.trans (hs.mono (fun _ _ e => e.elim))) (fun j hj e => by have := HQ0.out j e; omega))
  have HAW := hide' (awake7 (w := wB))
  clear hs HY HM10 hsv HQ
  go_wp2_with fail
  refine HAW.out.mono ?_
  rintro _ wC ⟨rfl, hs⟩
  have HSC := hide' (HS.out.trans hs)
  clear hs HAW HS
  go_wp2
  go_ret
  exact ⟨rfl, HSC.out⟩

set_option maxRecDepth 100000 in
theorem background_ttff : Calls Try.prog 5 #[.bool true, .bool true, .bool false, .bool false] w (Gives (.bool true) w) := by
  have HN8 := hide' (new8 w)
  go_enter Try.func5, Try.ntmps5
  go_wp2_with fail
  refine HN8.out.mono ?_
  rintro _ w0 ⟨q0, rfl, hT, hs, hq0⟩
  have HS0 := hide' hs
  have HQ0 := hide' hq0
  have HM0 : Hid (Moved q0 q0 w0 w0) := Moved.of_stay (Stay.refl _ w0)
  have HQ : Hid (q0.b = q0.b) := rfl
  clear hs hq0 HN8
  have hc : Calls Try.prog 21 #[.pointer (some ⟨q0.b, 0, none⟩), .int .i64 1] w0 (Did q0 [⟨1, 0, 1, 1, 0, false⟩, ⟨2, 1, 1, 1, 0, false⟩] 2 (fun _ => 0) 2 (.tuple #[.int .i64 2, .int .i64 0]) w0) := by
    
    exact fork21 (i := 0) (p := ⟨1, 0, 1, 1, 0, false⟩) 1 hT rfl rfl (by decide) (by decide)
  have HC := hide' hc
  clear hT hc
  go_wp2_with fail
  refine HC.out.mono ?_
  rintro _ w1 ⟨q1, hq, rfl, hT, hM⟩
  have HM1 := hide' (HM0.out.trans hM)
  have HQ' : Hid (q1.b = q0.b) := hq
  clear hM hq HC HQ HM0
  have HQ := HQ'
  clear HQ'
  have hc : Calls Try.prog 22 #[.pointer (some ⟨q0.b, 0, none⟩), .int .i64 2] w1 (Did q1 [⟨1, 0, 1, 1, 0, false⟩, ⟨2, 1, 2, 2, 0, false⟩] 2 (fun _ => 0) 2 (.int .i64 0) w1) := by
    rw [← HQ.out]
    exact setsid22 (i := 1) (p := ⟨2, 1, 1, 1, 0, false⟩) 2 hT rfl rfl (by decide)
  have HC := hide' hc
  clear hT hc
  go_wp2_with fail
  refine HC.out.mono ?_
  rintro _ w2 ⟨q2, hq, rfl, hT, hM⟩
  have HM2 := hide' (HM1.out.trans hM)
  have HQ' : Hid (q2.b = q0.b) := hq.trans HQ.out
  clear hM hq HC HQ HM1
  have HQ := HQ'
  clear HQ'
  have hc : Calls Try.prog 23 #[.pointer (some ⟨q0.b, 0, none⟩), .int .i64 2, .int .i64 2] w2 (Did q2 [⟨1, 0, 1, 1, 0, false⟩, ⟨2, 1, 2, 2, 2, false⟩] 2 fB 3 (.int .i64 0) w2) := by
    rw [← HQ.out]
    exact attach23 (i := 1) (p := ⟨2, 1, 2, 2, 0, false⟩) 2 2 hT rfl rfl (by decide) (by decide) (by decide) (by decide) (by decide) (by decide)
  have HC := hide' hc
  clear hT hc
  go_wp2_with fail
  refine HC.out.mono ?_
  rintro _ w3 ⟨q3, hq, rfl, hT, hM⟩
  have HM3 := hide' (HM2.out.trans hM)
  have HQ' : Hid (q3.b = q0.b) := hq.trans HQ.out
  clear hM hq HC HQ HM2
  have HQ := HQ'
  clear HQ'
  have hc : Calls Try.prog 21 #[.pointer (some ⟨q0.b, 0, none⟩), .int .i64 2] w3 (Did q3 [⟨1, 0, 1, 1, 0, false⟩, ⟨2, 1, 2, 2, 2, false⟩, ⟨3, 2, 2, 2, 2, false⟩] 3 fB 4 (.tuple #[.int .i64 3, .int .i64 0]) w3) := by
    rw [← HQ.out]
    exact fork21 (i := 1) (p := ⟨2, 1, 2, 2, 2, false⟩) 2 hT rfl rfl (by decide) (by decide)
  have HC := hide' hc
  clear hT hc
  go_wp2_with fail
  refine HC.out.mono ?_
  rintro _ w4 ⟨q4, hq, rfl, hT, hM⟩
  have HM4 := hide' (HM3.out.trans hM)
  have HQ' : Hid (q4.b = q0.b) := hq.trans HQ.out
  clear hM hq HC HQ HM3
  have HQ := HQ'
  clear HQ'
  have hc : Calls Try.prog 21 #[.pointer (some ⟨q0.b, 0, none⟩), .int .i64 3] w4 (Did q4 [⟨1, 0, 1, 1, 0, false⟩, ⟨2, 1, 2, 2, 2, false⟩, ⟨3, 2, 2, 2, 2, false⟩, ⟨4, 3, 2, 2, 2, false⟩] 4 fB 5 (.tuple #[.int .i64 4, .int .i64 0]) w4) := by
    rw [← HQ.out]
    exact fork21 (i := 2) (p := ⟨3, 2, 2, 2, 2, false⟩) 3 hT rfl rfl (by decide) (by decide)
  have HC := hide' hc
  clear hT hc
  go_wp2_with fail
  refine HC.out.mono ?_
  rintro _ w5 ⟨q5, hq, rfl, hT, hM⟩
  have HM5 := hide' (HM4.out.trans hM)
  have HQ' : Hid (q5.b = q0.b) := hq.trans HQ.out
  clear hM hq HC HQ HM4
  have HQ := HQ'
  clear HQ'
  have hc : Calls Try.prog 24 #[.pointer (some ⟨q0.b, 0, none⟩), .int .i64 2, .int .i64 3, .int .i64 0] w5 (Did q5 [⟨1, 0, 1, 1, 0, false⟩, ⟨2, 1, 2, 2, 2, false⟩, ⟨3, 2, 3, 2, 2, false⟩, ⟨4, 3, 2, 2, 2, false⟩] 4 fB 5 (.int .i64 0) w5) := by
    rw [← HQ.out]
    exact setpgid24_new_child (i := 1) (p := ⟨2, 1, 2, 2, 2, false⟩) (k := 2) (t := ⟨3, 2, 2, 2, 2, false⟩) 2 3 0 3 hT (by decide) 3 rfl rfl rfl rfl (by decide) (by decide) (by decide) (by decide) (by decide) (by decide) (by decide)
  have HC := hide' hc
  clear hT hc
  go_wp2_with fail
  refine HC.out.mono ?_
  rintro _ w6 ⟨q6, hq, rfl, hT, hM⟩
  have HM6 := hide' (HM5.out.trans hM)
  have HQ' : Hid (q6.b = q0.b) := hq.trans HQ.out
  clear hM hq HC HQ HM5
  have HQ := HQ'
  clear HQ'
  have hc : Calls Try.prog 24 #[.pointer (some ⟨q0.b, 0, none⟩), .int .i64 3, .int .i64 4, .int .i64 3] w6 (Did q6 [⟨1, 0, 1, 1, 0, false⟩, ⟨2, 1, 2, 2, 2, false⟩, ⟨3, 2, 3, 2, 2, false⟩, ⟨4, 3, 3, 2, 2, false⟩] 4 fB 5 (.int .i64 0) w6) := by
    rw [← HQ.out]
    exact setpgid24_join_child (i := 2) (p := ⟨3, 2, 3, 2, 2, false⟩) (k := 3) (t := ⟨4, 3, 2, 2, 2, false⟩) 3 4 3 4 hT (by decide) 3 rfl rfl rfl rfl (by decide) (by decide) (by decide) (by decide) (by decide) (by decide) (by decide) (by decide)
  have HC := hide' hc
  clear hT hc
  go_wp2_with fail
  refine HC.out.mono ?_
  rintro _ w7 ⟨q7, hq, rfl, hT, hM⟩
  have HM7 := hide' (HM6.out.trans hM)
  have HQ' : Hid (q7.b = q0.b) := hq.trans HQ.out
  clear hM hq HC HQ HM6
  have HQ := HQ'
  clear HQ'
  have hc : Calls Try.prog 25 #[.pointer (some ⟨q0.b, 0, none⟩), .int .i64 4, .bool true] w7 (Did q7 [⟨1, 0, 1, 1, 0, false⟩, ⟨2, 1, 2, 2, 2, false⟩, ⟨3, 2, 3, 2, 2, false⟩, ⟨4, 3, 3, 2, 2, true⟩] 4 fB 5 (.int .i64 0) w7) := by
    rw [← HQ.out]
    exact deaf25 (i := 3) (p := ⟨4, 3, 3, 2, 2, false⟩) 4 true hT rfl rfl
  have HC := hide' hc
  clear hT hc
  go_wp2_with fail
  refine HC.out.mono ?_
  rintro _ w8 ⟨q8, hq, rfl, hT, hM⟩
  have HM8 := hide' (HM7.out.trans hM)
  have HQ' : Hid (q8.b = q0.b) := hq.trans HQ.out
  clear hM hq HC HQ HM7
  have HQ := HQ'
  clear HQ'
  have hy : Calls Try.prog 11 #[.pointer (some ⟨q0.b, 0, none⟩), .int .i64 2, .int .i64 2, .bool true, .bool false] w8 (GivesNS 0 [] w8) := by
    rw [← HQ.out]
    exact may11_B (i := 1) (p := ⟨2, 1, 2, 2, 2, false⟩) 2 2 true false hT.tm rfl rfl (w64_of (by decide) (by decide)) (TM.w64 hT (by decide)) (by decide) (by decide)
  have HY := hide' hy
  have HT := hide' hT
  clear hT hy
  go_wp2_with fail
  refine HY.out.mono ?_
  rintro _ w9 ⟨a, cap, rfl, _, hs, _⟩
  have hT := HT.out.keep hs
  have HM9 := hide' (HM8.out.trans (Moved.of_stay hs))
  clear hs HY HT HM8
  have HM10 := HM9
  clear HM9
  have hy : Calls Try.prog 11 #[.pointer (some ⟨q0.b, 0, none⟩), .int .i64 4, .int .i64 2, .bool true, .bool false] w9 (GivesNS 0 [] w9) := by
    rw [← HQ.out]
    exact may11_C (i := 3) (p := ⟨4, 3, 3, 2, 2, true⟩) 4 2 hT.tm rfl rfl (w64_of (by decide) (by decide)) (TM.w64 hT (by decide)) (by decide) (by decide)
  have HY := hide' hy
  clear hT hy
  go_wp2_with fail
  refine HY.out.mono ?_
  rintro _ wB ⟨a, cap, rfl, hsv, hs, _⟩
  have HS := hide' (HS0.out.trans2 (HM10.out.1.trans (hs.mono (fun _ _ e => e.elim))) (fun j hj e => by have := HQ0.out j e; omega))
  have HAW := hide' (awake7 (w := wB))
  clear hs HY HM10 hsv HQ
  go_wp2_with fail
  refine HAW.out.mono ?_
  rintro _ wC ⟨rfl, hs⟩
  have HSC := hide' (HS.out.trans hs)
  clear hs HAW HS
  go_wp2
  go_ret
  exact ⟨rfl, HSC.out⟩

set_option maxRecDepth 100000 in
theorem background_tftt : Calls Try.prog 5 #[.bool true, .bool false, .bool true, .bool true] w (Gives (.bool true) w) := by
  have HN8 := hide' (new8 w)
  go_enter Try.func5, Try.ntmps5
  go_wp2_with fail
  refine HN8.out.mono ?_
  rintro _ w0 ⟨q0, rfl, hT, hs, hq0⟩
  have HS0 := hide' hs
  have HQ0 := hide' hq0
  have HM0 : Hid (Moved q0 q0 w0 w0) := Moved.of_stay (Stay.refl _ w0)
  have HQ : Hid (q0.b = q0.b) := rfl
  clear hs hq0 HN8
  have hc : Calls Try.prog 21 #[.pointer (some ⟨q0.b, 0, none⟩), .int .i64 1] w0 (Did q0 [⟨1, 0, 1, 1, 0, false⟩, ⟨2, 1, 1, 1, 0, false⟩] 2 (fun _ => 0) 2 (.tuple #[.int .i64 2, .int .i64 0]) w0) := by
    
    exact fork21 (i := 0) (p := ⟨1, 0, 1, 1, 0, false⟩) 1 hT rfl rfl (by decide) (by decide)
  have HC := hide' hc
  clear hT hc
  go_wp2_with fail
  refine HC.out.mono ?_
  rintro _ w1 ⟨q1, hq, rfl, hT, hM⟩
  have HM1 := hide' (HM0.out.trans hM)
  have HQ' : Hid (q1.b = q0.b) := hq
  clear hM hq HC HQ HM0
  have HQ := HQ'
  clear HQ'
  have hc : Calls Try.prog 22 #[.pointer (some ⟨q0.b, 0, none⟩), .int .i64 2] w1 (Did q1 [⟨1, 0, 1, 1, 0, false⟩, ⟨2, 1, 2, 2, 0, false⟩] 2 (fun _ => 0) 2 (.int .i64 0) w1) := by
    rw [← HQ.out]
    exact setsid22 (i := 1) (p := ⟨2, 1, 1, 1, 0, false⟩) 2 hT rfl rfl (by decide)
  have HC := hide' hc
  clear hT hc
  go_wp2_with fail
  refine HC.out.mono ?_
  rintro _ w2 ⟨q2, hq, rfl, hT, hM⟩
  have HM2 := hide' (HM1.out.trans hM)
  have HQ' : Hid (q2.b = q0.b) := hq.trans HQ.out
  clear hM hq HC HQ HM1
  have HQ := HQ'
  clear HQ'
  have hc : Calls Try.prog 23 #[.pointer (some ⟨q0.b, 0, none⟩), .int .i64 2, .int .i64 2] w2 (Did q2 [⟨1, 0, 1, 1, 0, false⟩, ⟨2, 1, 2, 2, 2, false⟩] 2 fB 3 (.int .i64 0) w2) := by
    rw [← HQ.out]
    exact attach23 (i := 1) (p := ⟨2, 1, 2, 2, 0, false⟩) 2 2 hT rfl rfl (by decide) (by decide) (by decide) (by decide) (by decide) (by decide)
  have HC := hide' hc
  clear hT hc
  go_wp2_with fail
  refine HC.out.mono ?_
  rintro _ w3 ⟨q3, hq, rfl, hT, hM⟩
  have HM3 := hide' (HM2.out.trans hM)
  have HQ' : Hid (q3.b = q0.b) := hq.trans HQ.out
  clear hM hq HC HQ HM2
  have HQ := HQ'
  clear HQ'
  have hc : Calls Try.prog 21 #[.pointer (some ⟨q0.b, 0, none⟩), .int .i64 2] w3 (Did q3 [⟨1, 0, 1, 1, 0, false⟩, ⟨2, 1, 2, 2, 2, false⟩, ⟨3, 2, 2, 2, 2, false⟩] 3 fB 4 (.tuple #[.int .i64 3, .int .i64 0]) w3) := by
    rw [← HQ.out]
    exact fork21 (i := 1) (p := ⟨2, 1, 2, 2, 2, false⟩) 2 hT rfl rfl (by decide) (by decide)
  have HC := hide' hc
  clear hT hc
  go_wp2_with fail
  refine HC.out.mono ?_
  rintro _ w4 ⟨q4, hq, rfl, hT, hM⟩
  have HM4 := hide' (HM3.out.trans hM)
  have HQ' : Hid (q4.b = q0.b) := hq.trans HQ.out
  clear hM hq HC HQ HM3
  have HQ := HQ'
  clear HQ'
  have hc : Calls Try.prog 21 #[.pointer (some ⟨q0.b, 0, none⟩), .int .i64 3] w4 (Did q4 [⟨1, 0, 1, 1, 0, false⟩, ⟨2, 1, 2, 2, 2, false⟩, ⟨3, 2, 2, 2, 2, false⟩, ⟨4, 3, 2, 2, 2, false⟩] 4 fB 5 (.tuple #[.int .i64 4, .int .i64 0]) w4) := by
    rw [← HQ.out]
    exact fork21 (i := 2) (p := ⟨3, 2, 2, 2, 2, false⟩) 3 hT rfl rfl (by decide) (by decide)
  have HC := hide' hc
  clear hT hc
  go_wp2_with fail
  refine HC.out.mono ?_
  rintro _ w5 ⟨q5, hq, rfl, hT, hM⟩
  have HM5 := hide' (HM4.out.trans hM)
  have HQ' : Hid (q5.b = q0.b) := hq.trans HQ.out
  clear hM hq HC HQ HM4
  have HQ := HQ'
  clear HQ'
  have hc : Calls Try.prog 24 #[.pointer (some ⟨q0.b, 0, none⟩), .int .i64 2, .int .i64 3, .int .i64 0] w5 (Did q5 [⟨1, 0, 1, 1, 0, false⟩, ⟨2, 1, 2, 2, 2, false⟩, ⟨3, 2, 3, 2, 2, false⟩, ⟨4, 3, 2, 2, 2, false⟩] 4 fB 5 (.int .i64 0) w5) := by
    rw [← HQ.out]
    exact setpgid24_new_child (i := 1) (p := ⟨2, 1, 2, 2, 2, false⟩) (k := 2) (t := ⟨3, 2, 2, 2, 2, false⟩) 2 3 0 3 hT (by decide) 3 rfl rfl rfl rfl (by decide) (by decide) (by decide) (by decide) (by decide) (by decide) (by decide)
  have HC := hide' hc
  clear hT hc
  go_wp2_with fail
  refine HC.out.mono ?_
  rintro _ w6 ⟨q6, hq, rfl, hT, hM⟩
  have HM6 := hide' (HM5.out.trans hM)
  have HQ' : Hid (q6.b = q0.b) := hq.trans HQ.out
  clear hM hq HC HQ HM5
  have HQ := HQ'
  clear HQ'
  have hc : Calls Try.prog 24 #[.pointer (some ⟨q0.b, 0, none⟩), .int .i64 3, .int .i64 4, .int .i64 3] w6 (Did q6 [⟨1, 0, 1, 1, 0, false⟩, ⟨2, 1, 2, 2, 2, false⟩, ⟨3, 2, 3, 2, 2, false⟩, ⟨4, 3, 3, 2, 2, false⟩] 4 fB 5 (.int .i64 0) w6) := by
    rw [← HQ.out]
    exact setpgid24_join_child (i := 2) (p := ⟨3, 2, 3, 2, 2, false⟩) (k := 3) (t := ⟨4, 3, 2, 2, 2, false⟩) 3 4 3 4 hT (by decide) 3 rfl rfl rfl rfl (by decide) (by decide) (by decide) (by decide) (by decide) (by decide) (by decide) (by decide)
  have HC := hide' hc
  clear hT hc
  go_wp2_with fail
  refine HC.out.mono ?_
  rintro _ w7 ⟨q7, hq, rfl, hT, hM⟩
  have HM7 := hide' (HM6.out.trans hM)
  have HQ' : Hid (q7.b = q0.b) := hq.trans HQ.out
  clear hM hq HC HQ HM6
  have HQ := HQ'
  clear HQ'
  have hc : Calls Try.prog 25 #[.pointer (some ⟨q0.b, 0, none⟩), .int .i64 4, .bool true] w7 (Did q7 [⟨1, 0, 1, 1, 0, false⟩, ⟨2, 1, 2, 2, 2, false⟩, ⟨3, 2, 3, 2, 2, false⟩, ⟨4, 3, 3, 2, 2, true⟩] 4 fB 5 (.int .i64 0) w7) := by
    rw [← HQ.out]
    exact deaf25 (i := 3) (p := ⟨4, 3, 3, 2, 2, false⟩) 4 true hT rfl rfl
  have HC := hide' hc
  clear hT hc
  go_wp2_with fail
  refine HC.out.mono ?_
  rintro _ w8 ⟨q8, hq, rfl, hT, hM⟩
  have HM8 := hide' (HM7.out.trans hM)
  have HQ' : Hid (q8.b = q0.b) := hq.trans HQ.out
  clear hM hq HC HQ HM7
  have HQ := HQ'
  clear HQ'
  have hy : Calls Try.prog 11 #[.pointer (some ⟨q0.b, 0, none⟩), .int .i64 2, .int .i64 2, .bool false, .bool true] w8 (GivesNS 0 [] w8) := by
    rw [← HQ.out]
    exact may11_B (i := 1) (p := ⟨2, 1, 2, 2, 2, false⟩) 2 2 false true hT.tm rfl rfl (w64_of (by decide) (by decide)) (TM.w64 hT (by decide)) (by decide) (by decide)
  have HY := hide' hy
  have HT := hide' hT
  clear hT hy
  go_wp2_with fail
  refine HY.out.mono ?_
  rintro _ w9 ⟨a, cap, rfl, _, hs, _⟩
  have hT := HT.out.keep hs
  have HM9 := hide' (HM8.out.trans (Moved.of_stay hs))
  clear hs HY HT HM8
  have hx : Calls Try.prog 26 #[.pointer (some ⟨q0.b, 0, none⟩), .int .i64 3] w9 (Gone q8 [⟨1, 0, 1, 1, 0, false⟩, ⟨2, 1, 2, 2, 2, false⟩, ⟨4, 1, 3, 2, 2, true⟩] 4 fB 5 (tellS [⟨1, 0, 1, 1, 0, false⟩, ⟨2, 1, 2, 2, 2, false⟩, ⟨3, 2, 3, 2, 2, false⟩, ⟨4, 3, 3, 2, 2, true⟩] [⟨1, 0, 1, 1, 0, false⟩, ⟨2, 1, 2, 2, 2, false⟩, ⟨4, 1, 3, 2, 2, true⟩] (grps 4 [⟨1, 0, 1, 1, 0, false⟩, ⟨2, 1, 2, 2, 2, false⟩, ⟨4, 1, 3, 2, 2, true⟩])) w9) := by
    rw [← HQ.out]
    exact exit26_nolead (i := 2) (p := ⟨3, 2, 3, 2, 2, false⟩) 3 hT rfl rfl (by decide) (by decide) (hT.ok.gone (i := 2) (p := ⟨3, 2, 3, 2, 2, false⟩) rfl (by decide)).gd
  have HX := hide' hx
  have HO := hide' (hT.ok.gone (i := 2) (p := ⟨3, 2, 3, 2, 2, false⟩) rfl (by decide))
  clear hT hx
  go_wp2_with fail
  refine HX.out.mono ?_
  rintro _ wA ⟨q9, a9, cap9, hq, rfl, _, hTM, hM, _⟩
  have hT : TAt wA q9 [⟨1, 0, 1, 1, 0, false⟩, ⟨2, 1, 2, 2, 2, false⟩, ⟨4, 1, 3, 2, 2, true⟩] 4 fB 5 := ⟨hTM, HO.out, by decide⟩
  have HM10 := hide' (HM9.out.trans hM)
  have HQ' : Hid (q9.b = q0.b) := hq.trans HQ.out
  clear hM hq HX HQ HM9 HO hTM
  have HQ := HQ'
  clear HQ'
  have hy : Calls Try.prog 11 #[.pointer (some ⟨q0.b, 0, none⟩), .int .i64 4, .int .i64 2, .bool false, .bool true] wA (GivesNS 2 [] wA) := by
    rw [← HQ.out]
    exact may11_E1 (i := 2) (p := ⟨4, 1, 3, 2, 2, true⟩) 4 2 true hT.tm rfl rfl (w64_of (by decide) (by decide)) (TM.w64 hT (by decide)) (by decide) (by decide) rfl
  have HY := hide' hy
  clear hT hy
  go_wp2_with fail
  refine HY.out.mono ?_
  rintro _ wB ⟨a, cap, rfl, hsv, hs, _⟩
  have HS := hide' (HS0.out.trans2 (HM10.out.1.trans (hs.mono (fun _ _ e => e.elim))) (fun j hj e => by have := HQ0.out j e; omega))
  have HAW := hide' (awake7 (w := wB))
  clear hs HY HM10 hsv HQ
  go_wp2_with fail
  refine HAW.out.mono ?_
  rintro _ wC ⟨rfl, hs⟩
  have HSC := hide' (HS.out.trans hs)
  clear hs HAW HS
  go_wp2
  go_ret
  exact ⟨rfl, HSC.out⟩

set_option maxRecDepth 100000 in
theorem background_tftf : Calls Try.prog 5 #[.bool true, .bool false, .bool true, .bool false] w (Gives (.bool true) w) := by
  have HN8 := hide' (new8 w)
  go_enter Try.func5, Try.ntmps5
  go_wp2_with fail
  refine HN8.out.mono ?_
  rintro _ w0 ⟨q0, rfl, hT, hs, hq0⟩
  have HS0 := hide' hs
  have HQ0 := hide' hq0
  have HM0 : Hid (Moved q0 q0 w0 w0) := Moved.of_stay (Stay.refl _ w0)
  have HQ : Hid (q0.b = q0.b) := rfl
  clear hs hq0 HN8
  have hc : Calls Try.prog 21 #[.pointer (some ⟨q0.b, 0, none⟩), .int .i64 1] w0 (Did q0 [⟨1, 0, 1, 1, 0, false⟩, ⟨2, 1, 1, 1, 0, false⟩] 2 (fun _ => 0) 2 (.tuple #[.int .i64 2, .int .i64 0]) w0) := by
    
    exact fork21 (i := 0) (p := ⟨1, 0, 1, 1, 0, false⟩) 1 hT rfl rfl (by decide) (by decide)
  have HC := hide' hc
  clear hT hc
  go_wp2_with fail
  refine HC.out.mono ?_
  rintro _ w1 ⟨q1, hq, rfl, hT, hM⟩
  have HM1 := hide' (HM0.out.trans hM)
  have HQ' : Hid (q1.b = q0.b) := hq
  clear hM hq HC HQ HM0
  have HQ := HQ'
  clear HQ'
  have hc : Calls Try.prog 22 #[.pointer (some ⟨q0.b, 0, none⟩), .int .i64 2] w1 (Did q1 [⟨1, 0, 1, 1, 0, false⟩, ⟨2, 1, 2, 2, 0, false⟩] 2 (fun _ => 0) 2 (.int .i64 0) w1) := by
    rw [← HQ.out]
    exact setsid22 (i := 1) (p := ⟨2, 1, 1, 1, 0, false⟩) 2 hT rfl rfl (by decide)
  have HC := hide' hc
  clear hT hc
  go_wp2_with fail
  refine HC.out.mono ?_
  rintro _ w2 ⟨q2, hq, rfl, hT, hM⟩
  have HM2 := hide' (HM1.out.trans hM)
  have HQ' : Hid (q2.b = q0.b) := hq.trans HQ.out
  clear hM hq HC HQ HM1
  have HQ := HQ'
  clear HQ'
  have hc : Calls Try.prog 23 #[.pointer (some ⟨q0.b, 0, none⟩), .int .i64 2, .int .i64 2] w2 (Did q2 [⟨1, 0, 1, 1, 0, false⟩, ⟨2, 1, 2, 2, 2, false⟩] 2 fB 3 (.int .i64 0) w2) := by
    rw [← HQ.out]
    exact attach23 (i := 1) (p := ⟨2, 1, 2, 2, 0, false⟩) 2 2 hT rfl rfl (by decide) (by decide) (by decide) (by decide) (by decide) (by decide)
  have HC := hide' hc
  clear hT hc
  go_wp2_with fail
  refine HC.out.mono ?_
  rintro _ w3 ⟨q3, hq, rfl, hT, hM⟩
  have HM3 := hide' (HM2.out.trans hM)
  have HQ' : Hid (q3.b = q0.b) := hq.trans HQ.out
  clear hM hq HC HQ HM2
  have HQ := HQ'
  clear HQ'
  have hc : Calls Try.prog 21 #[.pointer (some ⟨q0.b, 0, none⟩), .int .i64 2] w3 (Did q3 [⟨1, 0, 1, 1, 0, false⟩, ⟨2, 1, 2, 2, 2, false⟩, ⟨3, 2, 2, 2, 2, false⟩] 3 fB 4 (.tuple #[.int .i64 3, .int .i64 0]) w3) := by
    rw [← HQ.out]
    exact fork21 (i := 1) (p := ⟨2, 1, 2, 2, 2, false⟩) 2 hT rfl rfl (by decide) (by decide)
  have HC := hide' hc
  clear hT hc
  go_wp2_with fail
  refine HC.out.mono ?_
  rintro _ w4 ⟨q4, hq, rfl, hT, hM⟩
  have HM4 := hide' (HM3.out.trans hM)
  have HQ' : Hid (q4.b = q0.b) := hq.trans HQ.out
  clear hM hq HC HQ HM3
  have HQ := HQ'
  clear HQ'
  have hc : Calls Try.prog 21 #[.pointer (some ⟨q0.b, 0, none⟩), .int .i64 3] w4 (Did q4 [⟨1, 0, 1, 1, 0, false⟩, ⟨2, 1, 2, 2, 2, false⟩, ⟨3, 2, 2, 2, 2, false⟩, ⟨4, 3, 2, 2, 2, false⟩] 4 fB 5 (.tuple #[.int .i64 4, .int .i64 0]) w4) := by
    rw [← HQ.out]
    exact fork21 (i := 2) (p := ⟨3, 2, 2, 2, 2, false⟩) 3 hT rfl rfl (by decide) (by decide)
  have HC := hide' hc
  clear hT hc
  go_wp2_with fail
  refine HC.out.mono ?_
  rintro _ w5 ⟨q5, hq, rfl, hT, hM⟩
  have HM5 := hide' (HM4.out.trans hM)
  have HQ' : Hid (q5.b = q0.b) := hq.trans HQ.out
  clear hM hq HC HQ HM4
  have HQ := HQ'
  clear HQ'
  have hc : Calls Try.prog 24 #[.pointer (some ⟨q0.b, 0, none⟩), .int .i64 2, .int .i64 3, .int .i64 0] w5 (Did q5 [⟨1, 0, 1, 1, 0, false⟩, ⟨2, 1, 2, 2, 2, false⟩, ⟨3, 2, 3, 2, 2, false⟩, ⟨4, 3, 2, 2, 2, false⟩] 4 fB 5 (.int .i64 0) w5) := by
    rw [← HQ.out]
    exact setpgid24_new_child (i := 1) (p := ⟨2, 1, 2, 2, 2, false⟩) (k := 2) (t := ⟨3, 2, 2, 2, 2, false⟩) 2 3 0 3 hT (by decide) 3 rfl rfl rfl rfl (by decide) (by decide) (by decide) (by decide) (by decide) (by decide) (by decide)
  have HC := hide' hc
  clear hT hc
  go_wp2_with fail
  refine HC.out.mono ?_
  rintro _ w6 ⟨q6, hq, rfl, hT, hM⟩
  have HM6 := hide' (HM5.out.trans hM)
  have HQ' : Hid (q6.b = q0.b) := hq.trans HQ.out
  clear hM hq HC HQ HM5
  have HQ := HQ'
  clear HQ'
  have hc : Calls Try.prog 24 #[.pointer (some ⟨q0.b, 0, none⟩), .int .i64 3, .int .i64 4, .int .i64 3] w6 (Did q6 [⟨1, 0, 1, 1, 0, false⟩, ⟨2, 1, 2, 2, 2, false⟩, ⟨3, 2, 3, 2, 2, false⟩, ⟨4, 3, 3, 2, 2, false⟩] 4 fB 5 (.int .i64 0) w6) := by
    rw [← HQ.out]
    exact setpgid24_join_child (i := 2) (p := ⟨3, 2, 3, 2, 2, false⟩) (k := 3) (t := ⟨4, 3, 2, 2, 2, false⟩) 3 4 3 4 hT (by decide) 3 rfl rfl rfl rfl (by decide) (by decide) (by decide) (by decide) (by decide) (by decide) (by decide) (by decide)
  have HC := hide' hc
  clear hT hc
  go_wp2_with fail
  refine HC.out.mono ?_
  rintro _ w7 ⟨q7, hq, rfl, hT, hM⟩
  have HM7 := hide' (HM6.out.trans hM)
  have HQ' : Hid (q7.b = q0.b) := hq.trans HQ.out
  clear hM hq HC HQ HM6
  have HQ := HQ'
  clear HQ'
  have hc : Calls Try.prog 25 #[.pointer (some ⟨q0.b, 0, none⟩), .int .i64 4, .bool true] w7 (Did q7 [⟨1, 0, 1, 1, 0, false⟩, ⟨2, 1, 2, 2, 2, false⟩, ⟨3, 2, 3, 2, 2, false⟩, ⟨4, 3, 3, 2, 2, true⟩] 4 fB 5 (.int .i64 0) w7) := by
    rw [← HQ.out]
    exact deaf25 (i := 3) (p := ⟨4, 3, 3, 2, 2, false⟩) 4 true hT rfl rfl
  have HC := hide' hc
  clear hT hc
  go_wp2_with fail
  refine HC.out.mono ?_
  rintro _ w8 ⟨q8, hq, rfl, hT, hM⟩
  have HM8 := hide' (HM7.out.trans hM)
  have HQ' : Hid (q8.b = q0.b) := hq.trans HQ.out
  clear hM hq HC HQ HM7
  have HQ := HQ'
  clear HQ'
  have hy : Calls Try.prog 11 #[.pointer (some ⟨q0.b, 0, none⟩), .int .i64 2, .int .i64 2, .bool false, .bool true] w8 (GivesNS 0 [] w8) := by
    rw [← HQ.out]
    exact may11_B (i := 1) (p := ⟨2, 1, 2, 2, 2, false⟩) 2 2 false true hT.tm rfl rfl (w64_of (by decide) (by decide)) (TM.w64 hT (by decide)) (by decide) (by decide)
  have HY := hide' hy
  have HT := hide' hT
  clear hT hy
  go_wp2_with fail
  refine HY.out.mono ?_
  rintro _ w9 ⟨a, cap, rfl, _, hs, _⟩
  have hT := HT.out.keep hs
  have HM9 := hide' (HM8.out.trans (Moved.of_stay hs))
  clear hs HY HT HM8
  have HM10 := HM9
  clear HM9
  have hy : Calls Try.prog 11 #[.pointer (some ⟨q0.b, 0, none⟩), .int .i64 4, .int .i64 2, .bool false, .bool true] w9 (GivesNS 2 [] w9) := by
    rw [← HQ.out]
    exact may11_E1 (i := 3) (p := ⟨4, 3, 3, 2, 2, true⟩) 4 2 true hT.tm rfl rfl (w64_of (by decide) (by decide)) (TM.w64 hT (by decide)) (by decide) (by decide) rfl
  have HY := hide' hy
  clear hT hy
  go_wp2_with fail
  refine HY.out.mono ?_
  rintro _ wB ⟨a, cap, rfl, hsv, hs, _⟩
  have HS := hide' (HS0.out.trans2 (HM10.out.1.trans (hs.mono (fun _ _ e => e.elim))) (fun j hj e => by have := HQ0.out j e; omega))
  have HAW := hide' (awake7 (w := wB))
  clear hs HY HM10 hsv HQ
  go_wp2_with fail
  refine HAW.out.mono ?_
  rintro _ wC ⟨rfl, hs⟩
  have HSC := hide' (HS.out.trans hs)
  clear hs HAW HS
  go_wp2
  go_ret
  exact ⟨rfl, HSC.out⟩

set_option maxRecDepth 100000 in
theorem background_tfft : Calls Try.prog 5 #[.bool true, .bool false, .bool false, .bool true] w (Gives (.bool true) w) := by
  have HN8 := hide' (new8 w)
  go_enter Try.func5, Try.ntmps5
  go_wp2_with fail
  refine HN8.out.mono ?_
  rintro _ w0 ⟨q0, rfl, hT, hs, hq0⟩
  have HS0 := hide' hs
  have HQ0 := hide' hq0
  have HM0 : Hid (Moved q0 q0 w0 w0) := Moved.of_stay (Stay.refl _ w0)
  have HQ : Hid (q0.b = q0.b) := rfl
  clear hs hq0 HN8
  have hc : Calls Try.prog 21 #[.pointer (some ⟨q0.b, 0, none⟩), .int .i64 1] w0 (Did q0 [⟨1, 0, 1, 1, 0, false⟩, ⟨2, 1, 1, 1, 0, false⟩] 2 (fun _ => 0) 2 (.tuple #[.int .i64 2, .int .i64 0]) w0) := by
    
    exact fork21 (i := 0) (p := ⟨1, 0, 1, 1, 0, false⟩) 1 hT rfl rfl (by decide) (by decide)
  have HC := hide' hc
  clear hT hc
  go_wp2_with fail
  refine HC.out.mono ?_
  rintro _ w1 ⟨q1, hq, rfl, hT, hM⟩
  have HM1 := hide' (HM0.out.trans hM)
  have HQ' : Hid (q1.b = q0.b) := hq
  clear hM hq HC HQ HM0
  have HQ := HQ'
  clear HQ'
  have hc : Calls Try.prog 22 #[.pointer (some ⟨q0.b, 0, none⟩), .int .i64 2] w1 (Did q1 [⟨1, 0, 1, 1, 0, false⟩, ⟨2, 1, 2, 2, 0, false⟩] 2 (fun _ => 0) 2 (.int .i64 0) w1) := by
    rw [← HQ.out]
    exact setsid22 (i := 1) (p := ⟨2, 1, 1, 1, 0, false⟩) 2 hT rfl rfl (by decide)
  have HC := hide' hc
  clear hT hc
  go_wp2_with fail
  refine HC.out.mono ?_
  rintro _ w2 ⟨q2, hq, rfl, hT, hM⟩
  have HM2 := hide' (HM1.out.trans hM)
  have HQ' : Hid (q2.b = q0.b) := hq.trans HQ.out
  clear hM hq HC HQ HM1
  have HQ := HQ'
  clear HQ'
  have hc : Calls Try.prog 23 #[.pointer (some ⟨q0.b, 0, none⟩), .int .i64 2, .int .i64 2] w2 (Did q2 [⟨1, 0, 1, 1, 0, false⟩, ⟨2, 1, 2, 2, 2, false⟩] 2 fB 3 (.int .i64 0) w2) := by
    rw [← HQ.out]
    exact attach23 (i := 1) (p := ⟨2, 1, 2, 2, 0, false⟩) 2 2 hT rfl rfl (by decide) (by decide) (by decide) (by decide) (by decide) (by decide)
  have HC := hide' hc
  clear hT hc
  go_wp2_with fail
  refine HC.out.mono ?_
  rintro _ w3 ⟨q3, hq, rfl, hT, hM⟩
  have HM3 := hide' (HM2.out.trans hM)
  have HQ' : Hid (q3.b = q0.b) := hq.trans HQ.out
  clear hM hq HC HQ HM2
  have HQ := HQ'
  clear HQ'
  have hc : Calls Try.prog 21 #[.pointer (some ⟨q0.b, 0, none⟩), .int .i64 2] w3 (Did q3 [⟨1, 0, 1, 1, 0, false⟩, ⟨2, 1, 2, 2, 2, false⟩, ⟨3, 2, 2, 2, 2, false⟩] 3 fB 4 (.tuple #[.int .i64 3, .int .i64 0]) w3) := by
    rw [← HQ.out]
    exact fork21 (i := 1) (p := ⟨2, 1, 2, 2, 2, false⟩) 2 hT rfl rfl (by decide) (by decide)
  have HC := hide' hc
  clear hT hc
  go_wp2_with fail
  refine HC.out.mono ?_
  rintro _ w4 ⟨q4, hq, rfl, hT, hM⟩
  have HM4 := hide' (HM3.out.trans hM)
  have HQ' : Hid (q4.b = q0.b) := hq.trans HQ.out
  clear hM hq HC HQ HM3
  have HQ := HQ'
  clear HQ'
  have hc : Calls Try.prog 21 #[.pointer (some ⟨q0.b, 0, none⟩), .int .i64 3] w4 (Did q4 [⟨1, 0, 1, 1, 0, false⟩, ⟨2, 1, 2, 2, 2, false⟩, ⟨3, 2, 2, 2, 2, false⟩, ⟨4, 3, 2, 2, 2, false⟩] 4 fB 5 (.tuple #[.int .i64 4, .int .i64 0]) w4) := by
    rw [← HQ.out]
    exact fork21 (i := 2) (p := ⟨3, 2, 2, 2, 2, false⟩) 3 hT rfl rfl (by decide) (by decide)
  have HC := hide' hc
  clear hT hc
  go_wp2_with fail
  refine HC.out.mono ?_
  rintro _ w5 ⟨q5, hq, rfl, hT, hM⟩
  have HM5 := hide' (HM4.out.trans hM)
  have HQ' : Hid (q5.b = q0.b) := hq.trans HQ.out
  clear hM hq HC HQ HM4
  have HQ := HQ'
  clear HQ'
  have hc : Calls Try.prog 24 #[.pointer (some ⟨q0.b, 0, none⟩), .int .i64 2, .int .i64 3, .int .i64 0] w5 (Did q5 [⟨1, 0, 1, 1, 0, false⟩, ⟨2, 1, 2, 2, 2, false⟩, ⟨3, 2, 3, 2, 2, false⟩, ⟨4, 3, 2, 2, 2, false⟩] 4 fB 5 (.int .i64 0) w5) := by
    rw [← HQ.out]
    exact setpgid24_new_child (i := 1) (p := ⟨2, 1, 2, 2, 2, false⟩) (k := 2) (t := ⟨3, 2, 2, 2, 2, false⟩) 2 3 0 3 hT (by decide) 3 rfl rfl rfl rfl (by decide) (by decide) (by decide) (by decide) (by decide) (by decide) (by decide)
  have HC := hide' hc
  clear hT hc
  go_wp2_with fail
  refine HC.out.mono ?_
  rintro _ w6 ⟨q6, hq, rfl, hT, hM⟩
  have HM6 := hide' (HM5.out.trans hM)
  have HQ' : Hid (q6.b = q0.b) := hq.trans HQ.out
  clear hM hq HC HQ HM5
  have HQ := HQ'
  clear HQ'
  have hc : Calls Try.prog 24 #[.pointer (some ⟨q0.b, 0, none⟩), .int .i64 3, .int .i64 4, .int .i64 3] w6 (Did q6 [⟨1, 0, 1, 1, 0, false⟩, ⟨2, 1, 2, 2, 2, false⟩, ⟨3, 2, 3, 2, 2, false⟩, ⟨4, 3, 3, 2, 2, false⟩] 4 fB 5 (.int .i64 0) w6) := by
    rw [← HQ.out]
    exact setpgid24_join_child (i := 2) (p := ⟨3, 2, 3, 2, 2, false⟩) (k := 3) (t := ⟨4, 3, 2, 2, 2, false⟩) 3 4 3 4 hT (by decide) 3 rfl rfl rfl rfl (by decide) (by decide) (by decide) (by decide) (by decide) (by decide) (by decide) (by decide)
  have HC := hide' hc
  clear hT hc
  go_wp2_with fail
  refine HC.out.mono ?_
  rintro _ w7 ⟨q7, hq, rfl, hT, hM⟩
  have HM7 := hide' (HM6.out.trans hM)
  have HQ' : Hid (q7.b = q0.b) := hq.trans HQ.out
  clear hM hq HC HQ HM6
  have HQ := HQ'
  clear HQ'
  have hc : Calls Try.prog 25 #[.pointer (some ⟨q0.b, 0, none⟩), .int .i64 4, .bool true] w7 (Did q7 [⟨1, 0, 1, 1, 0, false⟩, ⟨2, 1, 2, 2, 2, false⟩, ⟨3, 2, 3, 2, 2, false⟩, ⟨4, 3, 3, 2, 2, true⟩] 4 fB 5 (.int .i64 0) w7) := by
    rw [← HQ.out]
    exact deaf25 (i := 3) (p := ⟨4, 3, 3, 2, 2, false⟩) 4 true hT rfl rfl
  have HC := hide' hc
  clear hT hc
  go_wp2_with fail
  refine HC.out.mono ?_
  rintro _ w8 ⟨q8, hq, rfl, hT, hM⟩
  have HM8 := hide' (HM7.out.trans hM)
  have HQ' : Hid (q8.b = q0.b) := hq.trans HQ.out
  clear hM hq HC HQ HM7
  have HQ := HQ'
  clear HQ'
  have hy : Calls Try.prog 11 #[.pointer (some ⟨q0.b, 0, none⟩), .int .i64 2, .int .i64 2, .bool false, .bool false] w8 (GivesNS 0 [] w8) := by
    rw [← HQ.out]
    exact may11_B (i := 1) (p := ⟨2, 1, 2, 2, 2, false⟩) 2 2 false false hT.tm rfl rfl (w64_of (by decide) (by decide)) (TM.w64 hT (by decide)) (by decide) (by decide)
  have HY := hide' hy
  have HT := hide' hT
  clear hT hy
  go_wp2_with fail
  refine HY.out.mono ?_
  rintro _ w9 ⟨a, cap, rfl, _, hs, _⟩
  have hT := HT.out.keep hs
  have HM9 := hide' (HM8.out.trans (Moved.of_stay hs))
  clear hs HY HT HM8
  have hx : Calls Try.prog 26 #[.pointer (some ⟨q0.b, 0, none⟩), .int .i64 3] w9 (Gone q8 [⟨1, 0, 1, 1, 0, false⟩, ⟨2, 1, 2, 2, 2, false⟩, ⟨4, 1, 3, 2, 2, true⟩] 4 fB 5 (tellS [⟨1, 0, 1, 1, 0, false⟩, ⟨2, 1, 2, 2, 2, false⟩, ⟨3, 2, 3, 2, 2, false⟩, ⟨4, 3, 3, 2, 2, true⟩] [⟨1, 0, 1, 1, 0, false⟩, ⟨2, 1, 2, 2, 2, false⟩, ⟨4, 1, 3, 2, 2, true⟩] (grps 4 [⟨1, 0, 1, 1, 0, false⟩, ⟨2, 1, 2, 2, 2, false⟩, ⟨4, 1, 3, 2, 2, true⟩])) w9) := by
    rw [← HQ.out]
    exact exit26_nolead (i := 2) (p := ⟨3, 2, 3, 2, 2, false⟩) 3 hT rfl rfl (by decide) (by decide) (hT.ok.gone (i := 2) (p := ⟨3, 2, 3, 2, 2, false⟩) rfl (by decide)).gd
  have HX := hide' hx
  have HO := hide' (hT.ok.gone (i := 2) (p := ⟨3, 2, 3, 2, 2, false⟩) rfl (by decide))
  clear hT hx
  go_wp2_with fail
  refine HX.out.mono ?_
  rintro _ wA ⟨q9, a9, cap9, hq, rfl, _, hTM, hM, _⟩
  have hT : TAt wA q9 [⟨1, 0, 1, 1, 0, false⟩, ⟨2, 1, 2, 2, 2, false⟩, ⟨4, 1, 3, 2, 2, true⟩] 4 fB 5 := ⟨hTM, HO.out, by decide⟩
  have HM10 := hide' (HM9.out.trans hM)
  have HQ' : Hid (q9.b = q0.b) := hq.trans HQ.out
  clear hM hq HX HQ HM9 HO hTM
  have HQ := HQ'
  clear HQ'
  have hy : Calls Try.prog 11 #[.pointer (some ⟨q0.b, 0, none⟩), .int .i64 4, .int .i64 2, .bool false, .bool false] wA (GivesNS 2 [] wA) := by
    rw [← HQ.out]
    exact may11_E1 (i := 2) (p := ⟨4, 1, 3, 2, 2, true⟩) 4 2 false hT.tm rfl rfl (w64_of (by decide) (by decide)) (TM.w64 hT (by decide)) (by decide) (by decide) rfl
  have HY := hide' hy
  clear hT hy
  go_wp2_with fail
  refine HY.out.mono ?_
  rintro _ wB ⟨a, cap, rfl, hsv, hs, _⟩
  have HS := hide' (HS0.out.trans2 (HM10.out.1.trans (hs.mono (fun _ _ e => e.elim))) (fun j hj e => by have := HQ0.out j e; omega))
  have HAW := hide' (awake7 (w := wB))
  clear hs HY HM10 hsv HQ
  go_wp2_with fail
  refine HAW.out.mono ?_
  rintro _ wC ⟨rfl, hs⟩
  have HSC := hide' (HS.out.trans hs)
  clear hs HAW HS
  go_wp2
  go_ret
  exact ⟨rfl, HSC.out⟩

set_option maxRecDepth 100000 in
theorem background_tfff : Calls Try.prog 5 #[.bool true, .bool false, .bool false, .bool false] w (Gives (.bool true) w) := by
  have HN8 := hide' (new8 w)
  go_enter Try.func5, Try.ntmps5
  go_wp2_with fail
  refine HN8.out.mono ?_
  rintro _ w0 ⟨q0, rfl, hT, hs, hq0⟩
  have HS0 := hide' hs
  have HQ0 := hide' hq0
  have HM0 : Hid (Moved q0 q0 w0 w0) := Moved.of_stay (Stay.refl _ w0)
  have HQ : Hid (q0.b = q0.b) := rfl
  clear hs hq0 HN8
  have hc : Calls Try.prog 21 #[.pointer (some ⟨q0.b, 0, none⟩), .int .i64 1] w0 (Did q0 [⟨1, 0, 1, 1, 0, false⟩, ⟨2, 1, 1, 1, 0, false⟩] 2 (fun _ => 0) 2 (.tuple #[.int .i64 2, .int .i64 0]) w0) := by
    
    exact fork21 (i := 0) (p := ⟨1, 0, 1, 1, 0, false⟩) 1 hT rfl rfl (by decide) (by decide)
  have HC := hide' hc
  clear hT hc
  go_wp2_with fail
  refine HC.out.mono ?_
  rintro _ w1 ⟨q1, hq, rfl, hT, hM⟩
  have HM1 := hide' (HM0.out.trans hM)
  have HQ' : Hid (q1.b = q0.b) := hq
  clear hM hq HC HQ HM0
  have HQ := HQ'
  clear HQ'
  have hc : Calls Try.prog 22 #[.pointer (some ⟨q0.b, 0, none⟩), .int .i64 2] w1 (Did q1 [⟨1, 0, 1, 1, 0, false⟩, ⟨2, 1, 2, 2, 0, false⟩] 2 (fun _ => 0) 2 (.int .i64 0) w1) := by
    rw [← HQ.out]
    exact setsid22 (i := 1) (p := ⟨2, 1, 1, 1, 0, false⟩) 2 hT rfl rfl (by decide)
  have HC := hide' hc
  clear hT hc
  go_wp2_with fail
  refine HC.out.mono ?_
  rintro _ w2 ⟨q2, hq, rfl, hT, hM⟩
  have HM2 := hide' (HM1.out.trans hM)
  have HQ' : Hid (q2.b = q0.b) := hq.trans HQ.out
  clear hM hq HC HQ HM1
  have HQ := HQ'
  clear HQ'
  have hc : Calls Try.prog 23 #[.pointer (some ⟨q0.b, 0, none⟩), .int .i64 2, .int .i64 2] w2 (Did q2 [⟨1, 0, 1, 1, 0, false⟩, ⟨2, 1, 2, 2, 2, false⟩] 2 fB 3 (.int .i64 0) w2) := by
    rw [← HQ.out]
    exact attach23 (i := 1) (p := ⟨2, 1, 2, 2, 0, false⟩) 2 2 hT rfl rfl (by decide) (by decide) (by decide) (by decide) (by decide) (by decide)
  have HC := hide' hc
  clear hT hc
  go_wp2_with fail
  refine HC.out.mono ?_
  rintro _ w3 ⟨q3, hq, rfl, hT, hM⟩
  have HM3 := hide' (HM2.out.trans hM)
  have HQ' : Hid (q3.b = q0.b) := hq.trans HQ.out
  clear hM hq HC HQ HM2
  have HQ := HQ'
  clear HQ'
  have hc : Calls Try.prog 21 #[.pointer (some ⟨q0.b, 0, none⟩), .int .i64 2] w3 (Did q3 [⟨1, 0, 1, 1, 0, false⟩, ⟨2, 1, 2, 2, 2, false⟩, ⟨3, 2, 2, 2, 2, false⟩] 3 fB 4 (.tuple #[.int .i64 3, .int .i64 0]) w3) := by
    rw [← HQ.out]
    exact fork21 (i := 1) (p := ⟨2, 1, 2, 2, 2, false⟩) 2 hT rfl rfl (by decide) (by decide)
  have HC := hide' hc
  clear hT hc
  go_wp2_with fail
  refine HC.out.mono ?_
  rintro _ w4 ⟨q4, hq, rfl, hT, hM⟩
  have HM4 := hide' (HM3.out.trans hM)
  have HQ' : Hid (q4.b = q0.b) := hq.trans HQ.out
  clear hM hq HC HQ HM3
  have HQ := HQ'
  clear HQ'
  have hc : Calls Try.prog 21 #[.pointer (some ⟨q0.b, 0, none⟩), .int .i64 3] w4 (Did q4 [⟨1, 0, 1, 1, 0, false⟩, ⟨2, 1, 2, 2, 2, false⟩, ⟨3, 2, 2, 2, 2, false⟩, ⟨4, 3, 2, 2, 2, false⟩] 4 fB 5 (.tuple #[.int .i64 4, .int .i64 0]) w4) := by
    rw [← HQ.out]
    exact fork21 (i := 2) (p := ⟨3, 2, 2, 2, 2, false⟩) 3 hT rfl rfl (by decide) (by decide)
  have HC := hide' hc
  clear hT hc
  go_wp2_with fail
  refine HC.out.mono ?_
  rintro _ w5 ⟨q5, hq, rfl, hT, hM⟩
  have HM5 := hide' (HM4.out.trans hM)
  have HQ' : Hid (q5.b = q0.b) := hq.trans HQ.out
  clear hM hq HC HQ HM4
  have HQ := HQ'
  clear HQ'
  have hc : Calls Try.prog 24 #[.pointer (some ⟨q0.b, 0, none⟩), .int .i64 2, .int .i64 3, .int .i64 0] w5 (Did q5 [⟨1, 0, 1, 1, 0, false⟩, ⟨2, 1, 2, 2, 2, false⟩, ⟨3, 2, 3, 2, 2, false⟩, ⟨4, 3, 2, 2, 2, false⟩] 4 fB 5 (.int .i64 0) w5) := by
    rw [← HQ.out]
    exact setpgid24_new_child (i := 1) (p := ⟨2, 1, 2, 2, 2, false⟩) (k := 2) (t := ⟨3, 2, 2, 2, 2, false⟩) 2 3 0 3 hT (by decide) 3 rfl rfl rfl rfl (by decide) (by decide) (by decide) (by decide) (by decide) (by decide) (by decide)
  have HC := hide' hc
  clear hT hc
  go_wp2_with fail
  refine HC.out.mono ?_
  rintro _ w6 ⟨q6, hq, rfl, hT, hM⟩
  have HM6 := hide' (HM5.out.trans hM)
  have HQ' : Hid (q6.b = q0.b) := hq.trans HQ.out
  clear hM hq HC HQ HM5
  have HQ := HQ'
  clear HQ'
  have hc : Calls Try.prog 24 #[.pointer (some ⟨q0.b, 0, none⟩), .int .i64 3, .int .i64 4, .int .i64 3] w6 (Did q6 [⟨1, 0, 1, 1, 0, false⟩, ⟨2, 1, 2, 2, 2, false⟩, ⟨3, 2, 3, 2, 2, false⟩, ⟨4, 3, 3, 2, 2, false⟩] 4 fB 5 (.int .i64 0) w6) := by
    rw [← HQ.out]
    exact setpgid24_join_child (i := 2) (p := ⟨3, 2, 3, 2, 2, false⟩) (k := 3) (t := ⟨4, 3, 2, 2, 2, false⟩) 3 4 3 4 hT (by decide) 3 rfl rfl rfl rfl (by decide) (by decide) (by decide) (by decide) (by decide) (by decide) (by decide) (by decide)
  have HC := hide' hc
  clear hT hc
  go_wp2_with fail
  refine HC.out.mono ?_
  rintro _ w7 ⟨q7, hq, rfl, hT, hM⟩
  have HM7 := hide' (HM6.out.trans hM)
  have HQ' : Hid (q7.b = q0.b) := hq.trans HQ.out
  clear hM hq HC HQ HM6
  have HQ := HQ'
  clear HQ'
  have hc : Calls Try.prog 25 #[.pointer (some ⟨q0.b, 0, none⟩), .int .i64 4, .bool true] w7 (Did q7 [⟨1, 0, 1, 1, 0, false⟩, ⟨2, 1, 2, 2, 2, false⟩, ⟨3, 2, 3, 2, 2, false⟩, ⟨4, 3, 3, 2, 2, true⟩] 4 fB 5 (.int .i64 0) w7) := by
    rw [← HQ.out]
    exact deaf25 (i := 3) (p := ⟨4, 3, 3, 2, 2, false⟩) 4 true hT rfl rfl
  have HC := hide' hc
  clear hT hc
  go_wp2_with fail
  refine HC.out.mono ?_
  rintro _ w8 ⟨q8, hq, rfl, hT, hM⟩
  have HM8 := hide' (HM7.out.trans hM)
  have HQ' : Hid (q8.b = q0.b) := hq.trans HQ.out
  clear hM hq HC HQ HM7
  have HQ := HQ'
  clear HQ'
  have hy : Calls Try.prog 11 #[.pointer (some ⟨q0.b, 0, none⟩), .int .i64 2, .int .i64 2, .bool false, .bool false] w8 (GivesNS 0 [] w8) := by
    rw [← HQ.out]
    exact may11_B (i := 1) (p := ⟨2, 1, 2, 2, 2, false⟩) 2 2 false false hT.tm rfl rfl (w64_of (by decide) (by decide)) (TM.w64 hT (by decide)) (by decide) (by decide)
  have HY := hide' hy
  have HT := hide' hT
  clear hT hy
  go_wp2_with fail
  refine HY.out.mono ?_
  rintro _ w9 ⟨a, cap, rfl, _, hs, _⟩
  have hT := HT.out.keep hs
  have HM9 := hide' (HM8.out.trans (Moved.of_stay hs))
  clear hs HY HT HM8
  have HM10 := HM9
  clear HM9
  have hy : Calls Try.prog 11 #[.pointer (some ⟨q0.b, 0, none⟩), .int .i64 4, .int .i64 2, .bool false, .bool false] w9 (GivesNS 2 [] w9) := by
    rw [← HQ.out]
    exact may11_E1 (i := 3) (p := ⟨4, 3, 3, 2, 2, true⟩) 4 2 false hT.tm rfl rfl (w64_of (by decide) (by decide)) (TM.w64 hT (by decide)) (by decide) (by decide) rfl
  have HY := hide' hy
  clear hT hy
  go_wp2_with fail
  refine HY.out.mono ?_
  rintro _ wB ⟨a, cap, rfl, hsv, hs, _⟩
  have HS := hide' (HS0.out.trans2 (HM10.out.1.trans (hs.mono (fun _ _ e => e.elim))) (fun j hj e => by have := HQ0.out j e; omega))
  have HAW := hide' (awake7 (w := wB))
  clear hs HY HM10 hsv HQ
  go_wp2_with fail
  refine HAW.out.mono ?_
  rintro _ wC ⟨rfl, hs⟩
  have HSC := hide' (HS.out.trans hs)
  clear hs HAW HS
  go_wp2
  go_ret
  exact ⟨rfl, HSC.out⟩

set_option maxRecDepth 100000 in
theorem background_fttt : Calls Try.prog 5 #[.bool false, .bool true, .bool true, .bool true] w (Gives (.bool true) w) := by
  have HN8 := hide' (new8 w)
  go_enter Try.func5, Try.ntmps5
  go_wp2_with fail
  refine HN8.out.mono ?_
  rintro _ w0 ⟨q0, rfl, hT, hs, hq0⟩
  have HS0 := hide' hs
  have HQ0 := hide' hq0
  have HM0 : Hid (Moved q0 q0 w0 w0) := Moved.of_stay (Stay.refl _ w0)
  have HQ : Hid (q0.b = q0.b) := rfl
  clear hs hq0 HN8
  have hc : Calls Try.prog 21 #[.pointer (some ⟨q0.b, 0, none⟩), .int .i64 1] w0 (Did q0 [⟨1, 0, 1, 1, 0, false⟩, ⟨2, 1, 1, 1, 0, false⟩] 2 (fun _ => 0) 2 (.tuple #[.int .i64 2, .int .i64 0]) w0) := by
    
    exact fork21 (i := 0) (p := ⟨1, 0, 1, 1, 0, false⟩) 1 hT rfl rfl (by decide) (by decide)
  have HC := hide' hc
  clear hT hc
  go_wp2_with fail
  refine HC.out.mono ?_
  rintro _ w1 ⟨q1, hq, rfl, hT, hM⟩
  have HM1 := hide' (HM0.out.trans hM)
  have HQ' : Hid (q1.b = q0.b) := hq
  clear hM hq HC HQ HM0
  have HQ := HQ'
  clear HQ'
  have hc : Calls Try.prog 22 #[.pointer (some ⟨q0.b, 0, none⟩), .int .i64 2] w1 (Did q1 [⟨1, 0, 1, 1, 0, false⟩, ⟨2, 1, 2, 2, 0, false⟩] 2 (fun _ => 0) 2 (.int .i64 0) w1) := by
    rw [← HQ.out]
    exact setsid22 (i := 1) (p := ⟨2, 1, 1, 1, 0, false⟩) 2 hT rfl rfl (by decide)
  have HC := hide' hc
  clear hT hc
  go_wp2_with fail
  refine HC.out.mono ?_
  rintro _ w2 ⟨q2, hq, rfl, hT, hM⟩
  have HM2 := hide' (HM1.out.trans hM)
  have HQ' : Hid (q2.b = q0.b) := hq.trans HQ.out
  clear hM hq HC HQ HM1
  have HQ := HQ'
  clear HQ'
  have hc : Calls Try.prog 23 #[.pointer (some ⟨q0.b, 0, none⟩), .int .i64 2, .int .i64 2] w2 (Did q2 [⟨1, 0, 1, 1, 0, false⟩, ⟨2, 1, 2, 2, 2, false⟩] 2 fB 3 (.int .i64 0) w2) := by
    rw [← HQ.out]
    exact attach23 (i := 1) (p := ⟨2, 1, 2, 2, 0, false⟩) 2 2 hT rfl rfl (by decide) (by decide) (by decide) (by decide) (by decide) (by decide)
  have HC := hide' hc
  clear hT hc
  go_wp2_with fail
  refine HC.out.mono ?_
  rintro _ w3 ⟨q3, hq, rfl, hT, hM⟩
  have HM3 := hide' (HM2.out.trans hM)
  have HQ' : Hid (q3.b = q0.b) := hq.trans HQ.out
  clear hM hq HC HQ HM2
  have HQ := HQ'
  clear HQ'
  have hc : Calls Try.prog 21 #[.pointer (some ⟨q0.b, 0, none⟩), .int .i64 2] w3 (Did q3 [⟨1, 0, 1, 1, 0, false⟩, ⟨2, 1, 2, 2, 2, false⟩, ⟨3, 2, 2, 2, 2, false⟩] 3 fB 4 (.tuple #[.int .i64 3, .int .i64 0]) w3) := by
    rw [← HQ.out]
    exact fork21 (i := 1) (p := ⟨2, 1, 2, 2, 2, false⟩) 2 hT rfl rfl (by decide) (by decide)
  have HC := hide' hc
  clear hT hc
  go_wp2_with fail
  refine HC.out.mono ?_
  rintro _ w4 ⟨q4, hq, rfl, hT, hM⟩
  have HM4 := hide' (HM3.out.trans hM)
  have HQ' : Hid (q4.b = q0.b) := hq.trans HQ.out
  clear hM hq HC HQ HM3
  have HQ := HQ'
  clear HQ'
  have hc : Calls Try.prog 21 #[.pointer (some ⟨q0.b, 0, none⟩), .int .i64 3] w4 (Did q4 [⟨1, 0, 1, 1, 0, false⟩, ⟨2, 1, 2, 2, 2, false⟩, ⟨3, 2, 2, 2, 2, false⟩, ⟨4, 3, 2, 2, 2, false⟩] 4 fB 5 (.tuple #[.int .i64 4, .int .i64 0]) w4) := by
    rw [← HQ.out]
    exact fork21 (i := 2) (p := ⟨3, 2, 2, 2, 2, false⟩) 3 hT rfl rfl (by decide) (by decide)
  have HC := hide' hc
  clear hT hc
  go_wp2_with fail
  refine HC.out.mono ?_
  rintro _ w5 ⟨q5, hq, rfl, hT, hM⟩
  have HM5 := hide' (HM4.out.trans hM)
  have HQ' : Hid (q5.b = q0.b) := hq.trans HQ.out
  clear hM hq HC HQ HM4
  have HQ := HQ'
  clear HQ'
  have hc : Calls Try.prog 24 #[.pointer (some ⟨q0.b, 0, none⟩), .int .i64 2, .int .i64 3, .int .i64 0] w5 (Did q5 [⟨1, 0, 1, 1, 0, false⟩, ⟨2, 1, 2, 2, 2, false⟩, ⟨3, 2, 3, 2, 2, false⟩, ⟨4, 3, 2, 2, 2, false⟩] 4 fB 5 (.int .i64 0) w5) := by
    rw [← HQ.out]
    exact setpgid24_new_child (i := 1) (p := ⟨2, 1, 2, 2, 2, false⟩) (k := 2) (t := ⟨3, 2, 2, 2, 2, false⟩) 2 3 0 3 hT (by decide) 3 rfl rfl rfl rfl (by decide) (by decide) (by decide) (by decide) (by decide) (by decide) (by decide)
  have HC := hide' hc
  clear hT hc
  go_wp2_with fail
  refine HC.out.mono ?_
  rintro _ w6 ⟨q6, hq, rfl, hT, hM⟩
  have HM6 := hide' (HM5.out.trans hM)
  have HQ' : Hid (q6.b = q0.b) := hq.trans HQ.out
  clear hM hq HC HQ HM5
  have HQ := HQ'
  clear HQ'
  have hc : Calls Try.prog 24 #[.pointer (some ⟨q0.b, 0, none⟩), .int .i64 3, .int .i64 4, .int .i64 3] w6 (Did q6 [⟨1, 0, 1, 1, 0, false⟩, ⟨2, 1, 2, 2, 2, false⟩, ⟨3, 2, 3, 2, 2, false⟩, ⟨4, 3, 3, 2, 2, false⟩] 4 fB 5 (.int .i64 0) w6) := by
    rw [← HQ.out]
    exact setpgid24_join_child (i := 2) (p := ⟨3, 2, 3, 2, 2, false⟩) (k := 3) (t := ⟨4, 3, 2, 2, 2, false⟩) 3 4 3 4 hT (by decide) 3 rfl rfl rfl rfl (by decide) (by decide) (by decide) (by decide) (by decide) (by decide) (by decide) (by decide)
  have HC := hide' hc
  clear hT hc
  go_wp2_with fail
  refine HC.out.mono ?_
  rintro _ w7 ⟨q7, hq, rfl, hT, hM⟩
  have HM7 := hide' (HM6.out.trans hM)
  have HQ' : Hid (q7.b = q0.b) := hq.trans HQ.out
  clear hM hq HC HQ HM6
  have HQ := HQ'
  clear HQ'
  have hc : Calls Try.prog 25 #[.pointer (some ⟨q0.b, 0, none⟩), .int .i64 4, .bool false] w7 (Did q7 [⟨1, 0, 1, 1, 0, false⟩, ⟨2, 1, 2, 2, 2, false⟩, ⟨3, 2, 3, 2, 2, false⟩, ⟨4, 3, 3, 2, 2, false⟩] 4 fB 5 (.int .i64 0) w7) := by
    rw [← HQ.out]
    exact deaf25 (i := 3) (p := ⟨4, 3, 3, 2, 2, false⟩) 4 false hT rfl rfl
  have HC := hide' hc
  clear hT hc
  go_wp2_with fail
  refine HC.out.mono ?_
  rintro _ w8 ⟨q8, hq, rfl, hT, hM⟩
  have HM8 := hide' (HM7.out.trans hM)
  have HQ' : Hid (q8.b = q0.b) := hq.trans HQ.out
  clear hM hq HC HQ HM7
  have HQ := HQ'
  clear HQ'
  have hy : Calls Try.prog 11 #[.pointer (some ⟨q0.b, 0, none⟩), .int .i64 2, .int .i64 2, .bool true, .bool true] w8 (GivesNS 0 [] w8) := by
    rw [← HQ.out]
    exact may11_B (i := 1) (p := ⟨2, 1, 2, 2, 2, false⟩) 2 2 true true hT.tm rfl rfl (w64_of (by decide) (by decide)) (TM.w64 hT (by decide)) (by decide) (by decide)
  have HY := hide' hy
  have HT := hide' hT
  clear hT hy
  go_wp2_with fail
  refine HY.out.mono ?_
  rintro _ w9 ⟨a, cap, rfl, _, hs, _⟩
  have hT := HT.out.keep hs
  have HM9 := hide' (HM8.out.trans (Moved.of_stay hs))
  clear hs HY HT HM8
  have hx : Calls Try.prog 26 #[.pointer (some ⟨q0.b, 0, none⟩), .int .i64 3] w9 (Gone q8 [⟨1, 0, 1, 1, 0, false⟩, ⟨2, 1, 2, 2, 2, false⟩, ⟨4, 1, 3, 2, 2, false⟩] 4 fB 5 (tellS [⟨1, 0, 1, 1, 0, false⟩, ⟨2, 1, 2, 2, 2, false⟩, ⟨3, 2, 3, 2, 2, false⟩, ⟨4, 3, 3, 2, 2, false⟩] [⟨1, 0, 1, 1, 0, false⟩, ⟨2, 1, 2, 2, 2, false⟩, ⟨4, 1, 3, 2, 2, false⟩] (grps 4 [⟨1, 0, 1, 1, 0, false⟩, ⟨2, 1, 2, 2, 2, false⟩, ⟨4, 1, 3, 2, 2, false⟩])) w9) := by
    rw [← HQ.out]
    exact exit26_nolead (i := 2) (p := ⟨3, 2, 3, 2, 2, false⟩) 3 hT rfl rfl (by decide) (by decide) (hT.ok.gone (i := 2) (p := ⟨3, 2, 3, 2, 2, false⟩) rfl (by decide)).gd
  have HX := hide' hx
  have HO := hide' (hT.ok.gone (i := 2) (p := ⟨3, 2, 3, 2, 2, false⟩) rfl (by decide))
  clear hT hx
  go_wp2_with fail
  refine HX.out.mono ?_
  rintro _ wA ⟨q9, a9, cap9, hq, rfl, _, hTM, hM, _⟩
  have hT : TAt wA q9 [⟨1, 0, 1, 1, 0, false⟩, ⟨2, 1, 2, 2, 2, false⟩, ⟨4, 1, 3, 2, 2, false⟩] 4 fB 5 := ⟨hTM, HO.out, by decide⟩
  have HM10 := hide' (HM9.out.trans hM)
  have HQ' : Hid (q9.b = q0.b) := hq.trans HQ.out
  clear hM hq HX HQ HM9 HO hTM
  have HQ := HQ'
  clear HQ'
  have hy : Calls Try.prog 11 #[.pointer (some ⟨q0.b, 0, none⟩), .int .i64 4, .int .i64 2, .bool true, .bool true] wA (GivesNS 2 [] wA) := by
    rw [← HQ.out]
    exact may11_F1 (i := 2) (p := ⟨4, 1, 3, 2, 2, false⟩) 4 2 hT.tm rfl rfl (w64_of (by decide) (by decide)) (TM.w64 hT (by decide)) (by decide) (by decide) rfl (by decide)
  have HY := hide' hy
  clear hT hy
  go_wp2_with fail
  refine HY.out.mono ?_
  rintro _ wB ⟨a, cap, rfl, hsv, hs, _⟩
  have HS := hide' (HS0.out.trans2 (HM10.out.1.trans (hs.mono (fun _ _ e => e.elim))) (fun j hj e => by have := HQ0.out j e; omega))
  have HAW := hide' (awake7 (w := wB))
  clear hs HY HM10 hsv HQ
  go_wp2_with fail
  refine HAW.out.mono ?_
  rintro _ wC ⟨rfl, hs⟩
  have HSC := hide' (HS.out.trans hs)
  clear hs HAW HS
  go_wp2
  go_ret
  exact ⟨rfl, HSC.out⟩

set_option maxRecDepth 100000 in
theorem background_fttf : Calls Try.prog 5 #[.bool false, .bool true, .bool true, .bool false] w (Gives (.bool true) w) := by
  have HN8 := hide' (new8 w)
  go_enter Try.func5, Try.ntmps5
  go_wp2_with fail
  refine HN8.out.mono ?_
  rintro _ w0 ⟨q0, rfl, hT, hs, hq0⟩
  have HS0 := hide' hs
  have HQ0 := hide' hq0
  have HM0 : Hid (Moved q0 q0 w0 w0) := Moved.of_stay (Stay.refl _ w0)
  have HQ : Hid (q0.b = q0.b) := rfl
  clear hs hq0 HN8
  have hc : Calls Try.prog 21 #[.pointer (some ⟨q0.b, 0, none⟩), .int .i64 1] w0 (Did q0 [⟨1, 0, 1, 1, 0, false⟩, ⟨2, 1, 1, 1, 0, false⟩] 2 (fun _ => 0) 2 (.tuple #[.int .i64 2, .int .i64 0]) w0) := by
    
    exact fork21 (i := 0) (p := ⟨1, 0, 1, 1, 0, false⟩) 1 hT rfl rfl (by decide) (by decide)
  have HC := hide' hc
  clear hT hc
  go_wp2_with fail
  refine HC.out.mono ?_
  rintro _ w1 ⟨q1, hq, rfl, hT, hM⟩
  have HM1 := hide' (HM0.out.trans hM)
  have HQ' : Hid (q1.b = q0.b) := hq
  clear hM hq HC HQ HM0
  have HQ := HQ'
  clear HQ'
  have hc : Calls Try.prog 22 #[.pointer (some ⟨q0.b, 0, none⟩), .int .i64 2] w1 (Did q1 [⟨1, 0, 1, 1, 0, false⟩, ⟨2, 1, 2, 2, 0, false⟩] 2 (fun _ => 0) 2 (.int .i64 0) w1) := by
    rw [← HQ.out]
    exact setsid22 (i := 1) (p := ⟨2, 1, 1, 1, 0, false⟩) 2 hT rfl rfl (by decide)
  have HC := hide' hc
  clear hT hc
  go_wp2_with fail
  refine HC.out.mono ?_
  rintro _ w2 ⟨q2, hq, rfl, hT, hM⟩
  have HM2 := hide' (HM1.out.trans hM)
  have HQ' : Hid (q2.b = q0.b) := hq.trans HQ.out
  clear hM hq HC HQ HM1
  have HQ := HQ'
  clear HQ'
  have hc : Calls Try.prog 23 #[.pointer (some ⟨q0.b, 0, none⟩), .int .i64 2, .int .i64 2] w2 (Did q2 [⟨1, 0, 1, 1, 0, false⟩, ⟨2, 1, 2, 2, 2, false⟩] 2 fB 3 (.int .i64 0) w2) := by
    rw [← HQ.out]
    exact attach23 (i := 1) (p := ⟨2, 1, 2, 2, 0, false⟩) 2 2 hT rfl rfl (by decide) (by decide) (by decide) (by decide) (by decide) (by decide)
  have HC := hide' hc
  clear hT hc
  go_wp2_with fail
  refine HC.out.mono ?_
  rintro _ w3 ⟨q3, hq, rfl, hT, hM⟩
  have HM3 := hide' (HM2.out.trans hM)
  have HQ' : Hid (q3.b = q0.b) := hq.trans HQ.out
  clear hM hq HC HQ HM2
  have HQ := HQ'
  clear HQ'
  have hc : Calls Try.prog 21 #[.pointer (some ⟨q0.b, 0, none⟩), .int .i64 2] w3 (Did q3 [⟨1, 0, 1, 1, 0, false⟩, ⟨2, 1, 2, 2, 2, false⟩, ⟨3, 2, 2, 2, 2, false⟩] 3 fB 4 (.tuple #[.int .i64 3, .int .i64 0]) w3) := by
    rw [← HQ.out]
    exact fork21 (i := 1) (p := ⟨2, 1, 2, 2, 2, false⟩) 2 hT rfl rfl (by decide) (by decide)
  have HC := hide' hc
  clear hT hc
  go_wp2_with fail
  refine HC.out.mono ?_
  rintro _ w4 ⟨q4, hq, rfl, hT, hM⟩
  have HM4 := hide' (HM3.out.trans hM)
  have HQ' : Hid (q4.b = q0.b) := hq.trans HQ.out
  clear hM hq HC HQ HM3
  have HQ := HQ'
  clear HQ'
  have hc : Calls Try.prog 21 #[.pointer (some ⟨q0.b, 0, none⟩), .int .i64 3] w4 (Did q4 [⟨1, 0, 1, 1, 0, false⟩, ⟨2, 1, 2, 2, 2, false⟩, ⟨3, 2, 2, 2, 2, false⟩, ⟨4, 3, 2, 2, 2, false⟩] 4 fB 5 (.tuple #[.int .i64 4, .int .i64 0]) w4) := by
    rw [← HQ.out]
    exact fork21 (i := 2) (p := ⟨3, 2, 2, 2, 2, false⟩) 3 hT rfl rfl (by decide) (by decide)
  have HC := hide' hc
  clear hT hc
  go_wp2_with fail
  refine HC.out.mono ?_
  rintro _ w5 ⟨q5, hq, rfl, hT, hM⟩
  have HM5 := hide' (HM4.out.trans hM)
  have HQ' : Hid (q5.b = q0.b) := hq.trans HQ.out
  clear hM hq HC HQ HM4
  have HQ := HQ'
  clear HQ'
  have hc : Calls Try.prog 24 #[.pointer (some ⟨q0.b, 0, none⟩), .int .i64 2, .int .i64 3, .int .i64 0] w5 (Did q5 [⟨1, 0, 1, 1, 0, false⟩, ⟨2, 1, 2, 2, 2, false⟩, ⟨3, 2, 3, 2, 2, false⟩, ⟨4, 3, 2, 2, 2, false⟩] 4 fB 5 (.int .i64 0) w5) := by
    rw [← HQ.out]
    exact setpgid24_new_child (i := 1) (p := ⟨2, 1, 2, 2, 2, false⟩) (k := 2) (t := ⟨3, 2, 2, 2, 2, false⟩) 2 3 0 3 hT (by decide) 3 rfl rfl rfl rfl (by decide) (by decide) (by decide) (by decide) (by decide) (by decide) (by decide)
  have HC := hide' hc
  clear hT hc
  go_wp2_with fail
  refine HC.out.mono ?_
  rintro _ w6 ⟨q6, hq, rfl, hT, hM⟩
  have HM6 := hide' (HM5.out.trans hM)
  have HQ' : Hid (q6.b = q0.b) := hq.trans HQ.out
  clear hM hq HC HQ HM5
  have HQ := HQ'
  clear HQ'
  have hc : Calls Try.prog 24 #[.pointer (some ⟨q0.b, 0, none⟩), .int .i64 3, .int .i64 4, .int .i64 3] w6 (Did q6 [⟨1, 0, 1, 1, 0, false⟩, ⟨2, 1, 2, 2, 2, false⟩, ⟨3, 2, 3, 2, 2, false⟩, ⟨4, 3, 3, 2, 2, false⟩] 4 fB 5 (.int .i64 0) w6) := by
    rw [← HQ.out]
    exact setpgid24_join_child (i := 2) (p := ⟨3, 2, 3, 2, 2, false⟩) (k := 3) (t := ⟨4, 3, 2, 2, 2, false⟩) 3 4 3 4 hT (by decide) 3 rfl rfl rfl rfl (by decide) (by decide) (by decide) (by decide) (by decide) (by decide) (by decide) (by decide)
  have HC := hide' hc
  clear hT hc
  go_wp2_with fail
  refine HC.out.mono ?_
  rintro _ w7 ⟨q7, hq, rfl, hT, hM⟩
  have HM7 := hide' (HM6.out.trans hM)
  have HQ' : Hid (q7.b = q0.b) := hq.trans HQ.out
  clear hM hq HC HQ HM6
  have HQ := HQ'
  clear HQ'
  have hc : Calls Try.prog 25 #[.pointer (some ⟨q0.b, 0, none⟩), .int .i64 4, .bool false] w7 (Did q7 [⟨1, 0, 1, 1, 0, false⟩, ⟨2, 1, 2, 2, 2, false⟩, ⟨3, 2, 3, 2, 2, false⟩, ⟨4, 3, 3, 2, 2, false⟩] 4 fB 5 (.int .i64 0) w7) := by
    rw [← HQ.out]
    exact deaf25 (i := 3) (p := ⟨4, 3, 3, 2, 2, false⟩) 4 false hT rfl rfl
  have HC := hide' hc
  clear hT hc
  go_wp2_with fail
  refine HC.out.mono ?_
  rintro _ w8 ⟨q8, hq, rfl, hT, hM⟩
  have HM8 := hide' (HM7.out.trans hM)
  have HQ' : Hid (q8.b = q0.b) := hq.trans HQ.out
  clear hM hq HC HQ HM7
  have HQ := HQ'
  clear HQ'
  have hy : Calls Try.prog 11 #[.pointer (some ⟨q0.b, 0, none⟩), .int .i64 2, .int .i64 2, .bool true, .bool true] w8 (GivesNS 0 [] w8) := by
    rw [← HQ.out]
    exact may11_B (i := 1) (p := ⟨2, 1, 2, 2, 2, false⟩) 2 2 true true hT.tm rfl rfl (w64_of (by decide) (by decide)) (TM.w64 hT (by decide)) (by decide) (by decide)
  have HY := hide' hy
  have HT := hide' hT
  clear hT hy
  go_wp2_with fail
  refine HY.out.mono ?_
  rintro _ w9 ⟨a, cap, rfl, _, hs, _⟩
  have hT := HT.out.keep hs
  have HM9 := hide' (HM8.out.trans (Moved.of_stay hs))
  clear hs HY HT HM8
  have HM10 := HM9
  clear HM9
  have hy : Calls Try.prog 11 #[.pointer (some ⟨q0.b, 0, none⟩), .int .i64 4, .int .i64 2, .bool true, .bool true] w9 (GivesNS 1 [⟨3, 7⟩] w9) := by
    rw [← HQ.out]
    exact may11_F2 (i := 3) (p := ⟨4, 3, 3, 2, 2, false⟩) 4 2 hT.tm rfl rfl (w64_of (by decide) (by decide)) (TM.w64 hT (by decide)) (by decide) (by decide) rfl (by decide)
  have HY := hide' hy
  clear hT hy
  go_wp2_with fail
  refine HY.out.mono ?_
  rintro _ wB ⟨a, cap, rfl, hsv, hs, _⟩
  have HS := hide' (HS0.out.trans2 (HM10.out.1.trans (hs.mono (fun _ _ e => e.elim))) (fun j hj e => by have := HQ0.out j e; omega))
  have HAW := hide' (awake7 (w := wB))
  obtain ⟨g, o, rfl, hb0, hb1⟩ := hsv.at (i := 0) (p := ⟨3, 7⟩) rfl
  rw [Nat.zero_mul, Nat.add_zero] at hb0 hb1
  clear hs HY HM10 hsv HQ
  go_wp2_with fail
  refine HAW.out.mono ?_
  rintro _ wC ⟨rfl, hs⟩
  have HSC := hide' (HS.out.trans hs)
  clear hs HAW HS
  go_wp2
  go_ret
  exact ⟨rfl, HSC.out⟩

set_option maxRecDepth 100000 in
theorem background_ftft : Calls Try.prog 5 #[.bool false, .bool true, .bool false, .bool true] w (Gives (.bool true) w) := by
  have HN8 := hide' (new8 w)
  go_enter Try.func5, Try.ntmps5
  go_wp2_with fail
  refine HN8.out.mono ?_
  rintro _ w0 ⟨q0, rfl, hT, hs, hq0⟩
  have HS0 := hide' hs
  have HQ0 := hide' hq0
  have HM0 : Hid (Moved q0 q0 w0 w0) := Moved.of_stay (Stay.refl _ w0)
  have HQ : Hid (q0.b = q0.b) := rfl
  clear hs hq0 HN8
  have hc : Calls Try.prog 21 #[.pointer (some ⟨q0.b, 0, none⟩), .int .i64 1] w0 (Did q0 [⟨1, 0, 1, 1, 0, false⟩, ⟨2, 1, 1, 1, 0, false⟩] 2 (fun _ => 0) 2 (.tuple #[.int .i64 2, .int .i64 0]) w0) := by
    
    exact fork21 (i := 0) (p := ⟨1, 0, 1, 1, 0, false⟩) 1 hT rfl rfl (by decide) (by decide)
  have HC := hide' hc
  clear hT hc
  go_wp2_with fail
  refine HC.out.mono ?_
  rintro _ w1 ⟨q1, hq, rfl, hT, hM⟩
  have HM1 := hide' (HM0.out.trans hM)
  have HQ' : Hid (q1.b = q0.b) := hq
  clear hM hq HC HQ HM0
  have HQ := HQ'
  clear HQ'
  have hc : Calls Try.prog 22 #[.pointer (some ⟨q0.b, 0, none⟩), .int .i64 2] w1 (Did q1 [⟨1, 0, 1, 1, 0, false⟩, ⟨2, 1, 2, 2, 0, false⟩] 2 (fun _ => 0) 2 (.int .i64 0) w1) := by
    rw [← HQ.out]
    exact setsid22 (i := 1) (p := ⟨2, 1, 1, 1, 0, false⟩) 2 hT rfl rfl (by decide)
  have HC := hide' hc
  clear hT hc
  go_wp2_with fail
  refine HC.out.mono ?_
  rintro _ w2 ⟨q2, hq, rfl, hT, hM⟩
  have HM2 := hide' (HM1.out.trans hM)
  have HQ' : Hid (q2.b = q0.b) := hq.trans HQ.out
  clear hM hq HC HQ HM1
  have HQ := HQ'
  clear HQ'
  have hc : Calls Try.prog 23 #[.pointer (some ⟨q0.b, 0, none⟩), .int .i64 2, .int .i64 2] w2 (Did q2 [⟨1, 0, 1, 1, 0, false⟩, ⟨2, 1, 2, 2, 2, false⟩] 2 fB 3 (.int .i64 0) w2) := by
    rw [← HQ.out]
    exact attach23 (i := 1) (p := ⟨2, 1, 2, 2, 0, false⟩) 2 2 hT rfl rfl (by decide) (by decide) (by decide) (by decide) (by decide) (by decide)
  have HC := hide' hc
  clear hT hc
  go_wp2_with fail
  refine HC.out.mono ?_
  rintro _ w3 ⟨q3, hq, rfl, hT, hM⟩
  have HM3 := hide' (HM2.out.trans hM)
  have HQ' : Hid (q3.b = q0.b) := hq.trans HQ.out
  clear hM hq HC HQ HM2
  have HQ := HQ'
  clear HQ'
  have hc : Calls Try.prog 21 #[.pointer (some ⟨q0.b, 0, none⟩), .int .i64 2] w3 (Did q3 [⟨1, 0, 1, 1, 0, false⟩, ⟨2, 1, 2, 2, 2, false⟩, ⟨3, 2, 2, 2, 2, false⟩] 3 fB 4 (.tuple #[.int .i64 3, .int .i64 0]) w3) := by
    rw [← HQ.out]
    exact fork21 (i := 1) (p := ⟨2, 1, 2, 2, 2, false⟩) 2 hT rfl rfl (by decide) (by decide)
  have HC := hide' hc
  clear hT hc
  go_wp2_with fail
  refine HC.out.mono ?_
  rintro _ w4 ⟨q4, hq, rfl, hT, hM⟩
  have HM4 := hide' (HM3.out.trans hM)
  have HQ' : Hid (q4.b = q0.b) := hq.trans HQ.out
  clear hM hq HC HQ HM3
  have HQ := HQ'
  clear HQ'
  have hc : Calls Try.prog 21 #[.pointer (some ⟨q0.b, 0, none⟩), .int .i64 3] w4 (Did q4 [⟨1, 0, 1, 1, 0, false⟩, ⟨2, 1, 2, 2, 2, false⟩, ⟨3, 2, 2, 2, 2, false⟩, ⟨4, 3, 2, 2, 2, false⟩] 4 fB 5 (.tuple #[.int .i64 4, .int .i64 0]) w4) := by
    rw [← HQ.out]
    exact fork21 (i := 2) (p := ⟨3, 2, 2, 2, 2, false⟩) 3 hT rfl rfl (by decide) (by decide)
  have HC := hide' hc
  clear hT hc
  go_wp2_with fail
  refine HC.out.mono ?_
  rintro _ w5 ⟨q5, hq, rfl, hT, hM⟩
  have HM5 := hide' (HM4.out.trans hM)
  have HQ' : Hid (q5.b = q0.b) := hq.trans HQ.out
  clear hM hq HC HQ HM4
  have HQ := HQ'
  clear HQ'
  have hc : Calls Try.prog 24 #[.pointer (some ⟨q0.b, 0, none⟩), .int .i64 2, .int .i64 3, .int .i64 0] w5 (Did q5 [⟨1, 0, 1, 1, 0, false⟩, ⟨2, 1, 2, 2, 2, false⟩, ⟨3, 2, 3, 2, 2, false⟩, ⟨4, 3, 2, 2, 2, false⟩] 4 fB 5 (.int .i64 0) w5) := by
    rw [← HQ.out]
    exact setpgid24_new_child (i := 1) (p := ⟨2, 1, 2, 2, 2, false⟩) (k := 2) (t := ⟨3, 2, 2, 2, 2, false⟩) 2 3 0 3 hT (by decide) 3 rfl rfl rfl rfl (by decide) (by decide) (by decide) (by decide) (by decide) (by decide) (by decide)
  have HC := hide' hc
  clear hT hc
  go_wp2_with fail
  refine HC.out.mono ?_
  rintro _ w6 ⟨q6, hq, rfl, hT, hM⟩
  have HM6 := hide' (HM5.out.trans hM)
  have HQ' : Hid (q6.b = q0.b) := hq.trans HQ.out
  clear hM hq HC HQ HM5
  have HQ := HQ'
  clear HQ'
  have hc : Calls Try.prog 24 #[.pointer (some ⟨q0.b, 0, none⟩), .int .i64 3, .int .i64 4, .int .i64 3] w6 (Did q6 [⟨1, 0, 1, 1, 0, false⟩, ⟨2, 1, 2, 2, 2, false⟩, ⟨3, 2, 3, 2, 2, false⟩, ⟨4, 3, 3, 2, 2, false⟩] 4 fB 5 (.int .i64 0) w6) := by
    rw [← HQ.out]
    exact setpgid24_join_child (i := 2) (p := ⟨3, 2, 3, 2, 2, false⟩) (k := 3) (t := ⟨4, 3, 2, 2, 2, false⟩) 3 4 3 4 hT (by decide) 3 rfl rfl rfl rfl (by decide) (by decide) (by decide) (by decide) (by decide) (by decide) (by decide) (by decide)
  have HC := hide' hc
  clear hT hc
  go_wp2_with fail
  refine HC.out.mono ?_
  rintro _ w7 ⟨q7, hq, rfl, hT, hM⟩
  have HM7 := hide' (HM6.out.trans hM)
  have HQ' : Hid (q7.b = q0.b) := hq.trans HQ.out
  clear hM hq HC HQ HM6
  have HQ := HQ'
  clear HQ'
  have hc : Calls Try.prog 25 #[.pointer (some ⟨q0.b, 0, none⟩), .int .i64 4, .bool false] w7 (Did q7 [⟨1, 0, 1, 1, 0, false⟩, ⟨2, 1, 2, 2, 2, false⟩, ⟨3, 2, 3, 2, 2, false⟩, ⟨4, 3, 3, 2, 2, false⟩] 4 fB 5 (.int .i64 0) w7) := by
    rw [← HQ.out]
    exact deaf25 (i := 3) (p := ⟨4, 3, 3, 2, 2, false⟩) 4 false hT rfl rfl
  have HC := hide' hc
  clear hT hc
  go_wp2_with fail
  refine HC.out.mono ?_
  rintro _ w8 ⟨q8, hq, rfl, hT, hM⟩
  have HM8 := hide' (HM7.out.trans hM)
  have HQ' : Hid (q8.b = q0.b) := hq.trans HQ.out
  clear hM hq HC HQ HM7
  have HQ := HQ'
  clear HQ'
  have hy : Calls Try.prog 11 #[.pointer (some ⟨q0.b, 0, none⟩), .int .i64 2, .int .i64 2, .bool true, .bool false] w8 (GivesNS 0 [] w8) := by
    rw [← HQ.out]
    exact may11_B (i := 1) (p := ⟨2, 1, 2, 2, 2, false⟩) 2 2 true false hT.tm rfl rfl (w64_of (by decide) (by decide)) (TM.w64 hT (by decide)) (by decide) (by decide)
  have HY := hide' hy
  have HT := hide' hT
  clear hT hy
  go_wp2_with fail
  refine HY.out.mono ?_
  rintro _ w9 ⟨a, cap, rfl, _, hs, _⟩
  have hT := HT.out.keep hs
  have HM9 := hide' (HM8.out.trans (Moved.of_stay hs))
  clear hs HY HT HM8
  have hx : Calls Try.prog 26 #[.pointer (some ⟨q0.b, 0, none⟩), .int .i64 3] w9 (Gone q8 [⟨1, 0, 1, 1, 0, false⟩, ⟨2, 1, 2, 2, 2, false⟩, ⟨4, 1, 3, 2, 2, false⟩] 4 fB 5 (tellS [⟨1, 0, 1, 1, 0, false⟩, ⟨2, 1, 2, 2, 2, false⟩, ⟨3, 2, 3, 2, 2, false⟩, ⟨4, 3, 3, 2, 2, false⟩] [⟨1, 0, 1, 1, 0, false⟩, ⟨2, 1, 2, 2, 2, false⟩, ⟨4, 1, 3, 2, 2, false⟩] (grps 4 [⟨1, 0, 1, 1, 0, false⟩, ⟨2, 1, 2, 2, 2, false⟩, ⟨4, 1, 3, 2, 2, false⟩])) w9) := by
    rw [← HQ.out]
    exact exit26_nolead (i := 2) (p := ⟨3, 2, 3, 2, 2, false⟩) 3 hT rfl rfl (by decide) (by decide) (hT.ok.gone (i := 2) (p := ⟨3, 2, 3, 2, 2, false⟩) rfl (by decide)).gd
  have HX := hide' hx
  have HO := hide' (hT.ok.gone (i := 2) (p := ⟨3, 2, 3, 2, 2, false⟩) rfl (by decide))
  clear hT hx
  go_wp2_with fail
  refine HX.out.mono ?_
  rintro _ wA ⟨q9, a9, cap9, hq, rfl, _, hTM, hM, _⟩
  have hT : TAt wA q9 [⟨1, 0, 1, 1, 0, false⟩, ⟨2, 1, 2, 2, 2, false⟩, ⟨4, 1, 3, 2, 2, false⟩] 4 fB 5 := ⟨hTM, HO.out, by decide⟩
  have HM10 := hide' (HM9.out.trans hM)
  have HQ' : Hid (q9.b = q0.b) := hq.trans HQ.out
  clear hM hq HX HQ HM9 HO hTM
  have HQ := HQ'
  clear HQ'
  have hy : Calls Try.prog 11 #[.pointer (some ⟨q0.b, 0, none⟩), .int .i64 4, .int .i64 2, .bool true, .bool false] wA (GivesNS 0 [] wA) := by
    rw [← HQ.out]
    exact may11_C (i := 2) (p := ⟨4, 1, 3, 2, 2, false⟩) 4 2 hT.tm rfl rfl (w64_of (by decide) (by decide)) (TM.w64 hT (by decide)) (by decide) (by decide)
  have HY := hide' hy
  clear hT hy
  go_wp2_with fail
  refine HY.out.mono ?_
  rintro _ wB ⟨a, cap, rfl, hsv, hs, _⟩
  have HS := hide' (HS0.out.trans2 (HM10.out.1.trans (hs.mono (fun _ _ e => e.elim))) (fun j hj e => by have := HQ0.out j e; omega))
  have HAW := hide' (awake7 (w := wB))
  clear hs HY HM10 hsv HQ
  go_wp2_with fail
  refine HAW.out.mono ?_
  rintro _ wC ⟨rfl, hs⟩
  have HSC := hide' (HS.out.trans hs)
  clear hs HAW HS
  go_wp2
  go_ret
  exact ⟨rfl, HSC.out⟩

set_option maxRecDepth 100000 in
theorem background_ftff : Calls Try.prog 5 #[.bool false, .bool true, .bool false, .bool false] w (Gives (.bool true) w) := by
  have HN8 := hide' (new8 w)
  go_enter Try.func5, Try.ntmps5
  go_wp2_with fail
  refine HN8.out.mono ?_
  rintro _ w0 ⟨q0, rfl, hT, hs, hq0⟩
  have HS0 := hide' hs
  have HQ0 := hide' hq0
  have HM0 : Hid (Moved q0 q0 w0 w0) := Moved.of_stay (Stay.refl _ w0)
  have HQ : Hid (q0.b = q0.b) := rfl
  clear hs hq0 HN8
  have hc : Calls Try.prog 21 #[.pointer (some ⟨q0.b, 0, none⟩), .int .i64 1] w0 (Did q0 [⟨1, 0, 1, 1, 0, false⟩, ⟨2, 1, 1, 1, 0, false⟩] 2 (fun _ => 0) 2 (.tuple #[.int .i64 2, .int .i64 0]) w0) := by
    
    exact fork21 (i := 0) (p := ⟨1, 0, 1, 1, 0, false⟩) 1 hT rfl rfl (by decide) (by decide)
  have HC := hide' hc
  clear hT hc
  go_wp2_with fail
  refine HC.out.mono ?_
  rintro _ w1 ⟨q1, hq, rfl, hT, hM⟩
  have HM1 := hide' (HM0.out.trans hM)
  have HQ' : Hid (q1.b = q0.b) := hq
  clear hM hq HC HQ HM0
  have HQ := HQ'
  clear HQ'
  have hc : Calls Try.prog 22 #[.pointer (some ⟨q0.b, 0, none⟩), .int .i64 2] w1 (Did q1 [⟨1, 0, 1, 1, 0, false⟩, ⟨2, 1, 2, 2, 0, false⟩] 2 (fun _ => 0) 2 (.int .i64 0) w1) := by
    rw [← HQ.out]
    exact setsid22 (i := 1) (p := ⟨2, 1, 1, 1, 0, false⟩) 2 hT rfl rfl (by decide)
  have HC := hide' hc
  clear hT hc
  go_wp2_with fail
  refine HC.out.mono ?_
  rintro _ w2 ⟨q2, hq, rfl, hT, hM⟩
  have HM2 := hide' (HM1.out.trans hM)
  have HQ' : Hid (q2.b = q0.b) := hq.trans HQ.out
  clear hM hq HC HQ HM1
  have HQ := HQ'
  clear HQ'
  have hc : Calls Try.prog 23 #[.pointer (some ⟨q0.b, 0, none⟩), .int .i64 2, .int .i64 2] w2 (Did q2 [⟨1, 0, 1, 1, 0, false⟩, ⟨2, 1, 2, 2, 2, false⟩] 2 fB 3 (.int .i64 0) w2) := by
    rw [← HQ.out]
    exact attach23 (i := 1) (p := ⟨2, 1, 2, 2, 0, false⟩) 2 2 hT rfl rfl (by decide) (by decide) (by decide) (by decide) (by decide) (by decide)
  have HC := hide' hc
  clear hT hc
  go_wp2_with fail
  refine HC.out.mono ?_
  rintro _ w3 ⟨q3, hq, rfl, hT, hM⟩
  have HM3 := hide' (HM2.out.trans hM)
  have HQ' : Hid (q3.b = q0.b) := hq.trans HQ.out
  clear hM hq HC HQ HM2
  have HQ := HQ'
  clear HQ'
  have hc : Calls Try.prog 21 #[.pointer (some ⟨q0.b, 0, none⟩), .int .i64 2] w3 (Did q3 [⟨1, 0, 1, 1, 0, false⟩, ⟨2, 1, 2, 2, 2, false⟩, ⟨3, 2, 2, 2, 2, false⟩] 3 fB 4 (.tuple #[.int .i64 3, .int .i64 0]) w3) := by
    rw [← HQ.out]
    exact fork21 (i := 1) (p := ⟨2, 1, 2, 2, 2, false⟩) 2 hT rfl rfl (by decide) (by decide)
  have HC := hide' hc
  clear hT hc
  go_wp2_with fail
  refine HC.out.mono ?_
  rintro _ w4 ⟨q4, hq, rfl, hT, hM⟩
  have HM4 := hide' (HM3.out.trans hM)
  have HQ' : Hid (q4.b = q0.b) := hq.trans HQ.out
  clear hM hq HC HQ HM3
  have HQ := HQ'
  clear HQ'
  have hc : Calls Try.prog 21 #[.pointer (some ⟨q0.b, 0, none⟩), .int .i64 3] w4 (Did q4 [⟨1, 0, 1, 1, 0, false⟩, ⟨2, 1, 2, 2, 2, false⟩, ⟨3, 2, 2, 2, 2, false⟩, ⟨4, 3, 2, 2, 2, false⟩] 4 fB 5 (.tuple #[.int .i64 4, .int .i64 0]) w4) := by
    rw [← HQ.out]
    exact fork21 (i := 2) (p := ⟨3, 2, 2, 2, 2, false⟩) 3 hT rfl rfl (by decide) (by decide)
  have HC := hide' hc
  clear hT hc
  go_wp2_with fail
  refine HC.out.mono ?_
  rintro _ w5 ⟨q5, hq, rfl, hT, hM⟩
  have HM5 := hide' (HM4.out.trans hM)
  have HQ' : Hid (q5.b = q0.b) := hq.trans HQ.out
  clear hM hq HC HQ HM4
  have HQ := HQ'
  clear HQ'
  have hc : Calls Try.prog 24 #[.pointer (some ⟨q0.b, 0, none⟩), .int .i64 2, .int .i64 3, .int .i64 0] w5 (Did q5 [⟨1, 0, 1, 1, 0, false⟩, ⟨2, 1, 2, 2, 2, false⟩, ⟨3, 2, 3, 2, 2, false⟩, ⟨4, 3, 2, 2, 2, false⟩] 4 fB 5 (.int .i64 0) w5) := by
    rw [← HQ.out]
    exact setpgid24_new_child (i := 1) (p := ⟨2, 1, 2, 2, 2, false⟩) (k := 2) (t := ⟨3, 2, 2, 2, 2, false⟩) 2 3 0 3 hT (by decide) 3 rfl rfl rfl rfl (by decide) (by decide) (by decide) (by decide) (by decide) (by decide) (by decide)
  have HC := hide' hc
  clear hT hc
  go_wp2_with fail
  refine HC.out.mono ?_
  rintro _ w6 ⟨q6, hq, rfl, hT, hM⟩
  have HM6 := hide' (HM5.out.trans hM)
  have HQ' : Hid (q6.b = q0.b) := hq.trans HQ.out
  clear hM hq HC HQ HM5
  have HQ := HQ'
  clear HQ'
  have hc : Calls Try.prog 24 #[.pointer (some ⟨q0.b, 0, none⟩), .int .i64 3, .int .i64 4, .int .i64 3] w6 (Did q6 [⟨1, 0, 1, 1, 0, false⟩, ⟨2, 1, 2, 2, 2, false⟩, ⟨3, 2, 3, 2, 2, false⟩, ⟨4, 3, 3, 2, 2, false⟩] 4 fB 5 (.int .i64 0) w6) := by
    rw [← HQ.out]
    exact setpgid24_join_child (i := 2) (p := ⟨3, 2, 3, 2, 2, false⟩) (k := 3) (t := ⟨4, 3, 2, 2, 2, false⟩) 3 4 3 4 hT (by decide) 3 rfl rfl rfl rfl (by decide) (by decide) (by decide) (by decide) (by decide) (by decide) (by decide) (by decide)
  have HC := hide' hc
  clear hT hc
  go_wp2_with fail
  refine HC.out.mono ?_
  rintro _ w7 ⟨q7, hq, rfl, hT, hM⟩
  have HM7 := hide' (HM6.out.trans hM)
  have HQ' : Hid (q7.b = q0.b) := hq.trans HQ.out
  clear hM hq HC HQ HM6
  have HQ := HQ'
  clear HQ'
  have hc : Calls Try.prog 25 #[.pointer (some ⟨q0.b, 0, none⟩), .int .i64 4, .bool false] w7 (Did q7 [⟨1, 0, 1, 1, 0, false⟩, ⟨2, 1, 2, 2, 2, false⟩, ⟨3, 2, 3, 2, 2, false⟩, ⟨4, 3, 3, 2, 2, false⟩] 4 fB 5 (.int .i64 0) w7) := by
    rw [← HQ.out]
    exact deaf25 (i := 3) (p := ⟨4, 3, 3, 2, 2, false⟩) 4 false hT rfl rfl
  have HC := hide' hc
  clear hT hc
  go_wp2_with fail
  refine HC.out.mono ?_
  rintro _ w8 ⟨q8, hq, rfl, hT, hM⟩
  have HM8 := hide' (HM7.out.trans hM)
  have HQ' : Hid (q8.b = q0.b) := hq.trans HQ.out
  clear hM hq HC HQ HM7
  have HQ := HQ'
  clear HQ'
  have hy : Calls Try.prog 11 #[.pointer (some ⟨q0.b, 0, none⟩), .int .i64 2, .int .i64 2, .bool true, .bool false] w8 (GivesNS 0 [] w8) := by
    rw [← HQ.out]
    exact may11_B (i := 1) (p := ⟨2, 1, 2, 2, 2, false⟩) 2 2 true false hT.tm rfl rfl (w64_of (by decide) (by decide)) (TM.w64 hT (by decide)) (by decide) (by decide)
  have HY := hide' hy
  have HT := hide' hT
  clear hT hy
  go_wp2_with fail
  refine HY.out.mono ?_
  rintro _ w9 ⟨a, cap, rfl, _, hs, _⟩
  have hT := HT.out.keep hs
  have HM9 := hide' (HM8.out.trans (Moved.of_stay hs))
  clear hs HY HT HM8
  have HM10 := HM9
  clear HM9
  have hy : Calls Try.prog 11 #[.pointer (some ⟨q0.b, 0, none⟩), .int .i64 4, .int .i64 2, .bool true, .bool false] w9 (GivesNS 0 [] w9) := by
    rw [← HQ.out]
    exact may11_C (i := 3) (p := ⟨4, 3, 3, 2, 2, false⟩) 4 2 hT.tm rfl rfl (w64_of (by decide) (by decide)) (TM.w64 hT (by decide)) (by decide) (by decide)
  have HY := hide' hy
  clear hT hy
  go_wp2_with fail
  refine HY.out.mono ?_
  rintro _ wB ⟨a, cap, rfl, hsv, hs, _⟩
  have HS := hide' (HS0.out.trans2 (HM10.out.1.trans (hs.mono (fun _ _ e => e.elim))) (fun j hj e => by have := HQ0.out j e; omega))
  have HAW := hide' (awake7 (w := wB))
  clear hs HY HM10 hsv HQ
  go_wp2_with fail
  refine HAW.out.mono ?_
  rintro _ wC ⟨rfl, hs⟩
  have HSC := hide' (HS.out.trans hs)
  clear hs HAW HS
  go_wp2
  go_ret
  exact ⟨rfl, HSC.out⟩

set_option maxRecDepth 100000 in
theorem background_fftt : Calls Try.prog 5 #[.bool false, .bool false, .bool true, .bool true] w (Gives (.bool true) w) := by
  have HN8 := hide' (new8 w)
  go_enter Try.func5, Try.ntmps5
  go_wp2_with fail
  refine HN8.out.mono ?_
  rintro _ w0 ⟨q0, rfl, hT, hs, hq0⟩
  have HS0 := hide' hs
  have HQ0 := hide' hq0
  have HM0 : Hid (Moved q0 q0 w0 w0) := Moved.of_stay (Stay.refl _ w0)
  have HQ : Hid (q0.b = q0.b) := rfl
  clear hs hq0 HN8
  have hc : Calls Try.prog 21 #[.pointer (some ⟨q0.b, 0, none⟩), .int .i64 1] w0 (Did q0 [⟨1, 0, 1, 1, 0, false⟩, ⟨2, 1, 1, 1, 0, false⟩] 2 (fun _ => 0) 2 (.tuple #[.int .i64 2, .int .i64 0]) w0) := by
    
    exact fork21 (i := 0) (p := ⟨1, 0, 1, 1, 0, false⟩) 1 hT rfl rfl (by decide) (by decide)
  have HC := hide' hc
  clear hT hc
  go_wp2_with fail
  refine HC.out.mono ?_
  rintro _ w1 ⟨q1, hq, rfl, hT, hM⟩
  have HM1 := hide' (HM0.out.trans hM)
  have HQ' : Hid (q1.b = q0.b) := hq
  clear hM hq HC HQ HM0
  have HQ := HQ'
  clear HQ'
  have hc : Calls Try.prog 22 #[.pointer (some ⟨q0.b, 0, none⟩), .int .i64 2] w1 (Did q1 [⟨1, 0, 1, 1, 0, false⟩, ⟨2, 1, 2, 2, 0, false⟩] 2 (fun _ => 0) 2 (.int .i64 0) w1) := by
    rw [← HQ.out]
    exact setsid22 (i := 1) (p := ⟨2, 1, 1, 1, 0, false⟩) 2 hT rfl rfl (by decide)
  have HC := hide' hc
  clear hT hc
  go_wp2_with fail
  refine HC.out.mono ?_
  rintro _ w2 ⟨q2, hq, rfl, hT, hM⟩
  have HM2 := hide' (HM1.out.trans hM)
  have HQ' : Hid (q2.b = q0.b) := hq.trans HQ.out
  clear hM hq HC HQ HM1
  have HQ := HQ'
  clear HQ'
  have hc : Calls Try.prog 23 #[.pointer (some ⟨q0.b, 0, none⟩), .int .i64 2, .int .i64 2] w2 (Did q2 [⟨1, 0, 1, 1, 0, false⟩, ⟨2, 1, 2, 2, 2, false⟩] 2 fB 3 (.int .i64 0) w2) := by
    rw [← HQ.out]
    exact attach23 (i := 1) (p := ⟨2, 1, 2, 2, 0, false⟩) 2 2 hT rfl rfl (by decide) (by decide) (by decide) (by decide) (by decide) (by decide)
  have HC := hide' hc
  clear hT hc
  go_wp2_with fail
  refine HC.out.mono ?_
  rintro _ w3 ⟨q3, hq, rfl, hT, hM⟩
  have HM3 := hide' (HM2.out.trans hM)
  have HQ' : Hid (q3.b = q0.b) := hq.trans HQ.out
  clear hM hq HC HQ HM2
  have HQ := HQ'
  clear HQ'
  have hc : Calls Try.prog 21 #[.pointer (some ⟨q0.b, 0, none⟩), .int .i64 2] w3 (Did q3 [⟨1, 0, 1, 1, 0, false⟩, ⟨2, 1, 2, 2, 2, false⟩, ⟨3, 2, 2, 2, 2, false⟩] 3 fB 4 (.tuple #[.int .i64 3, .int .i64 0]) w3) := by
    rw [← HQ.out]
    exact fork21 (i := 1) (p := ⟨2, 1, 2, 2, 2, false⟩) 2 hT rfl rfl (by decide) (by decide)
  have HC := hide' hc
  clear hT hc
  go_wp2_with fail
  refine HC.out.mono ?_
  rintro _ w4 ⟨q4, hq, rfl, hT, hM⟩
  have HM4 := hide' (HM3.out.trans hM)
  have HQ' : Hid (q4.b = q0.b) := hq.trans HQ.out
  clear hM hq HC HQ HM3
  have HQ := HQ'
  clear HQ'
  have hc : Calls Try.prog 21 #[.pointer (some ⟨q0.b, 0, none⟩), .int .i64 3] w4 (Did q4 [⟨1, 0, 1, 1, 0, false⟩, ⟨2, 1, 2, 2, 2, false⟩, ⟨3, 2, 2, 2, 2, false⟩, ⟨4, 3, 2, 2, 2, false⟩] 4 fB 5 (.tuple #[.int .i64 4, .int .i64 0]) w4) := by
    rw [← HQ.out]
    exact fork21 (i := 2) (p := ⟨3, 2, 2, 2, 2, false⟩) 3 hT rfl rfl (by decide) (by decide)
  have HC := hide' hc
  clear hT hc
  go_wp2_with fail
  refine HC.out.mono ?_
  rintro _ w5 ⟨q5, hq, rfl, hT, hM⟩
  have HM5 := hide' (HM4.out.trans hM)
  have HQ' : Hid (q5.b = q0.b) := hq.trans HQ.out
  clear hM hq HC HQ HM4
  have HQ := HQ'
  clear HQ'
  have hc : Calls Try.prog 24 #[.pointer (some ⟨q0.b, 0, none⟩), .int .i64 2, .int .i64 3, .int .i64 0] w5 (Did q5 [⟨1, 0, 1, 1, 0, false⟩, ⟨2, 1, 2, 2, 2, false⟩, ⟨3, 2, 3, 2, 2, false⟩, ⟨4, 3, 2, 2, 2, false⟩] 4 fB 5 (.int .i64 0) w5) := by
    rw [← HQ.out]
    exact setpgid24_new_child (i := 1) (p := ⟨2, 1, 2, 2, 2, false⟩) (k := 2) (t := ⟨3, 2, 2, 2, 2, false⟩) 2 3 0 3 hT (by decide) 3 rfl rfl rfl rfl (by decide) (by decide) (by decide) (by decide) (by decide) (by decide) (by decide)
  have HC := hide' hc
  clear hT hc
  go_wp2_with fail
  refine HC.out.mono ?_
  rintro _ w6 ⟨q6, hq, rfl, hT, hM⟩
  have HM6 := hide' (HM5.out.trans hM)
  have HQ' : Hid (q6.b = q0.b) := hq.trans HQ.out
  clear hM hq HC HQ HM5
  have HQ := HQ'
  clear HQ'
  have hc : Calls Try.prog 24 #[.pointer (some ⟨q0.b, 0, none⟩), .int .i64 3, .int .i64 4, .int .i64 3] w6 (Did q6 [⟨1, 0, 1, 1, 0, false⟩, ⟨2, 1, 2, 2, 2, false⟩, ⟨3, 2, 3, 2, 2, false⟩, ⟨4, 3, 3, 2, 2, false⟩] 4 fB 5 (.int .i64 0) w6) := by
    rw [← HQ.out]
    exact setpgid24_join_child (i := 2) (p := ⟨3, 2, 3, 2, 2, false⟩) (k := 3) (t := ⟨4, 3, 2, 2, 2, false⟩) 3 4 3 4 hT (by decide) 3 rfl rfl rfl rfl (by decide) (by decide) (by decide) (by decide) (by decide) (by decide) (by decide) (by decide)
  have HC := hide' hc
  clear hT hc
  go_wp2_with fail
  refine HC.out.mono ?_
  rintro _ w7 ⟨q7, hq, rfl, hT, hM⟩
  have HM7 := hide' (HM6.out.trans hM)
  have HQ' : Hid (q7.b = q0.b) := hq.trans HQ.out
  clear hM hq HC HQ HM6
  have HQ := HQ'
  clear HQ'
  have hc : Calls Try.prog 25 #[.pointer (some ⟨q0.b, 0, none⟩), .int .i64 4, .bool false] w7 (Did q7 [⟨1, 0, 1, 1, 0, false⟩, ⟨2, 1, 2, 2, 2, false⟩, ⟨3, 2, 3, 2, 2, false⟩, ⟨4, 3, 3, 2, 2, false⟩] 4 fB 5 (.int .i64 0) w7) := by
    rw [← HQ.out]
    exact deaf25 (i := 3) (p := ⟨4, 3, 3, 2, 2, false⟩) 4 false hT rfl rfl
  have HC := hide' hc
  clear hT hc
  go_wp2_with fail
  refine HC.out.mono ?_
  rintro _ w8 ⟨q8, hq, rfl, hT, hM⟩
  have HM8 := hide' (HM7.out.trans hM)
  have HQ' : Hid (q8.b = q0.b) := hq.trans HQ.out
  clear hM hq HC HQ HM7
  have HQ := HQ'
  clear HQ'
  have hy : Calls Try.prog 11 #[.pointer (some ⟨q0.b, 0, none⟩), .int .i64 2, .int .i64 2, .bool false, .bool true] w8 (GivesNS 0 [] w8) := by
    rw [← HQ.out]
    exact may11_B (i := 1) (p := ⟨2, 1, 2, 2, 2, false⟩) 2 2 false true hT.tm rfl rfl (w64_of (by decide) (by decide)) (TM.w64 hT (by decide)) (by decide) (by decide)
  have HY := hide' hy
  have HT := hide' hT
  clear hT hy
  go_wp2_with fail
  refine HY.out.mono ?_
  rintro _ w9 ⟨a, cap, rfl, _, hs, _⟩
  have hT := HT.out.keep hs
  have HM9 := hide' (HM8.out.trans (Moved.of_stay hs))
  clear hs HY HT HM8
  have hx : Calls Try.prog 26 #[.pointer (some ⟨q0.b, 0, none⟩), .int .i64 3] w9 (Gone q8 [⟨1, 0, 1, 1, 0, false⟩, ⟨2, 1, 2, 2, 2, false⟩, ⟨4, 1, 3, 2, 2, false⟩] 4 fB 5 (tellS [⟨1, 0, 1, 1, 0, false⟩, ⟨2, 1, 2, 2, 2, false⟩, ⟨3, 2, 3, 2, 2, false⟩, ⟨4, 3, 3, 2, 2, false⟩] [⟨1, 0, 1, 1, 0, false⟩, ⟨2, 1, 2, 2, 2, false⟩, ⟨4, 1, 3, 2, 2, false⟩] (grps 4 [⟨1, 0, 1, 1, 0, false⟩, ⟨2, 1, 2, 2, 2, false⟩, ⟨4, 1, 3, 2, 2, false⟩])) w9) := by
    rw [← HQ.out]
    exact exit26_nolead (i := 2) (p := ⟨3, 2, 3, 2, 2, false⟩) 3 hT rfl rfl (by decide) (by decide) (hT.ok.gone (i := 2) (p := ⟨3, 2, 3, 2, 2, false⟩) rfl (by decide)).gd
  have HX := hide' hx
  have HO := hide' (hT.ok.gone (i := 2) (p := ⟨3, 2, 3, 2, 2, false⟩) rfl (by decide))
  clear hT hx
  go_wp2_with fail
  refine HX.out.mono ?_
  rintro _ wA ⟨q9, a9, cap9, hq, rfl, _, hTM, hM, _⟩
  have hT : TAt wA q9 [⟨1, 0, 1, 1, 0, false⟩, ⟨2, 1, 2, 2, 2, false⟩, ⟨4, 1, 3, 2, 2, false⟩] 4 fB 5 := ⟨hTM, HO.out, by decide⟩
  have HM10 := hide' (HM9.out.trans hM)
  have HQ' : Hid (q9.b = q0.b) := hq.trans HQ.out
  clear hM hq HX HQ HM9 HO hTM
  have HQ := HQ'
  clear HQ'
  have hy : Calls Try.prog 11 #[.pointer (some ⟨q0.b, 0, none⟩), .int .i64 4, .int .i64 2, .bool false, .bool true] wA (GivesNS 2 [] wA) := by
    rw [← HQ.out]
    exact may11_E2 (i := 2) (p := ⟨4, 1, 3, 2, 2, false⟩) 4 2 true hT.tm rfl rfl (w64_of (by decide) (by decide)) (TM.w64 hT (by decide)) (by decide) (by decide) rfl (by decide)
  have HY := hide' hy
  clear hT hy
  go_wp2_with fail
  refine HY.out.mono ?_
  rintro _ wB ⟨a, cap, rfl, hsv, hs, _⟩
  have HS := hide' (HS0.out.trans2 (HM10.out.1.trans (hs.mono (fun _ _ e => e.elim))) (fun j hj e => by have := HQ0.out j e; omega))
  have HAW := hide' (awake7 (w := wB))
  clear hs HY HM10 hsv HQ
  go_wp2_with fail
  refine HAW.out.mono ?_
  rintro _ wC ⟨rfl, hs⟩
  have HSC := hide' (HS.out.trans hs)
  clear hs HAW HS
  go_wp2
  go_ret
  exact ⟨rfl, HSC.out⟩

set_option maxRecDepth 100000 in
theorem background_fftf : Calls Try.prog 5 #[.bool false, .bool false, .bool true, .bool false] w (Gives (.bool true) w) := by
  have HN8 := hide' (new8 w)
  go_enter Try.func5, Try.ntmps5
  go_wp2_with fail
  refine HN8.out.mono ?_
  rintro _ w0 ⟨q0, rfl, hT, hs, hq0⟩
  have HS0 := hide' hs
  have HQ0 := hide' hq0
  have HM0 : Hid (Moved q0 q0 w0 w0) := Moved.of_stay (Stay.refl _ w0)
  have HQ : Hid (q0.b = q0.b) := rfl
  clear hs hq0 HN8
  have hc : Calls Try.prog 21 #[.pointer (some ⟨q0.b, 0, none⟩), .int .i64 1] w0 (Did q0 [⟨1, 0, 1, 1, 0, false⟩, ⟨2, 1, 1, 1, 0, false⟩] 2 (fun _ => 0) 2 (.tuple #[.int .i64 2, .int .i64 0]) w0) := by
    
    exact fork21 (i := 0) (p := ⟨1, 0, 1, 1, 0, false⟩) 1 hT rfl rfl (by decide) (by decide)
  have HC := hide' hc
  clear hT hc
  go_wp2_with fail
  refine HC.out.mono ?_
  rintro _ w1 ⟨q1, hq, rfl, hT, hM⟩
  have HM1 := hide' (HM0.out.trans hM)
  have HQ' : Hid (q1.b = q0.b) := hq
  clear hM hq HC HQ HM0
  have HQ := HQ'
  clear HQ'
  have hc : Calls Try.prog 22 #[.pointer (some ⟨q0.b, 0, none⟩), .int .i64 2] w1 (Did q1 [⟨1, 0, 1, 1, 0, false⟩, ⟨2, 1, 2, 2, 0, false⟩] 2 (fun _ => 0) 2 (.int .i64 0) w1) := by
    rw [← HQ.out]
    exact setsid22 (i := 1) (p := ⟨2, 1, 1, 1, 0, false⟩) 2 hT rfl rfl (by decide)
  have HC := hide' hc
  clear hT hc
  go_wp2_with fail
  refine HC.out.mono ?_
  rintro _ w2 ⟨q2, hq, rfl, hT, hM⟩
  have HM2 := hide' (HM1.out.trans hM)
  have HQ' : Hid (q2.b = q0.b) := hq.trans HQ.out
  clear hM hq HC HQ HM1
  have HQ := HQ'
  clear HQ'
  have hc : Calls Try.prog 23 #[.pointer (some ⟨q0.b, 0, none⟩), .int .i64 2, .int .i64 2] w2 (Did q2 [⟨1, 0, 1, 1, 0, false⟩, ⟨2, 1, 2, 2, 2, false⟩] 2 fB 3 (.int .i64 0) w2) := by
    rw [← HQ.out]
    exact attach23 (i := 1) (p := ⟨2, 1, 2, 2, 0, false⟩) 2 2 hT rfl rfl (by decide) (by decide) (by decide) (by decide) (by decide) (by decide)
  have HC := hide' hc
  clear hT hc
  go_wp2_with fail
  refine HC.out.mono ?_
  rintro _ w3 ⟨q3, hq, rfl, hT, hM⟩
  have HM3 := hide' (HM2.out.trans hM)
  have HQ' : Hid (q3.b = q0.b) := hq.trans HQ.out
  clear hM hq HC HQ HM2
  have HQ := HQ'
  clear HQ'
  have hc : Calls Try.prog 21 #[.pointer (some ⟨q0.b, 0, none⟩), .int .i64 2] w3 (Did q3 [⟨1, 0, 1, 1, 0, false⟩, ⟨2, 1, 2, 2, 2, false⟩, ⟨3, 2, 2, 2, 2, false⟩] 3 fB 4 (.tuple #[.int .i64 3, .int .i64 0]) w3) := by
    rw [← HQ.out]
    exact fork21 (i := 1) (p := ⟨2, 1, 2, 2, 2, false⟩) 2 hT rfl rfl (by decide) (by decide)
  have HC := hide' hc
  clear hT hc
  go_wp2_with fail
  refine HC.out.mono ?_
  rintro _ w4 ⟨q4, hq, rfl, hT, hM⟩
  have HM4 := hide' (HM3.out.trans hM)
  have HQ' : Hid (q4.b = q0.b) := hq.trans HQ.out
  clear hM hq HC HQ HM3
  have HQ := HQ'
  clear HQ'
  have hc : Calls Try.prog 21 #[.pointer (some ⟨q0.b, 0, none⟩), .int .i64 3] w4 (Did q4 [⟨1, 0, 1, 1, 0, false⟩, ⟨2, 1, 2, 2, 2, false⟩, ⟨3, 2, 2, 2, 2, false⟩, ⟨4, 3, 2, 2, 2, false⟩] 4 fB 5 (.tuple #[.int .i64 4, .int .i64 0]) w4) := by
    rw [← HQ.out]
    exact fork21 (i := 2) (p := ⟨3, 2, 2, 2, 2, false⟩) 3 hT rfl rfl (by decide) (by decide)
  have HC := hide' hc
  clear hT hc
  go_wp2_with fail
  refine HC.out.mono ?_
  rintro _ w5 ⟨q5, hq, rfl, hT, hM⟩
  have HM5 := hide' (HM4.out.trans hM)
  have HQ' : Hid (q5.b = q0.b) := hq.trans HQ.out
  clear hM hq HC HQ HM4
  have HQ := HQ'
  clear HQ'
  have hc : Calls Try.prog 24 #[.pointer (some ⟨q0.b, 0, none⟩), .int .i64 2, .int .i64 3, .int .i64 0] w5 (Did q5 [⟨1, 0, 1, 1, 0, false⟩, ⟨2, 1, 2, 2, 2, false⟩, ⟨3, 2, 3, 2, 2, false⟩, ⟨4, 3, 2, 2, 2, false⟩] 4 fB 5 (.int .i64 0) w5) := by
    rw [← HQ.out]
    exact setpgid24_new_child (i := 1) (p := ⟨2, 1, 2, 2, 2, false⟩) (k := 2) (t := ⟨3, 2, 2, 2, 2, false⟩) 2 3 0 3 hT (by decide) 3 rfl rfl rfl rfl (by decide) (by decide) (by decide) (by decide) (by decide) (by decide) (by decide)
  have HC := hide' hc
  clear hT hc
  go_wp2_with fail
  refine HC.out.mono ?_
  rintro _ w6 ⟨q6, hq, rfl, hT, hM⟩
  have HM6 := hide' (HM5.out.trans hM)
  have HQ' : Hid (q6.b = q0.b) := hq.trans HQ.out
  clear hM hq HC HQ HM5
  have HQ := HQ'
  clear HQ'
  have hc : Calls Try.prog 24 #[.pointer (some ⟨q0.b, 0, none⟩), .int .i64 3, .int .i64 4, .int .i64 3] w6 (Did q6 [⟨1, 0, 1, 1, 0, false⟩, ⟨2, 1, 2, 2, 2, false⟩, ⟨3, 2, 3, 2, 2, false⟩, ⟨4, 3, 3, 2, 2, false⟩] 4 fB 5 (.int .i64 0) w6) := by
    rw [← HQ.out]
    exact setpgid24_join_child (i := 2) (p := ⟨3, 2, 3, 2, 2, false⟩) (k := 3) (t := ⟨4, 3, 2, 2, 2, false⟩) 3 4 3 4 hT (by decide) 3 rfl rfl rfl rfl (by decide) (by decide) (by decide) (by decide) (by decide) (by decide) (by decide) (by decide)
  have HC := hide' hc
  clear hT hc
  go_wp2_with fail
  refine HC.out.mono ?_
  rintro _ w7 ⟨q7, hq, rfl, hT, hM⟩
  have HM7 := hide' (HM6.out.trans hM)
  have HQ' : Hid (q7.b = q0.b) := hq.trans HQ.out
  clear hM hq HC HQ HM6
  have HQ := HQ'
  clear HQ'
  have hc : Calls Try.prog 25 #[.pointer (some ⟨q0.b, 0, none⟩), .int .i64 4, .bool false] w7 (Did q7 [⟨1, 0, 1, 1, 0, false⟩, ⟨2, 1, 2, 2, 2, false⟩, ⟨3, 2, 3, 2, 2, false⟩, ⟨4, 3, 3, 2, 2, false⟩] 4 fB 5 (.int .i64 0) w7) := by
    rw [← HQ.out]
    exact deaf25 (i := 3) (p := ⟨4, 3, 3, 2, 2, false⟩) 4 false hT rfl rfl
  have HC := hide' hc
  clear hT hc
  go_wp2_with fail
  refine HC.out.mono ?_
  rintro _ w8 ⟨q8, hq, rfl, hT, hM⟩
  have HM8 := hide' (HM7.out.trans hM)
  have HQ' : Hid (q8.b = q0.b) := hq.trans HQ.out
  clear hM hq HC HQ HM7
  have HQ := HQ'
  clear HQ'
  have hy : Calls Try.prog 11 #[.pointer (some ⟨q0.b, 0, none⟩), .int .i64 2, .int .i64 2, .bool false, .bool true] w8 (GivesNS 0 [] w8) := by
    rw [← HQ.out]
    exact may11_B (i := 1) (p := ⟨2, 1, 2, 2, 2, false⟩) 2 2 false true hT.tm rfl rfl (w64_of (by decide) (by decide)) (TM.w64 hT (by decide)) (by decide) (by decide)
  have HY := hide' hy
  have HT := hide' hT
  clear hT hy
  go_wp2_with fail
  refine HY.out.mono ?_
  rintro _ w9 ⟨a, cap, rfl, _, hs, _⟩
  have hT := HT.out.keep hs
  have HM9 := hide' (HM8.out.trans (Moved.of_stay hs))
  clear hs HY HT HM8
  have HM10 := HM9
  clear HM9
  have hy : Calls Try.prog 11 #[.pointer (some ⟨q0.b, 0, none⟩), .int .i64 4, .int .i64 2, .bool false, .bool true] w9 (GivesNS 1 [⟨3, 6⟩] w9) := by
    rw [← HQ.out]
    exact may11_E3 (i := 3) (p := ⟨4, 3, 3, 2, 2, false⟩) 4 2 true hT.tm rfl rfl (w64_of (by decide) (by decide)) (TM.w64 hT (by decide)) (by decide) (by decide) rfl (by decide)
  have HY := hide' hy
  clear hT hy
  go_wp2_with fail
  refine HY.out.mono ?_
  rintro _ wB ⟨a, cap, rfl, hsv, hs, _⟩
  have HS := hide' (HS0.out.trans2 (HM10.out.1.trans (hs.mono (fun _ _ e => e.elim))) (fun j hj e => by have := HQ0.out j e; omega))
  have HAW := hide' (awake7 (w := wB))
  obtain ⟨g, o, rfl, hb0, hb1⟩ := hsv.at (i := 0) (p := ⟨3, 6⟩) rfl
  rw [Nat.zero_mul, Nat.add_zero] at hb0 hb1
  clear hs HY HM10 hsv HQ
  go_wp2_with fail
  refine HAW.out.mono ?_
  rintro _ wC ⟨rfl, hs⟩
  have HSC := hide' (HS.out.trans hs)
  clear hs HAW HS
  go_wp2
  go_ret
  exact ⟨rfl, HSC.out⟩

set_option maxRecDepth 100000 in
theorem background_ffft : Calls Try.prog 5 #[.bool false, .bool false, .bool false, .bool true] w (Gives (.bool true) w) := by
  have HN8 := hide' (new8 w)
  go_enter Try.func5, Try.ntmps5
  go_wp2_with fail
  refine HN8.out.mono ?_
  rintro _ w0 ⟨q0, rfl, hT, hs, hq0⟩
  have HS0 := hide' hs
  have HQ0 := hide' hq0
  have HM0 : Hid (Moved q0 q0 w0 w0) := Moved.of_stay (Stay.refl _ w0)
  have HQ : Hid (q0.b = q0.b) := rfl
  clear hs hq0 HN8
  have hc : Calls Try.prog 21 #[.pointer (some ⟨q0.b, 0, none⟩), .int .i64 1] w0 (Did q0 [⟨1, 0, 1, 1, 0, false⟩, ⟨2, 1, 1, 1, 0, false⟩] 2 (fun _ => 0) 2 (.tuple #[.int .i64 2, .int .i64 0]) w0) := by
    
    exact fork21 (i := 0) (p := ⟨1, 0, 1, 1, 0, false⟩) 1 hT rfl rfl (by decide) (by decide)
  have HC := hide' hc
  clear hT hc
  go_wp2_with fail
  refine HC.out.mono ?_
  rintro _ w1 ⟨q1, hq, rfl, hT, hM⟩
  have HM1 := hide' (HM0.out.trans hM)
  have HQ' : Hid (q1.b = q0.b) := hq
  clear hM hq HC HQ HM0
  have HQ := HQ'
  clear HQ'
  have hc : Calls Try.prog 22 #[.pointer (some ⟨q0.b, 0, none⟩), .int .i64 2] w1 (Did q1 [⟨1, 0, 1, 1, 0, false⟩, ⟨2, 1, 2, 2, 0, false⟩] 2 (fun _ => 0) 2 (.int .i64 0) w1) := by
    rw [← HQ.out]
    exact setsid22 (i := 1) (p := ⟨2, 1, 1, 1, 0, false⟩) 2 hT rfl rfl (by decide)
  have HC := hide' hc
  clear hT hc
  go_wp2_with fail
  refine HC.out.mono ?_
  rintro _ w2 ⟨q2, hq, rfl, hT, hM⟩
  have HM2 := hide' (HM1.out.trans hM)
  have HQ' : Hid (q2.b = q0.b) := hq.trans HQ.out
  clear hM hq HC HQ HM1
  have HQ := HQ'
  clear HQ'
  have hc : Calls Try.prog 23 #[.pointer (some ⟨q0.b, 0, none⟩), .int .i64 2, .int .i64 2] w2 (Did q2 [⟨1, 0, 1, 1, 0, false⟩, ⟨2, 1, 2, 2, 2, false⟩] 2 fB 3 (.int .i64 0) w2) := by
    rw [← HQ.out]
    exact attach23 (i := 1) (p := ⟨2, 1, 2, 2, 0, false⟩) 2 2 hT rfl rfl (by decide) (by decide) (by decide) (by decide) (by decide) (by decide)
  have HC := hide' hc
  clear hT hc
  go_wp2_with fail
  refine HC.out.mono ?_
  rintro _ w3 ⟨q3, hq, rfl, hT, hM⟩
  have HM3 := hide' (HM2.out.trans hM)
  have HQ' : Hid (q3.b = q0.b) := hq.trans HQ.out
  clear hM hq HC HQ HM2
  have HQ := HQ'
  clear HQ'
  have hc : Calls Try.prog 21 #[.pointer (some ⟨q0.b, 0, none⟩), .int .i64 2] w3 (Did q3 [⟨1, 0, 1, 1, 0, false⟩, ⟨2, 1, 2, 2, 2, false⟩, ⟨3, 2, 2, 2, 2, false⟩] 3 fB 4 (.tuple #[.int .i64 3, .int .i64 0]) w3) := by
    rw [← HQ.out]
    exact fork21 (i := 1) (p := ⟨2, 1, 2, 2, 2, false⟩) 2 hT rfl rfl (by decide) (by decide)
  have HC := hide' hc
  clear hT hc
  go_wp2_with fail
  refine HC.out.mono ?_
  rintro _ w4 ⟨q4, hq, rfl, hT, hM⟩
  have HM4 := hide' (HM3.out.trans hM)
  have HQ' : Hid (q4.b = q0.b) := hq.trans HQ.out
  clear hM hq HC HQ HM3
  have HQ := HQ'
  clear HQ'
  have hc : Calls Try.prog 21 #[.pointer (some ⟨q0.b, 0, none⟩), .int .i64 3] w4 (Did q4 [⟨1, 0, 1, 1, 0, false⟩, ⟨2, 1, 2, 2, 2, false⟩, ⟨3, 2, 2, 2, 2, false⟩, ⟨4, 3, 2, 2, 2, false⟩] 4 fB 5 (.tuple #[.int .i64 4, .int .i64 0]) w4) := by
    rw [← HQ.out]
    exact fork21 (i := 2) (p := ⟨3, 2, 2, 2, 2, false⟩) 3 hT rfl rfl (by decide) (by decide)
  have HC := hide' hc
  clear hT hc
  go_wp2_with fail
  refine HC.out.mono ?_
  rintro _ w5 ⟨q5, hq, rfl, hT, hM⟩
  have HM5 := hide' (HM4.out.trans hM)
  have HQ' : Hid (q5.b = q0.b) := hq.trans HQ.out
  clear hM hq HC HQ HM4
  have HQ := HQ'
  clear HQ'
  have hc : Calls Try.prog 24 #[.pointer (some ⟨q0.b, 0, none⟩), .int .i64 2, .int .i64 3, .int .i64 0] w5 (Did q5 [⟨1, 0, 1, 1, 0, false⟩, ⟨2, 1, 2, 2, 2, false⟩, ⟨3, 2, 3, 2, 2, false⟩, ⟨4, 3, 2, 2, 2, false⟩] 4 fB 5 (.int .i64 0) w5) := by
    rw [← HQ.out]
    exact setpgid24_new_child (i := 1) (p := ⟨2, 1, 2, 2, 2, false⟩) (k := 2) (t := ⟨3, 2, 2, 2, 2, false⟩) 2 3 0 3 hT (by decide) 3 rfl rfl rfl rfl (by decide) (by decide) (by decide) (by decide) (by decide) (by decide) (by decide)
  have HC := hide' hc
  clear hT hc
  go_wp2_with fail
  refine HC.out.mono ?_
  rintro _ w6 ⟨q6, hq, rfl, hT, hM⟩
  have HM6 := hide' (HM5.out.trans hM)
  have HQ' : Hid (q6.b = q0.b) := hq.trans HQ.out
  clear hM hq HC HQ HM5
  have HQ := HQ'
  clear HQ'
  have hc : Calls Try.prog 24 #[.pointer (some ⟨q0.b, 0, none⟩), .int .i64 3, .int .i64 4, .int .i64 3] w6 (Did q6 [⟨1, 0, 1, 1, 0, false⟩, ⟨2, 1, 2, 2, 2, false⟩, ⟨3, 2, 3, 2, 2, false⟩, ⟨4, 3, 3, 2, 2, false⟩] 4 fB 5 (.int .i64 0) w6) := by
    rw [← HQ.out]
    exact setpgid24_join_child (i := 2) (p := ⟨3, 2, 3, 2, 2, false⟩) (k := 3) (t := ⟨4, 3, 2, 2, 2, false⟩) 3 4 3 4 hT (by decide) 3 rfl rfl rfl rfl (by decide) (by decide) (by decide) (by decide) (by decide) (by decide) (by decide) (by decide)
  have HC := hide' hc
  clear hT hc
  go_wp2_with fail
  refine HC.out.mono ?_
  rintro _ w7 ⟨q7, hq, rfl, hT, hM⟩
  have HM7 := hide' (HM6.out.trans hM)
  have HQ' : Hid (q7.b = q0.b) := hq.trans HQ.out
  clear hM hq HC HQ HM6
  have HQ := HQ'
  clear HQ'
  have hc : Calls Try.prog 25 #[.pointer (some ⟨q0.b, 0, none⟩), .int .i64 4, .bool false] w7 (Did q7 [⟨1, 0, 1, 1, 0, false⟩, ⟨2, 1, 2, 2, 2, false⟩, ⟨3, 2, 3, 2, 2, false⟩, ⟨4, 3, 3, 2, 2, false⟩] 4 fB 5 (.int .i64 0) w7) := by
    rw [← HQ.out]
    exact deaf25 (i := 3) (p := ⟨4, 3, 3, 2, 2, false⟩) 4 false hT rfl rfl
  have HC := hide' hc
  clear hT hc
  go_wp2_with fail
  refine HC.out.mono ?_
  rintro _ w8 ⟨q8, hq, rfl, hT, hM⟩
  have HM8 := hide' (HM7.out.trans hM)
  have HQ' : Hid (q8.b = q0.b) := hq.trans HQ.out
  clear hM hq HC HQ HM7
  have HQ := HQ'
  clear HQ'
  have hy : Calls Try.prog 11 #[.pointer (some ⟨q0.b, 0, none⟩), .int .i64 2, .int .i64 2, .bool false, .bool false] w8 (GivesNS 0 [] w8) := by
    rw [← HQ.out]
    exact may11_B (i := 1) (p := ⟨2, 1, 2, 2, 2, false⟩) 2 2 false false hT.tm rfl rfl (w64_of (by decide) (by decide)) (TM.w64 hT (by decide)) (by decide) (by decide)
  have HY := hide' hy
  have HT := hide' hT
  clear hT hy
  go_wp2_with fail
  refine HY.out.mono ?_
  rintro _ w9 ⟨a, cap, rfl, _, hs, _⟩
  have hT := HT.out.keep hs
  have HM9 := hide' (HM8.out.trans (Moved.of_stay hs))
  clear hs HY HT HM8
  have hx : Calls Try.prog 26 #[.pointer (some ⟨q0.b, 0, none⟩), .int .i64 3] w9 (Gone q8 [⟨1, 0, 1, 1, 0, false⟩, ⟨2, 1, 2, 2, 2, false⟩, ⟨4, 1, 3, 2, 2, false⟩] 4 fB 5 (tellS [⟨1, 0, 1, 1, 0, false⟩, ⟨2, 1, 2, 2, 2, false⟩, ⟨3, 2, 3, 2, 2, false⟩, ⟨4, 3, 3, 2, 2, false⟩] [⟨1, 0, 1, 1, 0, false⟩, ⟨2, 1, 2, 2, 2, false⟩, ⟨4, 1, 3, 2, 2, false⟩] (grps 4 [⟨1, 0, 1, 1, 0, false⟩, ⟨2, 1, 2, 2, 2, false⟩, ⟨4, 1, 3, 2, 2, false⟩])) w9) := by
    rw [← HQ.out]
    exact exit26_nolead (i := 2) (p := ⟨3, 2, 3, 2, 2, false⟩) 3 hT rfl rfl (by decide) (by decide) (hT.ok.gone (i := 2) (p := ⟨3, 2, 3, 2, 2, false⟩) rfl (by decide)).gd
  have HX := hide' hx
  have HO := hide' (hT.ok.gone (i := 2) (p := ⟨3, 2, 3, 2, 2, false⟩) rfl (by decide))
  clear hT hx
  go_wp2_with fail
  refine HX.out.mono ?_
  rintro _ wA ⟨q9, a9, cap9, hq, rfl, _, hTM, hM, _⟩
  have hT : TAt wA q9 [⟨1, 0, 1, 1, 0, false⟩, ⟨2, 1, 2, 2, 2, false⟩, ⟨4, 1, 3, 2, 2, false⟩] 4 fB 5 := ⟨hTM, HO.out, by decide⟩
  have HM10 := hide' (HM9.out.trans hM)
  have HQ' : Hid (q9.b = q0.b) := hq.trans HQ.out
  clear hM hq HX HQ HM9 HO hTM
  have HQ := HQ'
  clear HQ'
  have hy : Calls Try.prog 11 #[.pointer (some ⟨q0.b, 0, none⟩), .int .i64 4, .int .i64 2, .bool false, .bool false] wA (GivesNS 2 [] wA) := by
    rw [← HQ.out]
    exact may11_E2 (i := 2) (p := ⟨4, 1, 3, 2, 2, false⟩) 4 2 false hT.tm rfl rfl (w64_of (by decide) (by decide)) (TM.w64 hT (by decide)) (by decide) (by decide) rfl (by decide)
  have HY := hide' hy
  clear hT hy
  go_wp2_with fail
  refine HY.out.mono ?_
  rintro _ wB ⟨a, cap, rfl, hsv, hs, _⟩
  have HS := hide' (HS0.out.trans2 (HM10.out.1.trans (hs.mono (fun _ _ e => e.elim))) (fun j hj e => by have := HQ0.out j e; omega))
  have HAW := hide' (awake7 (w := wB))
  clear hs HY HM10 hsv HQ
  go_wp2_with fail
  refine HAW.out.mono ?_
  rintro _ wC ⟨rfl, hs⟩
  have HSC := hide' (HS.out.trans hs)
  clear hs HAW HS
  go_wp2
  go_ret
  exact ⟨rfl, HSC.out⟩

set_option maxRecDepth 100000 in
theorem background_ffff : Calls Try.prog 5 #[.bool false, .bool false, .bool false, .bool false] w (Gives (.bool true) w) := by
  have HN8 := hide' (new8 w)
  go_enter Try.func5, Try.ntmps5
  go_wp2_with fail
  refine HN8.out.mono ?_
  rintro _ w0 ⟨q0, rfl, hT, hs, hq0⟩
  have HS0 := hide' hs
  have HQ0 := hide' hq0
  have HM0 : Hid (Moved q0 q0 w0 w0) := Moved.of_stay (Stay.refl _ w0)
  have HQ : Hid (q0.b = q0.b) := rfl
  clear hs hq0 HN8
  have hc : Calls Try.prog 21 #[.pointer (some ⟨q0.b, 0, none⟩), .int .i64 1] w0 (Did q0 [⟨1, 0, 1, 1, 0, false⟩, ⟨2, 1, 1, 1, 0, false⟩] 2 (fun _ => 0) 2 (.tuple #[.int .i64 2, .int .i64 0]) w0) := by
    
    exact fork21 (i := 0) (p := ⟨1, 0, 1, 1, 0, false⟩) 1 hT rfl rfl (by decide) (by decide)
  have HC := hide' hc
  clear hT hc
  go_wp2_with fail
  refine HC.out.mono ?_
  rintro _ w1 ⟨q1, hq, rfl, hT, hM⟩
  have HM1 := hide' (HM0.out.trans hM)
  have HQ' : Hid (q1.b = q0.b) := hq
  clear hM hq HC HQ HM0
  have HQ := HQ'
  clear HQ'
  have hc : Calls Try.prog 22 #[.pointer (some ⟨q0.b, 0, none⟩), .int .i64 2] w1 (Did q1 [⟨1, 0, 1, 1, 0, false⟩, ⟨2, 1, 2, 2, 0, false⟩] 2 (fun _ => 0) 2 (.int .i64 0) w1) := by
    rw [← HQ.out]
    exact setsid22 (i := 1) (p := ⟨2, 1, 1, 1, 0, false⟩) 2 hT rfl rfl (by decide)
  have HC := hide' hc
  clear hT hc
  go_wp2_with fail
  refine HC.out.mono ?_
  rintro _ w2 ⟨q2, hq, rfl, hT, hM⟩
  have HM2 := hide' (HM1.out.trans hM)
  have HQ' : Hid (q2.b = q0.b) := hq.trans HQ.out
  clear hM hq HC HQ HM1
  have HQ := HQ'
  clear HQ'
  have hc : Calls Try.prog 23 #[.pointer (some ⟨q0.b, 0, none⟩), .int .i64 2, .int .i64 2] w2 (Did q2 [⟨1, 0, 1, 1, 0, false⟩, ⟨2, 1, 2, 2, 2, false⟩] 2 fB 3 (.int .i64 0) w2) := by
    rw [← HQ.out]
    exact attach23 (i := 1) (p := ⟨2, 1, 2, 2, 0, false⟩) 2 2 hT rfl rfl (by decide) (by decide) (by decide) (by decide) (by decide) (by decide)
  have HC := hide' hc
  clear hT hc
  go_wp2_with fail
  refine HC.out.mono ?_
  rintro _ w3 ⟨q3, hq, rfl, hT, hM⟩
  have HM3 := hide' (HM2.out.trans hM)
  have HQ' : Hid (q3.b = q0.b) := hq.trans HQ.out
  clear hM hq HC HQ HM2
  have HQ := HQ'
  clear HQ'
  have hc : Calls Try.prog 21 #[.pointer (some ⟨q0.b, 0, none⟩), .int .i64 2] w3 (Did q3 [⟨1, 0, 1, 1, 0, false⟩, ⟨2, 1, 2, 2, 2, false⟩, ⟨3, 2, 2, 2, 2, false⟩] 3 fB 4 (.tuple #[.int .i64 3, .int .i64 0]) w3) := by
    rw [← HQ.out]
    exact fork21 (i := 1) (p := ⟨2, 1, 2, 2, 2, false⟩) 2 hT rfl rfl (by decide) (by decide)
  have HC := hide' hc
  clear hT hc
  go_wp2_with fail
  refine HC.out.mono ?_
  rintro _ w4 ⟨q4, hq, rfl, hT, hM⟩
  have HM4 := hide' (HM3.out.trans hM)
  have HQ' : Hid (q4.b = q0.b) := hq.trans HQ.out
  clear hM hq HC HQ HM3
  have HQ := HQ'
  clear HQ'
  have hc : Calls Try.prog 21 #[.pointer (some ⟨q0.b, 0, none⟩), .int .i64 3] w4 (Did q4 [⟨1, 0, 1, 1, 0, false⟩, ⟨2, 1, 2, 2, 2, false⟩, ⟨3, 2, 2, 2, 2, false⟩, ⟨4, 3, 2, 2, 2, false⟩] 4 fB 5 (.tuple #[.int .i64 4, .int .i64 0]) w4) := by
    rw [← HQ.out]
    exact fork21 (i := 2) (p := ⟨3, 2, 2, 2, 2, false⟩) 3 hT rfl rfl (by decide) (by decide)
  have HC := hide' hc
  clear hT hc
  go_wp2_with fail
  refine HC.out.mono ?_
  rintro _ w5 ⟨q5, hq, rfl, hT, hM⟩
  have HM5 := hide' (HM4.out.trans hM)
  have HQ' : Hid (q5.b = q0.b) := hq.trans HQ.out
  clear hM hq HC HQ HM4
  have HQ := HQ'
  clear HQ'
  have hc : Calls Try.prog 24 #[.pointer (some ⟨q0.b, 0, none⟩), .int .i64 2, .int .i64 3, .int .i64 0] w5 (Did q5 [⟨1, 0, 1, 1, 0, false⟩, ⟨2, 1, 2, 2, 2, false⟩, ⟨3, 2, 3, 2, 2, false⟩, ⟨4, 3, 2, 2, 2, false⟩] 4 fB 5 (.int .i64 0) w5) := by
    rw [← HQ.out]
    exact setpgid24_new_child (i := 1) (p := ⟨2, 1, 2, 2, 2, false⟩) (k := 2) (t := ⟨3, 2, 2, 2, 2, false⟩) 2 3 0 3 hT (by decide) 3 rfl rfl rfl rfl (by decide) (by decide) (by decide) (by decide) (by decide) (by decide) (by decide)
  have HC := hide' hc
  clear hT hc
  go_wp2_with fail
  refine HC.out.mono ?_
  rintro _ w6 ⟨q6, hq, rfl, hT, hM⟩
  have HM6 := hide' (HM5.out.trans hM)
  have HQ' : Hid (q6.b = q0.b) := hq.trans HQ.out
  clear hM hq HC HQ HM5
  have HQ := HQ'
  clear HQ'
  have hc : Calls Try.prog 24 #[.pointer (some ⟨q0.b, 0, none⟩), .int .i64 3, .int .i64 4, .int .i64 3] w6 (Did q6 [⟨1, 0, 1, 1, 0, false⟩, ⟨2, 1, 2, 2, 2, false⟩, ⟨3, 2, 3, 2, 2, false⟩, ⟨4, 3, 3, 2, 2, false⟩] 4 fB 5 (.int .i64 0) w6) := by
    rw [← HQ.out]
    exact setpgid24_join_child (i := 2) (p := ⟨3, 2, 3, 2, 2, false⟩) (k := 3) (t := ⟨4, 3, 2, 2, 2, false⟩) 3 4 3 4 hT (by decide) 3 rfl rfl rfl rfl (by decide) (by decide) (by decide) (by decide) (by decide) (by decide) (by decide) (by decide)
  have HC := hide' hc
  clear hT hc
  go_wp2_with fail
  refine HC.out.mono ?_
  rintro _ w7 ⟨q7, hq, rfl, hT, hM⟩
  have HM7 := hide' (HM6.out.trans hM)
  have HQ' : Hid (q7.b = q0.b) := hq.trans HQ.out
  clear hM hq HC HQ HM6
  have HQ := HQ'
  clear HQ'
  have hc : Calls Try.prog 25 #[.pointer (some ⟨q0.b, 0, none⟩), .int .i64 4, .bool false] w7 (Did q7 [⟨1, 0, 1, 1, 0, false⟩, ⟨2, 1, 2, 2, 2, false⟩, ⟨3, 2, 3, 2, 2, false⟩, ⟨4, 3, 3, 2, 2, false⟩] 4 fB 5 (.int .i64 0) w7) := by
    rw [← HQ.out]
    exact deaf25 (i := 3) (p := ⟨4, 3, 3, 2, 2, false⟩) 4 false hT rfl rfl
  have HC := hide' hc
  clear hT hc
  go_wp2_with fail
  refine HC.out.mono ?_
  rintro _ w8 ⟨q8, hq, rfl, hT, hM⟩
  have HM8 := hide' (HM7.out.trans hM)
  have HQ' : Hid (q8.b = q0.b) := hq.trans HQ.out
  clear hM hq HC HQ HM7
  have HQ := HQ'
  clear HQ'
  have hy : Calls Try.prog 11 #[.pointer (some ⟨q0.b, 0, none⟩), .int .i64 2, .int .i64 2, .bool false, .bool false] w8 (GivesNS 0 [] w8) := by
    rw [← HQ.out]
    exact may11_B (i := 1) (p := ⟨2, 1, 2, 2, 2, false⟩) 2 2 false false hT.tm rfl rfl (w64_of (by decide) (by decide)) (TM.w64 hT (by decide)) (by decide) (by decide)
  have HY := hide' hy
  have HT := hide' hT
  clear hT hy
  go_wp2_with fail
  refine HY.out.mono ?_
  rintro _ w9 ⟨a, cap, rfl, _, hs, _⟩
  have hT := HT.out.keep hs
  have HM9 := hide' (HM8.out.trans (Moved.of_stay hs))
  clear hs HY HT HM8
  have HM10 := HM9
  clear HM9
  have hy : Calls Try.prog 11 #[.pointer (some ⟨q0.b, 0, none⟩), .int .i64 4, .int .i64 2, .bool false, .bool false] w9 (GivesNS 1 [⟨3, 6⟩] w9) := by
    rw [← HQ.out]
    exact may11_E3 (i := 3) (p := ⟨4, 3, 3, 2, 2, false⟩) 4 2 false hT.tm rfl rfl (w64_of (by decide) (by decide)) (TM.w64 hT (by decide)) (by decide) (by decide) rfl (by decide)
  have HY := hide' hy
  clear hT hy
  go_wp2_with fail
  refine HY.out.mono ?_
  rintro _ wB ⟨a, cap, rfl, hsv, hs, _⟩
  have HS := hide' (HS0.out.trans2 (HM10.out.1.trans (hs.mono (fun _ _ e => e.elim))) (fun j hj e => by have := HQ0.out j e; omega))
  have HAW := hide' (awake7 (w := wB))
  obtain ⟨g, o, rfl, hb0, hb1⟩ := hsv.at (i := 0) (p := ⟨3, 6⟩) rfl
  rw [Nat.zero_mul, Nat.add_zero] at hb0 hb1
  clear hs HY HM10 hsv HQ
  go_wp2_with fail
  refine HAW.out.mono ?_
  rintro _ wC ⟨rfl, hs⟩
  have HSC := hide' (HS.out.trans hs)
  clear hs HAW HS
  go_wp2
  go_ret
  exact ⟨rfl, HSC.out⟩

theorem background (d wr ts orp : Bool) : Calls Try.prog 5 #[.bool d, .bool wr, .bool ts, .bool orp] w (Gives (.bool true) w) := by
  cases d <;> cases wr <;> cases ts <;> cases orp
  · exact background_ffff
  · exact background_ffft
  · exact background_fftf
  · exact background_fftt
  · exact background_ftff
  · exact background_ftft
  · exact background_fttf
  · exact background_fttt
  · exact background_tfff
  · exact background_tfft
  · exact background_tftf
  · exact background_tftt
  · exact background_ttff
  · exact background_ttft
  · exact background_tttf
  · exact background_tttt
end Go.Proofs.Ytefpifnfinkbaaa
