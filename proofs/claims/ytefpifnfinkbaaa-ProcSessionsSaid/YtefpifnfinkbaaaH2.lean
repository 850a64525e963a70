/-
  A first session, a terminal, a process in the background: the program is awake. No conditions.
-/
import Derived.Test.YtefpifnfinkbaaaEG
import Derived.BigQuiet
import Derived.Deep.DeepCutAuto
namespace Go.Proofs.Ytefpifnfinkbaaa
open Go.RowKit

variable {w : World}

/-- What stands in front of the third terminal. -/
def fA : Int → Int := upd (fun _ => 0) 3 1

theorem awake7 : Calls Try.prog 7 #[] w (Gives (.bool true) w) := by
  have HN8 := hide' (new8 w)
  go_enter Try.func7, Try.ntmps7
  go_wp2_with fail
  refine HN8.out.mono ?_
  rintro _ w0 ⟨q0, rfl, hT, hs, hq0⟩
  have HS0 := hide' hs
  have HQ0 := hide' hq0
  have hA : Calls Try.prog 23 #[.pointer (some ⟨q0.b, 0, none⟩), .int .i64 1, .int .i64 3] w0 (Did q0 [⟨1, 0, 1, 1, 3, false⟩] 1 fA 2 (.int .i64 0) w0) := attach23 (i := 0) (p := ⟨1, 0, 1, 1, 0, false⟩) 1 3 hT rfl rfl (by decide) (by decide) (by decide) (by decide) (by decide) (by decide)
  have HA := hide' hA
  clear hT hs hq0 hA HN8
  go_wp2_with fail
  refine HA.out.mono ?_
  rintro _ w1 ⟨q1, hq1, rfl, hT, hM⟩
  have HM1 := hide' hM
  have hF : Calls Try.prog 21 #[.pointer (some ⟨q0.b, 0, none⟩), .int .i64 1] w1 (Did q1 [⟨1, 0, 1, 1, 3, false⟩, ⟨2, 1, 1, 1, 3, false⟩] 2 fA 3 (.tuple #[.int .i64 2, .int .i64 0]) w1) := by
    rw [← hq1]
    exact fork21 (i := 0) (p := ⟨1, 0, 1, 1, 3, false⟩) 1 hT rfl rfl (by decide) (by decide)
  have HF := hide' hF
  have HQ1 := hide' hq1
  clear hT hM hF HA hq1
  go_wp2_with fail
  refine HF.out.mono ?_
  rintro _ w2 ⟨q2, hq2, rfl, hT, hM⟩
  have HM2 := hide' (HM1.out.trans hM)
  have hq2' : q2.b = q0.b := hq2.trans HQ1.out
  have hG : Calls Try.prog 24 #[.pointer (some ⟨q0.b, 0, none⟩), .int .i64 1, .int .i64 2, .int .i64 0] w2 (Did q2 [⟨1, 0, 1, 1, 3, false⟩, ⟨2, 1, 2, 1, 3, false⟩] 2 fA 3 (.int .i64 0) w2) := by
    rw [← hq2']
    exact setpgid24_new_child (i := 0) (p := ⟨1, 0, 1, 1, 3, false⟩) (k := 1) (t := ⟨2, 1, 1, 1, 3, false⟩) 1 2 0 2 hT (by decide) 2 rfl rfl rfl rfl (by decide) (by decide) (by decide) (by decide) (by decide) (by decide) (by decide)
  have HG := hide' hG
  have HQ2 := hide' hq2'
  clear hT hM hG HF hq2 hq2' HM1
  go_wp2_with fail
  refine HG.out.mono ?_
  rintro _ w3 ⟨q3, hq3, rfl, hT, hM⟩
  have HM3 := hide' (HM2.out.trans hM)
  have hq3' : q3.b = q0.b := hq3.trans HQ2.out
  have hY : Calls Try.prog 11 #[.pointer (some ⟨q0.b, 0, none⟩), .int .i64 2, .int .i64 3, .bool false, .bool false] w3 (GivesNS 1 [⟨2, 6⟩] w3) := by
    rw [← hq3']
    exact may11_E3 (i := 1) (p := ⟨2, 1, 2, 1, 3, false⟩) 2 3 false hT.tm rfl rfl (w64_of (by decide) (by decide)) (TM.w64 hT (by decide)) (by decide) (by decide) rfl (by decide)
  have HY := hide' hY
  have HT3 := hide' (show q3.b = q0.b ∧ TM w3 q3 [⟨1, 0, 1, 1, 3, false⟩, ⟨2, 1, 2, 1, 3, false⟩] 2 fA 3 from ⟨hq3', hT.tm⟩)
  clear hT hM hY HG hq3 hq3' HM2
  go_wp2_with fail
  refine HY.out.mono ?_
  rintro _ w4 ⟨a, cap, rfl, hsv, hs, hb⟩
  obtain ⟨g, o, rfl, hb0, hb1⟩ := hsv.at (i := 0) (p := ⟨2, 6⟩) rfl
  rw [Nat.zero_mul, Nat.add_zero] at hb0 hb1
  have HE : Hid (Stay (fun _ => False) w w4) := HS0.out.trans2 (HM3.out.1.trans (hs.mono (fun _ _ e => e.elim))) (fun j hj e => by have := HQ0.out j e; omega)
  have hfr : Calls Try.prog 18 #[.pointer (some ⟨q0.b, 0, none⟩), .int .i64 3] w4 (Gives (.int .i64 1) w4) := by
    rw [← HT3.out.1]
    exact front18 3 (HT3.out.2.keep hs) (w64_of (by decide) (by decide))
  have HFR := hide' hfr
  clear hsv hs hb HY HM3 HT3 hfr
  go_wp2_with fail
  refine HFR.out.mono ?_
  rintro _ w5 ⟨rfl, hs⟩
  have HE5 := hide' (HE.out.trans hs)
  clear hs HFR HE hb0 hb1
  go_wp2
  go_ret
  exact ⟨rfl, HE5.out⟩

end Go.Proofs.Ytefpifnfinkbaaa
