/-
  The document's Bytes of any bytes: walked. No conditions.
-/
import Derived.Test.YtjpdlnifbinloaaD4
namespace Go.Proofs.Ytjpdlnifbinloaa
open Go.RowKit

set_option maxHeartbeats 1000000 in
theorem rbytes_nil (o col : Int) (a : Option Addr) (c : Nat) (w : World) : Calls Try.prog 9 #[.int .i64 o, .int .i64 col, .slice a 0 c] w (Posts (bytesM (cnt o) (plc col) []).1 (bytesM (cnt o) (plc col) []).2 w) := by
  obtain ⟨p, hp⟩ : ∃ p, p = plc col := ⟨_, rfl⟩
  have HPC := hide' hp
  obtain ⟨B, hB⟩ : ∃ B, B = w.heap.size := ⟨_, rfl⟩
  obtain ⟨W, hW⟩ : ∃ W, W = w.alloc (.cells #[.slice none 0 0, .int .i64 0] 27) := ⟨_, rfl⟩
  have HD1 : Hid (PBox W B ⟨.slice none 0 0, 0⟩) := by rw [hW, hB]; exact PBox.new ⟨.slice none 0 0, 0⟩ rfl
  have HA0 : Hid (Stay (fun _ => False) w W) := by rw [hW]; exact (Stay.refl _ _).alloc _
  have HBW : Hid (B = w.heap.size ∧ W = w.alloc (.cells #[.slice none 0 0, .int .i64 0] 27)) := ⟨hB, hW⟩
  rw [bytesM_nil]
  rw [← hp]
  clear hp hB hW
  go_enter Try.func9, Try.ntmps9
  go_upto_region 1 with fail
  obtain ⟨hB, hW⟩ := HBW.out
  rw [← hW, ← hB]
  clear hB hW
  obtain ⟨q0, hq0⟩ : ∃ q, q = (decide (col < 0) || decide (1073741824 < col)) := ⟨_, rfl⟩
  have HQ0 := hide' hq0
  clear hq0
  go_cut [16] (fun s16 wx => s16 = .bool q0 ∧ W = wx)
  case first =>
    by_cases a1 : col < 0
    · have e : q0 = true := by rw [HQ0.out]; simp [a1]
      go_wp2_with fail
      go_meet
      exact ⟨by rw [e], rfl⟩
    · by_cases a2 : 1073741824 < col
      · have e : q0 = true := by rw [HQ0.out]; simp [a2]
        go_wp2_with fail
        go_meet
        exact ⟨by rw [e], rfl⟩
      · have e : q0 = false := by rw [HQ0.out]; simp; omega
        go_wp2_with fail
        go_meet
        exact ⟨by rw [e], rfl⟩
  case rest =>
  obtain ⟨rfl, rfl⟩ := hcut
  go_upto_if 16 with fail
  go_cut [1] (fun s1 wx => s1 = .int .i64 p ∧ W = wx)
  case first =>
    cases q0
    · have e : p = col := by rw [HPC.out]; unfold plc; have := HQ0.out; rw [if_neg]; simp at this; omega
      go_wp2_with fail
      go_meet
      exact ⟨by rw [e], rfl⟩
    · have e : p = 0 := by rw [HPC.out]; unfold plc; have := HQ0.out; rw [if_pos]; simp at this; omega
      go_wp2_with fail
      go_meet
      exact ⟨by rw [e], rfl⟩
  case rest =>
  obtain ⟨rfl, rfl⟩ := hcut
  go_upto_region 5 with fail
  obtain ⟨P, hP⟩ : ∃ P, P = W.heap.size := ⟨_, rfl⟩
  obtain ⟨W1, hW1⟩ : ∃ z, z = W.alloc (.cells #[.slice none 0 0, .int .i64 p] 27) := ⟨_, rfl⟩
  have HB0 : Hid (BB w B P [] p (.slice none 0 0) W1) := by
    have hst : Stay (fun _ => False) W W1 := by rw [hW1]; exact (Stay.refl _ _).alloc _
    have hb := HD1.out.lt
    exact ⟨(Acc.nil w).keep (HA0.out.trans hst), by rw [hW1]; exact PBox.new ⟨.slice none 0 0, p⟩ hP.symm, HD1.out.keep hst, by rw [HBW.out.1]; exact Nat.le_refl _, by rw [hP]; exact HA0.out.size, by omega, (fun e => by cases e), (fun e => by cases e)⟩
  rw [← hP, ← hW1]
  clear hP hW1 HD1 HA0
  go_loopg [8] 0 (fun gg v8 wr => gg = 0 ∧ v8 = .int .i64 0 ∧ Hid (BB w B P [] p (.slice none 0 0) wr))
  case atStart => exact ⟨rfl, rfl, HB0⟩
  case round =>
    obtain ⟨rfl, rfl, HB1⟩ := hrel
    obtain ⟨d0, d1, g0, g1⟩ := HB1.out.res
    simp only at d0 d1
    go_wp2_with (refine wpList_exec rfl (run_load_PBox rfl rfl HB1.out.box) ?_)
    have hbox := HB1.out.res.put ⟨.slice none 0 0, p⟩
    have hA := HB1.out.acc.put (B := B) HBW.out.1.symm HB1.out.ob (.slice none 0 0) (.int .i64 p)
    exact bodyPost_ret (results_PBox rfl _ _ B ⟨.slice none 0 0, p⟩ rfl hbox) rfl ⟨_, rfl, hA⟩

/-- What the document says of bytes. -/
theorem rbytes9 (o col : Int) (v : Value) (S : List Int) (a : Option Addr) (c : Nat) (w : World) (hn : S.length ≤ 10000) (h : IArg .u8 w v S a c) : Calls Try.prog 9 #[.int .i64 o, .int .i64 col, v] w (Posts (bytesM (cnt o) (plc col) S).1 (bytesM (cnt o) (plc col) S).2 w) := by
  have hs := h.shape
  subst hs
  by_cases hne : S = []
  · subst hne
    exact rbytes_nil o col a c w
  · obtain ⟨b, off, rfl, hb, hI⟩ := h.cells hne
    exact rbytes_some o col S b off c S.length w hn rfl hI hb h.wf

attribute [local go_sem] extract0 extract1

/-- The document's example. -/
theorem awake7 (w : World) : Calls Try.prog 7 #[] w (LawTrue w) := by
  have HS := hide' (Stay.refl (fun _ => False) w)
  obtain ⟨W, hW⟩ : ∃ W, W = w.alloc (.cells #[.int .u8 97, .int .u8 10] 5) := ⟨_, rfl⟩
  obtain ⟨g, hg⟩ : ∃ g, g = w.heap.size := ⟨_, rfl⟩
  have hn := Acc.new w #[.int .u8 97, .int .u8 10] [97, 10] 2 rfl rfl (by intro x hx; simp at hx; rcases hx with rfl | rfl <;> decide) (by omega)
  rw [← hW, ← hg] at hn
  obtain ⟨ad, cp, hB⟩ := hn.arg
  have HX := hide' (bytes8 3 0 _ [97, 10] ad cp W (by decide) hB)
  have HB := hide' hB
  have e : bytesM (cnt 3) (plc 0) [97, 10] = ([97, 13, 10], 0) := by decide +kernel
  rw [e] at HX
  have HWG : Hid (W = w.alloc (.cells #[.int .u8 97, .int .u8 10] 5) ∧ g = w.heap.size ∧ Stay (fun _ => False) w W) := ⟨hW, hg, hn.stay⟩
  clear hW hg hn hB e
  go_enter Try.func7, Try.ntmps7
  go_wp2_with fail
  obtain ⟨hW, hg, _⟩ := HWG.out
  rw [← hW, ← hg]
  clear hW hg
  refine HX.out.mono ?_
  rintro e w1 ⟨v1, rfl, ha⟩
  have HV1 := hide' ha.bs
  have HS1 := hide' (HWG.out.2.2.trans ha.stay)
  clear ha HX
  obtain ⟨W2, hW2⟩ : ∃ W, W = w1.alloc (.cells #[.int .u8 97, .int .u8 13, .int .u8 10] 5) := ⟨_, rfl⟩
  obtain ⟨g2, hg2⟩ : ∃ g, g = w1.heap.size := ⟨_, rfl⟩
  have hn := Acc.new w1 #[.int .u8 97, .int .u8 13, .int .u8 10] [97, 13, 10] 3 rfl rfl (by intro x hx; simp at hx; rcases hx with rfl | rfl | rfl <;> decide) (by omega)
  rw [← hW2, ← hg2] at hn
  have HSM := hide' (sameB _ _ [97, 13, 10] W2 (HV1.out.keep hn.stay) hn.bs (by decide))
  have HW2 : Hid (W2 = w1.alloc (.cells #[.int .u8 97, .int .u8 13, .int .u8 10] 5) ∧ g2 = w1.heap.size ∧ Stay (fun _ => False) w1 W2) := ⟨hW2, hg2, hn.stay⟩
  clear hW2 hg2 hn
  go_wp2_with fail
  obtain ⟨hW, hg, _⟩ := HW2.out
  rw [← hW, ← hg]
  clear hW hg
  refine HSM.out.mono ?_
  rintro e w3 ⟨rfl, hs⟩
  have HS3 := hide' ((HS1.out.trans HW2.out.2.2).trans hs)
  clear hs HSM
  go_wp2
  go_ret
  exact ⟨rfl, HS3.out⟩

end Go.Proofs.Ytjpdlnifbinloaa
