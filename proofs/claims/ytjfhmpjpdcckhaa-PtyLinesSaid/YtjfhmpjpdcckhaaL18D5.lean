/-
  The program: what ends a line; whether there is room: walked. No conditions.
-/
import Derived.Test.YtjfhmpjpdcckhaaL18D4
namespace Go.Proofs.Ytjfhmpjpdcckhaa.L18
open Go.RowKit

open L17

variable {q : Pl} {d : DS} {sg : Int}

theorem all_line (d : DS) : d.all.drop d.cnt = d.line ∧ d.all.length - d.cnt = d.line.length ∧ d.cnt ≤ d.all.length ∧ d.all.length = d.cnt + d.line.length ∧ d.all.take d.cnt = d.raw ++ d.lines.flatten := by
  have e : d.all = (d.raw ++ d.lines.flatten) ++ d.line := rfl
  have e2 : (d.raw ++ d.lines.flatten).length = d.cnt := by rw [List.length_append]; rfl
  have e3 : d.all.length = d.cnt + d.line.length := by rw [e, List.length_append, e2]
  refine ⟨?_, by omega, by omega, e3, ?_⟩
  · rw [e, ← e2, List.drop_left]
  · rw [e, ← e2, List.take_left]

theorem Ok.all_le {N : Nat} (h : Ok N d) : d.all.length ≤ 2558 ∧ d.cnt ≤ 2303 := by
  have h1 := h.sum
  have h2 := (all_line d).2.2.2.1
  have h3 : d.cnt = d.raw.length + d.lines.flatten.length := rfl
  have := h.raw
  have := h.flat
  omega

theorem dlt1024 (n : Nat) : decide ((n : Int) < 1024) = decide (n < 1024) := decide_eq_decide.2 (by omega)
theorem dlt255 (n : Nat) : decide ((n : Int) < 255) = decide (n < 255) := decide_eq_decide.2 (by omega)
theorem dlt254 (n : Nat) : decide ((n : Int) < 254) = decide (n < 254) := decide_eq_decide.2 (by omega)
theorem dlt_both (n : Nat) : (decide (n < 254) || decide (n < 255)) = decide (n < 255) := by
  by_cases h : n < 254
  · have h2 : n < 255 := by omega
    simp [h, h2]
  · simp [h]

/-- The line that is edited, where it lies. -/
def LineD (V : Nat → Prop) (d : DS) (w : World) (e : Ending) (w' : World) : Prop := ∃ a cap, e = .returned (.slice a d.line.length cap) ∧ IArg .u8 w' (.slice a d.line.length cap) d.line a cap ∧ (∀ ad : Addr, a = some ad → V ad.block) ∧ Stay (fun _ => False) w w'

theorem s_lineD {N : Nat} (w : World) (h : SD w q d sg) (hO : Ok N d) : Calls Try.prog 61 #[.pointer (some ⟨q.p, 0, none⟩)] w (LineD q.U d w) := by
  obtain ⟨e1, e2, e3, e4, _⟩ := all_line d
  have hl := s_line (x := d.ps) (ec := d.ec) h e3 (by show d.all.length ≤ 100000; have := hO.all_le.1; omega)
  refine hl.mono ?_
  rintro e w' ⟨a, cap, he, h1, hv, _, h2⟩
  have e5 : d.ps.all.length - d.ps.rd = d.line.length := e2
  have e6 : d.ps.all.drop d.ps.rd = d.line := e1
  rw [e5] at he h1
  rw [e6] at h1
  exact ⟨a, cap, he, h1, hv, h2⟩

theorem s_ends (c : Int) (w : World) (h : SD w q d sg) (hc0 : 0 ≤ c) (hc1 : c < 256) : Calls Try.prog 60 #[.pointer (some ⟨q.b, 0, none⟩), .int .u8 c] w (Gives (.bool (d.ends c)) w) := by
  have HH := hide' (s_is (x := d.ps) (ec := d.ec) h 4 c hc0 hc1)
  have s0 := h.dp
  have HQ : Hid (d.ends c = (c == 10 || isB d.ps.t 4 c)) := rfl
  have HS := hide' (Stay.refl (fun _ => False) w)
  obtain ⟨i4, hi4⟩ : ∃ z, z = isB d.ps.t 4 c := ⟨_, rfl⟩
  rw [← hi4] at HH HQ
  clear hi4 h hc0 hc1
  by_cases h10 : c = 10
  · subst h10
    go_enter Try.func60, Try.ntmps60
    go_wp2
    go_ret
    exact ⟨ret_bool (by rw [HQ.out]; rfl), HS.out⟩
  · have e10 : (c == 10) = false := by simpa using h10
    go_enter Try.func60, Try.ntmps60
    go_wp2_with fail
    refine HH.out.mono ?_
    rintro e w1 ⟨rfl, hs⟩
    have HS1 := hide' hs
    clear hs
    go_wp2
    go_ret
    exact ⟨ret_bool (by rw [HQ.out, e10]; simp), HS1.out⟩

set_option maxHeartbeats 1000000 in
theorem s_room {N : Nat} (c : Int) (w : World) (h : SD w q d sg) (hO : Ok N d) (hc0 : 0 ≤ c) (hc1 : c < 256) : Calls Try.prog 52 #[.pointer (some ⟨q.b, 0, none⟩), .int .u8 c] w (Gives (.bool (d.room c)) w) := by
  have hT := hO.right
  have HR0 := hide' h
  have HS0 := hide' (Stay.refl (fun _ => False) w)
  have HEN := hide' (fun w' (hh : SD w' q d sg) => s_ends c w' hh hc0 hc1)
  have HLN := hide' (fun w' (hh : SD w' q d sg) => s_lineD w' hh hO)
  have HRM : Hid (d.room c = ((d.loc 1 && (decide (d.line.length < 254) || (d.ends c && decide (d.line.length < 255)))) || (!d.loc 1 && decide (d.raw.length < 1024)))) := rfl
  have HCN : Hid (d.loc 1 = false → d.cnt = d.raw.length) := fun e => by
    obtain ⟨e1, _⟩ := hO.plain e
    show d.raw.length + d.lines.flatten.length = _
    rw [e1]; simp
  have HB : Hid (d.line.length ≤ 255 ∧ d.cnt ≤ 2303) := ⟨hO.line, hO.all_le.2⟩
  obtain ⟨rm, hrm⟩ : ∃ z, z = d.room c := ⟨_, rfl⟩
  rw [← hrm] at HRM ⊢
  obtain ⟨q1, h_q1⟩ : ∃ z, z = hasB d.t.fl 1 := ⟨_, rfl⟩
  have HK_q1 : Hid (∀ w' d' sg', d'.t = d.t → SD w' q d' sg' → Calls Try.prog 31 #[.pointer (some ⟨q.p, 0, none⟩), .int .i64 1] w' (Gives (.bool q1) w')) := fun w' d' sg' et hh => by
    rw [h_q1, ← et]
    have ht : rightB d'.ps.t = true := by show rightB d'.t = true; rw [et]; exact hT
    exact s_local (x := d'.ps) (ec := d'.ec) hh ht 1 (by simp)
  have HE_q1 := hide' h_q1
  clear h_q1
  have HCN2 : Hid (q1 = false → d.cnt = d.raw.length) := fun e => HCN.out (by rw [← e, HE_q1.out]; rfl)
  have hq1 : d.loc 1 = q1 := HE_q1.out.symm
  rw [hq1] at HRM
  obtain ⟨en, hen⟩ : ∃ z, z = d.ends c := ⟨_, rfl⟩
  rw [← hen] at HRM HEN
  obtain ⟨ln, hln⟩ : ∃ z, z = d.line.length := ⟨_, rfl⟩
  have HLN2 := hide' hln
  rw [← hln] at HRM HB
  have HLL : Hid (∀ w', SD w' q d sg → Calls Try.prog 61 #[.pointer (some ⟨q.p, 0, none⟩)] w' (fun e w'' => ∃ a cap, e = .returned (.slice a ln cap) ∧ True ∧ Stay (fun _ => False) w' w'')) := fun w' hh => (HLN.out w' hh).mono (by
    rintro e w2 ⟨a, cap, he, _, _, hs⟩
    rw [← HLN2.out] at he
    exact ⟨a, cap, he, trivial, hs⟩)
  clear HLN
  have HLN := HLL
  clear HLL HCN
  clear h hO hT hc0 hc1 hrm hq1 hen hln HE_q1
  go_enter Try.func52, Try.ntmps52
  have s0 := HR0.out.dp
  go_wp2_with fail
  refine (HK_q1.out _ _ _ rfl HR0.out).mono ?_
  rintro e w1 ⟨rfl, hs⟩
  have HR1 := hide' (HR0.out.keep hs)
  have HS1 := hide' (HS0.out.trans hs)
  clear hs HR0 HS0 s0
  cases q1
  · obtain ⟨r, ea, cap, hop⟩ := HR1.out.open
    obtain ⟨s0, _⟩ := hop.box
    simp only at s0
    have c18 := hop.core.box.c18
    rw [hop.core.rd] at c18
    have hcn : d.ps.rd = d.raw.length := HCN2.out rfl
    rw [hcn] at c18
    clear hop hcn
    obtain ⟨nr, hnr⟩ : ∃ z, z = d.raw.length := ⟨_, rfl⟩
    rw [← hnr] at c18 HRM
    clear hnr
    go_wp2
    go_ret
    exact ⟨ret_bool ((dlt1024 _).trans (by rw [HRM.out]; simp)), HS1.out⟩
  · have s0 := HR1.out.dp
    go_wp2_with fail
    refine (HEN.out _ HR1.out).mono ?_
    rintro e w2 ⟨rfl, hs⟩
    have HR2 := hide' (HR1.out.keep hs)
    have HS2 := hide' (HS1.out.trans hs)
    clear hs HR1 HS1 s0
    cases en
    · have s0 := HR2.out.dp
      go_wp2_with fail
      refine (HLN.out _ HR2.out).mono ?_
      rintro e w3 ⟨la, lc, rfl, _, hs⟩
      have HR3 := hide' (HR2.out.keep hs)
      have HS3 := hide' (HS2.out.trans hs)
      clear hs HR2 HS2 s0
      go_wp2
      go_ret
      exact ⟨ret_bool ((dlt254 _).trans (by rw [HRM.out]; simp)), HS3.out⟩
    · have s0 := HR2.out.dp
      go_wp2_with fail
      refine (HLN.out _ HR2.out).mono ?_
      rintro e w3 ⟨la, lc, rfl, _, hs⟩
      have HR3 := hide' (HR2.out.keep hs)
      have HS3 := hide' (HS2.out.trans hs)
      clear hs HR2 HS2 s0
      go_wp2
      go_ret
      exact ⟨ret_bool ((dlt255 _).trans (by rw [HRM.out]; simp; intro hz; omega)), HS3.out⟩

end Go.Proofs.Ytjfhmpjpdcckhaa.L18
