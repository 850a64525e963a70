/-
  The program: what a byte does behind the signals; a byte of input: walked. No conditions.
-/
import Derived.Test.YtjfhmpjpdcckhaaL18DD
import Derived.Deep.CutBlock
namespace Go.Proofs.Ytjfhmpjpdcckhaa.L18
open Go.RowKit

open L17

variable {q : Pl} {d : DS} {sg : Int}

/-- What a byte does that is no signal. -/
def lookS (d : DS) (c : Int) : DS := if d.loc 1 = false then d.put c else d.canon c

theorem extS_none (d : DS) (c : Int) (h : extB d c = false) : extS d c = d := by
  unfold extB at h
  simp only [Bool.or_eq_false_iff] at h
  unfold extS
  rw [h.1, h.2.1, h.2.2]
  simp

set_option maxHeartbeats 2000000 in
theorem s_look {N : Nat} (c : Int) (w : World) (h : SD w q d sg) (hO : Ok N d) (hN : N ≤ 90000) (hc0 : 0 ≤ c) (hc1 : c < 256) (hn : d.ec.length ≤ 690000) : Calls Try.prog 46 #[.pointer (some ⟨q.b, 0, none⟩), .int .u8 c] w (TurnD q (lookS d c) sg (.tuple #[]) w) := by
  have hT := hO.right
  have HR0 := hide' h
  have HS0 := hide' (Stay.refl q.U w)
  have HX513 : Hid (∀ w', SD w' q d sg → Calls Try.prog 31 #[.pointer (some ⟨q.p, 0, none⟩), .int .i64 513] w' (Gives (.bool (hasB d.t.fl 1 && hasB d.t.fl 512)) w')) := fun w' hh => s_local2 (x := d.ps) (ec := d.ec) hh 513 _ (loc_eq2 hT).1
  have HEX := hide' (fun w' (hh : SD w' q d sg) => s_extended c w' hh hO hc0 hc1 (by omega))
  have HED := hide' (fun w' (hh : SD w' q d sg) => s_edited c w' hh hO hN hc0 hc1 hn)
  have HPT := hide' (fun w' (hh : SD w' q d sg) => s_put c w' hh hO hc0 hc1 (by omega))
  have HQ : Hid (lookS d c = if d.loc 1 = false then d.put c else if (d.loc 512 && extB d c) = true then extS d c else if edB d c = true then edS d c else d.put c) := by
    show lookS d c = _
    unfold lookS
    rw [canon_of]
  have HXN := hide' (extS_none d c)
  have HEN : Hid (edB d c = false → edS d c = d) := fun h => by
    unfold edB at h
    simp only [Bool.or_eq_false_iff] at h
    show edS d c = d
    unfold edS
    rw [h.1, h.2.1, h.2.2.1, h.2.2.2]
    simp
  obtain ⟨q1, h_q1⟩ : ∃ z, z = hasB d.t.fl 1 := ⟨_, rfl⟩
  have HK_q1 : Hid (∀ w' d' sg', d'.t = d.t → SD w' q d' sg' → Calls Try.prog 31 #[.pointer (some ⟨q.p, 0, none⟩), .int .i64 1] w' (Gives (.bool q1) w')) := fun w' d' sg' et hh => by
    rw [h_q1, ← et]
    have ht : rightB d'.ps.t = true := by show rightB d'.t = true; rw [et]; exact hT
    exact s_local (x := d'.ps) (ec := d'.ec) hh ht 1 (by simp)
  have HE_q1 := hide' h_q1
  clear h_q1
  have e1 : d.loc 1 = q1 := HE_q1.out.symm
  obtain ⟨q512, hq512⟩ : ∃ z, z = hasB d.t.fl 512 := ⟨_, rfl⟩
  have e512 : d.loc 512 = q512 := hq512.symm
  rw [← hq512, ← HE_q1.out] at HX513
  rw [e1, e512] at HQ
  obtain ⟨xb, hxb⟩ : ∃ z, z = extB d c := ⟨_, rfl⟩
  obtain ⟨eb, heb⟩ : ∃ z, z = edB d c := ⟨_, rfl⟩
  rw [← hxb, ← heb] at HQ
  rw [← hxb] at HEX HXN
  rw [← heb] at HED HEN
  clear h hO hT hN hn hc0 hc1 e1 e512 hq512 HE_q1 hxb heb
  cases q1
  · go_enter Try.func46, Try.ntmps46
    have s0 := HR0.out.dp
    go_wp2_with fail
    refine (HX513.out _ HR0.out).mono ?_
    rintro e w1 ⟨rfl, hs⟩
    have HR1 := hide' (HR0.out.keep hs)
    have HS1 := hide' (HS0.out.trans (hs.mono (T := q.U) (fun _ _ h => h.elim)))
    clear hs HR0 HS0 s0
    have s0 := HR1.out.dp
    go_wp2_with fail
    refine (HK_q1.out _ _ _ rfl HR1.out).mono ?_
    rintro e w2 ⟨rfl, hs⟩
    have HR2 := hide' (HR1.out.keep hs)
    have HS2 := hide' (HS1.out.trans (hs.mono (T := q.U) (fun _ _ h => h.elim)))
    clear hs HR1 HS1 s0
    go_wp2_with fail
    refine (HPT.out _ HR2.out).mono ?_
    rintro e w3 ⟨rfl, hr, hs⟩
    have HR3 := hide' hr
    have HS3 := hide' (HS2.out.trans hs)
    clear hr hs HR2 HS2
    go_wp2
    go_returns
    refine ⟨rfl, ?_, HS3.out⟩
    rw [HQ.out]
    exact HR3.out
  · cases q512
    · go_enter Try.func46, Try.ntmps46
      have s0 := HR0.out.dp
      go_wp2_with fail
      refine (HX513.out _ HR0.out).mono ?_
      rintro e w1 ⟨rfl, hs⟩
      have HR1 := hide' (HR0.out.keep hs)
      have HS1 := hide' (HS0.out.trans (hs.mono (T := q.U) (fun _ _ h => h.elim)))
      clear hs HR0 HS0 s0
      have s0 := HR1.out.dp
      go_wp2_with fail
      refine (HK_q1.out _ _ _ rfl HR1.out).mono ?_
      rintro e w2 ⟨rfl, hs⟩
      have HR2 := hide' (HR1.out.keep hs)
      have HS2 := hide' (HS1.out.trans (hs.mono (T := q.U) (fun _ _ h => h.elim)))
      clear hs HR1 HS1 s0
      go_wp2_with fail
      refine (HED.out _ HR2.out).mono ?_
      rintro e w3 ⟨rfl, hr, hs⟩
      have HR3 := hide' hr
      have HS3 := hide' (HS2.out.trans hs)
      clear hr hs HR2 HS2
      cases eb
      · rw [HEN.out (by first | rfl | trivial)] at HR3
        go_wp2_with fail
        refine (HPT.out _ HR3.out).mono ?_
        rintro e w4 ⟨rfl, hr, hs⟩
        have HR4 := hide' hr
        have HS4 := hide' (HS3.out.trans hs)
        clear hr hs HR3 HS3
        go_wp2
        go_returns
        refine ⟨rfl, ?_, HS4.out⟩
        rw [HQ.out]
        exact HR4.out
      · go_wp2
        go_returns
        refine ⟨rfl, ?_, HS3.out⟩
        rw [HQ.out]
        exact HR3.out
    · go_enter Try.func46, Try.ntmps46
      have s0 := HR0.out.dp
      go_wp2_with fail
      refine (HX513.out _ HR0.out).mono ?_
      rintro e w1 ⟨rfl, hs⟩
      have HR1 := hide' (HR0.out.keep hs)
      have HS1 := hide' (HS0.out.trans (hs.mono (T := q.U) (fun _ _ h => h.elim)))
      clear hs HR0 HS0 s0
      go_wp2_with fail
      refine (HEX.out _ HR1.out).mono ?_
      rintro e w2 ⟨rfl, hr, hs⟩
      have HR2 := hide' hr
      have HS2 := hide' (HS1.out.trans hs)
      clear hr hs HR1 HS1
      cases xb
      · rw [HXN.out (by first | rfl | trivial)] at HR2
        go_wp2_with fail
        refine (HED.out _ HR2.out).mono ?_
        rintro e w3 ⟨rfl, hr, hs⟩
        have HR3 := hide' hr
        have HS3 := hide' (HS2.out.trans hs)
        clear hr hs HR2 HS2
        cases eb
        · rw [HEN.out (by first | rfl | trivial)] at HR3
          go_wp2_with fail
          refine (HPT.out _ HR3.out).mono ?_
          rintro e w4 ⟨rfl, hr, hs⟩
          have HR4 := hide' hr
          have HS4 := hide' (HS3.out.trans hs)
          clear hr hs HR3 HS3
          go_wp2
          go_returns
          refine ⟨rfl, ?_, HS4.out⟩
          rw [HQ.out]
          exact HR4.out
        · go_wp2
          go_returns
          refine ⟨rfl, ?_, HS3.out⟩
          rw [HQ.out]
          exact HR3.out
      · go_wp2
        go_returns
        refine ⟨rfl, ?_, HS2.out⟩
        rw [HQ.out]
        exact HR2.out

end Go.Proofs.Ytjfhmpjpdcckhaa.L18
