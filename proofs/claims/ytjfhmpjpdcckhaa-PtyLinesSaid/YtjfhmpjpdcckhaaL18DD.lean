/-
  The program: a line is edited; what a byte does behind the signals: walked. No conditions.
-/
import Derived.Test.YtjfhmpjpdcckhaaL18DC
import Derived.Deep.CutBlock
namespace Go.Proofs.Ytjfhmpjpdcckhaa.L18
open Go.RowKit

open L17

variable {q : Pl} {d : DS} {sg : Int}

/-- Without a block that is new. -/
def Pl.less (q : Pl) (z : Nat) : Pl := ⟨q.b, q.p, fun k => q.U k ∧ k ≠ z⟩

theorem SD.less {w : World} (h : SD w q d sg) (o : Obj) : SD (w.alloc o) (q.less w.heap.size) d sg := by
  obtain ⟨r, e, h⟩ := h
  have hs : Stay (fun _ => False) w (w.alloc o) := (Stay.refl _ _).alloc _
  have hk := h.keep hs
  have hsz : (w.alloc o).heap.size = w.heap.size + 1 := by simp
  refine ⟨r, e, hk.core, hk.box, hk.dp, hk.sgv, hk.ecw, hk.we, ⟨hk.ub, fun e => ?_⟩, fun j hj => ⟨⟨(hk.m1 j hj).1, fun e => ?_⟩, (hk.m1 j hj).2⟩, fun j hj => ⟨⟨(hk.m2 j hj).1, fun e => ?_⟩, (hk.m2 j hj).2⟩, fun k hk2 => ⟨hk.new k hk2, fun e => ?_⟩⟩
  · have h9 : q.b < w.heap.size := h.box.lt
    have e : q.b = w.heap.size := e
    omega
  · have := h.ecw.lt j hj; omega
  · have := h.core.lt j hj; omega
  · omega

theorem SD.more {w : World} {z : Nat} (h : SD w (q.less z) d sg) : SD w q d sg := by
  obtain ⟨r, e, h⟩ := h
  exact ⟨r, e, h.core, h.box, h.dp, h.sgv, h.ecw, h.we, h.ub.1, fun j hj => ⟨(h.m1 j hj).1.1, (h.m1 j hj).2⟩, fun j hj => ⟨(h.m2 j hj).1.1, (h.m2 j hj).2⟩, fun k hk => (h.new k hk).1⟩

theorem left_new (w : World) : Left w.heap.size 0 (w.alloc (.cells #[.int .i64 1] 3)) := by
  have e : wrap64 (1 - ((0 : Nat) : Int)) = 1 := by unfold wrap64; decide
  unfold Left
  rw [e]
  constructor <;> simp

theorem eraseS_t (E : DS) (c : Int) : (eraseS E c).t = E.t := by unfold eraseS; split; exact shwP_t E c; rfl
theorem eraseS_ec (E : DS) (c : Int) : (eraseS E c).ec.length ≤ E.ec.length + 2 := by
  unfold eraseS
  split
  · exact shwP_ec E c
  · omega

theorem backsP_t (p : Int → Bool) : ∀ (n : Nat) (d : DS), (DS.backs p n d).t = d.t
  | 0, _ => rfl
  | n + 1, d => by
    show (if d.line = [] then d else if p (d.line.getLastD 0) = true then DS.backs p n d.back else d).t = d.t
    split
    · rfl
    · split
      · exact backsP_t p n d.back
      · rfl

theorem kills_one (d : DS) (c : Int) (h : isB d.t 5 c = true) : d.kills c = eraseS (DS.backs (fun _ => true) 1 d) c := by
  have e : (DS.backs (fun _ => true) 1 d).loc 4 = d.loc 4 := by unfold DS.loc; rw [backsP_t]
  unfold DS.kills eraseS
  rw [if_pos h, e]
  simp [h]

theorem kills_all (d : DS) (c : Int) (h : isB d.t 5 c = false) : d.kills c = if d.loc 8 = true then (eraseS (DS.backs (fun _ => true) d.line.length d) c).shw 10 else eraseS (DS.backs (fun _ => true) d.line.length d) c := by
  have e : (DS.backs (fun _ => true) d.line.length d).loc 4 = d.loc 4 := by unfold DS.loc; rw [backsP_t]
  have e2 : (eraseS (DS.backs (fun _ => true) d.line.length d) c).loc 2 = d.loc 2 := by unfold DS.loc; rw [eraseS_t, backsP_t]
  have e3 : (eraseS (DS.backs (fun _ => true) d.line.length d) c).pic 10 = [10] := by
    unfold DS.pic
    rw [if_neg (fun h => h.2.2.2 rfl), if_neg (fun h => absurd h.2 (by decide))]
  have e4 : (eraseS (DS.backs (fun _ => true) d.line.length d) c).shw 10 = if d.loc 2 = true then (eraseS (DS.backs (fun _ => true) d.line.length d) c).out [10] else eraseS (DS.backs (fun _ => true) d.line.length d) c := by
    show (if (eraseS _ c).loc 2 = true then (eraseS _ c).out ((eraseS _ c).pic 10) else eraseS _ c) = _
    rw [e2, e3]
  rw [e4]
  unfold DS.kills
  have e5 : eraseS (DS.backs (fun _ => true) d.line.length d) c = if d.loc 4 = false then (DS.backs (fun _ => true) d.line.length d).shw c else DS.backs (fun _ => true) d.line.length d := by
    unfold eraseS
    rw [e]
  rw [e5]
  simp only [h]
  cases d.loc 8 <;> cases d.loc 2 <;> simp

/-- What edits a line. -/
def edB (d : DS) (c : Int) : Bool := isB d.t 5 c || (isB d.t 6 c || (isB d.t 3 c || d.ends c))
def edS (d : DS) (c : Int) : DS := if (isB d.t 5 c || isB d.t 6 c) = true then d.kills c else if isB d.t 3 c = true then d.ready else if d.ends c = true then (if d.room c = true then (d.put c).ready else d.put c) else d

theorem canon_of (d : DS) (c : Int) : d.canon c = if (d.loc 512 && extB d c) = true then extS d c else if edB d c = true then edS d c else d.put c := by
  rw [canon_eq]
  unfold extB extS edB edS DS.enter
  cases d.loc 512 <;> cases isB d.t 9 c <;> cases isB d.t 7 c <;> cases isB d.t 8 c <;> cases isB d.t 5 c <;> cases isB d.t 6 c <;> cases isB d.t 3 c <;> cases d.ends c <;> cases d.room c <;> simp

theorem putP_t (d : DS) (c : Int) : (d.put c).t = d.t := by
  unfold DS.put
  split
  · rw [shwP_t]
    have h1 : ((d.lay c).nl c).t = (d.lay c).t := (like_nl _ c).1
    rw [h1]
    unfold DS.lay
    split <;> rfl
  · exact (like_lost d).1

theorem putP_ec (d : DS) (c : Int) : (d.put c).ec.length ≤ d.ec.length + 3 := by
  unfold DS.put
  split
  · have h1 := shwP_ec ((d.lay c).nl c) c
    have h2 := nl_ec (d.lay c) c
    rw [lay_ec] at h2
    omega
  · unfold DS.lost
    split
    · show (d.ec ++ [7]).length ≤ _; rw [List.length_append]; simp
    · omega

set_option maxRecDepth 100000 in
set_option maxHeartbeats 2000000 in
theorem s_edited {N : Nat} (c : Int) (w : World) (h : SD w q d sg) (hO : Ok N d) (hN : N ≤ 90000) (hc0 : 0 ≤ c) (hc1 : c < 256) (hn : d.ec.length ≤ 690000) : Calls Try.prog 59 #[.pointer (some ⟨q.b, 0, none⟩), .int .u8 c] w (TurnD q (edS d c) sg (.bool (edB d c)) w) := by
  have hT := hO.right
  have HR0 := hide' h
  have HS0 := hide' (Stay.refl q.U w)
  have HER : Hid (∀ w', SD w' q d sg → Calls Try.prog 67 #[.pointer (some ⟨q.b, 0, none⟩), .int .u8 c, .func (.func 68) #[] #[.pointer (some ⟨w'.heap.size, 0, none⟩)]] (w'.alloc (.cells #[.int .i64 1] 3)) (TurnD q (eraseS (DS.backs (fun _ => true) 1 d) c) sg (.tuple #[]) w')) := fun w' hh => by
    have h1 := s_eraseC (q := q.less w'.heap.size) w'.heap.size (test_one (q.less w'.heap.size) w'.heap.size (fun h => h.2 rfl)) c (w'.alloc (.cells #[.int .i64 1] 3)) (hh.less _) (left_new w') hO hc0 hc1 (by omega)
    rw [backsK_one'] at h1
    refine h1.mono ?_
    rintro e w2 ⟨h2, h3, h4⟩
    refine ⟨h2, h3.more, ?_⟩
    have h5 : Stay (fun _ => False) w' (w'.alloc (.cells #[.int .i64 1] 3)) := (Stay.refl _ _).alloc _
    exact (h5.mono (fun _ _ h => h.elim)).trans (h4.mono (T := q.U) (fun j _ hj => hj.elim (fun h => h.1) (fun e => by rw [e]; exact hh.new _ (Nat.le_refl _))))
  have HEA : Hid (∀ w', SD w' q d sg → Calls Try.prog 67 #[.pointer (some ⟨q.b, 0, none⟩), .int .u8 c, .func (.func 69) #[] #[]] w' (TurnD q (eraseS (DS.backs (fun _ => true) d.line.length d) c) sg (.tuple #[]) w')) := fun w' hh => by
    have h1 := s_eraseA (test_all q) c w' hh trivial hO hc0 hc1 (by omega)
    rw [backsK_pure] at h1
    exact h1.mono (fun _ _ h => h.turn)
  have HSH : Hid (∀ w', SD w' q (eraseS (DS.backs (fun _ => true) d.line.length d) c) sg → Calls Try.prog 54 #[.pointer (some ⟨q.b, 0, none⟩), .int .u8 10] w' (TurnD q ((eraseS (DS.backs (fun _ => true) d.line.length d) c).shw 10) sg (.tuple #[]) w')) := fun w' hh => s_show 10 w' hh (by rw [eraseS_t, backsP_t]; exact hT) (by decide) (by decide) (by
    have h1 := backsK_ec (fun _ _ => true) d.line.length 0 d
    rw [backsK_pure] at h1
    have h2 := eraseS_ec (DS.backs (fun _ => true) d.line.length d) c
    have h3 := hO.line
    omega)
  have HPT := hide' (fun w' (hh : SD w' q d sg) => s_put c w' hh hO hc0 hc1 (by omega))
  have HND := hide' (fun w' (hh : SD w' q d sg) => s_end w' hh hO (by omega) (by omega))
  have HN2 : Hid (∀ w', SD w' q (d.put c) sg → Calls Try.prog 70 #[.pointer (some ⟨q.b, 0, none⟩)] w' (TurnD q (d.put c).ready sg (.tuple #[]) w')) := fun w' hh => s_end w' hh (hO.put c) (by omega) (by have := putP_ec d c; omega)
  have HEN := hide' (fun w' (hh : SD w' q d sg) => s_ends c w' hh hc0 hc1)
  have HQ : Hid (edS d c = if (isB d.t 5 c || isB d.t 6 c) = true then d.kills c else if isB d.t 3 c = true then d.ready else if d.ends c = true then (if d.room c = true then (d.put c).ready else d.put c) else d) := rfl
  have HX : Hid (edB d c = (isB d.t 5 c || (isB d.t 6 c || (isB d.t 3 c || d.ends c)))) := rfl
  have HK1 := hide' (kills_one d c)
  have HK2 := hide' (kills_all d c)
  obtain ⟨q8, h_q8⟩ : ∃ z, z = hasB d.t.fl 8 := ⟨_, rfl⟩
  have HK_q8 : Hid (∀ w' d' sg', d'.t = d.t → SD w' q d' sg' → Calls Try.prog 31 #[.pointer (some ⟨q.p, 0, none⟩), .int .i64 8] w' (Gives (.bool q8) w')) := fun w' d' sg' et hh => by
    rw [h_q8, ← et]
    have ht : rightB d'.ps.t = true := by show rightB d'.t = true; rw [et]; exact hT
    exact s_local (x := d'.ps) (ec := d'.ec) hh ht 8 (by simp)
  have HE_q8 := hide' h_q8
  clear h_q8
  obtain ⟨i5, h_i5⟩ : ∃ z, z = isB d.t 5 c := ⟨_, rfl⟩
  have HK_i5 : Hid (∀ w' d' sg', d'.t = d.t → SD w' q d' sg' → Calls Try.prog 56 #[.pointer (some ⟨q.p, 0, none⟩), .int .i64 5, .int .u8 c] w' (Gives (.bool i5) w')) := fun w' d' sg' et hh => by
    rw [h_i5, ← et]
    exact s_is (x := d'.ps) (ec := d'.ec) hh 5 c hc0 hc1
  have HE_i5 := hide' h_i5
  clear h_i5
  obtain ⟨i6, h_i6⟩ : ∃ z, z = isB d.t 6 c := ⟨_, rfl⟩
  have HK_i6 : Hid (∀ w' d' sg', d'.t = d.t → SD w' q d' sg' → Calls Try.prog 56 #[.pointer (some ⟨q.p, 0, none⟩), .int .i64 6, .int .u8 c] w' (Gives (.bool i6) w')) := fun w' d' sg' et hh => by
    rw [h_i6, ← et]
    exact s_is (x := d'.ps) (ec := d'.ec) hh 6 c hc0 hc1
  have HE_i6 := hide' h_i6
  clear h_i6
  obtain ⟨i3, h_i3⟩ : ∃ z, z = isB d.t 3 c := ⟨_, rfl⟩
  have HK_i3 : Hid (∀ w' d' sg', d'.t = d.t → SD w' q d' sg' → Calls Try.prog 56 #[.pointer (some ⟨q.p, 0, none⟩), .int .i64 3, .int .u8 c] w' (Gives (.bool i3) w')) := fun w' d' sg' et hh => by
    rw [h_i3, ← et]
    exact s_is (x := d'.ps) (ec := d'.ec) hh 3 c hc0 hc1
  have HE_i3 := hide' h_i3
  clear h_i3
  have e8 : d.loc 8 = q8 := HE_q8.out.symm
  rw [e8] at HK2
  rw [← HE_i5.out] at HQ HX HK1 HK2
  rw [← HE_i6.out, ← HE_i3.out] at HQ HX
  obtain ⟨en, hen⟩ : ∃ z, z = d.ends c := ⟨_, rfl⟩
  rw [← hen] at HQ HX HEN
  obtain ⟨rm, hrm⟩ : ∃ z, z = d.room c := ⟨_, rfl⟩
  rw [← hrm] at HQ HPT
  rw [HX.out]
  obtain ⟨E6, hE6⟩ : ∃ z, z = eraseS (DS.backs (fun _ => true) d.line.length d) c := ⟨_, rfl⟩
  have HT6 : Hid (E6.t = d.t) := by show E6.t = d.t; rw [hE6, eraseS_t, backsP_t]
  rw [← hE6] at HK2 HEA HSH
  clear hE6
  clear h hO hT hN hn hc0 hc1 e8 HE_q8 HE_i5 HE_i6 HE_i3 hen hrm HX
  go_enter Try.func59, Try.ntmps59
  have s0 := HR0.out.dp
  go_wp2_with fail
  refine (HK_i5.out _ _ _ rfl HR0.out).mono ?_
  rintro e w1 ⟨rfl, hs⟩
  have HR1 := hide' (HR0.out.keep hs)
  have HS1 := hide' (HS0.out.trans (hs.mono (T := q.U) (fun _ _ h => h.elim)))
  clear hs HR0 HS0 s0
  cases i5
  · have s0 := HR1.out.dp
    go_wp2_with fail
    refine (HK_i6.out _ _ _ rfl HR1.out).mono ?_
    rintro e w2 ⟨rfl, hs⟩
    have HR2 := hide' (HR1.out.keep hs)
    have HS2 := hide' (HS1.out.trans (hs.mono (T := q.U) (fun _ _ h => h.elim)))
    clear hs HR1 HS1 s0
    cases i6
    · have s0 := HR2.out.dp
      go_wp2_with fail
      refine (HK_i3.out _ _ _ rfl HR2.out).mono ?_
      rintro e w3 ⟨rfl, hs⟩
      have HR3 := hide' (HR2.out.keep hs)
      have HS3 := hide' (HS2.out.trans (hs.mono (T := q.U) (fun _ _ h => h.elim)))
      clear hs HR2 HS2 s0
      cases i3
      · go_wp2_with fail
        refine (HEN.out _ HR3.out).mono ?_
        rintro e w4 ⟨rfl, hs⟩
        have HR4 := hide' (HR3.out.keep hs)
        have HS4 := hide' (HS3.out.trans (hs.mono (T := q.U) (fun _ _ h => h.elim)))
        clear hs HR3 HS3
        cases en
        · go_wp2
          go_ret
          refine ⟨rfl, ?_, HS4.out⟩
          rw [HQ.out]
          exact HR4.out
        · go_wp2_with fail
          refine (HPT.out _ HR4.out).mono ?_
          rintro e w5 ⟨rfl, hr, hs⟩
          have HR5 := hide' hr
          have HS5 := hide' (HS4.out.trans hs)
          clear hr hs HR4 HS4
          cases rm
          · go_wp2
            go_ret
            refine ⟨rfl, ?_, HS5.out⟩
            rw [HQ.out]
            exact HR5.out
          · go_wp2_with fail
            refine (HN2.out _ HR5.out).mono ?_
            rintro e w6 ⟨rfl, hr, hs⟩
            have HR6 := hide' hr
            have HS6 := hide' (HS5.out.trans hs)
            clear hr hs HR5 HS5
            go_wp2
            go_ret
            refine ⟨rfl, ?_, HS6.out⟩
            rw [HQ.out]
            exact HR6.out
      · go_wp2_with fail
        refine (HND.out _ HR3.out).mono ?_
        rintro e w4 ⟨rfl, hr, hs⟩
        have HR4 := hide' hr
        have HS4 := hide' (HS3.out.trans hs)
        clear hr hs HR3 HS3
        go_wp2
        go_ret
        refine ⟨rfl, ?_, HS4.out⟩
        rw [HQ.out]
        exact HR4.out
    · have HKE : Hid (d.kills c = if q8 = true then E6.shw 10 else E6) := HK2.out (by first | rfl | trivial)
      go_wp2_with fail
      refine (HEA.out _ HR2.out).mono ?_
      rintro e w3 ⟨rfl, hr, hs⟩
      have HR3 := hide' hr
      have HS3 := hide' (HS2.out.trans hs)
      clear hr hs HR2 HS2
      have s0 := HR3.out.dp
      go_wp2_with fail
      refine (HK_q8.out _ _ _ HT6.out HR3.out).mono ?_
      rintro e w4 ⟨rfl, hs⟩
      have HR4 := hide' (HR3.out.keep hs)
      have HS4 := hide' (HS3.out.trans (hs.mono (T := q.U) (fun _ _ h => h.elim)))
      clear hs HR3 HS3 s0
      cases q8
      · go_wp2
        go_ret
        refine ⟨rfl, ?_, HS4.out⟩
        rw [HQ.out, if_pos (by first | rfl | simp), HKE.out, if_neg (by simp)]
        exact HR4.out
      · go_wp2_with fail
        refine (HSH.out _ HR4.out).mono ?_
        rintro e w5 ⟨rfl, hr, hs⟩
        have HR5 := hide' hr
        have HS5 := hide' (HS4.out.trans hs)
        clear hr hs HR4 HS4
        go_wp2
        go_ret
        refine ⟨rfl, ?_, HS5.out⟩
        rw [HQ.out, if_pos (by first | rfl | simp), HKE.out, if_pos (by first | rfl | simp)]
        exact HR5.out
  · have HKE : Hid (d.kills c = eraseS (DS.backs (fun _ => true) 1 d) c) := HK1.out (by first | rfl | trivial)
    obtain ⟨E5, hE5⟩ : ∃ z, z = eraseS (DS.backs (fun _ => true) 1 d) c := ⟨_, rfl⟩
    rw [← hE5] at HKE HER
    clear hE5
    go_wp2_with fail
    refine (HER.out _ HR1.out).mono ?_
    rintro e w2 ⟨rfl, hr, hs⟩
    have HR2 := hide' hr
    have HS2 := hide' (HS1.out.trans hs)
    clear hr hs HR1 HS1
    go_wp2
    go_ret
    refine ⟨rfl, ?_, HS2.out⟩
    rw [HQ.out, if_pos (by first | rfl | simp), HKE.out]
    exact HR2.out

end Go.Proofs.Ytjfhmpjpdcckhaa.L18
