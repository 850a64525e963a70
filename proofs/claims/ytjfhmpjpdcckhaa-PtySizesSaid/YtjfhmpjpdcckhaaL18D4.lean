/-
  The program shows a byte; what is lost; what ends a line; whether there is room: walked. No conditions.
-/
import Derived.Test.YtjfhmpjpdcckhaaL18D3
namespace Go.Proofs.Ytjfhmpjpdcckhaa.L18
open Go.RowKit

open L17

variable {q : Pl} {d : DS} {sg : Int}

theorem iarg_new (w : World) (cs : Array Value) (l : List Int) (n : Nat) (hl : cs.toList = l.map (.int .u8 ·)) (hn : cs.size = n) (hw : ∀ x ∈ l, (Lit.int .u8 x).wf = true) (hm : n ≤ 1000) : IArg .u8 (w.alloc (.cells cs 5)) (.slice (some ⟨w.heap.size, 0, none⟩) n n) l (some ⟨w.heap.size, 0, none⟩) n := by
  have h := (Acc.new w cs l n hl hn hw hm)
  obtain ⟨a, c, h1, _⟩ := owned_arg h.own h.wf
  obtain ⟨e1, _, e2⟩ := iarg_shape h1 rfl
  rw [← e1, ← e2]
  rw [← e1, ← e2] at h1
  exact h1

theorem picP_wf (fl c : Int) (h0 : 0 ≤ c) (h1 : c < 256) : ∀ y ∈ picP fl c, (Lit.int .u8 y).wf = true := by
  obtain ⟨a1, a2⟩ := xor_64 c h0 h1
  unfold picP
  split
  · rename_i h
    intro y hy
    simp only [List.mem_cons, List.not_mem_nil, or_false] at hy
    rcases hy with rfl | rfl
    · decide
    · rcases h.2 with h | h
      · rw [a1 h.1]; exact wf_u8_of (by omega) (by omega)
      · rw [a2 h]; decide
  · intro y hy
    simp only [List.mem_cons, List.not_mem_nil, or_false] at hy
    rw [hy]; exact wf_u8_of h0 h1

set_option maxHeartbeats 1000000 in
theorem s_showR {r : Pd} (c : Int) (w : World) (h : SR w q r d sg) (ht : rightB d.t = true) (hc0 : 0 ≤ c) (hc1 : c < 256) (hn : d.ec.length ≤ 900000) : Calls Try.prog 54 #[.pointer (some ⟨q.b, 0, none⟩), .int .u8 c] w (TurnR9 q r (d.shw c) sg (.tuple #[]) w) := by
  have HR0 := hide' h
  have HS0 := hide' (Stay.refl q.U w)
  have hT := ht
  have HPI : Hid (∀ w', SD w' q d sg → Calls Try.prog 62 #[.pointer (some ⟨q.b, 0, none⟩), .int .u8 c] w' (GivesN (d.pic c) w')) := fun w' hh => by
    have e : picP d.ps.t.fl c = d.pic c := (picP_eq d c hc0 hc1).symm
    rw [← e]
    have ht2 : rightB d.ps.t = true := ht
    exact s_picture (x := d.ps) (ec := d.ec) (sg := sg) c hh ht2 hc0 hc1
  have HN : Hid (d.ec.length + (d.pic c).length ≤ 1000000) := by
    have := picP_len d.t.fl c
    rw [← picP_eq d c hc0 hc1] at this
    show _ ≤ _
    omega
  have HWF : Hid (∀ y ∈ d.pic c, (Lit.int .u8 y).wf = true) := by rw [picP_eq d c hc0 hc1]; exact picP_wf _ _ hc0 hc1
  obtain ⟨q2, h_q2⟩ : ∃ z, z = hasB d.t.fl 2 := ⟨_, rfl⟩
  have HK_q2 : Hid (∀ w' d' sg', d'.t = d.t → SD w' q d' sg' → Calls Try.prog 31 #[.pointer (some ⟨q.p, 0, none⟩), .int .i64 2] w' (Gives (.bool q2) w')) := fun w' d' sg' et hh => by
    rw [h_q2, ← et]
    have ht : rightB d'.ps.t = true := by show rightB d'.t = true; rw [et]; exact hT
    exact s_local (x := d'.ps) (ec := d'.ec) hh ht 2 (by simp)
  have HE_q2 := hide' h_q2
  clear h_q2
  have HQ : Hid (d.shw c = if q2 = true then d.out (d.pic c) else d) := by rw [HE_q2.out]; exact rfl
  clear h ht hT hc0 hc1 hn HE_q2
  go_enter Try.func54, Try.ntmps54
  have s0 := HR0.out.dp
  go_wp2_with fail
  refine (HK_q2.out _ _ _ rfl HR0.out.sd).mono ?_
  rintro e w1 ⟨rfl, hs⟩
  have HR1 := hide' (HR0.out.keep hs)
  have HS1 := hide' (HS0.out.trans (hs.mono (T := q.U) (fun _ _ h => h.elim)))
  clear hs HR0 HS0 s0
  cases q2
  · go_wp2
    go_returns
    refine ⟨rfl, ?_, HS1.out⟩
    rw [HQ.out, if_neg (by simp)]
    exact HR1.out
  · obtain ⟨ea, cap, hO⟩ := HR1.out.open
    rw [if_pos rfl] at HQ
    go_upto_region 1 with fail
    refine any_begin (fun _ => True) (by kernel_rfl) (fun K0 hK0 => ?_)
    have HO := hide' (hO.keep ((Stay.refl _ _).drew (w' := w1)))
    have HRW := hide' (HR1.out.sd.keep ((Stay.refl _ w1).drew))
    have HST := hide' ((Stay.refl (fun _ => False) w1).drew)
    clear hO
    obtain ⟨wd, hwd⟩ : ∃ z, z = w1.drew := ⟨_, rfl⟩
    rw [← hwd] at HO HRW HST ⊢
    clear hwd
    refine any_take (i := 0) hK0 (some 9) (.move (.tmp 0)) 79 _ (by kernel_rfl) (fun _ d _ _ _ h => by cases d <;> exact h) (by kernel_rfl) (by kernel_rfl) (fun w' hS' => by simp only [opr]; go_simp; try with_reducible rfl) trivial (fun K1 hK1 => ?_)
    clear hK0 K0
    try simp only [Act.put, List.setIfInBounds_toArray, List.set_cons_zero, List.set_cons_succ]
    refine any_take (i := 1) hK1 (some 10) (.move (.tmp 0)) 79 _ (by kernel_rfl) (fun _ d _ _ _ h => by cases d <;> exact h) (by kernel_rfl) (by kernel_rfl) (fun w' hS' => by simp only [opr]; go_simp; try with_reducible rfl) trivial (fun K2 hK2 => ?_)
    clear hK1 K1
    try simp only [Act.put, List.setIfInBounds_toArray, List.set_cons_zero, List.set_cons_succ]
    refine any_take (i := 2) hK2 (some 11) (.nilCheck (.tmp 10)) 0 _ (by kernel_rfl) (fun _ d _ _ _ h => by cases d <;> exact h) (by kernel_rfl) (by kernel_rfl) (fun w' hS' => by simp only [opr]; go_simp; try with_reducible rfl) trivial (fun K3 hK3 => ?_)
    clear hK2 K2
    try simp only [Act.put, List.setIfInBounds_toArray, List.set_cons_zero, List.set_cons_succ]
    refine any_take (i := 3) hK3 (some 12) (.fieldAddr 74 (.tmp 11) 1) 0 _ (by kernel_rfl) (fun _ d _ _ _ h => by cases d <;> exact h) (by kernel_rfl) (by kernel_rfl) (fun w' hS' => by simp only [opr]; go_simp; try with_reducible rfl) trivial (fun K4 hK4 => ?_)
    clear hK3 K3
    try simp only [Act.put, List.setIfInBounds_toArray, List.set_cons_zero, List.set_cons_succ]
    refine any_take (i := 5) hK4 (some 14) (.move (.tmp 0)) 79 _ (by kernel_rfl) (fun _ d _ _ _ h => by cases d <;> exact h) (by kernel_rfl) (by kernel_rfl) (fun w' hS' => by simp only [opr]; go_simp; try with_reducible rfl) trivial (fun K5 hK5 => ?_)
    clear hK4 K4
    try simp only [Act.put, List.setIfInBounds_toArray, List.set_cons_zero, List.set_cons_succ]
    refine any_take (i := 6) hK5 (some 15) (.move (.tmp 1)) 5 _ (by kernel_rfl) (fun _ d _ _ _ h => by cases d <;> exact h) (by kernel_rfl) (by kernel_rfl) (fun w' hS' => by simp only [opr]; go_simp; try with_reducible rfl) trivial (fun K6 hK6 => ?_)
    clear hK5 K5
    try simp only [Act.put, List.setIfInBounds_toArray, List.set_cons_zero, List.set_cons_succ]
    refine any_pick (rs := [4, 7]) hK6 (by kernel_rfl) (fun K7 hK7 => ?_)
    clear hK6 K6
    intro i hi
    simp only [List.mem_cons, List.not_mem_nil, or_false] at hi
    rcases hi with rfl | rfl
    · refine op_plain (some 13) (.load 22 (.tmp 12)) 22 (by kernel_rfl) (by kernel_rfl) ?_
      have s1 := HO.out.box.c1
      simp only at s1
      go_wp2
      clear s1
      refine hK7 4 (by simp) _ _ trivial (any_more fun K8 hK8 => ?_)
      clear hK7 K7
      refine any_pick (rs := [7]) hK8 (by kernel_rfl) (fun K9 hK9 => ?_)
      clear hK8 K8
      intro i hi
      simp only [List.mem_cons, List.not_mem_nil, or_false] at hi
      rcases hi with rfl
      refine op_plain (some 16) (.call { callee := Callee.value (.func 62), args := #[.tmp 14, .tmp 15], argTypes := #[79, 5] }) 22 (by kernel_rfl) (by kernel_rfl) ?_
      go_wp2_with fail
      refine (HPI.out _ HRW.out).mono ?_
      intro e wk1 hg
      obtain ⟨pa, pc, rfl, harg, hs⟩ := hg.arg
      have HAR := hide' harg
      have HO' := hide' (HO.out.keep hs)
      have HRW' := hide' (HRW.out.keep hs)
      have HST' := hide' (HST.out.trans hs)
      clear hg harg hs
      clear HO
      have HO := HO'
      clear HO'
      clear HRW
      have HRW := HRW'
      clear HRW'
      clear HST
      have HST := HST'
      clear HST'
      go_wp2
      refine hK9 7 (by simp) _ _ trivial (any_more fun K10 hK10 => ?_)
      clear hK9 K9
      refine any_pick (rs := [8]) hK10 (by kernel_rfl) (fun K11 hK11 => ?_)
      clear hK10 K10
      intro i hi
      simp only [List.mem_cons, List.not_mem_nil, or_false] at hi
      rcases hi with rfl
      refine op_plain (some 17) (.call { callee := Callee.builtin Builtin.append, args := #[.tmp 13, .tmp 16], argTypes := #[22, 22] }) 22 (by kernel_rfl) (by kernel_rfl) ?_
      go_wp2_with (at_builtin; go_must (refine win_app rfl _ _ rfl HO.out.ecw rfl HAR.out rfl HN.out ?_; intro va vn vc wk2 hvn hwn hst hbn; have HVN := hide' hvn; have HWN := hide' hwn; have HBN := hide' hbn; have HSN := hide' hst; clear hvn hwn hst hbn))
      refine hK11 8 (by simp) _ _ trivial (any_more fun K12 hK12 => ?_)
      clear hK11 K11
      refine any_take (i := 9) hK12 (some 18) (.nilCheck (.tmp 9)) 0 _ (by kernel_rfl) (fun _ d _ _ _ h => by cases d <;> exact h) (by kernel_rfl) (by kernel_rfl) (fun w' hS' => by simp only [opr]; go_simp; try with_reducible rfl) trivial (fun K13 hK13 => ?_)
      clear hK12 K12
      try simp only [Act.put, List.setIfInBounds_toArray, List.set_cons_zero, List.set_cons_succ]
      refine any_take (i := 10) hK13 (some 19) (.fieldAddr 74 (.tmp 18) 1) 0 _ (by kernel_rfl) (fun _ d _ _ _ h => by cases d <;> exact h) (by kernel_rfl) (by kernel_rfl) (fun w' hS' => by simp only [opr]; go_simp; try with_reducible rfl) trivial (fun K14 hK14 => ?_)
      clear hK13 K13
      try simp only [Act.put, List.setIfInBounds_toArray, List.set_cons_zero, List.set_cons_succ]
      refine any_pick (rs := [11]) hK14 (by kernel_rfl) (fun K15 hK15 => ?_)
      clear hK14 K14
      intro i hi
      simp only [List.mem_cons, List.not_mem_nil, or_false] at hi
      rcases hi with rfl
      refine op_plain none (.store 22 (.tmp 19) (.tmp 17)) 0 (by kernel_rfl) (by kernel_rfl) ?_
      have hBX := HO.out.box.stay HSN.out (fun e => (HO.out.m1 _ e).2 rfl)
      obtain ⟨s0, s1, s2, g0, g1, g2⟩ := hBX
      go_wp2
      clear s0 s1 s2 g0 g1 g2
      have HFIN := hide' (HO.out.show HSN.out HVN.out HWN.out HBN.out HWF.out)
      obtain ⟨wk3, hW⟩ : ∃ Wq, Wq = wk2.setCell ⟨q.b, 1, none⟩ (.slice va vn vc) := ⟨_, rfl⟩
      rw [← hW] at HFIN ⊢
      clear hW
      refine hK15 11 (by simp) _ _ trivial (any_more fun K16 hK16 => ?_)
      clear hK15 K15
      refine any_done hK16 (by kernel_rfl) ?_
      clear hK16 K16
      go_wp2
      go_returns
      refine ⟨rfl, ?_, (HS1.out.trans (HST.out.mono (T := q.U) (fun _ _ h => h.elim))).trans HFIN.out.2⟩
      rw [HQ.out]
      exact HFIN.out.1
    · refine op_plain (some 16) (.call { callee := Callee.value (.func 62), args := #[.tmp 14, .tmp 15], argTypes := #[79, 5] }) 22 (by kernel_rfl) (by kernel_rfl) ?_
      go_wp2_with fail
      refine (HPI.out _ HRW.out).mono ?_
      intro e wk4 hg
      obtain ⟨pa, pc, rfl, harg, hs⟩ := hg.arg
      have HAR := hide' harg
      have HO' := hide' (HO.out.keep hs)
      have HRW' := hide' (HRW.out.keep hs)
      have HST' := hide' (HST.out.trans hs)
      clear hg harg hs
      clear HO
      have HO := HO'
      clear HO'
      clear HRW
      have HRW := HRW'
      clear HRW'
      clear HST
      have HST := HST'
      clear HST'
      go_wp2
      refine hK7 7 (by simp) _ _ trivial (any_more fun K8 hK8 => ?_)
      clear hK7 K7
      refine any_pick (rs := [4]) hK8 (by kernel_rfl) (fun K9 hK9 => ?_)
      clear hK8 K8
      intro i hi
      simp only [List.mem_cons, List.not_mem_nil, or_false] at hi
      rcases hi with rfl
      refine op_plain (some 13) (.load 22 (.tmp 12)) 22 (by kernel_rfl) (by kernel_rfl) ?_
      have s1 := HO.out.box.c1
      simp only at s1
      go_wp2
      clear s1
      refine hK9 4 (by simp) _ _ trivial (any_more fun K10 hK10 => ?_)
      clear hK9 K9
      refine any_pick (rs := [8]) hK10 (by kernel_rfl) (fun K11 hK11 => ?_)
      clear hK10 K10
      intro i hi
      simp only [List.mem_cons, List.not_mem_nil, or_false] at hi
      rcases hi with rfl
      refine op_plain (some 17) (.call { callee := Callee.builtin Builtin.append, args := #[.tmp 13, .tmp 16], argTypes := #[22, 22] }) 22 (by kernel_rfl) (by kernel_rfl) ?_
      go_wp2_with (at_builtin; go_must (refine win_app rfl _ _ rfl HO.out.ecw rfl HAR.out rfl HN.out ?_; intro va vn vc wk5 hvn hwn hst hbn; have HVN := hide' hvn; have HWN := hide' hwn; have HBN := hide' hbn; have HSN := hide' hst; clear hvn hwn hst hbn))
      refine hK11 8 (by simp) _ _ trivial (any_more fun K12 hK12 => ?_)
      clear hK11 K11
      refine any_take (i := 9) hK12 (some 18) (.nilCheck (.tmp 9)) 0 _ (by kernel_rfl) (fun _ d _ _ _ h => by cases d <;> exact h) (by kernel_rfl) (by kernel_rfl) (fun w' hS' => by simp only [opr]; go_simp; try with_reducible rfl) trivial (fun K13 hK13 => ?_)
      clear hK12 K12
      try simp only [Act.put, List.setIfInBounds_toArray, List.set_cons_zero, List.set_cons_succ]
      refine any_take (i := 10) hK13 (some 19) (.fieldAddr 74 (.tmp 18) 1) 0 _ (by kernel_rfl) (fun _ d _ _ _ h => by cases d <;> exact h) (by kernel_rfl) (by kernel_rfl) (fun w' hS' => by simp only [opr]; go_simp; try with_reducible rfl) trivial (fun K14 hK14 => ?_)
      clear hK13 K13
      try simp only [Act.put, List.setIfInBounds_toArray, List.set_cons_zero, List.set_cons_succ]
      refine any_pick (rs := [11]) hK14 (by kernel_rfl) (fun K15 hK15 => ?_)
      clear hK14 K14
      intro i hi
      simp only [List.mem_cons, List.not_mem_nil, or_false] at hi
      rcases hi with rfl
      refine op_plain none (.store 22 (.tmp 19) (.tmp 17)) 0 (by kernel_rfl) (by kernel_rfl) ?_
      have hBX := HO.out.box.stay HSN.out (fun e => (HO.out.m1 _ e).2 rfl)
      obtain ⟨s0, s1, s2, g0, g1, g2⟩ := hBX
      go_wp2
      clear s0 s1 s2 g0 g1 g2
      have HFIN := hide' (HO.out.show HSN.out HVN.out HWN.out HBN.out HWF.out)
      obtain ⟨wk6, hW⟩ : ∃ Wq, Wq = wk5.setCell ⟨q.b, 1, none⟩ (.slice va vn vc) := ⟨_, rfl⟩
      rw [← hW] at HFIN ⊢
      clear hW
      refine hK15 11 (by simp) _ _ trivial (any_more fun K16 hK16 => ?_)
      clear hK15 K15
      refine any_done hK16 (by kernel_rfl) ?_
      clear hK16 K16
      go_wp2
      go_returns
      refine ⟨rfl, ?_, (HS1.out.trans (HST.out.mono (T := q.U) (fun _ _ h => h.elim))).trans HFIN.out.2⟩
      rw [HQ.out]
      exact HFIN.out.1

theorem s_show (c : Int) (w : World) (h : SD w q d sg) (ht : rightB d.t = true) (hc0 : 0 ≤ c) (hc1 : c < 256) (hn : d.ec.length ≤ 900000) : Calls Try.prog 54 #[.pointer (some ⟨q.b, 0, none⟩), .int .u8 c] w (TurnD q (d.shw c) sg (.tuple #[]) w) := by
  obtain ⟨r, e, h⟩ := h
  refine (s_showR (r := r) c w ⟨e, h⟩ ht hc0 hc1 hn).mono ?_
  rintro e1 w1 ⟨h1, h2, h3⟩
  exact ⟨h1, h2.sd, h3⟩

set_option maxHeartbeats 1000000 in
theorem s_lose (w : World) (h : SD w q d sg) (hn : d.ec.length ≤ 900000) : Calls Try.prog 53 #[.pointer (some ⟨q.b, 0, none⟩)] w (TurnD q d.lost sg (.tuple #[]) w) := by
  have HR0 := hide' h
  have HS0 := hide' (Stay.refl q.U w)
  have HN : Hid (d.ec.length + [(7 : Int)].length ≤ 1000000) := by show _ ≤ _; simp; omega
  have HWF : Hid (∀ y ∈ [(7 : Int)], (Lit.int .u8 y).wf = true) := fun y hy => by simp at hy; subst hy; decide
  obtain ⟨q64, h_q64⟩ : ∃ z, z = hasB d.t.fi 64 := ⟨_, rfl⟩
  have HK_q64 : Hid (∀ w' d' sg', d'.t = d.t → SD w' q d' sg' → Calls Try.prog 41 #[.pointer (some ⟨q.p, 0, none⟩), .int .i64 64] w' (Gives (.bool q64) w')) := fun w' d' sg' et hh => by
    rw [h_q64, ← et]
    exact s_in (x := d'.ps) (ec := d'.ec) hh 64
  have HE_q64 := hide' h_q64
  clear h_q64
  have HQ : Hid (d.lost = if q64 = true then d.out [7] else d) := by rw [HE_q64.out]; exact rfl
  clear h hn HE_q64
  go_enter Try.func53, Try.ntmps53
  have s0 := HR0.out.dp
  go_wp2_with fail
  refine (HK_q64.out _ _ _ rfl HR0.out).mono ?_
  rintro e w1 ⟨rfl, hs⟩
  have HR1 := hide' (HR0.out.keep hs)
  have HS1 := hide' (HS0.out.trans (hs.mono (T := q.U) (fun _ _ h => h.elim)))
  clear hs HR0 HS0 s0
  cases q64
  · go_wp2
    go_returns
    refine ⟨rfl, ?_, HS1.out⟩
    rw [HQ.out, if_neg (by simp)]
    exact HR1.out
  · rw [if_pos rfl] at HQ
    obtain ⟨r2, ea2, cap2, hO⟩ := HR1.out.open
    have HO := hide' (hO.keep ((Stay.refl _ w1).alloc (.cells #[.int .u8 7] 5)))
    have HAR := hide' (iarg_new w1 #[.int .u8 7] [7] 1 rfl rfl HWF.out (by omega))
    obtain ⟨s0, s1, s2, g0, g1, g2⟩ := hO.box
    simp only at s0 s1 s2
    clear hO
    go_wp2_with (at_builtin; go_must (refine win_app rfl _ _ rfl HO.out.ecw rfl HAR.out rfl HN.out ?_; intro va vn vc wa hvn hwn hst hbn; have HVN := hide' hvn; have HWN := hide' hwn; have HBN := hide' hbn; have HSN := hide' hst; clear hvn hwn hst hbn s0 s1 s2 g0 g1 g2; obtain ⟨s0, s1, s2, g0, g1, g2⟩ := HO.out.box.stay HSN.out (fun e => (HO.out.m1 _ e).2 rfl); simp only at s0 s1 s2; go_wp2_with fail))
    have HFIN := hide' (HO.out.show HSN.out HVN.out HWN.out HBN.out HWF.out)
    obtain ⟨w2, hW⟩ : ∃ z, z = wa.setCell ⟨q.b, 1, none⟩ (.slice va vn vc) := ⟨_, rfl⟩
    rw [← hW] at HFIN ⊢
    clear hW s0 s1 s2 g0 g1 g2
    have HR2 := hide' HFIN.out.1.sd
    have HS2 := hide' ((HS1.out.alloc (.cells #[.int .u8 7] 5)).trans HFIN.out.2)
    clear HFIN HO HVN HWN HBN HSN HR1 HS1 HAR
    go_wp2
    go_returns
    refine ⟨rfl, ?_, HS2.out⟩
    rw [HQ.out]
    exact HR2.out

end Go.Proofs.Ytjfhmpjpdcckhaa.L18
