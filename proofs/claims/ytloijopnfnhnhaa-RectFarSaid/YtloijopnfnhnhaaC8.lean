/-
  One rectangle more, if it has cells: walked. No conditions.
-/
import Derived.Test.YtloijopnfnhnhaaC7
namespace Go.Proofs.Ytloijopnfnhnhaa
open Go.RowKit

theorem Box.stay {T : Nat → Prop} {W w1 : World} {b : Nat} {r : R} (h : Box W b r) (hs : Stay T W w1) (hn : ¬ T b) : Box w1 b r := by
  have hb : b < W.heap.size := World.block_lt_of_cell? _ _ h.c0
  have c : ∀ o, w1.cell? ⟨b, o, none⟩ = W.cell? ⟨b, o, none⟩ := fun o => hs.cell (p := ⟨b, o, none⟩) hb hn
  have f : ∀ o, w1.frozen? ⟨b, o, none⟩ = W.frozen? ⟨b, o, none⟩ := fun o => hs.frozen (p := ⟨b, o, none⟩) hb hn
  exact ⟨(c 0).trans h.c0, (c 1).trans h.c1, (c 2).trans h.c2, (c 3).trans h.c3, (f 0).trans h.f0, (f 1).trans h.f1, (f 2).trans h.f2, (f 3).trans h.f3⟩

def putL (L : List R) (r : R) : List R := if emptyB r = true then L else L ++ [r]

/-- Rectangles are handed back, and nothing that was there has turned. -/
def GivesRects (L : List R) (w : World) (e : Ending) (w' : World) : Prop := ∃ t, e = .returned t ∧ Rects w' t L ∧ Stay (fun _ => False) w w'

theorem Try.info23 : (Try.prog.info? 23).map (fun i => (i.zero, i.size, i.bytes)) = some (some (.agg #[.int .i64 0, .int .i64 0, .int .i64 0, .int .i64 0]), 4, 32) := by kernel_rfl

set_option maxHeartbeats 2000000 in
theorem put26 (v : Value) (L : List R) (r : R) (w : World) (hv : Rects w v L) (hL : L.length ≤ 1000) : Calls Try.prog 26 #[v, .agg #[.int .i64 r.x, .int .i64 r.y, .int .i64 r.w, .int .i64 r.h]] w (GivesRects (putL L r) w) := by
  have HS := hide' ((Stay.refl (fun _ => False) w).alloc (.cells #[.int .i64 r.x, .int .i64 r.y, .int .i64 r.w, .int .i64 r.h] 23))
  have HV := hide' hv
  by_cases hw : r.w < 1
  · have HL : Hid (putL L r = L) := by
      show _ = _
      unfold putL emptyB; simp [hw]
    have d1 : decide (r.w < 1) = true := by simpa using hw
    clear hw hv
    go_enter Try.func26, Try.ntmps26
    go_wp2
    go_ret
    exact ⟨v, rfl, by rw [HL.out]; exact HV.out.keep HS.out, HS.out⟩
  by_cases hh : r.h < 1
  · have HL : Hid (putL L r = L) := by
      show _ = _
      unfold putL emptyB; simp [hh]
    have d1 : decide (r.w < 1) = false := by simpa using hw
    have d2 : decide (r.h < 1) = true := by simpa using hh
    clear hw hh hv
    go_enter Try.func26, Try.ntmps26
    go_wp2
    go_ret
    exact ⟨v, rfl, by rw [HL.out]; exact HV.out.keep HS.out, HS.out⟩
  have HL : Hid (putL L r = L ++ [r]) := by
    show _ = _
    unfold putL emptyB; simp [hh, hw]
  have d1 : decide (r.w < 1) = false := by simpa using hw
  have d2 : decide (r.h < 1) = false := by simpa using hh
  have HB := hide' (Box.new (w := w) r rfl)
  clear hw hh hv
  go_enter Try.func26, Try.ntmps26
  go_wp2_with fail
  obtain ⟨w1, hw1⟩ : ∃ w1, w1 = (w.alloc (.cells #[.int .i64 r.x, .int .i64 r.y, .int .i64 r.w, .int .i64 r.h] 23)) := ⟨_, rfl⟩
  rw [← hw1] at HS HB
  rw [← hw1]
  clear hw1
  refine any_begin (fun w' => Stay (fun _ => False) w w' ∧ Box w' w.heap.size r) (by kernel_rfl) (fun K0 hK0 => ?_)
  have hS : Stay (fun _ => False) w w1.drew ∧ Box w1.drew w.heap.size r := ⟨HS.out.drew, HB.out.keep (Stay.refl _ _).drew⟩
  obtain ⟨w2, hw2⟩ : ∃ w2, w2 = w1.drew := ⟨_, rfl⟩
  rw [← hw2] at hS
  rw [← hw2]
  clear hw2 HS HB
  refine any_take (i := 1) hK0 (some 15) (.move (.tmp 0)) 29 _ (by kernel_rfl) (fun _ d _ _ _ h => by cases d <;> exact h) (by kernel_rfl) (by kernel_rfl) (fun w' hS' => by simp only [opr]; go_simp; try with_reducible rfl) hS (fun K1 hK1 => ?_)
  clear hK0 K0
  simp only [Act.put, List.setIfInBounds_toArray, List.set_cons_zero, List.set_cons_succ]
  refine any_take (i := 3) hK1 (some 17) (.load 23 (.tmp 3)) 23 _ (by kernel_rfl) (fun _ d _ _ _ h => by cases d <;> exact h) (by kernel_rfl) (by kernel_rfl) (fun w' hS' => by exact run_load_box rfl rfl hS'.2) hS (fun K2 hK2 => ?_)
  clear hK1 K1
  simp only [Act.put, List.setIfInBounds_toArray, List.set_cons_zero, List.set_cons_succ]
  refine any_pick (rs := [0, 4]) hK2 (by kernel_rfl) (fun K3 hK3 => ?_)
  clear hK2 K2
  intro i hi
  simp only [List.mem_cons, List.not_mem_nil, or_false] at hi
  rcases hi with rfl | rfl
  · refine op_plain (some 14) (.buildSlice 29 0 #[]) 29 (by kernel_rfl) (by kernel_rfl) ?_
    go_wp2
    have st : Stay (fun _ => False) w2 (w2.alloc (.cells #[] 23)) := (Stay.refl _ _).alloc _
    have HO := hide' (ownsRow_base (owns_newS w2 #[] 23 4 0 rfl (by decide)) (World.block_lt_of_cell? _ _ hS.2.c0))
    have hS' : Stay (fun _ => False) w (w2.alloc (.cells #[] 23)) ∧ Box (w2.alloc (.cells #[] 23)) w.heap.size r := ⟨hS.1.trans st, hS.2.keep st⟩
    clear hS st
    have hS := hS'
    clear hS'
    obtain ⟨vO, hvO⟩ : ∃ v, v = Value.slice (some ⟨w2.heap.size, 0, none⟩) 0 0 := ⟨_, rfl⟩
    rw [← hvO] at HO
    rw [← hvO]
    clear hvO
    obtain ⟨W2, hW⟩ : ∃ W, W = (w2.alloc (.cells #[] 23)) := ⟨_, rfl⟩
    rw [← hW] at hS HO
    rw [← hW]
    clear hW
    refine hK3 0 (by simp) _ _ hS (any_more fun K4 hK4 => ?_)
    clear hK3 K3
    refine any_pick (rs := [2, 4]) hK4 (by kernel_rfl) (fun K5 hK5 => ?_)
    clear hK4 K4
    intro i hi
    simp only [List.mem_cons, List.not_mem_nil, or_false] at hi
    rcases hi with rfl | rfl
    · refine op_plain (some 16) (.call { callee := Callee.builtin Builtin.append, args := #[.tmp 14, .tmp 15], argTypes := #[29, 29] }) 29 (by kernel_rfl) (by kernel_rfl) ?_
      have hsz : w.heap.size + 1 ≤ W2.heap.size := World.block_lt_of_cell? _ _ hS.2.c0
      have hsrc := hide' (HV.out.keep hS.1).row
      go_wp2_with (at_builtin; refine appS rfl _ _ 29 rfl Try.underlying29 Try.info23 rfl (by decide) (by decide) HO.out rfl hsrc.out rfl (cells_one L) (by omega) hsz ?_; intro v4 W4 ho hst hb; have HO2 := hide' ho; have HT2 := hide' hst; have HB2 := hide' hb; clear ho hst hb)
      have st : Stay (fun _ => False) w W4 := (hS.1.mono (T := fun k => w.heap.size ≤ k) (fun _ _ h => h.elim)).trans (HT2.out.mono fun k _ hk => by have := (HO.out.lt _ hk).1; omega) |>.mono fun k hk h => by omega
      have sb : Box W4 w.heap.size r := hS.2.stay HT2.out (fun h => by have := (HO.out.lt _ h).1; omega)
      clear HO hsrc HB2 HT2
      have HO := HO2
      clear HO2
      have hS' : Stay (fun _ => False) w W4 ∧ Box W4 w.heap.size r := ⟨st, sb⟩
      clear hS st sb
      have hS := hS'
      clear hS'
      refine hK5 2 (by simp) _ _ hS (any_more fun K6 hK6 => ?_)
      clear hK5 K5
      refine any_pick (rs := [4]) hK6 (by kernel_rfl) (fun K7 hK7 => ?_)
      clear hK6 K6
      intro i hi
      simp only [List.mem_cons, List.not_mem_nil, or_false] at hi
      rcases hi with rfl
      refine op_plain (some 18) (.buildSlice 29 1 #[(0, .tmp 17)]) 29 (by kernel_rfl) (by kernel_rfl) ?_
      go_wp2
      have st : Stay (fun _ => False) W4 (W4.alloc (.cells #[.int .i64 r.x, .int .i64 r.y, .int .i64 r.w, .int .i64 r.h] 23)) := (Stay.refl _ _).alloc _
      have HR := hide' (isRowS_new W4 #[.int .i64 r.x, .int .i64 r.y, .int .i64 r.w, .int .i64 r.h] 23 4 1 rfl)
      obtain ⟨BR, hBR⟩ : ∃ B, B = W4.heap.size := ⟨_, rfl⟩
      rw [← hBR] at HR
      rw [← hBR]
      have HBR : Hid (w.heap.size < BR ∧ BR < (W4.alloc (.cells #[.int .i64 r.x, .int .i64 r.y, .int .i64 r.w, .int .i64 r.h] 23)).heap.size) := ⟨by rw [hBR]; exact World.block_lt_of_cell? _ _ hS.2.c0, by rw [hBR]; simp⟩
      have HNE : Hid (Value.ownBlock v4 ≠ some BR) := fun h => by have := (HO.out.lt _ h).2; omega
      have HO' := hide' (st.owns HO.out (fun _ _ h => h))
      clear HO
      have HO := HO'
      clear HO'
      clear hBR
      have hS' : Stay (fun _ => False) w (W4.alloc (.cells #[.int .i64 r.x, .int .i64 r.y, .int .i64 r.w, .int .i64 r.h] 23)) ∧ Box (W4.alloc (.cells #[.int .i64 r.x, .int .i64 r.y, .int .i64 r.w, .int .i64 r.h] 23)) w.heap.size r := ⟨hS.1.trans st, hS.2.keep st⟩
      clear hS st
      have hS := hS'
      clear hS'
      obtain ⟨W6, hW⟩ : ∃ W, W = (W4.alloc (.cells #[.int .i64 r.x, .int .i64 r.y, .int .i64 r.w, .int .i64 r.h] 23)) := ⟨_, rfl⟩
      rw [← hW] at hS HO HR HBR
      rw [← hW]
      clear hW
      refine hK7 4 (by simp) _ _ hS (any_more fun K8 hK8 => ?_)
      clear hK7 K7
      refine any_pick (rs := [5]) hK8 (by kernel_rfl) (fun K9 hK9 => ?_)
      clear hK8 K8
      intro i hi
      simp only [List.mem_cons, List.not_mem_nil, or_false] at hi
      rcases hi with rfl
      refine op_plain (some 19) (.call { callee := Callee.builtin Builtin.append, args := #[.tmp 16, .tmp 18], argTypes := #[29, 29] }) 29 (by kernel_rfl) (by kernel_rfl) ?_
      have hsz : w.heap.size + 1 ≤ W6.heap.size := World.block_lt_of_cell? _ _ hS.2.c0
      have hsrc := hide' HR.out
      go_wp2_with (at_builtin; refine appS rfl _ _ 29 rfl Try.underlying29 Try.info23 rfl (by decide) (by decide) HO.out rfl hsrc.out rfl (by intro u hu; simp at hu; rcases hu with rfl | rfl | rfl | rfl <;> rfl) (by omega) hsz ?_; intro v8 W8 ho hst hb; have HO2 := hide' ho; have HT2 := hide' hst; have HB2 := hide' hb; clear ho hst hb)
      have st : Stay (fun _ => False) w W8 := (hS.1.mono (T := fun k => w.heap.size ≤ k) (fun _ _ h => h.elim)).trans (HT2.out.mono fun k _ hk => by have := (HO.out.lt _ hk).1; omega) |>.mono fun k hk h => by omega
      have sb : Box W8 w.heap.size r := hS.2.stay HT2.out (fun h => by have := (HO.out.lt _ h).1; omega)
      have HR' := hide' (HR.out.stay HT2.out (fun k hk h => HNE.out (by cases hk; exact h)))
      have HNE' : Hid (v8.ownBlock ≠ some BR) := fun h => by
        rcases HB2.out with hb | hb
        · exact HNE.out (hb ▸ h)
        · rw [h] at hb; have := HBR.out.2; cases hb; omega
      have HBR' : Hid (w.heap.size < BR ∧ BR < W8.heap.size) := ⟨HBR.out.1, Nat.lt_of_lt_of_le HBR.out.2 HT2.out.size⟩
      clear HR HNE HBR
      have HR := HR'
      have HNE := HNE'
      have HBR := HBR'
      clear HR' HNE' HBR'
      clear HO hsrc HB2 HT2
      have HO := HO2
      clear HO2
      have hS' : Stay (fun _ => False) w W8 ∧ Box W8 w.heap.size r := ⟨st, sb⟩
      clear hS st sb
      have hS := hS'
      clear hS'
      refine hK9 5 (by simp) _ _ hS (any_more fun K10 hK10 => ?_)
      clear hK9 K9
      refine any_take (i := 6) hK10 (some 4) (.assign (.tmp 19)) 29 _ (by kernel_rfl) (fun _ d _ _ _ h => by cases d <;> exact h) (by kernel_rfl) (by kernel_rfl) (fun w' hS' => by simp only [opr]; go_simp; try with_reducible rfl) hS (fun K11 hK11 => ?_)
      clear hK10 K10
      simp only [Act.put, List.setIfInBounds_toArray, List.set_cons_zero, List.set_cons_succ]
      refine any_done hK11 (by kernel_rfl) ?_
      clear hK11 K11
      have HE := hide' (rects_of_owns (L := L ++ [r]) (by simpa [R.cells] using HO.out))
      have HF := hide' hS.1
      clear hS HO
      go_wp2
      go_ret
      exact ⟨_, rfl, by rw [HL.out]; exact HE.out, HF.out⟩
    · refine op_plain (some 18) (.buildSlice 29 1 #[(0, .tmp 17)]) 29 (by kernel_rfl) (by kernel_rfl) ?_
      go_wp2
      have st : Stay (fun _ => False) W2 (W2.alloc (.cells #[.int .i64 r.x, .int .i64 r.y, .int .i64 r.w, .int .i64 r.h] 23)) := (Stay.refl _ _).alloc _
      have HR := hide' (isRowS_new W2 #[.int .i64 r.x, .int .i64 r.y, .int .i64 r.w, .int .i64 r.h] 23 4 1 rfl)
      obtain ⟨BR, hBR⟩ : ∃ B, B = W2.heap.size := ⟨_, rfl⟩
      rw [← hBR] at HR
      rw [← hBR]
      have HBR : Hid (w.heap.size < BR ∧ BR < (W2.alloc (.cells #[.int .i64 r.x, .int .i64 r.y, .int .i64 r.w, .int .i64 r.h] 23)).heap.size) := ⟨by rw [hBR]; exact World.block_lt_of_cell? _ _ hS.2.c0, by rw [hBR]; simp⟩
      have HNE : Hid (Value.ownBlock vO ≠ some BR) := fun h => by have := (HO.out.lt _ h).2; omega
      have HO' := hide' (st.owns HO.out (fun _ _ h => h))
      clear HO
      have HO := HO'
      clear HO'
      clear hBR
      have hS' : Stay (fun _ => False) w (W2.alloc (.cells #[.int .i64 r.x, .int .i64 r.y, .int .i64 r.w, .int .i64 r.h] 23)) ∧ Box (W2.alloc (.cells #[.int .i64 r.x, .int .i64 r.y, .int .i64 r.w, .int .i64 r.h] 23)) w.heap.size r := ⟨hS.1.trans st, hS.2.keep st⟩
      clear hS st
      have hS := hS'
      clear hS'
      obtain ⟨W4, hW⟩ : ∃ W, W = (W2.alloc (.cells #[.int .i64 r.x, .int .i64 r.y, .int .i64 r.w, .int .i64 r.h] 23)) := ⟨_, rfl⟩
      rw [← hW] at hS HO HR HBR
      rw [← hW]
      clear hW
      refine hK5 4 (by simp) _ _ hS (any_more fun K6 hK6 => ?_)
      clear hK5 K5
      refine any_pick (rs := [2]) hK6 (by kernel_rfl) (fun K7 hK7 => ?_)
      clear hK6 K6
      intro i hi
      simp only [List.mem_cons, List.not_mem_nil, or_false] at hi
      rcases hi with rfl
      refine op_plain (some 16) (.call { callee := Callee.builtin Builtin.append, args := #[.tmp 14, .tmp 15], argTypes := #[29, 29] }) 29 (by kernel_rfl) (by kernel_rfl) ?_
      have hsz : w.heap.size + 1 ≤ W4.heap.size := World.block_lt_of_cell? _ _ hS.2.c0
      have hsrc := hide' (HV.out.keep hS.1).row
      go_wp2_with (at_builtin; refine appS rfl _ _ 29 rfl Try.underlying29 Try.info23 rfl (by decide) (by decide) HO.out rfl hsrc.out rfl (cells_one L) (by omega) hsz ?_; intro v6 W6 ho hst hb; have HO2 := hide' ho; have HT2 := hide' hst; have HB2 := hide' hb; clear ho hst hb)
      have st : Stay (fun _ => False) w W6 := (hS.1.mono (T := fun k => w.heap.size ≤ k) (fun _ _ h => h.elim)).trans (HT2.out.mono fun k _ hk => by have := (HO.out.lt _ hk).1; omega) |>.mono fun k hk h => by omega
      have sb : Box W6 w.heap.size r := hS.2.stay HT2.out (fun h => by have := (HO.out.lt _ h).1; omega)
      have HR' := hide' (HR.out.stay HT2.out (fun k hk h => HNE.out (by cases hk; exact h)))
      have HNE' : Hid (v6.ownBlock ≠ some BR) := fun h => by
        rcases HB2.out with hb | hb
        · exact HNE.out (hb ▸ h)
        · rw [h] at hb; have := HBR.out.2; cases hb; omega
      have HBR' : Hid (w.heap.size < BR ∧ BR < W6.heap.size) := ⟨HBR.out.1, Nat.lt_of_lt_of_le HBR.out.2 HT2.out.size⟩
      clear HR HNE HBR
      have HR := HR'
      have HNE := HNE'
      have HBR := HBR'
      clear HR' HNE' HBR'
      clear HO hsrc HB2 HT2
      have HO := HO2
      clear HO2
      have hS' : Stay (fun _ => False) w W6 ∧ Box W6 w.heap.size r := ⟨st, sb⟩
      clear hS st sb
      have hS := hS'
      clear hS'
      refine hK7 2 (by simp) _ _ hS (any_more fun K8 hK8 => ?_)
      clear hK7 K7
      refine any_pick (rs := [5]) hK8 (by kernel_rfl) (fun K9 hK9 => ?_)
      clear hK8 K8
      intro i hi
      simp only [List.mem_cons, List.not_mem_nil, or_false] at hi
      rcases hi with rfl
      refine op_plain (some 19) (.call { callee := Callee.builtin Builtin.append, args := #[.tmp 16, .tmp 18], argTypes := #[29, 29] }) 29 (by kernel_rfl) (by kernel_rfl) ?_
      have hsz : w.heap.size + 1 ≤ W6.heap.size := World.block_lt_of_cell? _ _ hS.2.c0
      have hsrc := hide' HR.out
      go_wp2_with (at_builtin; refine appS rfl _ _ 29 rfl Try.underlying29 Try.info23 rfl (by decide) (by decide) HO.out rfl hsrc.out rfl (by intro u hu; simp at hu; rcases hu with rfl | rfl | rfl | rfl <;> rfl) (by omega) hsz ?_; intro v8 W8 ho hst hb; have HO2 := hide' ho; have HT2 := hide' hst; have HB2 := hide' hb; clear ho hst hb)
      have st : Stay (fun _ => False) w W8 := (hS.1.mono (T := fun k => w.heap.size ≤ k) (fun _ _ h => h.elim)).trans (HT2.out.mono fun k _ hk => by have := (HO.out.lt _ hk).1; omega) |>.mono fun k hk h => by omega
      have sb : Box W8 w.heap.size r := hS.2.stay HT2.out (fun h => by have := (HO.out.lt _ h).1; omega)
      have HR' := hide' (HR.out.stay HT2.out (fun k hk h => HNE.out (by cases hk; exact h)))
      have HNE' : Hid (v8.ownBlock ≠ some BR) := fun h => by
        rcases HB2.out with hb | hb
        · exact HNE.out (hb ▸ h)
        · rw [h] at hb; have := HBR.out.2; cases hb; omega
      have HBR' : Hid (w.heap.size < BR ∧ BR < W8.heap.size) := ⟨HBR.out.1, Nat.lt_of_lt_of_le HBR.out.2 HT2.out.size⟩
      clear HR HNE HBR
      have HR := HR'
      have HNE := HNE'
      have HBR := HBR'
      clear HR' HNE' HBR'
      clear HO hsrc HB2 HT2
      have HO := HO2
      clear HO2
      have hS' : Stay (fun _ => False) w W8 ∧ Box W8 w.heap.size r := ⟨st, sb⟩
      clear hS st sb
      have hS := hS'
      clear hS'
      refine hK9 5 (by simp) _ _ hS (any_more fun K10 hK10 => ?_)
      clear hK9 K9
      refine any_take (i := 6) hK10 (some 4) (.assign (.tmp 19)) 29 _ (by kernel_rfl) (fun _ d _ _ _ h => by cases d <;> exact h) (by kernel_rfl) (by kernel_rfl) (fun w' hS' => by simp only [opr]; go_simp; try with_reducible rfl) hS (fun K11 hK11 => ?_)
      clear hK10 K10
      simp only [Act.put, List.setIfInBounds_toArray, List.set_cons_zero, List.set_cons_succ]
      refine any_done hK11 (by kernel_rfl) ?_
      clear hK11 K11
      have HE := hide' (rects_of_owns (L := L ++ [r]) (by simpa [R.cells] using HO.out))
      have HF := hide' hS.1
      clear hS HO
      go_wp2
      go_ret
      exact ⟨_, rfl, by rw [HL.out]; exact HE.out, HF.out⟩
  · refine op_plain (some 18) (.buildSlice 29 1 #[(0, .tmp 17)]) 29 (by kernel_rfl) (by kernel_rfl) ?_
    go_wp2
    have st : Stay (fun _ => False) w2 (w2.alloc (.cells #[.int .i64 r.x, .int .i64 r.y, .int .i64 r.w, .int .i64 r.h] 23)) := (Stay.refl _ _).alloc _
    have HR := hide' (isRowS_new w2 #[.int .i64 r.x, .int .i64 r.y, .int .i64 r.w, .int .i64 r.h] 23 4 1 rfl)
    obtain ⟨BR, hBR⟩ : ∃ B, B = w2.heap.size := ⟨_, rfl⟩
    rw [← hBR] at HR
    rw [← hBR]
    have HBR : Hid (w.heap.size < BR ∧ BR < (w2.alloc (.cells #[.int .i64 r.x, .int .i64 r.y, .int .i64 r.w, .int .i64 r.h] 23)).heap.size) := ⟨by rw [hBR]; exact World.block_lt_of_cell? _ _ hS.2.c0, by rw [hBR]; simp⟩
    clear hBR
    have hS' : Stay (fun _ => False) w (w2.alloc (.cells #[.int .i64 r.x, .int .i64 r.y, .int .i64 r.w, .int .i64 r.h] 23)) ∧ Box (w2.alloc (.cells #[.int .i64 r.x, .int .i64 r.y, .int .i64 r.w, .int .i64 r.h] 23)) w.heap.size r := ⟨hS.1.trans st, hS.2.keep st⟩
    clear hS st
    have hS := hS'
    clear hS'
    obtain ⟨W2, hW⟩ : ∃ W, W = (w2.alloc (.cells #[.int .i64 r.x, .int .i64 r.y, .int .i64 r.w, .int .i64 r.h] 23)) := ⟨_, rfl⟩
    rw [← hW] at hS HR HBR
    rw [← hW]
    clear hW
    refine hK3 4 (by simp) _ _ hS (any_more fun K4 hK4 => ?_)
    clear hK3 K3
    refine any_pick (rs := [0]) hK4 (by kernel_rfl) (fun K5 hK5 => ?_)
    clear hK4 K4
    intro i hi
    simp only [List.mem_cons, List.not_mem_nil, or_false] at hi
    rcases hi with rfl
    refine op_plain (some 14) (.buildSlice 29 0 #[]) 29 (by kernel_rfl) (by kernel_rfl) ?_
    go_wp2
    have st : Stay (fun _ => False) W2 (W2.alloc (.cells #[] 23)) := (Stay.refl _ _).alloc _
    have HO := hide' (ownsRow_base (owns_newS W2 #[] 23 4 0 rfl (by decide)) (World.block_lt_of_cell? _ _ hS.2.c0))
    have HNE : Hid (Value.ownBlock (.slice (some ⟨W2.heap.size, 0, none⟩) 0 0) ≠ some BR) := fun h => by cases h; exact Nat.lt_irrefl _ HBR.out.2
    have HR' := hide' (HR.out.stay st (fun _ _ h => h))
    have HBR' : Hid (w.heap.size < BR ∧ BR < (W2.alloc (.cells #[] 23)).heap.size) := ⟨HBR.out.1, Nat.lt_of_lt_of_le HBR.out.2 st.size⟩
    clear HR HBR
    have HR := HR'
    have HBR := HBR'
    clear HR' HBR'
    have hS' : Stay (fun _ => False) w (W2.alloc (.cells #[] 23)) ∧ Box (W2.alloc (.cells #[] 23)) w.heap.size r := ⟨hS.1.trans st, hS.2.keep st⟩
    clear hS st
    have hS := hS'
    clear hS'
    obtain ⟨vO, hvO⟩ : ∃ v, v = Value.slice (some ⟨W2.heap.size, 0, none⟩) 0 0 := ⟨_, rfl⟩
    rw [← hvO] at HO HNE
    rw [← hvO]
    clear hvO
    obtain ⟨W4, hW⟩ : ∃ W, W = (W2.alloc (.cells #[] 23)) := ⟨_, rfl⟩
    rw [← hW] at hS HO HR HBR
    rw [← hW]
    clear hW
    refine hK5 0 (by simp) _ _ hS (any_more fun K6 hK6 => ?_)
    clear hK5 K5
    refine any_pick (rs := [2]) hK6 (by kernel_rfl) (fun K7 hK7 => ?_)
    clear hK6 K6
    intro i hi
    simp only [List.mem_cons, List.not_mem_nil, or_false] at hi
    rcases hi with rfl
    refine op_plain (some 16) (.call { callee := Callee.builtin Builtin.append, args := #[.tmp 14, .tmp 15], argTypes := #[29, 29] }) 29 (by kernel_rfl) (by kernel_rfl) ?_
    have hsz : w.heap.size + 1 ≤ W4.heap.size := World.block_lt_of_cell? _ _ hS.2.c0
    have hsrc := hide' (HV.out.keep hS.1).row
    go_wp2_with (at_builtin; refine appS rfl _ _ 29 rfl Try.underlying29 Try.info23 rfl (by decide) (by decide) HO.out rfl hsrc.out rfl (cells_one L) (by omega) hsz ?_; intro v6 W6 ho hst hb; have HO2 := hide' ho; have HT2 := hide' hst; have HB2 := hide' hb; clear ho hst hb)
    have st : Stay (fun _ => False) w W6 := (hS.1.mono (T := fun k => w.heap.size ≤ k) (fun _ _ h => h.elim)).trans (HT2.out.mono fun k _ hk => by have := (HO.out.lt _ hk).1; omega) |>.mono fun k hk h => by omega
    have sb : Box W6 w.heap.size r := hS.2.stay HT2.out (fun h => by have := (HO.out.lt _ h).1; omega)
    have HR' := hide' (HR.out.stay HT2.out (fun k hk h => HNE.out (by cases hk; exact h)))
    have HNE' : Hid (v6.ownBlock ≠ some BR) := fun h => by
      rcases HB2.out with hb | hb
      · exact HNE.out (hb ▸ h)
      · rw [h] at hb; have := HBR.out.2; cases hb; omega
    have HBR' : Hid (w.heap.size < BR ∧ BR < W6.heap.size) := ⟨HBR.out.1, Nat.lt_of_lt_of_le HBR.out.2 HT2.out.size⟩
    clear HR HNE HBR
    have HR := HR'
    have HNE := HNE'
    have HBR := HBR'
    clear HR' HNE' HBR'
    clear HO hsrc HB2 HT2
    have HO := HO2
    clear HO2
    have hS' : Stay (fun _ => False) w W6 ∧ Box W6 w.heap.size r := ⟨st, sb⟩
    clear hS st sb
    have hS := hS'
    clear hS'
    refine hK7 2 (by simp) _ _ hS (any_more fun K8 hK8 => ?_)
    clear hK7 K7
    refine any_pick (rs := [5]) hK8 (by kernel_rfl) (fun K9 hK9 => ?_)
    clear hK8 K8
    intro i hi
    simp only [List.mem_cons, List.not_mem_nil, or_false] at hi
    rcases hi with rfl
    refine op_plain (some 19) (.call { callee := Callee.builtin Builtin.append, args := #[.tmp 16, .tmp 18], argTypes := #[29, 29] }) 29 (by kernel_rfl) (by kernel_rfl) ?_
    have hsz : w.heap.size + 1 ≤ W6.heap.size := World.block_lt_of_cell? _ _ hS.2.c0
    have hsrc := hide' HR.out
    go_wp2_with (at_builtin; refine appS rfl _ _ 29 rfl Try.underlying29 Try.info23 rfl (by decide) (by decide) HO.out rfl hsrc.out rfl (by intro u hu; simp at hu; rcases hu with rfl | rfl | rfl | rfl <;> rfl) (by omega) hsz ?_; intro v8 W8 ho hst hb; have HO2 := hide' ho; have HT2 := hide' hst; have HB2 := hide' hb; clear ho hst hb)
    have st : Stay (fun _ => False) w W8 := (hS.1.mono (T := fun k => w.heap.size ≤ k) (fun _ _ h => h.elim)).trans (HT2.out.mono fun k _ hk => by have := (HO.out.lt _ hk).1; omega) |>.mono fun k hk h => by omega
    have sb : Box W8 w.heap.size r := hS.2.stay HT2.out (fun h => by have := (HO.out.lt _ h).1; omega)
    have HR' := hide' (HR.out.stay HT2.out (fun k hk h => HNE.out (by cases hk; exact h)))
    have HNE' : Hid (v8.ownBlock ≠ some BR) := fun h => by
      rcases HB2.out with hb | hb
      · exact HNE.out (hb ▸ h)
      · rw [h] at hb; have := HBR.out.2; cases hb; omega
    have HBR' : Hid (w.heap.size < BR ∧ BR < W8.heap.size) := ⟨HBR.out.1, Nat.lt_of_lt_of_le HBR.out.2 HT2.out.size⟩
    clear HR HNE HBR
    have HR := HR'
    have HNE := HNE'
    have HBR := HBR'
    clear HR' HNE' HBR'
    clear HO hsrc HB2 HT2
    have HO := HO2
    clear HO2
    have hS' : Stay (fun _ => False) w W8 ∧ Box W8 w.heap.size r := ⟨st, sb⟩
    clear hS st sb
    have hS := hS'
    clear hS'
    refine hK9 5 (by simp) _ _ hS (any_more fun K10 hK10 => ?_)
    clear hK9 K9
    refine any_take (i := 6) hK10 (some 4) (.assign (.tmp 19)) 29 _ (by kernel_rfl) (fun _ d _ _ _ h => by cases d <;> exact h) (by kernel_rfl) (by kernel_rfl) (fun w' hS' => by simp only [opr]; go_simp; try with_reducible rfl) hS (fun K11 hK11 => ?_)
    clear hK10 K10
    simp only [Act.put, List.setIfInBounds_toArray, List.set_cons_zero, List.set_cons_succ]
    refine any_done hK11 (by kernel_rfl) ?_
    clear hK11 K11
    have HE := hide' (rects_of_owns (L := L ++ [r]) (by simpa [R.cells] using HO.out))
    have HF := hide' hS.1
    clear hS HO
    go_wp2
    go_ret
    exact ⟨_, rfl, by rw [HL.out]; exact HE.out, HF.out⟩

end Go.Proofs.Ytloijopnfnhnhaa
