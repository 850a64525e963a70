/-
  Rights never grow: walked. No conditions.
-/
import Derived.Test.YtlhfpnfiamgmlaaR6
import Derived.Deep.DeepCutAuto
namespace Go.Proofs.Ytlhfpnfiamgmlaa
open Go.RowKit

/-- While a capability goes from hand to hand: the table, the last name, the first one, the names. -/
structure VIn (w wz : World) (T B bc br : Nat) (f : Nat → Sl) (c : Nm) (m : Nat) (mv : Value) (wr : World) : Prop where
  tab : TIn w T B 20 20 f 1 wr
  cb : NBox wr bc c
  rb : NBox wr br ⟨0, 1⟩
  row : wr.ownsRow wz.heap.size 30 2 mv m (nms (madeR m))
  size : wz.heap.size ≤ wr.heap.size

variable {w wz w1 w2 : World} {T B bc br m : Nat} {f f' : Nat → Sl} {c : Nm} {mv : Value}

/-- What lies there ahead of the loop. -/
def Ahead (w wz : World) (T B bc br : Nat) : Prop := T < wz.heap.size ∧ B < wz.heap.size ∧ bc < wz.heap.size ∧ br < wz.heap.size ∧ bc ≠ B ∧ br ≠ B ∧ bc ≠ T ∧ br ≠ T ∧ bc ≠ br ∧ w.heap.size ≤ bc ∧ w.heap.size ≤ br ∧ w.heap.size ≤ wz.heap.size

theorem VIn.keep (h : VIn w wz T B bc br f c m mv w1) (hs : Stay (fun _ => False) w1 w2) : VIn w wz T B bc br f c m mv w2 :=
  ⟨h.tab.keep hs, h.cb.keep hs, h.rb.keep hs, hs.owns h.row (fun _ _ h => h), Nat.le_trans h.size hs.size⟩

theorem VIn.turn (h : VIn w wz T B bc br f c m mv w1) (ha : Ahead w wz T B bc br) (ht : TIn w T B 20 20 f' 1 w2) (hs : Stay (fun j => j = B) w1 w2) : VIn w wz T B bc br f' c m mv w2 :=
  ⟨ht, h.cb.stay hs ha.2.2.2.2.1, h.rb.stay hs ha.2.2.2.2.2.1, hs.owns h.row (fun k hk e => by have := (h.row.lt k hk).1; have := ha.2.1; omega), Nat.le_trans h.size hs.size⟩

/-- Something new has turned. -/
theorem VIn.fresh (h : VIn w wz T B bc br f c m mv w1) (ha : Ahead w wz T B bc br) {bd : Nat} (hs : Stay (fun j => j = bd) w1 w2) (h1 : wz.heap.size ≤ bd) (h2 : ∀ k, mv.ownBlock = some k → k ≠ bd) : VIn w wz T B bc br f c m mv w2 := by
  unfold Ahead at ha
  exact ⟨h.tab.beside hs (fun k hk e => by omega) (by omega) (by omega), h.cb.stay hs (by omega), h.rb.stay hs (by omega), hs.owns h.row (fun k hk e => h2 k hk e), Nat.le_trans h.size hs.size⟩

theorem out_app {R : List Int} {r : Int} {bd i : Nat} {v5 : Value} (h : VIn w wz T B bc br (fR (R ++ [r])) ⟨(i : Nat), 1⟩ i mv w1) (hd : NBox w1 bd ⟨(i : Nat) + 1, 1⟩) (ha : Ahead w wz T B bc br) (hm : ∀ k, mv.ownBlock = some k → k ≠ bd) (ho : w2.ownsRow wz.heap.size 30 2 v5 (i + 1) (nms (madeR i) ++ [.int .i64 ((i : Nat) + 1), .int .i64 1])) (hst : Stay (fun k => mv.ownBlock = some k) w1 w2) :
    w2.ownsRow wz.heap.size 30 2 v5 (i + 1) (nms (madeR (i + 1))) ∧ TIn w T B 20 20 (fR (R ++ [r])) 1 w2 ∧ NBox w2 bc ⟨(i : Nat), 1⟩ ∧ NBox w2 br ⟨0, 1⟩ ∧ NBox w2 bd ⟨(i : Nat) + 1, 1⟩ ∧ wz.heap.size ≤ w2.heap.size := by
  unfold Ahead at ha
  refine ⟨by rw [madeR_succ, nms_append]; exact ho, h.tab.beside hst (fun k hk e => by have := (h.row.lt k e).1; omega) (fun e => by have := (h.row.lt T e).1; omega) (fun e => by have := (h.row.lt B e).1; omega), h.cb.stay hst (fun e => by have := (h.row.lt bc e).1; omega), h.rb.stay hst (fun e => by have := (h.row.lt br e).1; omega), hd.stay hst (fun e => hm bd e rfl), Nat.le_trans h.size hst.size⟩

/-- A share's outcome, and a box that holds its name. -/
structure Out (w wz : World) (T B bc br : Nat) (y : (Nat → Sl) × Int × Int × Int) (c : Nm) (m : Nat) (mv : Value) (bd : Nat) (wr : World) : Prop where
  v : VIn w wz T B bc br y.1 c m mv wr
  db : NBox wr bd ⟨y.2.1, y.2.2.1⟩
  off : wz.heap.size ≤ bd
  row : ∀ k, mv.ownBlock = some k → k ≠ bd

set_option maxHeartbeats 16000000 in
set_option maxRecDepth 100000 in
theorem rights4 (first : Int) (l : List Int) (a : Option Addr) (cap : Nat) (right : Int) (w : World) (hA : IArg .i64 w (.slice a l.length cap) l a cap) (_hf : W64 first) : Calls Try.prog 4 #[.int .i64 first, .slice a l.length cap, .int .i64 right] w (LawTrue w) := by
  obtain ⟨ll, hll⟩ : ∃ x, x = l.length := ⟨_, rfl⟩
  have HA := hide' hA
  have HLL := hide' hll
  rw [← hll]
  have hlw : (ll : Int) ≤ 9223372036854775807 := by have h1 := hA.lenLe; have h2 := hA.capLe; unfold maxLen at h2; omega
  have HN := hide' (new_in (w0 := w) 20 20 (Stay.refl _ w) (by decide) (by decide) (by decide))
  clear hA hll
  by_cases hout : 10 < ll ∨ right < 1 ∨ 7 < right
  · clear HN HA _hf
    by_cases h10 : 10 < ll
    · have l10 : (10 : Int) < (ll : Nat) := by omega
      have d10 : decide ((10 : Int) < (ll : Nat)) = true := decide_eq_true l10
      clear hout
      go_enter Try.func4, Try.ntmps4
      go_wp2_with fail
      refine (awake7 w).mono ?_
      rintro _ w3 ⟨rfl, hs3⟩
      have HS3 := hide' hs3
      clear hs3
      go_wp2
      go_ret
      exact ⟨rfl, HS3.out⟩
    · have d10 : decide ((10 : Int) < (ll : Nat)) = false := decide_eq_false (by omega)
      by_cases hr1 : right < 1
      · have dr1 : decide (right < 1) = true := decide_eq_true hr1
        clear hout
        go_enter Try.func4, Try.ntmps4
        go_wp2_with fail
        refine (awake7 w).mono ?_
        rintro _ w3 ⟨rfl, hs3⟩
        have HS3 := hide' hs3
        clear hs3
        go_wp2
        go_ret
        exact ⟨rfl, HS3.out⟩
      · have dr1 : decide (right < 1) = false := decide_eq_false hr1
        have hr7 : 7 < right := by omega
        have dr7 : decide (7 < right) = true := decide_eq_true hr7
        clear hout
        go_enter Try.func4, Try.ntmps4
        go_wp2_with fail
        refine (awake7 w).mono ?_
        rintro _ w3 ⟨rfl, hs3⟩
        have HS3 := hide' hs3
        clear hs3
        go_wp2
        go_ret
        exact ⟨rfl, HS3.out⟩
  · have l10 : ((ll : Nat) : Int) ≤ 10 := by omega
    have d10 : decide ((10 : Int) < (ll : Nat)) = false := decide_eq_false (by omega)
    have dr1 : decide (right < 1) = false := decide_eq_false (by omega)
    have dr7 : decide (7 < right) = false := decide_eq_false (by omega)
    have n10 : ¬ (10 : Int) < (ll : Nat) := by omega
    have hr1 : 1 ≤ right := by omega
    have hr7 : right ≤ 7 := by omega
    have HRT : Hid (1 ≤ right ∧ right ≤ 7 ∧ ll ≤ 10) := ⟨hr1, hr7, by omega⟩
    clear hout
    go_enter Try.func4, Try.ntmps4
    go_wp2_with fail
    refine HN.out.mono ?_
    rintro _ w1 ⟨T, B, rfl, ht1, _, hT, hB⟩
    have hm := mint_in 0 2 3 first ht1
    rw [mint_R] at hm
    by_cases hf1 : 1 ≤ first ∧ first ≤ 7
    · rw [if_pos hf1] at hm
      have HM := hide' hm
      have HF1 := hide' hf1
      clear hm ht1 HN _hf
      go_wp2_with fail
      refine HM.out.mono ?_
      rintro _ w2 ⟨rfl, ht2, _⟩
      have h2 : TIn w T B 20 20 (fR [first]) 1 w2 := ht2
      go_upto_region 7 with fail
      obtain ⟨bc, hbc⟩ : ∃ b, b = w2.heap.size := ⟨_, rfl⟩
      obtain ⟨w3, hw3⟩ : ∃ W, W = w2.alloc (.cells #[.int .i64 0, .int .i64 1] 30) := ⟨_, rfl⟩
      have hs3 : Stay (fun _ => False) w2 w3 := by rw [hw3]; exact (Stay.refl _ _).alloc _
      have HC3 : Hid (NBox w3 bc ⟨0, 1⟩) := by rw [hw3]; exact NBox.new ⟨0, 1⟩ hbc.symm
      have HT3 := hide' (h2.keep hs3)
      have HBC : Hid (bc ≠ B ∧ bc ≠ T ∧ w.heap.size ≤ bc) := ⟨by have := h2.at'.ltB; omega, by have := h2.at'.lt; omega, by have := h2.stay.size; omega⟩
      rw [← hw3, ← hbc]
      obtain ⟨c0, c1, _, _⟩ := HC3.out
      simp only at c0 c1
      clear hw3 hbc hs3 h2 ht2 HM
      go_upto_region 10 with fail
      obtain ⟨br, hbr⟩ : ∃ b, b = w3.heap.size := ⟨_, rfl⟩
      obtain ⟨wz, hwz⟩ : ∃ W, W = w3.alloc (.cells #[.int .i64 0, .int .i64 1] 30) := ⟨_, rfl⟩
      have hsz : Stay (fun _ => False) w3 wz := by rw [hwz]; exact (Stay.refl _ _).alloc _
      have hR : NBox wz br ⟨0, 1⟩ := by rw [hwz]; exact NBox.new ⟨0, 1⟩ hbr.symm
      have HV0 : Hid (VIn w wz T B bc br (fR [first]) ⟨((0 : Nat) : Int), 1⟩ 0 (.slice none 0 0) wz) := ⟨HT3.out.keep hsz, HC3.out.keep hsz, hR, ⟨rfl, .inl ⟨rfl, rfl⟩⟩, Nat.le_refl _⟩
      have HAH : Hid (Ahead w wz T B bc br) := by
        have h1 := HV0.out.tab.at'.lt
        have h2 := HV0.out.tab.at'.ltB
        have h3 := HV0.out.cb.lt
        have h4 := HV0.out.rb.lt
        have h5 := HBC.out
        have h6 := HT3.out.at'.lt
        have h7 := HT3.out.at'.ltB
        have h8 := HC3.out.lt
        have h9 := HT3.out.stay.size
        have ha := HV0.out.tab.stay.size
        exact ⟨h1, h2, h3, h4, h5.1, by omega, h5.2.1, by omega, by omega, h5.2.2, by omega, ha⟩
      rw [← hwz, ← hbr]
      have HR0 : Hid (RI [first] 0) := ⟨rfl, by decide, fun j hj => by
        have hj' : j < 1 := hj
        obtain rfl : j = 0 := by omega
        exact HF1.out⟩
      clear hwz hbr hsz hR HC3 HT3 HBC c0 c1 hf1
      go_wp2
      go_loopg [11, 12, 13] ll (fun gg v11 v12 v13 wr => ∃ (i : Nat) (R : List Int) (mv : Value), i ≤ ll ∧ gg = ll - i ∧ v11 = .int .i64 (R.getD i 0) ∧ mv = v12 ∧ v13 = .int .i64 (i : Int) ∧ Hid (RI R i ∧ R.getD 0 0 = first) ∧ Hid (VIn w wz T B bc br (fR R) ⟨(i : Nat), 1⟩ i mv wr))
      case atStart => exact ⟨0, [first], _, Nat.zero_le _, rfl, rfl, rfl, rfl, ⟨HR0.out, rfl⟩, HV0⟩
      case round =>
        clear HV0 HR0
        obtain ⟨i, R, mv, hi, rfl, rfl, hmv, rfl, HR, HV⟩ := hrel
        subst hmv
        by_cases hlt : i < ll
        · have iL : (i : Int) < (ll : Nat) := by omega
          have hcells := (HA.out.stay0 HV.out.tab.stay).cells (fun h => by have := HLL.out; rw [h] at this; simp at this; omega)
          obtain ⟨b, off, hab, _, hints⟩ := hcells
          have hbw : b < w.heap.size := by
            obtain ⟨b2, off2, h1, h2, _⟩ := HA.out.cells (fun h => by have := HLL.out; rw [h] at this; simp at this; omega)
            rw [hab] at h1
            injection h1 with h1
            injection h1 with h1 _ _
            omega
          have hcw : w.cell? ⟨b, off + i, none⟩ = some (.int .i64 (l.getD i 0)) := by
            obtain ⟨b2, off2, h1, _, h3⟩ := HA.out.cells (fun h => by have := HLL.out; rw [h] at this; simp at this; omega)
            rw [hab] at h1
            injection h1 with h1
            injection h1 with h1 h2 _
            subst h1 h2
            exact h3 i (by have := HLL.out; omega)
          have hc := hints i (by have := HLL.out; omega)
          obtain ⟨r, hr⟩ : ∃ x, x = l.getD i 0 := ⟨_, rfl⟩
          rw [← hr] at hc hcw
          subst hab
          have HCW := hide' hcw
          have HBW := hide' hbw
          have HAB : Hid (w.heap.size ≤ B ∧ w.heap.size ≤ wz.heap.size) := ⟨HV.out.tab.newB, HAH.out.2.2.2.2.2.2.2.2.2.2.2⟩
          obtain ⟨y, hy⟩ : ∃ y, y = shareS 20 20 (fR R) (i : Nat) (i : Nat) 1 ((i : Nat) + 1) r := ⟨_, rfl⟩
          have HY := hide' hy
          have HSHC : Hid (∀ w', TIn w T B 20 20 (fR R) 1 w' → Calls Try.prog 14 #[.pointer (some ⟨T, 0, none⟩), .int .i64 (i : Nat), .agg #[.int .i64 (i : Nat), .int .i64 1], .int .i64 ((i : Nat) + 1), .int .i64 r] w' (MIn w T B 20 20 y 1 w')) := fun w' h => by rw [hy]; exact share_in (i : Nat) (i : Nat) 1 ((i : Nat) + 1) r h
          obtain ⟨rx, hrx⟩ : ∃ x, x = R.getD i 0 := ⟨_, rfl⟩
          rw [← hrx]
          have HRX := hide' hrx
          have HCX := hide' hc
          clear hints hbw hc hcw hr hy hrx
          go_upto_region 15 with fail
          go_cut [14, 15] from 65 to 77 (fun s14 s15 wx => ∃ bd, s14 = .pointer (some ⟨bd, 0, none⟩) ∧ s15 = .int .i64 y.2.2.2 ∧ Hid (Out w wz T B bc br y ⟨(i : Nat), 1⟩ i mv bd wx))
          case first =>
            refine any_begin (fun w' => NBox w' bc ⟨(i : Nat), 1⟩ ∧ w'.cell? ⟨b, off + i, none⟩ = some (.int .i64 r)) (by kernel_rfl) (fun K0 hK0 => ?_)
            obtain ⟨Wf0, hW⟩ : ∃ W, W = wr.drew := ⟨_, rfl⟩
            have hst : Stay (fun _ => False) wr Wf0 := by rw [hW]; exact (Stay.refl _ _).drew
            have HV0 := hide' (HV.out.keep hst)
            have HSF0 : Hid ((fun w' => NBox w' bc ⟨(i : Nat), 1⟩ ∧ w'.cell? ⟨b, off + i, none⟩ = some (.int .i64 r)) Wf0) := ⟨HV0.out.cb, keep_cell hst HCX.out⟩
            rw [← hW]
            clear hW hst
            refine any_take (i := 0) hK0 (some 66) (.move (.tmp 7)) 24 _ (by kernel_rfl) (fun _ d _ _ _ h => by cases d <;> exact h) (by kernel_rfl) (by kernel_rfl) (fun w' hS' => by simp only [opr]; go_simp; try with_reducible rfl) (by first | exact HSF3.out | exact HSF2.out | exact HSF1.out | exact HSF0.out) (fun K1 hK1 => ?_)
            clear hK0 K0
            try simp only [Act.put, List.setIfInBounds_toArray, List.set_cons_zero, List.set_cons_succ]
            refine any_take (i := 1) hK1 (some 67) (.move (.tmp 13)) 3 _ (by kernel_rfl) (fun _ d _ _ _ h => by cases d <;> exact h) (by kernel_rfl) (by kernel_rfl) (fun w' hS' => by simp only [opr]; go_simp; try with_reducible rfl) (by first | exact HSF3.out | exact HSF2.out | exact HSF1.out | exact HSF0.out) (fun K2 hK2 => ?_)
            clear hK1 K1
            try simp only [Act.put, List.setIfInBounds_toArray, List.set_cons_zero, List.set_cons_succ]
            refine any_take (i := 2) hK2 (some 68) (.load 30 (.tmp 8)) 30 _ (by kernel_rfl) (fun _ d _ _ _ h => by cases d <;> exact h) (by kernel_rfl) (by kernel_rfl) (fun w' hS' => by exact run_load_NBox rfl rfl hS'.1) (by first | exact HSF3.out | exact HSF2.out | exact HSF1.out | exact HSF0.out) (fun K3 hK3 => ?_)
            clear hK2 K2
            try simp only [Act.put, List.setIfInBounds_toArray, List.set_cons_zero, List.set_cons_succ]
            refine any_take (i := 3) hK3 (some 69) (.move (.tmp 13)) 3 _ (by kernel_rfl) (fun _ d _ _ _ h => by cases d <;> exact h) (by kernel_rfl) (by kernel_rfl) (fun w' hS' => by simp only [opr]; go_simp; try with_reducible rfl) (by first | exact HSF3.out | exact HSF2.out | exact HSF1.out | exact HSF0.out) (fun K4 hK4 => ?_)
            clear hK3 K3
            try simp only [Act.put, List.setIfInBounds_toArray, List.set_cons_zero, List.set_cons_succ]
            refine any_take (i := 4) hK4 (some 70) (.binOp BinOp.add 3 (.tmp 69) (.const (Value.int IntKind.i64 1)) 3) 3 _ (by kernel_rfl) (fun _ d _ _ _ h => by cases d <;> exact h) (by kernel_rfl) (by kernel_rfl) (fun w' hS' => by simp only [opr]; go_simp; try with_reducible rfl) (by first | exact HSF3.out | exact HSF2.out | exact HSF1.out | exact HSF0.out) (fun K5 hK5 => ?_)
            clear hK4 K4
            try simp only [Act.put, List.setIfInBounds_toArray, List.set_cons_zero, List.set_cons_succ]
            refine any_take (i := 5) hK5 (some 71) (.move (.tmp 1)) 53 _ (by kernel_rfl) (fun _ d _ _ _ h => by cases d <;> exact h) (by kernel_rfl) (by kernel_rfl) (fun w' hS' => by simp only [opr]; go_simp; try with_reducible rfl) (by first | exact HSF3.out | exact HSF2.out | exact HSF1.out | exact HSF0.out) (fun K6 hK6 => ?_)
            clear hK5 K5
            try simp only [Act.put, List.setIfInBounds_toArray, List.set_cons_zero, List.set_cons_succ]
            refine any_take (i := 6) hK6 (some 72) (.move (.tmp 13)) 3 _ (by kernel_rfl) (fun _ d _ _ _ h => by cases d <;> exact h) (by kernel_rfl) (by kernel_rfl) (fun w' hS' => by simp only [opr]; go_simp; try with_reducible rfl) (by first | exact HSF3.out | exact HSF2.out | exact HSF1.out | exact HSF0.out) (fun K7 hK7 => ?_)
            clear hK6 K6
            try simp only [Act.put, List.setIfInBounds_toArray, List.set_cons_zero, List.set_cons_succ]
            refine any_take (i := 7) hK7 (some 73) (.indexAddr 53 (.tmp 71) (.tmp 72)) 0 _ (by kernel_rfl) (fun _ d _ _ _ h => by cases d <;> exact h) (by kernel_rfl) (by kernel_rfl) (fun w' hS' => by simp only [opr]; go_simp; try with_reducible rfl) (by first | exact HSF3.out | exact HSF2.out | exact HSF1.out | exact HSF0.out) (fun K8 hK8 => ?_)
            clear hK7 K7
            try simp only [Act.put, List.setIfInBounds_toArray, List.set_cons_zero, List.set_cons_succ]
            refine any_take (i := 8) hK8 (some 74) (.load 3 (.tmp 73)) 3 _ (by kernel_rfl) (fun _ d _ _ _ h => by cases d <;> exact h) (by kernel_rfl) (by kernel_rfl) (fun w' hS' => by (have c0 := hS'.2; simp only [opr]; go_simp; try with_reducible rfl)) (by first | exact HSF3.out | exact HSF2.out | exact HSF1.out | exact HSF0.out) (fun K9 hK9 => ?_)
            clear hK8 K8
            try simp only [Act.put, List.setIfInBounds_toArray, List.set_cons_zero, List.set_cons_succ]
            refine any_pick (rs := [9, 13]) hK9 (by kernel_rfl) (fun K10 hK10 => ?_)
            clear hK9 K9
            intro i hi
            simp only [List.mem_cons, List.not_mem_nil, or_false] at hi
            rcases hi with rfl | rfl
            · refine op_plain (some 75) (.call { callee := Callee.value (.func 14), args := #[.tmp 66, .tmp 67, .tmp 68, .tmp 70, .tmp 74], argTypes := #[24, 3, 30, 3, 3] }) 37 (by kernel_rfl) (by kernel_rfl) ?_
              go_wp2_with fail
              refine (HSHC.out _ HV0.out.tab).mono ?_
              rintro _ Wf1 ⟨rfl, htx, hsx⟩
              have HV1 := hide' (HV0.out.turn HAH.out htx hsx)
              have HSF1 : Hid ((fun w' => NBox w' bc ⟨(i : Nat), 1⟩ ∧ w'.cell? ⟨b, off + i, none⟩ = some (.int .i64 r)) Wf1) := ⟨HV1.out.cb, (hsx.cell (p := ⟨b, off + i, none⟩) (World.block_lt_of_cell? _ _ HSF0.out.2) (by show ¬ b = B; have := HBW.out; have := HAB.out; omega)).trans HSF0.out.2⟩
              clear htx hsx
              go_wp2
              refine hK10 9 (by simp) _ _ (by first | exact HSF3.out | exact HSF2.out | exact HSF1.out | exact HSF0.out) (any_more fun K11 hK11 => ?_)
              clear hK10 K10
              refine any_take (i := 10) hK11 (some 65) (.move (.tmp 75)) 37 _ (by kernel_rfl) (fun _ d _ _ _ h => by cases d <;> exact h) (by kernel_rfl) (by kernel_rfl) (fun w' hS' => by simp only [opr]; go_simp; try with_reducible rfl) (by first | exact HSF3.out | exact HSF2.out | exact HSF1.out | exact HSF0.out) (fun K12 hK12 => ?_)
              clear hK11 K11
              try simp only [Act.put, List.setIfInBounds_toArray, List.set_cons_zero, List.set_cons_succ]
              refine any_take (i := 11) hK12 (some 76) (.extract (.tmp 65) 0) 30 _ (by kernel_rfl) (fun _ d _ _ _ h => by cases d <;> exact h) (by kernel_rfl) (by kernel_rfl) (fun w' hS' => by simp only [opr]; go_simp; try with_reducible rfl) (by first | exact HSF3.out | exact HSF2.out | exact HSF1.out | exact HSF0.out) (fun K13 hK13 => ?_)
              clear hK12 K12
              try simp only [Act.put, List.setIfInBounds_toArray, List.set_cons_zero, List.set_cons_succ]
              refine any_take (i := 12) hK13 (some 77) (.extract (.tmp 65) 1) 36 _ (by kernel_rfl) (fun _ d _ _ _ h => by cases d <;> exact h) (by kernel_rfl) (by kernel_rfl) (fun w' hS' => by simp only [opr]; go_simp; try with_reducible rfl) (by first | exact HSF3.out | exact HSF2.out | exact HSF1.out | exact HSF0.out) (fun K14 hK14 => ?_)
              clear hK13 K13
              try simp only [Act.put, List.setIfInBounds_toArray, List.set_cons_zero, List.set_cons_succ]
              refine any_pick (rs := [13]) hK14 (by kernel_rfl) (fun K15 hK15 => ?_)
              clear hK14 K14
              intro i hi
              simp only [List.mem_cons, List.not_mem_nil, or_false] at hi
              rcases hi with rfl
              refine op_plain (some 14) (.alloc 30) 0 (by kernel_rfl) (by kernel_rfl) ?_
              obtain ⟨Wf2, hWx⟩ : ∃ W, W = Wf1.alloc (.cells #[.int .i64 0, .int .i64 0] 30) := ⟨_, rfl⟩
              obtain ⟨bd, hbd⟩ : ∃ b, b = Wf1.heap.size := ⟨_, rfl⟩
              have hsx : Stay (fun _ => False) Wf1 Wf2 := by rw [hWx]; exact (Stay.refl _ _).alloc _
              have HV2 := hide' (HV1.out.keep hsx)
              have HSF2 : Hid ((fun w' => NBox w' bc ⟨(i : Nat), 1⟩ ∧ w'.cell? ⟨b, off + i, none⟩ = some (.int .i64 r)) Wf2) := ⟨HV2.out.cb, keep_cell hsx HSF1.out.2⟩
              have HDB2 : Hid (NBox Wf2 bd ⟨0, 0⟩) := by rw [hWx]; exact NBox.new ⟨0, 0⟩ hbd.symm
              have HDO : Hid (wz.heap.size ≤ bd ∧ ∀ k, mv.ownBlock = some k → k ≠ bd) := ⟨by rw [hbd]; exact HV1.out.size, fun k hk e => by have := (HV1.out.row.lt k hk).2; omega⟩
              go_wp2
              rw [← hWx, ← hbd]
              clear hWx hbd hsx
              refine hK15 13 (by simp) _ _ (by first | exact HSF3.out | exact HSF2.out | exact HSF1.out | exact HSF0.out) (any_more fun K16 hK16 => ?_)
              clear hK15 K15
              refine any_pick (rs := [14]) hK16 (by kernel_rfl) (fun K17 hK17 => ?_)
              clear hK16 K16
              intro i hi
              simp only [List.mem_cons, List.not_mem_nil, or_false] at hi
              rcases hi with rfl
              refine op_plain none (.store 30 (.tmp 14) (.tmp 76)) 0 (by kernel_rfl) (by kernel_rfl) ?_
              obtain ⟨d0, d1, d2, d3⟩ := HDB2.out
              simp only at d0 d1
              go_wp2
              clear d0 d1 d2 d3
              generalize hWx : World.setCell (World.setCell _ _ _) _ _ = Wf3
              have hsx : Stay (fun j => j = bd) Wf2 Wf3 := by rw [← hWx]; exact ((Stay.refl (fun j => j = bd) _).setCell (p := ⟨bd, 0, none⟩) rfl _).setCell (p := ⟨bd, 1, none⟩) rfl _
              have HDB3 : Hid (NBox Wf3 bd ⟨y.2.1, y.2.2.1⟩) := by rw [← hWx]; exact HDB2.out.put ⟨y.2.1, y.2.2.1⟩
              have HV3 := hide' (HV2.out.fresh HAH.out hsx HDO.out.1 HDO.out.2)
              have HSF3 : Hid ((fun w' => NBox w' bc ⟨(i : Nat), 1⟩ ∧ w'.cell? ⟨b, off + i, none⟩ = some (.int .i64 r)) Wf3) := ⟨HV3.out.cb, (hsx.cell (p := ⟨b, off + i, none⟩) (World.block_lt_of_cell? _ _ HSF2.out.2) (by show ¬ b = bd; have := HBW.out; have := HAB.out; have := HDO.out.1; omega)).trans HSF2.out.2⟩
              clear hWx hsx
              refine hK17 14 (by simp) _ _ (by first | exact HSF3.out | exact HSF2.out | exact HSF1.out | exact HSF0.out) (any_more fun K18 hK18 => ?_)
              clear hK17 K17
              refine any_take (i := 15) hK18 (some 15) (.assign (.tmp 77)) 36 _ (by kernel_rfl) (fun _ d _ _ _ h => by cases d <;> exact h) (by kernel_rfl) (by kernel_rfl) (fun w' hS' => by simp only [opr]; go_simp; try with_reducible rfl) (by first | exact HSF3.out | exact HSF2.out | exact HSF1.out | exact HSF0.out) (fun K19 hK19 => ?_)
              clear hK18 K18
              try simp only [Act.put, List.setIfInBounds_toArray, List.set_cons_zero, List.set_cons_succ]
              refine any_done hK19 (by kernel_rfl) ?_
              clear hK19 K19
              go_wp2_with fail
              go_meet
              exact ⟨bd, rfl, rfl, ⟨HV3.out, HDB3.out, HDO.out.1, HDO.out.2⟩⟩
            · refine op_plain (some 14) (.alloc 30) 0 (by kernel_rfl) (by kernel_rfl) ?_
              obtain ⟨Wf1, hWx⟩ : ∃ W, W = Wf0.alloc (.cells #[.int .i64 0, .int .i64 0] 30) := ⟨_, rfl⟩
              obtain ⟨bd, hbd⟩ : ∃ b, b = Wf0.heap.size := ⟨_, rfl⟩
              have hsx : Stay (fun _ => False) Wf0 Wf1 := by rw [hWx]; exact (Stay.refl _ _).alloc _
              have HV1 := hide' (HV0.out.keep hsx)
              have HSF1 : Hid ((fun w' => NBox w' bc ⟨(i : Nat), 1⟩ ∧ w'.cell? ⟨b, off + i, none⟩ = some (.int .i64 r)) Wf1) := ⟨HV1.out.cb, keep_cell hsx HSF0.out.2⟩
              have HDB1 : Hid (NBox Wf1 bd ⟨0, 0⟩) := by rw [hWx]; exact NBox.new ⟨0, 0⟩ hbd.symm
              have HDO : Hid (wz.heap.size ≤ bd ∧ ∀ k, mv.ownBlock = some k → k ≠ bd) := ⟨by rw [hbd]; exact HV0.out.size, fun k hk e => by have := (HV0.out.row.lt k hk).2; omega⟩
              go_wp2
              rw [← hWx, ← hbd]
              clear hWx hbd hsx
              refine hK10 13 (by simp) _ _ (by first | exact HSF3.out | exact HSF2.out | exact HSF1.out | exact HSF0.out) (any_more fun K11 hK11 => ?_)
              clear hK10 K10
              refine any_pick (rs := [9]) hK11 (by kernel_rfl) (fun K12 hK12 => ?_)
              clear hK11 K11
              intro i hi
              simp only [List.mem_cons, List.not_mem_nil, or_false] at hi
              rcases hi with rfl
              refine op_plain (some 75) (.call { callee := Callee.value (.func 14), args := #[.tmp 66, .tmp 67, .tmp 68, .tmp 70, .tmp 74], argTypes := #[24, 3, 30, 3, 3] }) 37 (by kernel_rfl) (by kernel_rfl) ?_
              go_wp2_with fail
              refine (HSHC.out _ HV1.out.tab).mono ?_
              rintro _ Wf2 ⟨rfl, htx, hsx⟩
              have HV2 := hide' (HV1.out.turn HAH.out htx hsx)
              have HSF2 : Hid ((fun w' => NBox w' bc ⟨(i : Nat), 1⟩ ∧ w'.cell? ⟨b, off + i, none⟩ = some (.int .i64 r)) Wf2) := ⟨HV2.out.cb, (hsx.cell (p := ⟨b, off + i, none⟩) (World.block_lt_of_cell? _ _ HSF1.out.2) (by show ¬ b = B; have := HBW.out; have := HAB.out; omega)).trans HSF1.out.2⟩
              have HDB2 := hide' (HDB1.out.stay hsx (by have := HDO.out; have := HAH.out.2.1; omega))
              clear htx hsx
              go_wp2
              refine hK12 9 (by simp) _ _ (by first | exact HSF3.out | exact HSF2.out | exact HSF1.out | exact HSF0.out) (any_more fun K13 hK13 => ?_)
              clear hK12 K12
              refine any_take (i := 10) hK13 (some 65) (.move (.tmp 75)) 37 _ (by kernel_rfl) (fun _ d _ _ _ h => by cases d <;> exact h) (by kernel_rfl) (by kernel_rfl) (fun w' hS' => by simp only [opr]; go_simp; try with_reducible rfl) (by first | exact HSF3.out | exact HSF2.out | exact HSF1.out | exact HSF0.out) (fun K14 hK14 => ?_)
              clear hK13 K13
              try simp only [Act.put, List.setIfInBounds_toArray, List.set_cons_zero, List.set_cons_succ]
              refine any_take (i := 11) hK14 (some 76) (.extract (.tmp 65) 0) 30 _ (by kernel_rfl) (fun _ d _ _ _ h => by cases d <;> exact h) (by kernel_rfl) (by kernel_rfl) (fun w' hS' => by simp only [opr]; go_simp; try with_reducible rfl) (by first | exact HSF3.out | exact HSF2.out | exact HSF1.out | exact HSF0.out) (fun K15 hK15 => ?_)
              clear hK14 K14
              try simp only [Act.put, List.setIfInBounds_toArray, List.set_cons_zero, List.set_cons_succ]
              refine any_take (i := 12) hK15 (some 77) (.extract (.tmp 65) 1) 36 _ (by kernel_rfl) (fun _ d _ _ _ h => by cases d <;> exact h) (by kernel_rfl) (by kernel_rfl) (fun w' hS' => by simp only [opr]; go_simp; try with_reducible rfl) (by first | exact HSF3.out | exact HSF2.out | exact HSF1.out | exact HSF0.out) (fun K16 hK16 => ?_)
              clear hK15 K15
              try simp only [Act.put, List.setIfInBounds_toArray, List.set_cons_zero, List.set_cons_succ]
              refine any_pick (rs := [14]) hK16 (by kernel_rfl) (fun K17 hK17 => ?_)
              clear hK16 K16
              intro i hi
              simp only [List.mem_cons, List.not_mem_nil, or_false] at hi
              rcases hi with rfl
              refine op_plain none (.store 30 (.tmp 14) (.tmp 76)) 0 (by kernel_rfl) (by kernel_rfl) ?_
              obtain ⟨d0, d1, d2, d3⟩ := HDB2.out
              simp only at d0 d1
              go_wp2
              clear d0 d1 d2 d3
              generalize hWx : World.setCell (World.setCell _ _ _) _ _ = Wf3
              have hsx : Stay (fun j => j = bd) Wf2 Wf3 := by rw [← hWx]; exact ((Stay.refl (fun j => j = bd) _).setCell (p := ⟨bd, 0, none⟩) rfl _).setCell (p := ⟨bd, 1, none⟩) rfl _
              have HDB3 : Hid (NBox Wf3 bd ⟨y.2.1, y.2.2.1⟩) := by rw [← hWx]; exact HDB2.out.put ⟨y.2.1, y.2.2.1⟩
              have HV3 := hide' (HV2.out.fresh HAH.out hsx HDO.out.1 HDO.out.2)
              have HSF3 : Hid ((fun w' => NBox w' bc ⟨(i : Nat), 1⟩ ∧ w'.cell? ⟨b, off + i, none⟩ = some (.int .i64 r)) Wf3) := ⟨HV3.out.cb, (hsx.cell (p := ⟨b, off + i, none⟩) (World.block_lt_of_cell? _ _ HSF2.out.2) (by show ¬ b = bd; have := HBW.out; have := HAB.out; have := HDO.out.1; omega)).trans HSF2.out.2⟩
              clear hWx hsx
              refine hK17 14 (by simp) _ _ (by first | exact HSF3.out | exact HSF2.out | exact HSF1.out | exact HSF0.out) (any_more fun K18 hK18 => ?_)
              clear hK17 K17
              refine any_take (i := 15) hK18 (some 15) (.assign (.tmp 77)) 36 _ (by kernel_rfl) (fun _ d _ _ _ h => by cases d <;> exact h) (by kernel_rfl) (by kernel_rfl) (fun w' hS' => by simp only [opr]; go_simp; try with_reducible rfl) (by first | exact HSF3.out | exact HSF2.out | exact HSF1.out | exact HSF0.out) (fun K19 hK19 => ?_)
              clear hK18 K18
              try simp only [Act.put, List.setIfInBounds_toArray, List.set_cons_zero, List.set_cons_succ]
              refine any_done hK19 (by kernel_rfl) ?_
              clear hK19 K19
              go_wp2_with fail
              go_meet
              exact ⟨bd, rfl, rfl, ⟨HV3.out, HDB3.out, HDO.out.1, HDO.out.2⟩⟩
          case rest =>
            obtain ⟨bd, rfl, rfl, HO⟩ := hcut
            rcases share_R HR.out.1 (by have := HRT.out; omega) r with ⟨er, hne, hr⟩ | ⟨hr, hq, hall⟩
            · have hy := HY.out
              rw [hr] at hy
              subst hy
              have HVT : Hid (VIn w wz T B bc br (fR R) ⟨(i : Nat), 1⟩ i mv wc) := HO.out.v
              have hne2 : (er != 0) = true := bne_iff_ne.2 hne
              clear HO HY HSHC HV HCX hr
              obtain ⟨ad, cp, rfl⟩ := owns_sliceS HVT.out.row
              have hown := own_R HR.out.1 0 (Nat.zero_le _) 0
              rw [has0, if_pos rfl] at hown
              have hown' : ownE 20 (fR R) 0 0 1 0 = 0 := hown
              have hrv := revoke_in 0 0 1 HVT.out.tab (by decide)
              rw [hown'] at hrv
              have HRV := hide' hrv
              obtain ⟨q0, q1, _, _⟩ := HVT.out.rb
              simp only at q0 q1
              have hi20 : ((i : Nat) : Int) ≤ 10 := by have := HR.out.1.le; omega
              have dii : (((i : Nat) : Int) != (i : Nat)) = false := by simp
              clear hown hown' hrv
              go_wp2_with fail
              refine HRV.out.mono ?_
              rintro _ w5 ⟨f', c, rfl, h5, hs5, _, hc⟩
              obtain ⟨M, hM, rfl, rfl⟩ := hc rfl
              obtain ⟨hcn, _, _⟩ := revoke_R HR.out.1 hM
              rw [hcn]
              have HM := hide' hM
              have HT5 := hide' h5
              have HROW := hide' (hs5.owns HVT.out.row (fun k hk e => by have := (HVT.out.row.lt k hk).1; have := HAH.out.2.1; omega))
              have HRB := hide' (HVT.out.rb.stay hs5 HAH.out.2.2.2.2.2.1)
              have HL0 := hide' (Stay.refl (fun _ => False) w5)
              clear hM h5 hs5 hc hcn HRV HVT q0 q1
              go_wp2
              go_loopg [20] i (fun gg v20 wr => ∃ k : Nat, k ≤ i ∧ gg = i - k ∧ v20 = .int .i64 (k : Int) ∧ Hid (Stay (fun _ => False) w5 wr))
              case atStart => exact ⟨0, Nat.zero_le _, rfl, rfl, HL0⟩
              case round =>
                clear HL0
                obtain ⟨k, hk, rfl, rfl, HS⟩ := hrel
                by_cases hki : k < i
                · have kiz : (k : Int) < (i : Nat) := by omega
                  obtain ⟨g, hg, hgb, hat⟩ := names_at (HS.out.owns HROW.out (fun _ _ h => h)) (madeR_len i) k _ (madeR_get i k hki)
                  subst hg
                  have hck := check_in ((k : Nat) + 1) ((k : Nat) + 1) 1 2 0 (HT5.out.keep HS.out) (by unfold W64; omega)
                  rw [stale_R HR.out.1 HM.out k hki] at hck
                  have HCK := hide' hck
                  obtain ⟨a0, a1⟩ := hat
                  simp only at a0 a1
                  clear hck hgb
                  go_wp2_with fail
                  refine HCK.out.mono ?_
                  rintro _ w6 ⟨rfl, hs6⟩
                  have HS6 := hide' (HS.out.trans hs6)
                  clear hs6 HS HCK a0 a1
                  go_wp2
                  go_roundg (i - (k + 1))
                  case measure => omega
                  case rel => exact ⟨k + 1, by omega, rfl, by go_num, HS6⟩
                · have hke : k = i := by omega
                  subst hke
                  have hrt := root_R HR.out.1 HM.out
                  rw [HR.out.2] at hrt
                  have hck := check_in 0 0 1 2 first (HT5.out.keep HS.out) (by have := HF1.out; unfold W64; omega)
                  rw [hrt] at hck
                  have HCK := hide' hck
                  obtain ⟨q0, q1, _, _⟩ := HRB.out.keep HS.out
                  simp only at q0 q1
                  have HST := hide' (HT5.out.stay.trans HS.out)
                  clear hrt hck HS
                  go_wp2_with fail
                  refine HCK.out.mono ?_
                  rintro _ w7 ⟨rfl, hs7⟩
                  have HS7 := hide' (HST.out.trans hs7)
                  clear hs7 HST HCK q0 q1
                  go_wp2_with fail
                  refine (awake7 _).mono ?_
                  rintro _ w9 ⟨rfl, hs9⟩
                  have HS9 := hide' (HS7.out.trans hs9)
                  clear hs9 HS7
                  go_wp2
                  go_ret
                  exact ⟨rfl, HS9.out⟩
            · have hy := HY.out
              rw [hr] at hy
              subst hy
              have HVD : Hid (VIn w wz T B bc br (fR (R ++ [r])) ⟨(i : Nat), 1⟩ i mv wc) := HO.out.v
              have HDB : Hid (NBox wc bd ⟨(i : Nat) + 1, 1⟩) := HO.out.db
              have HDO := hide' (show wz.heap.size ≤ bd ∧ ∀ k, mv.ownBlock = some k → k ≠ bd from ⟨HO.out.off, HO.out.row⟩)
              have c0 : wc.cell? ⟨b, off + i, none⟩ = some (.int .i64 r) := keep_cell HVD.out.tab.stay HCW.out
              obtain ⟨d0, d1, _, _⟩ := HDB.out
              simp only at d0 d1
              have hlast : (R ++ [r]).getD (i + 1) 0 = r := by rw [← HR.out.1.len]; simp
              have hck := check_in ((i : Nat) + 1) ((i : Nat) + 1) 1 2 right HVD.out.tab (by unfold W64; omega)
              have hcr := check_R hq right
              rw [hlast, show ((i + 1 : Nat) : Int) = ((i : Nat) : Int) + 1 by omega] at hcr
              rw [hcr] at hck
              have HALL := hide' hall
              rw [← HRX.out] at hall
              have HQ : Hid (RI (R ++ [r]) (i + 1) ∧ (R ++ [r]).getD 0 0 = first) := ⟨hq, by
                have h0 := HR.out.2
                have hl := HR.out.1.len
                rw [List.getD_eq_getElem?_getD, List.getElem?_append_left (by omega), ← List.getD_eq_getElem?_getD]
                exact h0⟩
              have HLAST := hide' hlast
              obtain ⟨cr, hcre⟩ : ∃ cr : Int × Int, cr = if right = bits .and .i64 right r then (3, 0) else (0, 8) := ⟨_, rfl⟩
              rw [← hcre] at hck
              have HCK := hide' hck
              have HCR := hide' hcre
              have HIL : Hid (i + 1 ≤ 1000000) := by have := HRT.out; show i + 1 ≤ 1000000; omega
              clear HO HY HSHC HV HCX hr hq hlast hcr hck hcre HR
              have hend : (cr.2 = 0 ∧ (bits .and .i64 right r != right) = false) ∨ cr.2 = 8 := by
                rw [HCR.out]
                by_cases h : right = bits .and .i64 right r
                · rw [if_pos h]; exact .inl ⟨rfl, by rw [← h]; simp⟩
                · rw [if_neg h]; exact .inr rfl
              go_wp2_with fail
              refine HCK.out.mono ?_
              rintro _ w4 ⟨rfl, hs4⟩
              have HV4 := hide' (HVD.out.keep hs4)
              have HD4 := hide' (HDB.out.keep hs4)
              clear hs4 HCK c0 d0 d1 hall
              obtain ⟨c1, c2⟩ := cr
              simp only at hend
              have hst : Stay (fun _ => False) w4 (w4.alloc (.cells #[.int .i64 ((i : Nat) + 1), .int .i64 1] 30)) := (Stay.refl _ _).alloc _
              have HV5 := hide' (HV4.out.keep hst)
              have HD5 := hide' (HD4.out.keep hst)
              have HSRC := hide' (isRowS_new w4 #[.int .i64 ((i : Nat) + 1), .int .i64 1] 30 2 1 rfl)
              have HON : Hid (∀ u ∈ [Value.int .i64 ((i : Nat) + 1), Value.int .i64 1], u.oneCell' = true) := by
                intro u hu
                simp only [List.mem_cons, List.not_mem_nil, or_false] at hu
                rcases hu with rfl | rfl <;> rfl
              obtain ⟨d0, d1, _, _⟩ := HD4.out
              simp only at d0 d1
              clear hst HV4 HVD HDB
              rcases hend with ⟨he0, hbb⟩ | he8
              · have he1 : (c2 == 0) = true := by rw [he0]; rfl
                subst he0
                go_wp2_with (at_builtin; go_must (refine appS rfl _ _ 28 rfl Try.underlying28 info30 rfl (by decide) (by decide) HV5.out.row rfl HSRC.out rfl HON.out HIL.out HV5.out.size ?_; intro v5 W5 ho hst hb; have HX5 : Hid (W5.ownsRow wz.heap.size 30 2 v5 (i + 1) (nms (madeR (i + 1))) ∧ TIn w T B 20 20 (fR (R ++ [r])) 1 W5 ∧ NBox W5 bc ⟨(i : Nat), 1⟩ ∧ NBox W5 br ⟨0, 1⟩ ∧ NBox W5 bd ⟨(i : Nat) + 1, 1⟩ ∧ wz.heap.size ≤ W5.heap.size) := out_app HV5.out HD5.out HAH.out HDO.out.2 ho hst; obtain ⟨e0, e1, e2, e3⟩ := HX5.out.2.2.1; obtain ⟨d0', d1', _, _⟩ := HX5.out.2.2.2.2.1; simp only at e0 e1 d0' d1'; clear ho hst hb HV5 HD5 HSRC HON d0 d1))
                generalize hWr : World.setCell (World.setCell _ _ _) _ _ = W6
                have HV6 : Hid (VIn w wz T B bc br (fR (R ++ [r])) ⟨((i + 1 : Nat) : Int), 1⟩ (i + 1) v5 W6) := by
                  have hsx : Stay (fun j => j = bc) W5 W6 := by rw [← hWr]; exact ((Stay.refl (fun j => j = bc) _).setCell (p := ⟨bc, 0, none⟩) rfl _).setCell (p := ⟨bc, 1, none⟩) rfl _
                  have ha := HAH.out
                  unfold Ahead at ha
                  refine ⟨HX5.out.2.1.beside hsx (fun k hk e => by omega) (by omega) (by omega), ?_, HX5.out.2.2.2.1.stay hsx (by omega), hsx.owns HX5.out.1 (fun k hk e => by have := (HX5.out.1.lt k hk).1; omega), Nat.le_trans HX5.out.2.2.2.2.2 hsx.size⟩
                  rw [← hWr, show ((i + 1 : Nat) : Int) = ((i : Nat) : Int) + 1 by omega]
                  exact HX5.out.2.2.1.put ⟨((i : Nat) : Int) + 1, 1⟩
                clear hWr HX5
                go_roundg (ll - (i + 1))
                case measure => omega
                case rel => exact ⟨i + 1, R ++ [r], _, by omega, rfl, by rw [HLAST.out], rfl, by go_num, HQ, HV6⟩
              · subst he8
                go_wp2_with (at_builtin; go_must (refine appS rfl _ _ 28 rfl Try.underlying28 info30 rfl (by decide) (by decide) HV5.out.row rfl HSRC.out rfl HON.out HIL.out HV5.out.size ?_; intro v5 W5 ho hst hb; have HX5 : Hid (W5.ownsRow wz.heap.size 30 2 v5 (i + 1) (nms (madeR (i + 1))) ∧ TIn w T B 20 20 (fR (R ++ [r])) 1 W5 ∧ NBox W5 bc ⟨(i : Nat), 1⟩ ∧ NBox W5 br ⟨0, 1⟩ ∧ NBox W5 bd ⟨(i : Nat) + 1, 1⟩ ∧ wz.heap.size ≤ W5.heap.size) := out_app HV5.out HD5.out HAH.out HDO.out.2 ho hst; obtain ⟨e0, e1, e2, e3⟩ := HX5.out.2.2.1; obtain ⟨d0', d1', _, _⟩ := HX5.out.2.2.2.2.1; simp only at e0 e1 d0' d1'; clear ho hst hb HV5 HD5 HSRC HON d0 d1))
                generalize hWr : World.setCell (World.setCell _ _ _) _ _ = W6
                have HV6 : Hid (VIn w wz T B bc br (fR (R ++ [r])) ⟨((i + 1 : Nat) : Int), 1⟩ (i + 1) v5 W6) := by
                  have hsx : Stay (fun j => j = bc) W5 W6 := by rw [← hWr]; exact ((Stay.refl (fun j => j = bc) _).setCell (p := ⟨bc, 0, none⟩) rfl _).setCell (p := ⟨bc, 1, none⟩) rfl _
                  have ha := HAH.out
                  unfold Ahead at ha
                  refine ⟨HX5.out.2.1.beside hsx (fun k hk e => by omega) (by omega) (by omega), ?_, HX5.out.2.2.2.1.stay hsx (by omega), hsx.owns HX5.out.1 (fun k hk e => by have := (HX5.out.1.lt k hk).1; omega), Nat.le_trans HX5.out.2.2.2.2.2 hsx.size⟩
                  rw [← hWr, show ((i + 1 : Nat) : Int) = ((i : Nat) : Int) + 1 by omega]
                  exact HX5.out.2.2.1.put ⟨((i : Nat) : Int) + 1, 1⟩
                clear hWr HX5
                go_roundg (ll - (i + 1))
                case measure => omega
                case rel => exact ⟨i + 1, R ++ [r], _, by omega, rfl, by rw [HLAST.out], rfl, by go_num, HQ, HV6⟩
        · have hie : i = ll := by omega
          subst hie
          have HVT := HV
          clear HV
          obtain ⟨ad, cp, rfl⟩ := owns_sliceS HVT.out.row
          have hown := own_R HR.out.1 0 (Nat.zero_le _) 0
          rw [has0, if_pos rfl] at hown
          have hown' : ownE 20 (fR R) 0 0 1 0 = 0 := hown
          have hrv := revoke_in 0 0 1 HVT.out.tab (by decide)
          rw [hown'] at hrv
          have HRV := hide' hrv
          obtain ⟨q0, q1, _, _⟩ := HVT.out.rb
          simp only at q0 q1
          have hi20 : ((i : Nat) : Int) ≤ 10 := by have := HR.out.1.le; omega
          have dii : (((i : Nat) : Int) != (i : Nat)) = false := by simp
          clear hown hown' hrv
          go_wp2_with fail
          refine HRV.out.mono ?_
          rintro _ w5 ⟨f', c, rfl, h5, hs5, _, hc⟩
          obtain ⟨M, hM, rfl, rfl⟩ := hc rfl
          obtain ⟨hcn, _, _⟩ := revoke_R HR.out.1 hM
          rw [hcn]
          have HM := hide' hM
          have HT5 := hide' h5
          have HROW := hide' (hs5.owns HVT.out.row (fun k hk e => by have := (HVT.out.row.lt k hk).1; have := HAH.out.2.1; omega))
          have HRB := hide' (HVT.out.rb.stay hs5 HAH.out.2.2.2.2.2.1)
          have HL0 := hide' (Stay.refl (fun _ => False) w5)
          clear hM h5 hs5 hc hcn HRV HVT q0 q1
          go_wp2
          go_loopg [20] i (fun gg v20 wr => ∃ k : Nat, k ≤ i ∧ gg = i - k ∧ v20 = .int .i64 (k : Int) ∧ Hid (Stay (fun _ => False) w5 wr))
          case atStart => exact ⟨0, Nat.zero_le _, rfl, rfl, HL0⟩
          case round =>
            clear HL0
            obtain ⟨k, hk, rfl, rfl, HS⟩ := hrel
            by_cases hki : k < i
            · have kiz : (k : Int) < (i : Nat) := by omega
              obtain ⟨g, hg, hgb, hat⟩ := names_at (HS.out.owns HROW.out (fun _ _ h => h)) (madeR_len i) k _ (madeR_get i k hki)
              subst hg
              have hck := check_in ((k : Nat) + 1) ((k : Nat) + 1) 1 2 0 (HT5.out.keep HS.out) (by unfold W64; omega)
              rw [stale_R HR.out.1 HM.out k hki] at hck
              have HCK := hide' hck
              obtain ⟨a0, a1⟩ := hat
              simp only at a0 a1
              clear hck hgb
              go_wp2_with fail
              refine HCK.out.mono ?_
              rintro _ w6 ⟨rfl, hs6⟩
              have HS6 := hide' (HS.out.trans hs6)
              clear hs6 HS HCK a0 a1
              go_wp2
              go_roundg (i - (k + 1))
              case measure => omega
              case rel => exact ⟨k + 1, by omega, rfl, by go_num, HS6⟩
            · have hke : k = i := by omega
              subst hke
              have hrt := root_R HR.out.1 HM.out
              rw [HR.out.2] at hrt
              have hck := check_in 0 0 1 2 first (HT5.out.keep HS.out) (by have := HF1.out; unfold W64; omega)
              rw [hrt] at hck
              have HCK := hide' hck
              obtain ⟨q0, q1, _, _⟩ := HRB.out.keep HS.out
              simp only at q0 q1
              have HST := hide' (HT5.out.stay.trans HS.out)
              clear hrt hck HS
              go_wp2_with fail
              refine HCK.out.mono ?_
              rintro _ w7 ⟨rfl, hs7⟩
              have HS7 := hide' (HST.out.trans hs7)
              clear hs7 HST HCK q0 q1
              go_wp2_with fail
              refine (awake7 _).mono ?_
              rintro _ w9 ⟨rfl, hs9⟩
              have HS9 := hide' (HS7.out.trans hs9)
              clear hs9 HS7
              go_wp2
              go_ret
              exact ⟨rfl, HS9.out⟩
    · rw [if_neg hf1] at hm
      have HM := hide' hm
      clear hm ht1 HN hT hB
      go_wp2_with fail
      refine HM.out.mono ?_
      rintro _ w2 ⟨rfl, ht2, _⟩
      have HT2 := hide' ht2.stay
      clear ht2 HM
      by_cases hlo : first < 1
      · have dlo : decide (first < 1) = true := decide_eq_true hlo
        clear hf1
        go_wp2_with fail
        refine (awake7 _).mono ?_
        rintro _ w9 ⟨rfl, hs9⟩
        have HS9 := hide' ((HT2.out.alloc _).trans hs9)
        clear hs9 HT2
        go_wp2
        go_ret
        exact ⟨rfl, HS9.out⟩
      · have dlo : decide (first < 1) = false := decide_eq_false hlo
        have hhi : 7 < first := by omega
        have dhi : decide (7 < first) = true := decide_eq_true hhi
        clear hf1
        go_wp2_with fail
        refine (awake7 _).mono ?_
        rintro _ w9 ⟨rfl, hs9⟩
        have HS9 := hide' ((HT2.out.alloc _).trans hs9)
        clear hs9 HT2
        go_wp2
        go_ret
        exact ⟨rfl, HS9.out⟩

end Go.Proofs.Ytlhfpnfiamgmlaa
