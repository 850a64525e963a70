/-
  A ring grows: walked. No conditions.
-/
import Derived.Test.YtcikjghgpppokaaD0
import Derived.Laws.CopyOwn
namespace Go.Proofs.Ytcikjghgpppokaa
open Go.RowKit

theorem QAt.slice {w : World} {q : Qu} {L : List Int} (h : QAt w q L) : ∃ ad cap, q.v = .slice ad q.c cap := by
  obtain ⟨g, hg, _⟩ := h.ring
  rcases hg with ⟨e, hc⟩ | ⟨rb, e, _⟩
  · exact ⟨none, 0, by rw [e, hc]⟩
  · exact ⟨_, _, e⟩

theorem Stay.setRow {S : Nat → Prop} {w w1 : World} {g : Nat} (h : Stay S w w1) (hb : w.heap.size ≤ g) (cs : Array Value) : Stay S w (w1.setRow g cs) :=
  ⟨h.os, h.tape, h.output, by simpa [World.setRow] using h.size, fun k hk hs => (setRow_other w1 g k cs (by omega)).trans (h.block k hk hs)⟩

/-- A row with numbers laid at its beginning. -/
theorem row_laid {w : World} {g d : Nat} {cur : Array Value} {L : List Int} (hg : w.heap[g]? = some (.cells cur 3 (0, 0))) (hd : cur.size = d) (hz : ∀ i, i < d → cur[i]? = some (.int .i64 0)) (hl : L.length ≤ d) :
    (w.setRow g (cur.toList.take 0 ++ L.map (Value.int .i64 ·) ++ cur.toList.drop (0 + (L.map (Value.int .i64 ·)).length)).toArray).rowIs g 3 d (fun i => .int .i64 (L.getD i 0)) := by
  refine ⟨_, setRow_heap w g cur _ 3 _ hg, by simp; omega, fun i hi => ?_⟩
  simp only [List.take_zero, List.nil_append, List.length_map, Nat.zero_add, List.getElem?_toArray]
  by_cases h : i < L.length
  · rw [List.getElem?_append_left (by simpa using h)]
    simp [List.getD_eq_getElem?_getD, h]
  · rw [List.getElem?_append_right (by simp; omega)]
    have := hz i hi
    simp only [List.length_map, List.getElem?_drop, List.getD_eq_getElem?_getD]
    rw [show L.length + (i - L.length) = i by omega, Array.getElem?_toList, this, List.getElem?_eq_none (by omega)]
    rfl

/-- A queue that has a place for one number more. -/
def Grown (q : Qu) (L : List Int) (w : World) (e : Ending) (w' : World) : Prop := ∃ q' : Qu, e = .returned (.tuple #[]) ∧ QAt w' q' L ∧ (q'.b = q.b ∧ q'.n = q.n ∧ q'.r = q.r ∧ q'.k = q.k ∧ q'.p = q.p ∧ q'.z = q.z) ∧ q'.n < q'.c ∧ Stay (fun j => j = q.b) w w' ∧ ∀ j, q'.own j → q.own j ∨ w.heap.size ≤ j

theorem grow13 (q : Qu) (L : List Int) (w : World) (hq : QAt w q L) (hr : q.n ≤ q.r) : Calls Try.prog 13 #[.pointer (some ⟨q.b, 0, none⟩)] w (Grown q L w) := by
  have h1 := hq.n1
  have h2 := hq.c1
  have h3 := hq.r2
  obtain ⟨ad, cap, hv⟩ := hq.slice
  have HQ := hide' hq
  have HV := hide' hv
  by_cases hlt : q.n < q.c
  · have i1 : (q.n : Int) < (q.c : Nat) := by omega
    have HLT := hide' hlt
    obtain ⟨b0, b1, b2, b3, b4, b5, b6, f0, f1, f2, f3, f4, f5, f6⟩ := hq.box
    simp only [Qu.bx] at b0 b1 b2 b3 b4 b5 b6
    rw [hv] at b0
    clear hq hv hlt h1 h2 h3 hr
    go_enter Try.func13, Try.ntmps13
    go_wp2
    go_quiet (fail)
    go_wp2
    go_returns
    exact ⟨q, rfl, HQ.out.keep ((Stay.refl _ _).drewN _), ⟨rfl, rfl, rfl, rfl, rfl, rfl⟩, HLT.out, (Stay.refl _ _).drewN _, fun j h => .inl h⟩
  · have hnc : q.n = q.c := by omega
    have i1 : ¬ (q.n : Int) < (q.c : Nat) := by omega
    obtain ⟨c2, hc2⟩ : ∃ m, m = 2 * q.c := ⟨_, rfl⟩
    have e1 : IntKind.i64.wrap (2 * (q.c : Int)) = (c2 : Nat) := by rw [IntKind.wrap_i64]; omega
    obtain ⟨m8, hm8⟩ : ∃ m, m = max c2 8 := ⟨_, rfl⟩
    have e2 : max ((c2 : Nat) : Int) 8 = (m8 : Nat) := by omega
    obtain ⟨r1, hr1⟩ : ∃ m, m = q.r + 1 := ⟨_, rfl⟩
    have e3 : IntKind.i64.wrap ((q.r : Int) + 1) = (r1 : Nat) := by rw [IntKind.wrap_i64]; omega
    obtain ⟨d, hd⟩ : ∃ m, m = min m8 r1 := ⟨_, rfl⟩
    have e4 : min ((m8 : Nat) : Int) (r1 : Nat) = (d : Nat) := by omega
    have hnd : q.n < d := by omega
    have hdr : d ≤ q.r + 1 := by omega
    have HND := hide' hnd
    have HDR := hide' hdr
    have hmk := fun w => run_make_row' (P := Try.prog) 22 3 (.int .i64 0) 8 Try.underlying22 info3 rfl .i64 .i64 d (by omega) (by omega) w
    have d0 : (0 : Int) ≤ (d : Nat) := by omega
    obtain ⟨b0, b1, b2, b3, b4, b5, b6, f0, f1, f2, f3, f4, f5, f6⟩ := hq.box
    simp only [Qu.bx] at b0 b1 b2 b3 b4 b5 b6
    rw [hv] at b0
    clear hq hv hlt h1 h2 h3 hr hnc hc2 hm8 hr1 hd hnd hdr
    go_enter Try.func13, Try.ntmps13
    go_wp2
    go_quiet (fail)
    go_upto_region 1 with fail
    have HB1 : Hid (QBox (w.drewN nq) q.b q.bx) := HQ.out.box.keep ((Stay.refl _ _).drewN _)
    have HS1 : Hid (Stay (fun _ => False) w (w.drewN nq)) := (Stay.refl _ _).drewN _
    obtain ⟨W0, hw0⟩ : ∃ x, x = w.drewN nq := ⟨_, rfl⟩
    rw [← hw0] at HB1 HS1
    rw [← hw0]
    clear hw0 b0 b1 b2 b3 b4 b5 b6 f0 f1 f2 f3 f4 f5 f6
    have hS : (fun w' => Stay (fun _ => False) W0 w' ∧ QBox w' q.b q.bx) W0.drew := ⟨(Stay.refl _ _).drew, HB1.out.keep (Stay.refl _ _).drew⟩
    refine wp_region_mix (fun w' => Stay (fun _ => False) W0 w' ∧ QBox w' q.b q.bx) [(0, true), (1, true), (2, true), (3, true), (4, true), (5, true), (6, true), (7, true), (8, true), (9, true), (10, true), (11, true), (12, true), (13, false), (14, true)] (by kernel_rfl) (by kernel_rfl) (fun _ d _ _ _ h => by cases d <;> exact h) hS ?_
    refine mix_begin (fun K0 hK0 => ?_)
    refine mix_take hK0 (some 13) (.move (.tmp 0)) 24 _ (by kernel_rfl) (by kernel_rfl) (fun w' hS' => by (obtain ⟨_, sb⟩ := hS'; obtain ⟨b0, b1, b2, b3, b4, b5, b6, f0, f1, f2, f3, f4, f5, f6⟩ := sb; simp only [Qu.bx] at b0 b1 b2 b3 b4 b5 b6; rw [HV.out] at b0; simp only [opr]; go_simp; try with_reducible rfl)) (fun K1 hK1 => ?_)
    clear hK0 K0
    simp only [Act.put, List.setIfInBounds_toArray, List.set_cons_zero, List.set_cons_succ]
    refine mix_take hK1 (some 14) (.nilCheck (.tmp 13)) 0 _ (by kernel_rfl) (by kernel_rfl) (fun w' hS' => by (obtain ⟨_, sb⟩ := hS'; obtain ⟨b0, b1, b2, b3, b4, b5, b6, f0, f1, f2, f3, f4, f5, f6⟩ := sb; simp only [Qu.bx] at b0 b1 b2 b3 b4 b5 b6; rw [HV.out] at b0; simp only [opr]; go_simp; try with_reducible rfl)) (fun K2 hK2 => ?_)
    clear hK1 K1
    simp only [Act.put, List.setIfInBounds_toArray, List.set_cons_zero, List.set_cons_succ]
    refine mix_take hK2 (some 15) (.fieldAddr 36 (.tmp 14) 0) 0 _ (by kernel_rfl) (by kernel_rfl) (fun w' hS' => by (obtain ⟨_, sb⟩ := hS'; obtain ⟨b0, b1, b2, b3, b4, b5, b6, f0, f1, f2, f3, f4, f5, f6⟩ := sb; simp only [Qu.bx] at b0 b1 b2 b3 b4 b5 b6; rw [HV.out] at b0; simp only [opr]; go_simp; try with_reducible rfl)) (fun K3 hK3 => ?_)
    clear hK2 K2
    simp only [Act.put, List.setIfInBounds_toArray, List.set_cons_zero, List.set_cons_succ]
    refine mix_take hK3 (some 16) (.load 22 (.tmp 15)) 22 _ (by kernel_rfl) (by kernel_rfl) (fun w' hS' => by (obtain ⟨_, sb⟩ := hS'; obtain ⟨b0, b1, b2, b3, b4, b5, b6, f0, f1, f2, f3, f4, f5, f6⟩ := sb; simp only [Qu.bx] at b0 b1 b2 b3 b4 b5 b6; rw [HV.out] at b0; simp only [opr]; go_simp; try with_reducible rfl)) (fun K4 hK4 => ?_)
    clear hK3 K3
    simp only [Act.put, List.setIfInBounds_toArray, List.set_cons_zero, List.set_cons_succ]
    refine mix_take hK4 (some 17) (.call { callee := Callee.builtin Builtin.len, args := #[.tmp 16], argTypes := #[22] }) 3 _ (by kernel_rfl) (by kernel_rfl) (fun w' hS' => by (obtain ⟨_, sb⟩ := hS'; obtain ⟨b0, b1, b2, b3, b4, b5, b6, f0, f1, f2, f3, f4, f5, f6⟩ := sb; simp only [Qu.bx] at b0 b1 b2 b3 b4 b5 b6; rw [HV.out] at b0; simp only [opr]; go_simp; try with_reducible rfl)) (fun K5 hK5 => ?_)
    clear hK4 K4
    simp only [Act.put, List.setIfInBounds_toArray, List.set_cons_zero, List.set_cons_succ]
    refine mix_take hK5 (some 18) (.binOp BinOp.mul 3 (.const (Value.int IntKind.i64 2)) (.tmp 17) 3) 3 _ (by kernel_rfl) (by kernel_rfl) (fun w' hS' => by (obtain ⟨_, sb⟩ := hS'; obtain ⟨b0, b1, b2, b3, b4, b5, b6, f0, f1, f2, f3, f4, f5, f6⟩ := sb; simp only [Qu.bx] at b0 b1 b2 b3 b4 b5 b6; rw [HV.out] at b0; simp only [opr]; go_simp; try with_reducible rfl)) (fun K6 hK6 => ?_)
    clear hK5 K5
    simp only [Act.put, List.setIfInBounds_toArray, List.set_cons_zero, List.set_cons_succ]
    refine mix_take hK6 (some 19) (.call { callee := Callee.builtin Builtin.max, args := #[.tmp 18, .const (Value.int IntKind.i64 8)], argTypes := #[3, 3] }) 3 _ (by kernel_rfl) (by kernel_rfl) (fun w' hS' => by (obtain ⟨_, sb⟩ := hS'; obtain ⟨b0, b1, b2, b3, b4, b5, b6, f0, f1, f2, f3, f4, f5, f6⟩ := sb; simp only [Qu.bx] at b0 b1 b2 b3 b4 b5 b6; rw [HV.out] at b0; simp only [opr]; go_simp; try with_reducible rfl)) (fun K7 hK7 => ?_)
    clear hK6 K6
    simp only [Act.put, List.setIfInBounds_toArray, List.set_cons_zero, List.set_cons_succ]
    refine mix_take hK7 (some 20) (.move (.tmp 0)) 24 _ (by kernel_rfl) (by kernel_rfl) (fun w' hS' => by (obtain ⟨_, sb⟩ := hS'; obtain ⟨b0, b1, b2, b3, b4, b5, b6, f0, f1, f2, f3, f4, f5, f6⟩ := sb; simp only [Qu.bx] at b0 b1 b2 b3 b4 b5 b6; rw [HV.out] at b0; simp only [opr]; go_simp; try with_reducible rfl)) (fun K8 hK8 => ?_)
    clear hK7 K7
    simp only [Act.put, List.setIfInBounds_toArray, List.set_cons_zero, List.set_cons_succ]
    refine mix_take hK8 (some 21) (.nilCheck (.tmp 20)) 0 _ (by kernel_rfl) (by kernel_rfl) (fun w' hS' => by (obtain ⟨_, sb⟩ := hS'; obtain ⟨b0, b1, b2, b3, b4, b5, b6, f0, f1, f2, f3, f4, f5, f6⟩ := sb; simp only [Qu.bx] at b0 b1 b2 b3 b4 b5 b6; rw [HV.out] at b0; simp only [opr]; go_simp; try with_reducible rfl)) (fun K9 hK9 => ?_)
    clear hK8 K8
    simp only [Act.put, List.setIfInBounds_toArray, List.set_cons_zero, List.set_cons_succ]
    refine mix_take hK9 (some 22) (.fieldAddr 36 (.tmp 21) 3) 0 _ (by kernel_rfl) (by kernel_rfl) (fun w' hS' => by (obtain ⟨_, sb⟩ := hS'; obtain ⟨b0, b1, b2, b3, b4, b5, b6, f0, f1, f2, f3, f4, f5, f6⟩ := sb; simp only [Qu.bx] at b0 b1 b2 b3 b4 b5 b6; rw [HV.out] at b0; simp only [opr]; go_simp; try with_reducible rfl)) (fun K10 hK10 => ?_)
    clear hK9 K9
    simp only [Act.put, List.setIfInBounds_toArray, List.set_cons_zero, List.set_cons_succ]
    refine mix_take hK10 (some 23) (.load 3 (.tmp 22)) 3 _ (by kernel_rfl) (by kernel_rfl) (fun w' hS' => by (obtain ⟨_, sb⟩ := hS'; obtain ⟨b0, b1, b2, b3, b4, b5, b6, f0, f1, f2, f3, f4, f5, f6⟩ := sb; simp only [Qu.bx] at b0 b1 b2 b3 b4 b5 b6; rw [HV.out] at b0; simp only [opr]; go_simp; try with_reducible rfl)) (fun K11 hK11 => ?_)
    clear hK10 K10
    simp only [Act.put, List.setIfInBounds_toArray, List.set_cons_zero, List.set_cons_succ]
    refine mix_take hK11 (some 24) (.binOp BinOp.add 3 (.tmp 23) (.const (Value.int IntKind.i64 1)) 3) 3 _ (by kernel_rfl) (by kernel_rfl) (fun w' hS' => by (obtain ⟨_, sb⟩ := hS'; obtain ⟨b0, b1, b2, b3, b4, b5, b6, f0, f1, f2, f3, f4, f5, f6⟩ := sb; simp only [Qu.bx] at b0 b1 b2 b3 b4 b5 b6; rw [HV.out] at b0; simp only [opr]; go_simp; try with_reducible rfl)) (fun K12 hK12 => ?_)
    clear hK11 K11
    simp only [Act.put, List.setIfInBounds_toArray, List.set_cons_zero, List.set_cons_succ]
    refine mix_take hK12 (some 25) (.call { callee := Callee.builtin Builtin.min, args := #[.tmp 19, .tmp 24], argTypes := #[3, 3] }) 3 _ (by kernel_rfl) (by kernel_rfl) (fun w' hS' => by (obtain ⟨_, sb⟩ := hS'; obtain ⟨b0, b1, b2, b3, b4, b5, b6, f0, f1, f2, f3, f4, f5, f6⟩ := sb; simp only [Qu.bx] at b0 b1 b2 b3 b4 b5 b6; rw [HV.out] at b0; simp only [opr]; go_simp; try with_reducible rfl)) (fun K13 hK13 => ?_)
    clear hK12 K12
    simp only [Act.put, List.setIfInBounds_toArray, List.set_cons_zero, List.set_cons_succ]
    refine mix_chain hK13 (fun K13c hK13c => ?_)
    clear hK13 K13
    refine op_plain (some 26) (.makeSlice 22 (.tmp 25) (.tmp 25)) 22 (by kernel_rfl) (by kernel_rfl) ?_
    go_wp2
    have hSf : (fun w' => Stay (fun _ => False) W0 w' ∧ QBox w' q.b q.bx) (W0.drew.alloc (.cells (madeCells #[.int .i64 0] d) 3)) := ⟨hS.1.alloc _, hS.2.alloc _⟩
    refine hK13c _ _ hSf (mix_begin fun K14 hK14 => ?_)
    clear hK13c K13c
    try simp only [Act.put, List.setIfInBounds_toArray, List.set_cons_zero, List.set_cons_succ]
    refine mix_take hK14 (some 2) (.assign (.tmp 26)) 22 _ (by kernel_rfl) (by kernel_rfl) (fun w' hS' => by (obtain ⟨_, sb⟩ := hS'; obtain ⟨b0, b1, b2, b3, b4, b5, b6, f0, f1, f2, f3, f4, f5, f6⟩ := sb; simp only [Qu.bx] at b0 b1 b2 b3 b4 b5 b6; rw [HV.out] at b0; simp only [opr]; go_simp; try with_reducible rfl)) (fun K15 hK15 => ?_)
    clear hK14 K14
    simp only [Act.put, List.setIfInBounds_toArray, List.set_cons_zero, List.set_cons_succ]
    refine hK15 _ _ (mix_nil ?_)
    clear hK15 K15
    obtain ⟨B, hB⟩ : ∃ B, B = W0.heap.size := ⟨_, rfl⟩
    obtain ⟨W1, hW1⟩ : ∃ W, W = (W0.alloc (.cells (madeCells #[.int .i64 0] d) 3)).drew := ⟨_, rfl⟩
    have hst : Stay (fun _ => False) W0 W1 := by rw [hW1]; exact ((Stay.refl _ _).alloc _).drew
    have HS2 := hide' (HS1.out.trans hst)
    have HQ2 := hide' (HQ.out.keep HS2.out)
    have HR2 : Hid (W1.rowIs B 3 d (fun _ => .int .i64 0)) := by rw [hW1, hB]; exact (World.rowIs_made W0 (.int .i64 0) d 3).drew
    have HBB : Hid (w.heap.size ≤ B ∧ B ≠ q.b) := ⟨by rw [hB]; exact HS1.out.size, fun e => by have := HB1.out.lt; omega⟩
    rw [← hW1, ← hB]
    clear hW1 hB hst HS1 HB1 hS hSf
    have HALL := hide' (fun W h => all15 q L W h)
    go_wp2_with fail
    refine (HALL.out _ HQ2.out).mono ?_
    rintro e w3 ⟨ra, rfl, hs, hra, hrow⟩
    have HS3 := hide' (HS2.out.trans hs)
    have HQ3 := hide' (HQ2.out.keep hs)
    obtain ⟨cur, hg, hsz, hz⟩ := hs.row HR2.out (fun h => h)
    have HG := hide' hg
    have HLL := hide' HQ.out.len
    have HSRC : Hid (∀ j v, (L.map (Value.int .i64 ·))[j]? = some v → w3.cell? ((⟨ra, 0, none⟩ : Addr).add j) = some v) := fun j v hv => by
      rw [addr_add, Nat.zero_add]
      rw [List.getElem?_map, Option.map_eq_some_iff] at hv
      obtain ⟨z, hz, rfl⟩ := hv
      have hj := (List.getElem?_eq_some_iff.1 hz).1
      rw [hrow.cell (by rw [← HLL.out]; exact hj), List.getD_eq_getElem?_getD, hz]
      rfl
    have HLEN : Hid ((L.map (Value.int .i64 ·)).length = Nat.min q.n d) := by
      have := HND.out
      have := HLL.out
      rw [List.length_map]
      show L.length = min q.n d
      omega
    have HFIT : Hid (0 + (L.map (Value.int .i64 ·)).length ≤ cur.size) := by
      have := HND.out
      have := HLL.out
      rw [List.length_map]
      show 0 + L.length ≤ cur.size
      omega
    have HLAID := hide' (row_laid (L := L) hg hsz hz (by have := HND.out; have := HLL.out; omega))
    have hcp := run_copy_row (P := Try.prog) w3 22 22 3 3 B 0 d d ⟨ra, 0, none⟩ q.n q.n cur 3 (L.map (Value.int .i64 ·)) Try.underlying22 (by kernel_rfl) HG.out HLEN.out HSRC.out HFIT.out (one_ints _ _)
    generalize hW4 : World.setRow w3 B _ = W4 at hcp HLAID
    rw [List.length_map] at hcp
    have HS4 : Hid (Stay (fun _ => False) w W4) := by rw [← hW4]; exact HS3.out.setRow HBB.out.1 _
    have HB4 : Hid (QBox W4 q.b q.bx) := by
      rw [← hW4]
      exact HQ3.out.box.stay (T := fun j => j = B) ⟨rfl, rfl, rfl, by simp [World.setRow], fun k _ hk => setRow_other w3 B k _ hk⟩ (fun e => HBB.out.2 e.symm)
    clear hs hra hrow hg hsz hz HS2 HQ2 HR2 HALL hW4 HS3 HQ3 HG HSRC HLEN HFIT
    obtain ⟨b0, b1, b2, b3, b4, b5, b6, f0, f1, f2, f3, f4, f5, f6⟩ := HB4.out
    simp only [Qu.bx] at b0 b1 b2 b3 b4 b5 b6
    rw [HV.out] at b0
    go_wp2
    go_returns
    generalize hW5 : World.setCell (World.setCell _ _ _) _ _ = W5
    have hb1 := HB4.out.put0 (x := .slice (some ⟨B, 0, none⟩) d d) (q := ⟨.slice (some ⟨B, 0, none⟩) d d, (q.f : Nat), (q.n : Nat), (q.r : Nat), q.k, (q.p : Nat), (q.z : Nat)⟩) rfl
    have hb2 := hb1.put1 (x := 0) (q := ⟨.slice (some ⟨B, 0, none⟩) d d, 0, (q.n : Nat), (q.r : Nat), q.k, (q.p : Nat), (q.z : Nat)⟩) rfl
    rw [hW5] at hb2
    have hst : Stay (fun j => j = q.b) W4 W5 := by rw [← hW5]; exact ((Stay.refl (fun j => j = q.b) W4).setCell (p := ⟨q.b, 0, none⟩) rfl _).setCell (p := ⟨q.b, 1, none⟩) rfl _
    have hq := HQ.out
    have k1 := HND.out
    have k2 := HDR.out
    refine ⟨⟨q.b, .slice (some ⟨B, 0, none⟩) d d, d, 0, q.n, q.r, q.k, q.p, q.z⟩, rfl, ⟨hb2, ⟨fun i => L.getD i 0, .inr ⟨B, rfl, HBB.out.2, by show 0 < d; omega, hst.row HLAID.out (fun e => HBB.out.2 e)⟩, fun i hi => ?_⟩, hq.len, .inl (by show 0 < d; omega), by show q.n ≤ d; omega, k2, hq.r1, hq.r2, hq.p1, hq.m1, hq.z1⟩, ⟨rfl, rfl, rfl, rfl, rfl, rfl⟩, k1, (HS4.out.mono (fun _ _ h => h.elim)).trans hst, fun j hj => ?_⟩
    · show L.getD ((0 + i) % d) 0 = _
      have hi' : i < q.n := hi
      rw [Nat.zero_add, Nat.mod_eq_of_lt (by omega)]
    · rcases hj with rfl | hj
      · exact .inl (.inl rfl)
      · cases hj
        exact .inr HBB.out.1

end Go.Proofs.Ytcikjghgpppokaa
