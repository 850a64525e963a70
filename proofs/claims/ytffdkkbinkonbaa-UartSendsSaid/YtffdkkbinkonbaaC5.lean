/-
  An item comes to a line: walked. No conditions.
-/
import Derived.Test.YtffdkkbinkonbaaC4
namespace Go.Proofs.Ytffdkkbinkonbaa
open Go.RowKit

/-- The flags of an item that is taken in. -/
def flagB (o : Bool) (f : Int) : Int := if o then bits .or .i64 (bits .and .i64 f 6) 1 else bits .and .i64 f 6

/-- The line behind an item that came. -/
def Ln.rcvd (q : Ln) (v u : Value) (o : Bool) : Ln := ⟨q.b, q.r, v, u, o⟩

/-- What a line is behind an item that came. -/
def Rcv (q : Ln) (L : List (Int × Int)) (M : List Int) (x f : Int) (w : World) (e : Ending) (w' : World) : Prop := ∃ v u, e = .returned (.bool (decide (L.length < q.r))) ∧ LAt w' (q.rcvd v u (!decide (L.length < q.r))) (if L.length < q.r then L ++ [(x, flagB q.o f)] else L) M ∧ Stay q.own w w' ∧ ∀ j, (q.rcvd v u (!decide (L.length < q.r))).own j → q.own j ∨ w.heap.size ≤ j

set_option maxRecDepth 100000 in
theorem receive9_f0 (q : Ln) (L : List (Int × Int)) (M : List Int) (x f : Int) (w : World) (hq : LAt w q L M) (ho : q.o = false) (hk : ¬ L.length < q.r) : Calls Try.prog 9 #[.pointer (some ⟨q.b, 0, none⟩), .int .u8 x, .int .i64 f] w (Rcv q L M x f w) := by
  obtain ⟨g, hg⟩ : ∃ g, g = bits .and .i64 f 6 := ⟨_, rfl⟩
  have e1 := hg.symm
  have HG : Hid (flagB q.o f = g) := by rw [ho, hg]; rfl
  have HK := hide' hk
  have hone := hq.l1
  obtain ⟨B, hB⟩ : ∃ B, B = w.heap.size := ⟨_, rfl⟩
  obtain ⟨W, hW⟩ : ∃ W, W = w.alloc (.cells #[.int .u8 x, .int .i64 g] 36) := ⟨_, rfl⟩
  have HI0 : Hid (IBox W B ⟨x, g⟩) := by rw [hW]; exact IBox.new ⟨x, g⟩ hB.symm
  have HS0 : Hid (Stay (fun _ => False) w W) := by rw [hW]; exact (Stay.refl _ _).alloc _
  have HOB : Hid (¬ q.own B) := fun h => by have := hq.lt B h; omega
  have HQ := hide' hq
  have HQ0 := hide' (hq.keep HS0.out)
  have HP : Hid (∀ w1, w1 = W.drew.alloc (.cells #[.int .u8 x, .int .i64 g] 36) → Calls Try.prog 15 #[.pointer (some ⟨q.b, 0, none⟩), .slice (some ⟨W.heap.size, 0, none⟩) 1 1] w1 (Wrote q 0 (L ++ [(x, g)].take 0) M w1)) := fun w1 e => by
    subst e
    refine put15 q L M (some ⟨W.heap.size, 0, none⟩) 1 1 0 [(x, g)] _ (HQ0.out.keep ((Stay.refl _ _).drew.alloc _)) ⟨fun ad e j u hu => ?_, fun e => by cases e⟩ rfl (Nat.le_refl _) (by decide) (by omega)
    cases e
    rw [addr_add]
    have hj : j < 2 := (List.getElem?_eq_some_iff.1 hu).1
    match j, hj, hu with
    | 0, _, hu => cases hu; exact (IBox.new (w := W.drew) ⟨x, g⟩ rfl).c0
    | 1, _, hu => cases hu; exact (IBox.new (w := W.drew) ⟨x, g⟩ rfl).c1
  have HBW : Hid (B = w.heap.size ∧ W = w.alloc (.cells #[.int .u8 x, .int .i64 g] 36)) := ⟨hB, hW⟩
  have b4 : ∀ o : Obj, (w.alloc o).cell? ⟨q.b, 4, none⟩ = some (.bool false) := fun o => by
    have := hq.box.c4
    rw [show q.bx.o = false from ho] at this
    exact keep_cell ((Stay.refl _ _).alloc o) this
  clear hg hk hone hB hW hq ho
  go_enter Try.func9, Try.ntmps9
  go_upto_region 6 with fail
  obtain ⟨hB, hW⟩ := HBW.out
  rw [← hW, ← hB]
  clear hB hW b4
  have hS : (fun w' => Stay q.own W w' ∧ IBox w' B ⟨x, g⟩) W.drew := ⟨(Stay.refl _ _).drew, HI0.out.keep (Stay.refl _ _).drew⟩
  refine wp_region_mix (fun w' => Stay q.own W w' ∧ IBox w' B ⟨x, g⟩) [(0, true), (1, true), (2, true), (3, true), (4, true), (5, true), (6, false), (7, false), (8, true), (9, true), (10, true), (11, false)] (by kernel_rfl) (by kernel_rfl) (fun _ d _ _ _ h => by cases d <;> exact h) hS ?_
  refine mix_begin (fun K0 hK0 => ?_)
  refine mix_take hK0 (some 22) (.move (.tmp 0)) 24 _ (by kernel_rfl) (by kernel_rfl) (fun w' hS' => by (simp only [opr]; go_simp; try with_reducible rfl)) (fun K1 hK1 => ?_)
  clear hK0 K0
  simp only [Act.put, List.setIfInBounds_toArray, List.set_cons_zero, List.set_cons_succ]
  refine mix_take hK1 (some 23) (.move (.tmp 0)) 24 _ (by kernel_rfl) (by kernel_rfl) (fun w' hS' => by (simp only [opr]; go_simp; try with_reducible rfl)) (fun K2 hK2 => ?_)
  clear hK1 K1
  simp only [Act.put, List.setIfInBounds_toArray, List.set_cons_zero, List.set_cons_succ]
  refine mix_take hK2 (some 24) (.nilCheck (.tmp 23)) 0 _ (by kernel_rfl) (by kernel_rfl) (fun w' hS' => by (simp only [opr]; go_simp; try with_reducible rfl)) (fun K3 hK3 => ?_)
  clear hK2 K2
  simp only [Act.put, List.setIfInBounds_toArray, List.set_cons_zero, List.set_cons_succ]
  refine mix_take hK3 (some 25) (.fieldAddr 57 (.tmp 24) 0) 0 _ (by kernel_rfl) (by kernel_rfl) (fun w' hS' => by (simp only [opr]; go_simp; try with_reducible rfl)) (fun K4 hK4 => ?_)
  clear hK3 K3
  simp only [Act.put, List.setIfInBounds_toArray, List.set_cons_zero, List.set_cons_succ]
  refine mix_take hK4 (some 26) (.fieldAddr 51 (.tmp 25) 0) 0 _ (by kernel_rfl) (by kernel_rfl) (fun w' hS' => by (simp only [opr]; go_simp; try with_reducible rfl)) (fun K5 hK5 => ?_)
  clear hK4 K4
  simp only [Act.put, List.setIfInBounds_toArray, List.set_cons_zero, List.set_cons_succ]
  refine mix_take hK5 (some 27) (.load 36 (.tmp 7)) 36 _ (by kernel_rfl) (by kernel_rfl) (fun w' hS' => by exact run_load_IBox rfl rfl hS'.2) (fun K6 hK6 => ?_)
  clear hK5 K5
  simp only [Act.put, List.setIfInBounds_toArray, List.set_cons_zero, List.set_cons_succ]
  refine mix_chain hK6 (fun K6c hK6c => ?_)
  clear hK6 K6
  refine op_plain (some 28) (.buildSlice 26 1 #[(0, .tmp 27)]) 26 (by kernel_rfl) (by kernel_rfl) ?_
  go_wp2
  have hSb : (fun w' => Stay q.own W w' ∧ IBox w' B ⟨x, g⟩) (W.drew.alloc (.cells #[.int .u8 x, .int .i64 g] 36)) := ⟨hS.1.alloc _, hS.2.alloc _⟩
  refine hK6c _ _ hSb (mix_begin fun K7 hK7 => ?_)
  clear hK6c K6c
  try simp only [Act.put, List.setIfInBounds_toArray, List.set_cons_zero, List.set_cons_succ]
  refine mix_call hK7 (some 29) 15 #[.tmp 26, .tmp 28] #[49, 26] 3 _ (by kernel_rfl) (by kernel_rfl) (enters Try.func15 (by kernel_rfl) (by kernel_rfl)) (by go_simp; try with_reducible rfl) (fun K8 hK8 => ?_)
  clear hK7 K7
  refine (HP.out _ rfl).mono ?_
  rintro e wm1 ⟨v1, u1, rfl, hl, hs1, ho⟩
  have HL1 := hide' hl
  have HO1 := hide' ho
  have HX1 := hide' hs1
  clear hl ho
  have hS1 : _ := (show (fun w' => Stay q.own W w' ∧ IBox w' B ⟨x, g⟩) wm1 from ⟨hSb.1.trans2 hs1 (fun j _ h => h), hSb.2.stay hs1 HOB.out⟩)
  refine ⟨_, rfl, hS1, ?_⟩
  clear hs1
  simp only [Act.put, List.setIfInBounds_toArray, List.set_cons_zero, List.set_cons_succ]
  refine mix_take hK8 (some 30) (.binOp BinOp.eql 3 (.tmp 29) (.const (Value.int IntKind.i64 0)) 3) 4 _ (by kernel_rfl) (by kernel_rfl) (fun w' hS' => by (simp only [opr]; go_simp; try with_reducible rfl)) (fun K9 hK9 => ?_)
  clear hK8 K8
  simp only [Act.put, List.setIfInBounds_toArray, List.set_cons_zero, List.set_cons_succ]
  refine mix_take hK9 (some 31) (.nilCheck (.tmp 22)) 0 _ (by kernel_rfl) (by kernel_rfl) (fun w' hS' => by (simp only [opr]; go_simp; try with_reducible rfl)) (fun K10 hK10 => ?_)
  clear hK9 K9
  simp only [Act.put, List.setIfInBounds_toArray, List.set_cons_zero, List.set_cons_succ]
  refine mix_take hK10 (some 32) (.fieldAddr 57 (.tmp 31) 2) 0 _ (by kernel_rfl) (by kernel_rfl) (fun w' hS' => by (simp only [opr]; go_simp; try with_reducible rfl)) (fun K11 hK11 => ?_)
  clear hK10 K10
  simp only [Act.put, List.setIfInBounds_toArray, List.set_cons_zero, List.set_cons_succ]
  refine mix_chain hK11 (fun K11c hK11c => ?_)
  clear hK11 K11
  refine op_plain none (.store 4 (.tmp 32) (.tmp 30)) 0 (by kernel_rfl) (by kernel_rfl) ?_
  have hb := HL1.out.box
  obtain ⟨b0, b1, b2, b3, b4, f0, f1, f2, f3, f4⟩ := hb
  simp only [Ln.bx, Ln.with] at b0 b1 b2 b3 b4 f0 f1 f2 f3 f4
  go_wp2
  have hSs : (fun w' => Stay q.own W w' ∧ IBox w' B ⟨x, g⟩) (wm1.setCell ⟨q.b, 4, none⟩ (.bool true)) := ⟨hS1.1.setCell (p := ⟨q.b, 4, none⟩) (.inl rfl) _, hS1.2.other (fun e => HOB.out (.inl e.symm))⟩
  refine hK11c _ _ hSs (mix_begin fun K12 hK12 => ?_)
  clear hK11c K11c
  try simp only [Act.put, List.setIfInBounds_toArray, List.set_cons_zero, List.set_cons_succ]
  refine hK12 _ _ (mix_nil ?_)
  clear hK12 K12
  have hset : Stay (fun j => j = q.b) wm1 (wm1.setCell ⟨q.b, 4, none⟩ (.bool true)) := (Stay.refl (fun j => j = q.b) wm1).setCell (p := ⟨q.b, 4, none⟩) rfl _
  have hbx : LBox (wm1.setCell ⟨q.b, 4, none⟩ (.bool true)) q.b (Ln.bx (q.rcvd v1 u1 true)) := HL1.out.box.put4 (x := true) (q := Ln.bx (q.rcvd v1 u1 true)) rfl
  have hl := HL1.out
  have hst : Stay q.own w (wm1.setCell ⟨q.b, 4, none⟩ (.bool true)) := (HS0.out.mono (T := q.own) (fun _ _ h => h.elim)).trans hSs.1
  have hown : ∀ j, (q.rcvd v1 u1 true).own j → q.own j ∨ w.heap.size ≤ j := fun j hj => by
    rcases HO1.out j hj with h | h
    · exact .inl h
    · exact .inr (Nat.le_trans HS0.out.size (Nat.le_trans ((Stay.refl (fun _ => False) W).drew.alloc _).size h))
  have hk := HK.out
  have hgl := HG.out
  have hfin : LAt (wm1.setCell ⟨q.b, 4, none⟩ (.bool true)) (q.rcvd v1 u1 true) (L ++ [(x, g)].take 0) M := ⟨hbx, hl.inn.stay hset hl.vb, hl.snt.stay hset hl.ub, hl.vb, hl.ub, hl.vu, hl.r1, hl.r2, hl.l1, hl.m1⟩
  have HF := hide' hfin
  have HST := hide' hst
  have HOW := hide' hown
  have bb := hbx
  obtain ⟨b0, b1, b2, b3, b4, f0, f1, f2, f3, f4⟩ := bb
  simp only [Ln.bx, Ln.rcvd] at b0 b1 b2 b3 b4 f0 f1 f2 f3 f4
  obtain ⟨W2, hW2⟩ : ∃ W2, W2 = wm1.setCell ⟨q.b, 4, none⟩ (.bool true) := ⟨_, rfl⟩
  rw [← hW2] at HF HST b0 b1 b2 b3 b4 f0 f1 f2 f3 f4
  try rw [← hW2]
  clear hfin hst hown hbx hset hSs hS1 hS hW2 hk hgl
  go_wp2
  go_returns
  refine ⟨v1, u1, by rw [decide_eq_false HK.out]; first | done | rfl, ?_, HST.out, fun j hj => ?_⟩
  · rw [decide_eq_false HK.out, if_neg HK.out]
    have := HF.out
    rw [List.take_zero, List.append_nil] at this; exact this
  · rw [decide_eq_false HK.out] at hj
    exact HOW.out j hj


set_option maxRecDepth 100000 in
theorem receive9_f1 (q : Ln) (L : List (Int × Int)) (M : List Int) (x f : Int) (w : World) (hq : LAt w q L M) (ho : q.o = false) (hk : L.length < q.r) : Calls Try.prog 9 #[.pointer (some ⟨q.b, 0, none⟩), .int .u8 x, .int .i64 f] w (Rcv q L M x f w) := by
  obtain ⟨g, hg⟩ : ∃ g, g = bits .and .i64 f 6 := ⟨_, rfl⟩
  have e1 := hg.symm
  have HG : Hid (flagB q.o f = g) := by rw [ho, hg]; rfl
  have HK := hide' hk
  have hone := hq.l1
  obtain ⟨B, hB⟩ : ∃ B, B = w.heap.size := ⟨_, rfl⟩
  obtain ⟨W, hW⟩ : ∃ W, W = w.alloc (.cells #[.int .u8 x, .int .i64 g] 36) := ⟨_, rfl⟩
  have HI0 : Hid (IBox W B ⟨x, g⟩) := by rw [hW]; exact IBox.new ⟨x, g⟩ hB.symm
  have HS0 : Hid (Stay (fun _ => False) w W) := by rw [hW]; exact (Stay.refl _ _).alloc _
  have HOB : Hid (¬ q.own B) := fun h => by have := hq.lt B h; omega
  have HQ := hide' hq
  have HQ0 := hide' (hq.keep HS0.out)
  have HP : Hid (∀ w1, w1 = W.drew.alloc (.cells #[.int .u8 x, .int .i64 g] 36) → Calls Try.prog 15 #[.pointer (some ⟨q.b, 0, none⟩), .slice (some ⟨W.heap.size, 0, none⟩) 1 1] w1 (Wrote q 1 (L ++ [(x, g)].take 1) M w1)) := fun w1 e => by
    subst e
    refine put15 q L M (some ⟨W.heap.size, 0, none⟩) 1 1 1 [(x, g)] _ (HQ0.out.keep ((Stay.refl _ _).drew.alloc _)) ⟨fun ad e j u hu => ?_, fun e => by cases e⟩ rfl (Nat.le_refl _) (by decide) (by omega)
    cases e
    rw [addr_add]
    have hj : j < 2 := (List.getElem?_eq_some_iff.1 hu).1
    match j, hj, hu with
    | 0, _, hu => cases hu; exact (IBox.new (w := W.drew) ⟨x, g⟩ rfl).c0
    | 1, _, hu => cases hu; exact (IBox.new (w := W.drew) ⟨x, g⟩ rfl).c1
  have HBW : Hid (B = w.heap.size ∧ W = w.alloc (.cells #[.int .u8 x, .int .i64 g] 36)) := ⟨hB, hW⟩
  have b4 : ∀ o : Obj, (w.alloc o).cell? ⟨q.b, 4, none⟩ = some (.bool false) := fun o => by
    have := hq.box.c4
    rw [show q.bx.o = false from ho] at this
    exact keep_cell ((Stay.refl _ _).alloc o) this
  clear hg hk hone hB hW hq ho
  go_enter Try.func9, Try.ntmps9
  go_upto_region 6 with fail
  obtain ⟨hB, hW⟩ := HBW.out
  rw [← hW, ← hB]
  clear hB hW b4
  have hS : (fun w' => Stay q.own W w' ∧ IBox w' B ⟨x, g⟩) W.drew := ⟨(Stay.refl _ _).drew, HI0.out.keep (Stay.refl _ _).drew⟩
  refine wp_region_mix (fun w' => Stay q.own W w' ∧ IBox w' B ⟨x, g⟩) [(0, true), (1, true), (2, true), (3, true), (4, true), (5, true), (6, false), (7, false), (8, true), (9, true), (10, true), (11, false)] (by kernel_rfl) (by kernel_rfl) (fun _ d _ _ _ h => by cases d <;> exact h) hS ?_
  refine mix_begin (fun K0 hK0 => ?_)
  refine mix_take hK0 (some 22) (.move (.tmp 0)) 24 _ (by kernel_rfl) (by kernel_rfl) (fun w' hS' => by (simp only [opr]; go_simp; try with_reducible rfl)) (fun K1 hK1 => ?_)
  clear hK0 K0
  simp only [Act.put, List.setIfInBounds_toArray, List.set_cons_zero, List.set_cons_succ]
  refine mix_take hK1 (some 23) (.move (.tmp 0)) 24 _ (by kernel_rfl) (by kernel_rfl) (fun w' hS' => by (simp only [opr]; go_simp; try with_reducible rfl)) (fun K2 hK2 => ?_)
  clear hK1 K1
  simp only [Act.put, List.setIfInBounds_toArray, List.set_cons_zero, List.set_cons_succ]
  refine mix_take hK2 (some 24) (.nilCheck (.tmp 23)) 0 _ (by kernel_rfl) (by kernel_rfl) (fun w' hS' => by (simp only [opr]; go_simp; try with_reducible rfl)) (fun K3 hK3 => ?_)
  clear hK2 K2
  simp only [Act.put, List.setIfInBounds_toArray, List.set_cons_zero, List.set_cons_succ]
  refine mix_take hK3 (some 25) (.fieldAddr 57 (.tmp 24) 0) 0 _ (by kernel_rfl) (by kernel_rfl) (fun w' hS' => by (simp only [opr]; go_simp; try with_reducible rfl)) (fun K4 hK4 => ?_)
  clear hK3 K3
  simp only [Act.put, List.setIfInBounds_toArray, List.set_cons_zero, List.set_cons_succ]
  refine mix_take hK4 (some 26) (.fieldAddr 51 (.tmp 25) 0) 0 _ (by kernel_rfl) (by kernel_rfl) (fun w' hS' => by (simp only [opr]; go_simp; try with_reducible rfl)) (fun K5 hK5 => ?_)
  clear hK4 K4
  simp only [Act.put, List.setIfInBounds_toArray, List.set_cons_zero, List.set_cons_succ]
  refine mix_take hK5 (some 27) (.load 36 (.tmp 7)) 36 _ (by kernel_rfl) (by kernel_rfl) (fun w' hS' => by exact run_load_IBox rfl rfl hS'.2) (fun K6 hK6 => ?_)
  clear hK5 K5
  simp only [Act.put, List.setIfInBounds_toArray, List.set_cons_zero, List.set_cons_succ]
  refine mix_chain hK6 (fun K6c hK6c => ?_)
  clear hK6 K6
  refine op_plain (some 28) (.buildSlice 26 1 #[(0, .tmp 27)]) 26 (by kernel_rfl) (by kernel_rfl) ?_
  go_wp2
  have hSb : (fun w' => Stay q.own W w' ∧ IBox w' B ⟨x, g⟩) (W.drew.alloc (.cells #[.int .u8 x, .int .i64 g] 36)) := ⟨hS.1.alloc _, hS.2.alloc _⟩
  refine hK6c _ _ hSb (mix_begin fun K7 hK7 => ?_)
  clear hK6c K6c
  try simp only [Act.put, List.setIfInBounds_toArray, List.set_cons_zero, List.set_cons_succ]
  refine mix_call hK7 (some 29) 15 #[.tmp 26, .tmp 28] #[49, 26] 3 _ (by kernel_rfl) (by kernel_rfl) (enters Try.func15 (by kernel_rfl) (by kernel_rfl)) (by go_simp; try with_reducible rfl) (fun K8 hK8 => ?_)
  clear hK7 K7
  refine (HP.out _ rfl).mono ?_
  rintro e wm1 ⟨v1, u1, rfl, hl, hs1, ho⟩
  have HL1 := hide' hl
  have HO1 := hide' ho
  have HX1 := hide' hs1
  clear hl ho
  have hS1 : _ := (show (fun w' => Stay q.own W w' ∧ IBox w' B ⟨x, g⟩) wm1 from ⟨hSb.1.trans2 hs1 (fun j _ h => h), hSb.2.stay hs1 HOB.out⟩)
  refine ⟨_, rfl, hS1, ?_⟩
  clear hs1
  simp only [Act.put, List.setIfInBounds_toArray, List.set_cons_zero, List.set_cons_succ]
  refine mix_take hK8 (some 30) (.binOp BinOp.eql 3 (.tmp 29) (.const (Value.int IntKind.i64 0)) 3) 4 _ (by kernel_rfl) (by kernel_rfl) (fun w' hS' => by (simp only [opr]; go_simp; try with_reducible rfl)) (fun K9 hK9 => ?_)
  clear hK8 K8
  simp only [Act.put, List.setIfInBounds_toArray, List.set_cons_zero, List.set_cons_succ]
  refine mix_take hK9 (some 31) (.nilCheck (.tmp 22)) 0 _ (by kernel_rfl) (by kernel_rfl) (fun w' hS' => by (simp only [opr]; go_simp; try with_reducible rfl)) (fun K10 hK10 => ?_)
  clear hK9 K9
  simp only [Act.put, List.setIfInBounds_toArray, List.set_cons_zero, List.set_cons_succ]
  refine mix_take hK10 (some 32) (.fieldAddr 57 (.tmp 31) 2) 0 _ (by kernel_rfl) (by kernel_rfl) (fun w' hS' => by (simp only [opr]; go_simp; try with_reducible rfl)) (fun K11 hK11 => ?_)
  clear hK10 K10
  simp only [Act.put, List.setIfInBounds_toArray, List.set_cons_zero, List.set_cons_succ]
  refine mix_chain hK11 (fun K11c hK11c => ?_)
  clear hK11 K11
  refine op_plain none (.store 4 (.tmp 32) (.tmp 30)) 0 (by kernel_rfl) (by kernel_rfl) ?_
  have hb := HL1.out.box
  obtain ⟨b0, b1, b2, b3, b4, f0, f1, f2, f3, f4⟩ := hb
  simp only [Ln.bx, Ln.with] at b0 b1 b2 b3 b4 f0 f1 f2 f3 f4
  go_wp2
  have hSs : (fun w' => Stay q.own W w' ∧ IBox w' B ⟨x, g⟩) (wm1.setCell ⟨q.b, 4, none⟩ (.bool false)) := ⟨hS1.1.setCell (p := ⟨q.b, 4, none⟩) (.inl rfl) _, hS1.2.other (fun e => HOB.out (.inl e.symm))⟩
  refine hK11c _ _ hSs (mix_begin fun K12 hK12 => ?_)
  clear hK11c K11c
  try simp only [Act.put, List.setIfInBounds_toArray, List.set_cons_zero, List.set_cons_succ]
  refine hK12 _ _ (mix_nil ?_)
  clear hK12 K12
  have hset : Stay (fun j => j = q.b) wm1 (wm1.setCell ⟨q.b, 4, none⟩ (.bool false)) := (Stay.refl (fun j => j = q.b) wm1).setCell (p := ⟨q.b, 4, none⟩) rfl _
  have hbx : LBox (wm1.setCell ⟨q.b, 4, none⟩ (.bool false)) q.b (Ln.bx (q.rcvd v1 u1 false)) := HL1.out.box.put4 (x := false) (q := Ln.bx (q.rcvd v1 u1 false)) rfl
  have hl := HL1.out
  have hst : Stay q.own w (wm1.setCell ⟨q.b, 4, none⟩ (.bool false)) := (HS0.out.mono (T := q.own) (fun _ _ h => h.elim)).trans hSs.1
  have hown : ∀ j, (q.rcvd v1 u1 false).own j → q.own j ∨ w.heap.size ≤ j := fun j hj => by
    rcases HO1.out j hj with h | h
    · exact .inl h
    · exact .inr (Nat.le_trans HS0.out.size (Nat.le_trans ((Stay.refl (fun _ => False) W).drew.alloc _).size h))
  have hk := HK.out
  have hgl := HG.out
  have hfin : LAt (wm1.setCell ⟨q.b, 4, none⟩ (.bool false)) (q.rcvd v1 u1 false) (L ++ [(x, g)].take 1) M := ⟨hbx, hl.inn.stay hset hl.vb, hl.snt.stay hset hl.ub, hl.vb, hl.ub, hl.vu, hl.r1, hl.r2, hl.l1, hl.m1⟩
  have HF := hide' hfin
  have HST := hide' hst
  have HOW := hide' hown
  have bb := hbx
  obtain ⟨b0, b1, b2, b3, b4, f0, f1, f2, f3, f4⟩ := bb
  simp only [Ln.bx, Ln.rcvd] at b0 b1 b2 b3 b4 f0 f1 f2 f3 f4
  obtain ⟨W2, hW2⟩ : ∃ W2, W2 = wm1.setCell ⟨q.b, 4, none⟩ (.bool false) := ⟨_, rfl⟩
  rw [← hW2] at HF HST b0 b1 b2 b3 b4 f0 f1 f2 f3 f4
  try rw [← hW2]
  clear hfin hst hown hbx hset hSs hS1 hS hW2 hk hgl
  go_wp2
  go_returns
  refine ⟨v1, u1, by rw [decide_eq_true HK.out]; first | done | rfl, ?_, HST.out, fun j hj => ?_⟩
  · rw [decide_eq_true HK.out, if_pos HK.out, HG.out]
    have := HF.out
    exact this
  · rw [decide_eq_true HK.out] at hj
    exact HOW.out j hj


set_option maxRecDepth 100000 in
theorem receive9_t0 (q : Ln) (L : List (Int × Int)) (M : List Int) (x f : Int) (w : World) (hq : LAt w q L M) (ho : q.o = true) (hk : ¬ L.length < q.r) : Calls Try.prog 9 #[.pointer (some ⟨q.b, 0, none⟩), .int .u8 x, .int .i64 f] w (Rcv q L M x f w) := by
  obtain ⟨g0, hg0⟩ : ∃ g, g = bits .and .i64 f 6 := ⟨_, rfl⟩
  have e1 := hg0.symm
  obtain ⟨g, hg⟩ : ∃ g, g = bits .or .i64 g0 1 := ⟨_, rfl⟩
  have e2 := hg.symm
  have HG : Hid (flagB q.o f = g) := by rw [ho, hg, hg0]; rfl
  clear hg0
  have HK := hide' hk
  have hone := hq.l1
  obtain ⟨B, hB⟩ : ∃ B, B = w.heap.size := ⟨_, rfl⟩
  obtain ⟨W, hW⟩ : ∃ W, W = w.alloc (.cells #[.int .u8 x, .int .i64 g] 36) := ⟨_, rfl⟩
  have HI0 : Hid (IBox W B ⟨x, g⟩) := by rw [hW]; exact IBox.new ⟨x, g⟩ hB.symm
  have HS0 : Hid (Stay (fun _ => False) w W) := by rw [hW]; exact (Stay.refl _ _).alloc _
  have HOB : Hid (¬ q.own B) := fun h => by have := hq.lt B h; omega
  have HQ := hide' hq
  have HQ0 := hide' (hq.keep HS0.out)
  have HP : Hid (∀ w1, w1 = W.drew.alloc (.cells #[.int .u8 x, .int .i64 g] 36) → Calls Try.prog 15 #[.pointer (some ⟨q.b, 0, none⟩), .slice (some ⟨W.heap.size, 0, none⟩) 1 1] w1 (Wrote q 0 (L ++ [(x, g)].take 0) M w1)) := fun w1 e => by
    subst e
    refine put15 q L M (some ⟨W.heap.size, 0, none⟩) 1 1 0 [(x, g)] _ (HQ0.out.keep ((Stay.refl _ _).drew.alloc _)) ⟨fun ad e j u hu => ?_, fun e => by cases e⟩ rfl (Nat.le_refl _) (by decide) (by omega)
    cases e
    rw [addr_add]
    have hj : j < 2 := (List.getElem?_eq_some_iff.1 hu).1
    match j, hj, hu with
    | 0, _, hu => cases hu; exact (IBox.new (w := W.drew) ⟨x, g⟩ rfl).c0
    | 1, _, hu => cases hu; exact (IBox.new (w := W.drew) ⟨x, g⟩ rfl).c1
  have HBW : Hid (B = w.heap.size ∧ W = w.alloc (.cells #[.int .u8 x, .int .i64 g] 36)) := ⟨hB, hW⟩
  have b4 : ∀ o : Obj, (w.alloc o).cell? ⟨q.b, 4, none⟩ = some (.bool true) := fun o => by
    have := hq.box.c4
    rw [show q.bx.o = true from ho] at this
    exact keep_cell ((Stay.refl _ _).alloc o) this
  clear hg hk hone hB hW hq ho
  go_enter Try.func9, Try.ntmps9
  go_upto_region 6 with fail
  obtain ⟨hB, hW⟩ := HBW.out
  rw [← hW, ← hB]
  clear hB hW b4
  have hS : (fun w' => Stay q.own W w' ∧ IBox w' B ⟨x, g⟩) W.drew := ⟨(Stay.refl _ _).drew, HI0.out.keep (Stay.refl _ _).drew⟩
  refine wp_region_mix (fun w' => Stay q.own W w' ∧ IBox w' B ⟨x, g⟩) [(0, true), (1, true), (2, true), (3, true), (4, true), (5, true), (6, false), (7, false), (8, true), (9, true), (10, true), (11, false)] (by kernel_rfl) (by kernel_rfl) (fun _ d _ _ _ h => by cases d <;> exact h) hS ?_
  refine mix_begin (fun K0 hK0 => ?_)
  refine mix_take hK0 (some 22) (.move (.tmp 0)) 24 _ (by kernel_rfl) (by kernel_rfl) (fun w' hS' => by (simp only [opr]; go_simp; try with_reducible rfl)) (fun K1 hK1 => ?_)
  clear hK0 K0
  simp only [Act.put, List.setIfInBounds_toArray, List.set_cons_zero, List.set_cons_succ]
  refine mix_take hK1 (some 23) (.move (.tmp 0)) 24 _ (by kernel_rfl) (by kernel_rfl) (fun w' hS' => by (simp only [opr]; go_simp; try with_reducible rfl)) (fun K2 hK2 => ?_)
  clear hK1 K1
  simp only [Act.put, List.setIfInBounds_toArray, List.set_cons_zero, List.set_cons_succ]
  refine mix_take hK2 (some 24) (.nilCheck (.tmp 23)) 0 _ (by kernel_rfl) (by kernel_rfl) (fun w' hS' => by (simp only [opr]; go_simp; try with_reducible rfl)) (fun K3 hK3 => ?_)
  clear hK2 K2
  simp only [Act.put, List.setIfInBounds_toArray, List.set_cons_zero, List.set_cons_succ]
  refine mix_take hK3 (some 25) (.fieldAddr 57 (.tmp 24) 0) 0 _ (by kernel_rfl) (by kernel_rfl) (fun w' hS' => by (simp only [opr]; go_simp; try with_reducible rfl)) (fun K4 hK4 => ?_)
  clear hK3 K3
  simp only [Act.put, List.setIfInBounds_toArray, List.set_cons_zero, List.set_cons_succ]
  refine mix_take hK4 (some 26) (.fieldAddr 51 (.tmp 25) 0) 0 _ (by kernel_rfl) (by kernel_rfl) (fun w' hS' => by (simp only [opr]; go_simp; try with_reducible rfl)) (fun K5 hK5 => ?_)
  clear hK4 K4
  simp only [Act.put, List.setIfInBounds_toArray, List.set_cons_zero, List.set_cons_succ]
  refine mix_take hK5 (some 27) (.load 36 (.tmp 7)) 36 _ (by kernel_rfl) (by kernel_rfl) (fun w' hS' => by exact run_load_IBox rfl rfl hS'.2) (fun K6 hK6 => ?_)
  clear hK5 K5
  simp only [Act.put, List.setIfInBounds_toArray, List.set_cons_zero, List.set_cons_succ]
  refine mix_chain hK6 (fun K6c hK6c => ?_)
  clear hK6 K6
  refine op_plain (some 28) (.buildSlice 26 1 #[(0, .tmp 27)]) 26 (by kernel_rfl) (by kernel_rfl) ?_
  go_wp2
  have hSb : (fun w' => Stay q.own W w' ∧ IBox w' B ⟨x, g⟩) (W.drew.alloc (.cells #[.int .u8 x, .int .i64 g] 36)) := ⟨hS.1.alloc _, hS.2.alloc _⟩
  refine hK6c _ _ hSb (mix_begin fun K7 hK7 => ?_)
  clear hK6c K6c
  try simp only [Act.put, List.setIfInBounds_toArray, List.set_cons_zero, List.set_cons_succ]
  refine mix_call hK7 (some 29) 15 #[.tmp 26, .tmp 28] #[49, 26] 3 _ (by kernel_rfl) (by kernel_rfl) (enters Try.func15 (by kernel_rfl) (by kernel_rfl)) (by go_simp; try with_reducible rfl) (fun K8 hK8 => ?_)
  clear hK7 K7
  refine (HP.out _ rfl).mono ?_
  rintro e wm1 ⟨v1, u1, rfl, hl, hs1, ho⟩
  have HL1 := hide' hl
  have HO1 := hide' ho
  have HX1 := hide' hs1
  clear hl ho
  have hS1 : _ := (show (fun w' => Stay q.own W w' ∧ IBox w' B ⟨x, g⟩) wm1 from ⟨hSb.1.trans2 hs1 (fun j _ h => h), hSb.2.stay hs1 HOB.out⟩)
  refine ⟨_, rfl, hS1, ?_⟩
  clear hs1
  simp only [Act.put, List.setIfInBounds_toArray, List.set_cons_zero, List.set_cons_succ]
  refine mix_take hK8 (some 30) (.binOp BinOp.eql 3 (.tmp 29) (.const (Value.int IntKind.i64 0)) 3) 4 _ (by kernel_rfl) (by kernel_rfl) (fun w' hS' => by (simp only [opr]; go_simp; try with_reducible rfl)) (fun K9 hK9 => ?_)
  clear hK8 K8
  simp only [Act.put, List.setIfInBounds_toArray, List.set_cons_zero, List.set_cons_succ]
  refine mix_take hK9 (some 31) (.nilCheck (.tmp 22)) 0 _ (by kernel_rfl) (by kernel_rfl) (fun w' hS' => by (simp only [opr]; go_simp; try with_reducible rfl)) (fun K10 hK10 => ?_)
  clear hK9 K9
  simp only [Act.put, List.setIfInBounds_toArray, List.set_cons_zero, List.set_cons_succ]
  refine mix_take hK10 (some 32) (.fieldAddr 57 (.tmp 31) 2) 0 _ (by kernel_rfl) (by kernel_rfl) (fun w' hS' => by (simp only [opr]; go_simp; try with_reducible rfl)) (fun K11 hK11 => ?_)
  clear hK10 K10
  simp only [Act.put, List.setIfInBounds_toArray, List.set_cons_zero, List.set_cons_succ]
  refine mix_chain hK11 (fun K11c hK11c => ?_)
  clear hK11 K11
  refine op_plain none (.store 4 (.tmp 32) (.tmp 30)) 0 (by kernel_rfl) (by kernel_rfl) ?_
  have hb := HL1.out.box
  obtain ⟨b0, b1, b2, b3, b4, f0, f1, f2, f3, f4⟩ := hb
  simp only [Ln.bx, Ln.with] at b0 b1 b2 b3 b4 f0 f1 f2 f3 f4
  go_wp2
  have hSs : (fun w' => Stay q.own W w' ∧ IBox w' B ⟨x, g⟩) (wm1.setCell ⟨q.b, 4, none⟩ (.bool true)) := ⟨hS1.1.setCell (p := ⟨q.b, 4, none⟩) (.inl rfl) _, hS1.2.other (fun e => HOB.out (.inl e.symm))⟩
  refine hK11c _ _ hSs (mix_begin fun K12 hK12 => ?_)
  clear hK11c K11c
  try simp only [Act.put, List.setIfInBounds_toArray, List.set_cons_zero, List.set_cons_succ]
  refine hK12 _ _ (mix_nil ?_)
  clear hK12 K12
  have hset : Stay (fun j => j = q.b) wm1 (wm1.setCell ⟨q.b, 4, none⟩ (.bool true)) := (Stay.refl (fun j => j = q.b) wm1).setCell (p := ⟨q.b, 4, none⟩) rfl _
  have hbx : LBox (wm1.setCell ⟨q.b, 4, none⟩ (.bool true)) q.b (Ln.bx (q.rcvd v1 u1 true)) := HL1.out.box.put4 (x := true) (q := Ln.bx (q.rcvd v1 u1 true)) rfl
  have hl := HL1.out
  have hst : Stay q.own w (wm1.setCell ⟨q.b, 4, none⟩ (.bool true)) := (HS0.out.mono (T := q.own) (fun _ _ h => h.elim)).trans hSs.1
  have hown : ∀ j, (q.rcvd v1 u1 true).own j → q.own j ∨ w.heap.size ≤ j := fun j hj => by
    rcases HO1.out j hj with h | h
    · exact .inl h
    · exact .inr (Nat.le_trans HS0.out.size (Nat.le_trans ((Stay.refl (fun _ => False) W).drew.alloc _).size h))
  have hk := HK.out
  have hgl := HG.out
  have hfin : LAt (wm1.setCell ⟨q.b, 4, none⟩ (.bool true)) (q.rcvd v1 u1 true) (L ++ [(x, g)].take 0) M := ⟨hbx, hl.inn.stay hset hl.vb, hl.snt.stay hset hl.ub, hl.vb, hl.ub, hl.vu, hl.r1, hl.r2, hl.l1, hl.m1⟩
  have HF := hide' hfin
  have HST := hide' hst
  have HOW := hide' hown
  have bb := hbx
  obtain ⟨b0, b1, b2, b3, b4, f0, f1, f2, f3, f4⟩ := bb
  simp only [Ln.bx, Ln.rcvd] at b0 b1 b2 b3 b4 f0 f1 f2 f3 f4
  obtain ⟨W2, hW2⟩ : ∃ W2, W2 = wm1.setCell ⟨q.b, 4, none⟩ (.bool true) := ⟨_, rfl⟩
  rw [← hW2] at HF HST b0 b1 b2 b3 b4 f0 f1 f2 f3 f4
  try rw [← hW2]
  clear hfin hst hown hbx hset hSs hS1 hS hW2 hk hgl
  go_wp2
  go_returns
  refine ⟨v1, u1, by rw [decide_eq_false HK.out]; first | done | rfl, ?_, HST.out, fun j hj => ?_⟩
  · rw [decide_eq_false HK.out, if_neg HK.out]
    have := HF.out
    rw [List.take_zero, List.append_nil] at this; exact this
  · rw [decide_eq_false HK.out] at hj
    exact HOW.out j hj


set_option maxRecDepth 100000 in
theorem receive9_t1 (q : Ln) (L : List (Int × Int)) (M : List Int) (x f : Int) (w : World) (hq : LAt w q L M) (ho : q.o = true) (hk : L.length < q.r) : Calls Try.prog 9 #[.pointer (some ⟨q.b, 0, none⟩), .int .u8 x, .int .i64 f] w (Rcv q L M x f w) := by
  obtain ⟨g0, hg0⟩ : ∃ g, g = bits .and .i64 f 6 := ⟨_, rfl⟩
  have e1 := hg0.symm
  obtain ⟨g, hg⟩ : ∃ g, g = bits .or .i64 g0 1 := ⟨_, rfl⟩
  have e2 := hg.symm
  have HG : Hid (flagB q.o f = g) := by rw [ho, hg, hg0]; rfl
  clear hg0
  have HK := hide' hk
  have hone := hq.l1
  obtain ⟨B, hB⟩ : ∃ B, B = w.heap.size := ⟨_, rfl⟩
  obtain ⟨W, hW⟩ : ∃ W, W = w.alloc (.cells #[.int .u8 x, .int .i64 g] 36) := ⟨_, rfl⟩
  have HI0 : Hid (IBox W B ⟨x, g⟩) := by rw [hW]; exact IBox.new ⟨x, g⟩ hB.symm
  have HS0 : Hid (Stay (fun _ => False) w W) := by rw [hW]; exact (Stay.refl _ _).alloc _
  have HOB : Hid (¬ q.own B) := fun h => by have := hq.lt B h; omega
  have HQ := hide' hq
  have HQ0 := hide' (hq.keep HS0.out)
  have HP : Hid (∀ w1, w1 = W.drew.alloc (.cells #[.int .u8 x, .int .i64 g] 36) → Calls Try.prog 15 #[.pointer (some ⟨q.b, 0, none⟩), .slice (some ⟨W.heap.size, 0, none⟩) 1 1] w1 (Wrote q 1 (L ++ [(x, g)].take 1) M w1)) := fun w1 e => by
    subst e
    refine put15 q L M (some ⟨W.heap.size, 0, none⟩) 1 1 1 [(x, g)] _ (HQ0.out.keep ((Stay.refl _ _).drew.alloc _)) ⟨fun ad e j u hu => ?_, fun e => by cases e⟩ rfl (Nat.le_refl _) (by decide) (by omega)
    cases e
    rw [addr_add]
    have hj : j < 2 := (List.getElem?_eq_some_iff.1 hu).1
    match j, hj, hu with
    | 0, _, hu => cases hu; exact (IBox.new (w := W.drew) ⟨x, g⟩ rfl).c0
    | 1, _, hu => cases hu; exact (IBox.new (w := W.drew) ⟨x, g⟩ rfl).c1
  have HBW : Hid (B = w.heap.size ∧ W = w.alloc (.cells #[.int .u8 x, .int .i64 g] 36)) := ⟨hB, hW⟩
  have b4 : ∀ o : Obj, (w.alloc o).cell? ⟨q.b, 4, none⟩ = some (.bool true) := fun o => by
    have := hq.box.c4
    rw [show q.bx.o = true from ho] at this
    exact keep_cell ((Stay.refl _ _).alloc o) this
  clear hg hk hone hB hW hq ho
  go_enter Try.func9, Try.ntmps9
  go_upto_region 6 with fail
  obtain ⟨hB, hW⟩ := HBW.out
  rw [← hW, ← hB]
  clear hB hW b4
  have hS : (fun w' => Stay q.own W w' ∧ IBox w' B ⟨x, g⟩) W.drew := ⟨(Stay.refl _ _).drew, HI0.out.keep (Stay.refl _ _).drew⟩
  refine wp_region_mix (fun w' => Stay q.own W w' ∧ IBox w' B ⟨x, g⟩) [(0, true), (1, true), (2, true), (3, true), (4, true), (5, true), (6, false), (7, false), (8, true), (9, true), (10, true), (11, false)] (by kernel_rfl) (by kernel_rfl) (fun _ d _ _ _ h => by cases d <;> exact h) hS ?_
  refine mix_begin (fun K0 hK0 => ?_)
  refine mix_take hK0 (some 22) (.move (.tmp 0)) 24 _ (by kernel_rfl) (by kernel_rfl) (fun w' hS' => by (simp only [opr]; go_simp; try with_reducible rfl)) (fun K1 hK1 => ?_)
  clear hK0 K0
  simp only [Act.put, List.setIfInBounds_toArray, List.set_cons_zero, List.set_cons_succ]
  refine mix_take hK1 (some 23) (.move (.tmp 0)) 24 _ (by kernel_rfl) (by kernel_rfl) (fun w' hS' => by (simp only [opr]; go_simp; try with_reducible rfl)) (fun K2 hK2 => ?_)
  clear hK1 K1
  simp only [Act.put, List.setIfInBounds_toArray, List.set_cons_zero, List.set_cons_succ]
  refine mix_take hK2 (some 24) (.nilCheck (.tmp 23)) 0 _ (by kernel_rfl) (by kernel_rfl) (fun w' hS' => by (simp only [opr]; go_simp; try with_reducible rfl)) (fun K3 hK3 => ?_)
  clear hK2 K2
  simp only [Act.put, List.setIfInBounds_toArray, List.set_cons_zero, List.set_cons_succ]
  refine mix_take hK3 (some 25) (.fieldAddr 57 (.tmp 24) 0) 0 _ (by kernel_rfl) (by kernel_rfl) (fun w' hS' => by (simp only [opr]; go_simp; try with_reducible rfl)) (fun K4 hK4 => ?_)
  clear hK3 K3
  simp only [Act.put, List.setIfInBounds_toArray, List.set_cons_zero, List.set_cons_succ]
  refine mix_take hK4 (some 26) (.fieldAddr 51 (.tmp 25) 0) 0 _ (by kernel_rfl) (by kernel_rfl) (fun w' hS' => by (simp only [opr]; go_simp; try with_reducible rfl)) (fun K5 hK5 => ?_)
  clear hK4 K4
  simp only [Act.put, List.setIfInBounds_toArray, List.set_cons_zero, List.set_cons_succ]
  refine mix_take hK5 (some 27) (.load 36 (.tmp 7)) 36 _ (by kernel_rfl) (by kernel_rfl) (fun w' hS' => by exact run_load_IBox rfl rfl hS'.2) (fun K6 hK6 => ?_)
  clear hK5 K5
  simp only [Act.put, List.setIfInBounds_toArray, List.set_cons_zero, List.set_cons_succ]
  refine mix_chain hK6 (fun K6c hK6c => ?_)
  clear hK6 K6
  refine op_plain (some 28) (.buildSlice 26 1 #[(0, .tmp 27)]) 26 (by kernel_rfl) (by kernel_rfl) ?_
  go_wp2
  have hSb : (fun w' => Stay q.own W w' ∧ IBox w' B ⟨x, g⟩) (W.drew.alloc (.cells #[.int .u8 x, .int .i64 g] 36)) := ⟨hS.1.alloc _, hS.2.alloc _⟩
  refine hK6c _ _ hSb (mix_begin fun K7 hK7 => ?_)
  clear hK6c K6c
  try simp only [Act.put, List.setIfInBounds_toArray, List.set_cons_zero, List.set_cons_succ]
  refine mix_call hK7 (some 29) 15 #[.tmp 26, .tmp 28] #[49, 26] 3 _ (by kernel_rfl) (by kernel_rfl) (enters Try.func15 (by kernel_rfl) (by kernel_rfl)) (by go_simp; try with_reducible rfl) (fun K8 hK8 => ?_)
  clear hK7 K7
  refine (HP.out _ rfl).mono ?_
  rintro e wm1 ⟨v1, u1, rfl, hl, hs1, ho⟩
  have HL1 := hide' hl
  have HO1 := hide' ho
  have HX1 := hide' hs1
  clear hl ho
  have hS1 : _ := (show (fun w' => Stay q.own W w' ∧ IBox w' B ⟨x, g⟩) wm1 from ⟨hSb.1.trans2 hs1 (fun j _ h => h), hSb.2.stay hs1 HOB.out⟩)
  refine ⟨_, rfl, hS1, ?_⟩
  clear hs1
  simp only [Act.put, List.setIfInBounds_toArray, List.set_cons_zero, List.set_cons_succ]
  refine mix_take hK8 (some 30) (.binOp BinOp.eql 3 (.tmp 29) (.const (Value.int IntKind.i64 0)) 3) 4 _ (by kernel_rfl) (by kernel_rfl) (fun w' hS' => by (simp only [opr]; go_simp; try with_reducible rfl)) (fun K9 hK9 => ?_)
  clear hK8 K8
  simp only [Act.put, List.setIfInBounds_toArray, List.set_cons_zero, List.set_cons_succ]
  refine mix_take hK9 (some 31) (.nilCheck (.tmp 22)) 0 _ (by kernel_rfl) (by kernel_rfl) (fun w' hS' => by (simp only [opr]; go_simp; try with_reducible rfl)) (fun K10 hK10 => ?_)
  clear hK9 K9
  simp only [Act.put, List.setIfInBounds_toArray, List.set_cons_zero, List.set_cons_succ]
  refine mix_take hK10 (some 32) (.fieldAddr 57 (.tmp 31) 2) 0 _ (by kernel_rfl) (by kernel_rfl) (fun w' hS' => by (simp only [opr]; go_simp; try with_reducible rfl)) (fun K11 hK11 => ?_)
  clear hK10 K10
  simp only [Act.put, List.setIfInBounds_toArray, List.set_cons_zero, List.set_cons_succ]
  refine mix_chain hK11 (fun K11c hK11c => ?_)
  clear hK11 K11
  refine op_plain none (.store 4 (.tmp 32) (.tmp 30)) 0 (by kernel_rfl) (by kernel_rfl) ?_
  have hb := HL1.out.box
  obtain ⟨b0, b1, b2, b3, b4, f0, f1, f2, f3, f4⟩ := hb
  simp only [Ln.bx, Ln.with] at b0 b1 b2 b3 b4 f0 f1 f2 f3 f4
  go_wp2
  have hSs : (fun w' => Stay q.own W w' ∧ IBox w' B ⟨x, g⟩) (wm1.setCell ⟨q.b, 4, none⟩ (.bool false)) := ⟨hS1.1.setCell (p := ⟨q.b, 4, none⟩) (.inl rfl) _, hS1.2.other (fun e => HOB.out (.inl e.symm))⟩
  refine hK11c _ _ hSs (mix_begin fun K12 hK12 => ?_)
  clear hK11c K11c
  try simp only [Act.put, List.setIfInBounds_toArray, List.set_cons_zero, List.set_cons_succ]
  refine hK12 _ _ (mix_nil ?_)
  clear hK12 K12
  have hset : Stay (fun j => j = q.b) wm1 (wm1.setCell ⟨q.b, 4, none⟩ (.bool false)) := (Stay.refl (fun j => j = q.b) wm1).setCell (p := ⟨q.b, 4, none⟩) rfl _
  have hbx : LBox (wm1.setCell ⟨q.b, 4, none⟩ (.bool false)) q.b (Ln.bx (q.rcvd v1 u1 false)) := HL1.out.box.put4 (x := false) (q := Ln.bx (q.rcvd v1 u1 false)) rfl
  have hl := HL1.out
  have hst : Stay q.own w (wm1.setCell ⟨q.b, 4, none⟩ (.bool false)) := (HS0.out.mono (T := q.own) (fun _ _ h => h.elim)).trans hSs.1
  have hown : ∀ j, (q.rcvd v1 u1 false).own j → q.own j ∨ w.heap.size ≤ j := fun j hj => by
    rcases HO1.out j hj with h | h
    · exact .inl h
    · exact .inr (Nat.le_trans HS0.out.size (Nat.le_trans ((Stay.refl (fun _ => False) W).drew.alloc _).size h))
  have hk := HK.out
  have hgl := HG.out
  have hfin : LAt (wm1.setCell ⟨q.b, 4, none⟩ (.bool false)) (q.rcvd v1 u1 false) (L ++ [(x, g)].take 1) M := ⟨hbx, hl.inn.stay hset hl.vb, hl.snt.stay hset hl.ub, hl.vb, hl.ub, hl.vu, hl.r1, hl.r2, hl.l1, hl.m1⟩
  have HF := hide' hfin
  have HST := hide' hst
  have HOW := hide' hown
  have bb := hbx
  obtain ⟨b0, b1, b2, b3, b4, f0, f1, f2, f3, f4⟩ := bb
  simp only [Ln.bx, Ln.rcvd] at b0 b1 b2 b3 b4 f0 f1 f2 f3 f4
  obtain ⟨W2, hW2⟩ : ∃ W2, W2 = wm1.setCell ⟨q.b, 4, none⟩ (.bool false) := ⟨_, rfl⟩
  rw [← hW2] at HF HST b0 b1 b2 b3 b4 f0 f1 f2 f3 f4
  try rw [← hW2]
  clear hfin hst hown hbx hset hSs hS1 hS hW2 hk hgl
  go_wp2
  go_returns
  refine ⟨v1, u1, by rw [decide_eq_true HK.out]; first | done | rfl, ?_, HST.out, fun j hj => ?_⟩
  · rw [decide_eq_true HK.out, if_pos HK.out, HG.out]
    have := HF.out
    exact this
  · rw [decide_eq_true HK.out] at hj
    exact HOW.out j hj


theorem receive9 (q : Ln) (L : List (Int × Int)) (M : List Int) (x f : Int) (w : World) (hq : LAt w q L M) : Calls Try.prog 9 #[.pointer (some ⟨q.b, 0, none⟩), .int .u8 x, .int .i64 f] w (Rcv q L M x f w) := by
  by_cases hk : L.length < q.r
  · cases ho : q.o
    · exact receive9_f1 q L M x f w hq ho hk
    · exact receive9_t1 q L M x f w hq ho hk
  · cases ho : q.o
    · exact receive9_f0 q L M x f w hq ho hk
    · exact receive9_t0 q L M x f w hq ho hk

end Go.Proofs.Ytffdkkbinkonbaa
