/-
  A timer comes among others: walked. No conditions.
-/
import Derived.Test.YtihciknbmhadjaaD3
import Derived.Lib.Overlaps
import Derived.Laws.Externs
import Derived.Laws.LoneSync
namespace Go.Proofs.Ytihciknbmhadjaa
open Go.RowKit

theorem sizeOf35 (w : World) : (Go.sizeOf 35).run Try.prog w = .ok 3 w := by kernel_rfl

/-- A new block and a row that has cells: they don't overlap. -/
theorem apart36 (w : World) (vb b ob la ca lb cb : Nat) (x : Value) (hz : ∃ c e, w.heap[vb]? = some (.cells c e)) (hb : w.cell? ⟨b, 0, none⟩ = some x) (hne : vb ≠ b) :
    (callFunc 36 #[.slice (some ⟨vb, 0, none⟩) la ca, .slice (some ⟨b, ob, none⟩) lb cb]).run Try.prog w = .ok (.value (.bool false)) w := by
  obtain ⟨c, e, hz⟩ := hz
  obtain ⟨tB, kB, h1, h2, _⟩ := World.shape?_of_cell? hb
  have hfz : ∀ k, w.frozen? ⟨vb, k, none⟩ = false := fun k => by simp [World.frozen?, hz]
  rw [run_callFunc_extern Try.func36 (by kernel_rfl) (by kernel_rfl) (by kernel_rfl) (e := Extern.SlicesOverlaps.overlaps #[26, 26] #[4]) (by kernel_rfl),
    Lib.run_overlaps_apart w 26 4 35 Try.underlying26 3 sizeOf35 ⟨vb, 0, none⟩ ⟨b, ob, none⟩ la ca lb cb hne e tB c.size kB (by simp [World.shape?, hz]) h1 (by simp only at h2; omega) (hfz _) (hfz _)]
  rfl

/-- What comes of a timer among others: a row, and where it lies. -/
def InsOut (L : List Tm) (p : Tm) (i : Nat) (v0 : Value) (w : World) (e : Ending) (w' : World) : Prop := ∃ v, e = .returned v ∧ Wv w' v (L.take i ++ p :: L.drop i) ∧ Stay (fun j => v0.ownBlock = some j) w w' ∧ ∀ j, v.ownBlock = some j → v0.ownBlock = some j ∨ w.heap.size ≤ j

theorem ins_len (L : List Tm) (p : Tm) (i : Nat) (hi : i ≤ L.length) : (L.take i ++ p :: L.drop i).length = L.length + 1 := by
  rw [List.length_append, List.length_cons, List.length_take, List.length_drop]
  omega

set_option maxHeartbeats 2000000 in
theorem insert33_shift (g n cap vb i : Nat) (L : List Tm) (p : Tm) (w : World) (h : Ws w (some ⟨g, 0, none⟩) n cap L) (h1 : i < n) (hc : n + 1 ≤ cap) (hm : n ≤ 2048) (hv : TBox w vb p) (hz : ∃ c e, w.heap[vb]? = some (.cells c e)) (hne : vb ≠ g) :
    Calls Try.prog 33 #[.slice (some ⟨g, 0, none⟩) n cap, .int .i64 (i : Nat), .slice (some ⟨vb, 0, none⟩) 1 1] w (InsOut L p i (.slice (some ⟨g, 0, none⟩) n cap) w) := by
  have hx : ∃ x, w.cell? ⟨g, 0, none⟩ = some x := by
    obtain ⟨q, hq⟩ : ∃ q, L[0]? = some q := ⟨_, List.getElem?_eq_getElem (by have := h.1; omega)⟩
    obtain ⟨g', e, hb⟩ := h.at hq
    cases e
    exact ⟨_, by have := hb.c0; rwa [Nat.zero_mul] at this⟩
  obtain ⟨x, hx⟩ := hx
  have HOV := hide' (fun ob la ca lb cb => apart36 w vb g ob la ca lb cb x hz hx hne)
  have hov := HOV.out
  obtain ⟨wd, hwd⟩ : ∃ W, W = w.drew := ⟨_, rfl⟩
  have hst : Stay (fun _ => False) w wd := by rw [hwd]; exact (Stay.refl _ _).drew
  have HW := hide' (h.keep hst)
  have HV := hide' (hv.keep hst)
  have HMN : Hid (n - i = Nat.min (n + 1 - i) (n + 1 - (i + 1))) := hide' (by show n - i = min (n + 1 - i) (n + 1 - (i + 1)); omega)
  have HCL : Hid ((wc (L.drop i)).length = (n - i) * 3) := hide' (by rw [wc_length, List.length_drop, h.1])
  have hgr := HW.out.ther
  have HSRC : Hid (∀ j v, (wc (L.drop i))[j]? = some v → wd.cell? ⟨g, i * 3 + j, none⟩ = some v) := hide' (fun j v hj => by
    rw [wc_drop, List.getElem?_drop] at hj
    have := hgr.2.2 _ _ hj
    rwa [Nat.zero_add] at this)
  have HTH : Hid (wd.there g ((i + 1) * 3) ((n - i) * 3)) := hide' (there_part hgr.2.1 (by omega))
  have HONE := hide' (wc_one (L.drop i))
  obtain ⟨w1, hw1⟩ : ∃ W, W = wd.setCells g ((i + 1) * 3) (wc (L.drop i)) := ⟨_, rfl⟩
  have hst1 : Stay (fun j => j = g) wd w1 := by rw [hw1]; exact (Stay.refl (fun j => j = g) wd).setCells g _ _ rfl
  have hv1 := HV.out.stay hst1 hne
  have hcp : ∀ ty, (Builtin.copy_ #[26, 26] ty #[.slice (some ⟨g, i * 3, none⟩) (n + 1 - i) (cap - i), .slice (some ⟨vb, 0, none⟩) 1 1]).run Try.prog w1 = .ok (.int .i64 1) (w1.setCells g (i * 3) p.parts) := fun ty =>
    run_copyS w1 26 35 ty 3 Try.underlying26 size35 g (i * 3) (n + 1 - i) (cap - i) vb 0 1 1 p.parts 1 (show 1 = min 1 (n + 1 - i) by omega) rfl hv1.cells (by rw [hw1]; exact World.there_setCells (there_part hgr.2.1 (by omega)) _ _ _) p.parts_one
  obtain ⟨w2, hw2⟩ : ∃ W, W = w1.setCells g (i * 3) p.parts := ⟨_, rfl⟩
  rw [← hw2] at hcp
  have HFIN : Hid (Wv w2 (.slice (some ⟨g, 0, none⟩) (n + 1) cap) (L.take i ++ p :: L.drop i) ∧ Stay (fun j => (Value.slice (some ⟨g, 0, none⟩) n cap).ownBlock = some j) w w2) := by
    have hf := HW.out.ins p h1 hc
    rw [← hw1, ← hw2] at hf
    have hl := ins_len L p i (by rw [h.1]; omega)
    rw [h.1] at hl
    refine ⟨⟨_, cap, by rw [hl], by rw [hl]; exact hf, fun e => by omega⟩, ?_⟩
    have hs2 : Stay (fun j => j = g) wd w2 := by rw [hw2]; exact hst1.setCells g p.parts _ rfl
    exact (hst.mono (fun _ _ h => h.elim)).trans (hs2.mono (fun j _ e => by rw [e]; rfl))
  clear hw2 hst1 hv1
  have hiw : IntKind.i64.wrap ((i : Int) + 1) = (i : Int) + 1 := by rw [IntKind.wrap_i64]; omega
  have hz1 : ¬ (i : Int) = (n : Int) := by omega
  have hz2 : ¬ ((cap : Int) < (n : Int) + 1) := by omega
  have hz3 : ¬ cap = i + 1 := by omega
  have hz4 : n + 1 ≤ cap := hc
  have hz5 : (n : Int) ≤ 2048 := by omega
  have hz6 : (i : Int) ≤ (n : Int) := by omega
  have hz7 : ¬ cap = i := by omega
  have hz8 : (n : Int) + 1 ≤ (cap : Int) := by omega
  have hz9 : (i : Int) + 1 ≤ (n : Int) + 1 := by omega
  have hza : (i : Int) ≤ (n : Int) + 1 := by omega
  have hzb : (i : Int) ≤ 2048 := by omega
  have hzc : i ≤ n := by omega
  have HNE := hide' h1
  clear hst hgr h h1 hc hm hv hz hne hx
  go_enter Try.func33, Try.ntmps33
  go_wp2_with (simp only [hov])
  have hS : True := trivial
  refine wp_region_mix (fun _ => True) [(0, true), (1, true), (2, true), (3, true), (4, true), (5, true), (6, true), (7, true), (8, false)] (by kernel_rfl) (by kernel_rfl) (fun _ d _ _ _ h => by cases d <;> exact h) hS ?_
  refine mix_begin (fun K0 hK0 => ?_)
  refine mix_take hK0 (some 69) (.move (.tmp 0)) 26 _ (by kernel_rfl) (by kernel_rfl) (fun w' hS' => by (simp only [opr]; go_simp; try with_reducible rfl)) (fun K1 hK1 => ?_)
  clear hK0 K0
  simp only [Act.put, List.setIfInBounds_toArray, List.set_cons_zero, List.set_cons_succ]
  refine mix_take hK1 (some 70) (.move (.tmp 1)) 3 _ (by kernel_rfl) (by kernel_rfl) (fun w' hS' => by (simp only [opr]; go_simp; try with_reducible rfl)) (fun K2 hK2 => ?_)
  clear hK1 K1
  simp only [Act.put, List.setIfInBounds_toArray, List.set_cons_zero, List.set_cons_succ]
  refine mix_take hK2 (some 71) (.move (.tmp 7)) 3 _ (by kernel_rfl) (by kernel_rfl) (fun w' hS' => by (simp only [opr]; go_simp; try with_reducible rfl)) (fun K3 hK3 => ?_)
  clear hK2 K2
  simp only [Act.put, List.setIfInBounds_toArray, List.set_cons_zero, List.set_cons_succ]
  refine mix_take hK3 (some 72) (.binOp BinOp.add 3 (.tmp 70) (.tmp 71) 3) 3 _ (by kernel_rfl) (by kernel_rfl) (fun w' hS' => by (simp only [opr]; go_simp; try with_reducible rfl)) (fun K4 hK4 => ?_)
  clear hK3 K3
  simp only [Act.put, List.setIfInBounds_toArray, List.set_cons_zero, List.set_cons_succ]
  refine mix_take hK4 (some 73) (.slice 26 (.tmp 69) (some (.tmp 72)) none none) 26 _ (by kernel_rfl) (by kernel_rfl) (fun w' hS' => by exact slice26_l (k := i + 1) (o := (i + 1) * 3) rfl rfl (by omega) hz3 rfl rfl rfl _ _ _) (fun K5 hK5 => ?_)
  clear hK4 K4
  simp only [Act.put, List.setIfInBounds_toArray, List.set_cons_zero, List.set_cons_succ]
  refine mix_take hK5 (some 74) (.move (.tmp 0)) 26 _ (by kernel_rfl) (by kernel_rfl) (fun w' hS' => by (simp only [opr]; go_simp; try with_reducible rfl)) (fun K6 hK6 => ?_)
  clear hK5 K5
  simp only [Act.put, List.setIfInBounds_toArray, List.set_cons_zero, List.set_cons_succ]
  refine mix_take hK6 (some 75) (.move (.tmp 1)) 3 _ (by kernel_rfl) (by kernel_rfl) (fun w' hS' => by (simp only [opr]; go_simp; try with_reducible rfl)) (fun K7 hK7 => ?_)
  clear hK6 K6
  simp only [Act.put, List.setIfInBounds_toArray, List.set_cons_zero, List.set_cons_succ]
  refine mix_take hK7 (some 76) (.slice 26 (.tmp 74) (some (.tmp 75)) none none) 26 _ (by kernel_rfl) (by kernel_rfl) (fun w' hS' => by exact slice26_l (k := i) (o := i * 3) rfl rfl (by omega) hz7 rfl rfl rfl _ _ _) (fun K8 hK8 => ?_)
  clear hK7 K7
  simp only [Act.put, List.setIfInBounds_toArray, List.set_cons_zero, List.set_cons_succ]
  refine mix_chain hK8 (fun K8c hK8c => ?_)
  clear hK8 K8
  refine op_plain (some 77) (.call { callee := Callee.builtin Builtin.copy, args := #[.tmp 73, .tmp 76], argTypes := #[26, 26] }) 3 (by kernel_rfl) (by kernel_rfl) ?_
  rw [← hwd]
  refine wpList_copyS rfl (.tmp 73) (.tmp 76) 26 rfl 35 3 Try.underlying26 size35 g ((i + 1) * 3) _ _ g (i * 3) _ _ rfl rfl (wc (L.drop i)) (n - i) HMN.out HCL.out HSRC.out HTH.out HONE.out ?_
  refine wpList_nil ?_
  rw [← hw1]
  refine hK8c _ _ trivial (mix_begin fun K9 hK9 => ?_)
  clear hK8c K8c
  try simp only [Act.put, List.setIfInBounds_toArray, List.set_cons_zero, List.set_cons_succ]
  refine hK9 _ _ (mix_nil ?_)
  clear hK9 K9
  clear hwd hw1 hov HOV
  go_wp2_with (simp only [hcp])
  go_ret
  refine ⟨_, rfl, HFIN.out.1, HFIN.out.2, fun j hj => .inl hj⟩

theorem zeroCells_size (k : Nat) : (Builtin.zeroCells (Value.agg #[.int .i64 0, .int .i64 0, .int .i64 0]).cells k).size = k * 3 := by
  have e : (Value.agg #[.int .i64 0, .int .i64 0, .int .i64 0]).cells.size = 3 := by rfl
  simp only [Builtin.zeroCells, Array.size_map, Array.size_range, e]

set_option maxHeartbeats 2000000 in
theorem insert33_grow (g n vb i : Nat) (L : List Tm) (p : Tm) (w : World) (h : Ws w (some ⟨g, 0, none⟩) n n L) (h1 : i < n) (hm : n ≤ 2048) (hv : TBox w vb p) :
    Calls Try.prog 33 #[.slice (some ⟨g, 0, none⟩) n n, .int .i64 (i : Nat), .slice (some ⟨vb, 0, none⟩) 1 1] w (InsOut L p i (.slice (some ⟨g, 0, none⟩) n n) w) := by
  obtain ⟨ii, hi, hzz⟩ := Option.map_eq_some_iff.1 info35
  simp only [Prod.mk.injEq] at hzz
  obtain ⟨g1, g2, g3⟩ := hzz
  obtain ⟨k, hk⟩ : ∃ k, k = n + 1 - i := ⟨_, rfl⟩
  have hik : i + k = n + 1 := by omega
  have hki : (n : Int) + 1 - (i : Int) = ((k : Nat) : Int) := by omega
  obtain ⟨gc, hgc⟩ : ∃ c, c = grownCap w (i + k) n 35 := ⟨_, rfl⟩
  have hge : n + 1 ≤ gc := by rw [hgc]; have := grownCap_ge w (i + k) n 35; omega
  have hgm : gc ≤ maxLen := by rw [hgc]; exact grownCap_le_maxLen w _ _ _ (by unfold maxLen; omega)
  have hgr := h.ther
  have hlt : (wc (L.take i)).length = i * 3 := by rw [wc_length, List.length_take, h.1, Nat.min_eq_left (by omega)]
  have hold : (Builtin.firstCells ii.size i (.slice (some ⟨g, 0, none⟩) i n)).run Try.prog w.drew = .ok (wc (L.take i)).toArray w.drew := by
    have hl := run_loadCells_list (P := Try.prog) w.drew ⟨g, 0, none⟩ (wc (L.take i)) (fun j v hj => by
      rw [addr_add]
      rw [wc_take, List.getElem?_take] at hj
      split at hj
      · exact hgr.2.2 j v hj
      · cases hj)
    rw [hlt] at hl
    rw [g2]
    simp [Builtin.firstCells, hl]
  have happ : ∀ ty, (Builtin.append_ #[26, 3] ty #[.slice (some ⟨g, 0, none⟩) i n, .int .i64 ((k : Nat) : Int)]).run Try.prog w = _ := fun ty =>
    Lib.run_append_grow_zeros w 26 3 ty 35 ii _ .i64 .i64 Try.underlying26 Try.underlying3 hi g1 (some ⟨g, 0, none⟩) i n (wc (L.take i)) hold k (by omega) (by omega) (by omega) (by omega) (by rw [g3]; omega) (growslice_fits (by omega) (by rw [g3]; omega))
  rw [← hgc, ← hki] at happ
  obtain ⟨B, hB⟩ : ∃ B, B = w.heap.size := ⟨_, rfl⟩
  obtain ⟨C, hC⟩ : ∃ C : Array Value, C = ((wc (L.take i)).toArray ++ Builtin.zeroCells (Value.agg #[.int .i64 0, .int .i64 0, .int .i64 0]).cells k ++ Builtin.zeroCells (Value.agg #[.int .i64 0, .int .i64 0, .int .i64 0]).cells (gc - (i + k))) := ⟨_, rfl⟩
  have hCs : C.size = gc * 3 := by
    have e : (wc (L.take i)).toArray.size = i * 3 := by rw [List.size_toArray]; exact hlt
    rw [hC, Array.size_append, Array.size_append, zeroCells_size, zeroCells_size, e]; omega
  have hCt : C.toList.take (i * 3) = wc (L.take i) := by
    rw [hC, Array.toList_append, Array.toList_append, List.append_assoc, ← hlt]
    exact List.take_left
  rw [← hB, ← hC, hik] at happ
  obtain ⟨w3, hw3⟩ : ∃ W, W = w.drew.alloc (.cells C 35) := ⟨_, rfl⟩
  rw [← hw3] at happ
  have HAP := hide' happ
  have hst3 : Stay (fun _ => False) w w3 := by rw [hw3]; exact (Stay.refl _ _).drew.alloc _
  have hB3 : B < w3.heap.size := by rw [hw3, hB]; simp
  have hh3 : w3.heap[B]? = some (.cells C 35) := by rw [hw3, hB]; exact heap_alloc_new _ _
  have hth3 : w3.there B 0 (gc * 3) := fun j hj => by
    exact ⟨by rw [cell_of_row w3 B _ C 35 (0, 0) hh3, Nat.zero_add, Array.getElem?_eq_getElem (by omega)]; rfl, by simp [World.frozen?, hh3]⟩
  have hr3 : w3.rangeAt B 0 C.toList := fun j v hj => by
    rw [cell_of_row w3 B _ C 35 (0, 0) hh3, Nat.zero_add]
    simpa using hj
  have hv3 := hv.keep hst3
  obtain ⟨w4, hw4⟩ : ∃ W, W = w3.setCells B (i * 3) p.parts := ⟨_, rfl⟩
  have hcp : ∀ ty, (Builtin.copy_ #[26, 26] ty #[.slice (some ⟨B, i * 3, none⟩) (n + 1 - i) (gc - i), .slice (some ⟨vb, 0, none⟩) 1 1]).run Try.prog w3 = .ok (.int .i64 1) w4 := fun ty => by
    rw [hw4]
    exact run_copyS w3 26 35 ty 3 Try.underlying26 size35 B (i * 3) (n + 1 - i) (gc - i) vb 0 1 1 p.parts 1 (show 1 = min 1 (n + 1 - i) by omega) rfl hv3.cells (there_part hth3 (by omega)) p.parts_one
  have hst4 : Stay (fun j => w.heap.size ≤ j) w w4 := by rw [hw4]; exact (hst3.mono (fun _ _ h => h.elim)).setCells B p.parts _ (by omega)
  obtain ⟨w5, hw5⟩ : ∃ W, W = w4.drew := ⟨_, rfl⟩
  have hst5 : Stay (fun j => w.heap.size ≤ j) w w5 := by rw [hw5]; exact hst4.drew
  have hw5s := h.stay hst5 (fun k hk e => by have := h.lt k hk; omega)
  have HMN : Hid (n - i = Nat.min (n - i) (n + 1 - (i + 1))) := hide' (by show n - i = min (n - i) (n + 1 - (i + 1)); omega)
  have HCL : Hid ((wc (L.drop i)).length = (n - i) * 3) := hide' (by rw [wc_length, List.length_drop, h.1])
  have HSRC : Hid (∀ j v, (wc (L.drop i))[j]? = some v → w5.cell? ⟨g, i * 3 + j, none⟩ = some v) := hide' (fun j v hj => by
    rw [wc_drop, List.getElem?_drop] at hj
    have := hw5s.ther.2.2 _ _ hj
    rwa [Nat.zero_add] at this)
  have HTH : Hid (w5.there B ((i + 1) * 3) ((n - i) * 3)) := by
    have hth4 : w4.there B 0 (gc * 3) := by rw [hw4]; exact World.there_setCells hth3 _ _ _
    have hth5 : w5.there B 0 (gc * 3) := by rw [hw5]; exact fun j hj => hth4 j hj
    exact hide' (there_part hth5 (by omega))
  have HONE := hide' (wc_one (L.drop i))
  obtain ⟨w6, hw6⟩ : ∃ W, W = w5.setCells B ((i + 1) * 3) (wc (L.drop i)) := ⟨_, rfl⟩
  have HFIN : Hid (Wv w6 (.slice (some ⟨B, 0, none⟩) (n + 1) gc) (L.take i ++ p :: L.drop i) ∧ Stay (fun j => (Value.slice (some ⟨g, 0, none⟩) n n).ownBlock = some j) w w6 ∧ w.heap.size ≤ B) := by
    have hf : Ws w6 (some ⟨B, 0, none⟩) (n + 1) gc (L.take i ++ p :: L.drop i) := by rw [hw6, hw5, hw4]; exact Ws.build hB3 hr3 hth3 hCt (by rw [Array.length_toList, hCs]; omega) h.1 (by omega) hge hgm
    have hl := ins_len L p i (by rw [h.1]; omega)
    rw [h.1] at hl
    refine ⟨⟨_, gc, by rw [hl], by rw [hl]; exact hf, fun e => by omega⟩, ?_, by omega⟩
    have hs6 : Stay (fun j => w.heap.size ≤ j) w w6 := by rw [hw6]; exact hst5.setCells B (wc (L.drop i)) _ (by omega)
    exact hs6.mono (fun j hj e => by omega)
  have hiw : IntKind.i64.wrap ((i : Int) + 1) = (i : Int) + 1 := by rw [IntKind.wrap_i64]; omega
  have hz1 : ¬ (i : Int) = (n : Int) := by omega
  have hz2 : (n : Int) < (n : Int) + 1 := by omega
  have hz3 : ¬ gc = i + 1 := by omega
  have hz5 : (n : Int) ≤ 2048 := by omega
  have hz6 : (i : Int) ≤ (n : Int) := by omega
  have hz7 : ¬ n = i := by omega
  have hz8 : ¬ gc = i := by omega
  have hz9 : (i : Int) + 1 ≤ (n : Int) + 1 := by omega
  have hza : (i : Int) ≤ (n : Int) + 1 := by omega
  have hzb : n + 1 ≤ gc := hge
  have hzc : i ≤ n := by omega
  have hzd : ¬ n = 0 := by omega
  have hze : (i : Int) ≤ 2048 := by omega
  clear happ hst3 hB3 hh3 hth3 hr3 hv3 hw4 hst4 hst5 hw5s h h1 hv hw3 hB hC hCs hCt hgc hi g1 g2 g3 hge hgm hold hlt hgr hki hik hk
  go_enter Try.func33, Try.ntmps33
  go_wp2_with (at_builtin; go_must (refine Lib.wpList_append_run _ rfl _ _ 26 3 rfl _ _ rfl rfl _ _ (HAP.out _) ?_))
  have hS : True := trivial
  refine wp_region_mix (fun _ => True) [(0, true), (1, true), (2, true), (3, true), (4, true), (5, true), (6, true), (7, true), (8, false)] (by kernel_rfl) (by kernel_rfl) (fun _ d _ _ _ h => by cases d <;> exact h) hS ?_
  refine mix_begin (fun K0 hK0 => ?_)
  refine mix_take hK0 (some 46) (.move (.tmp 9)) 26 _ (by kernel_rfl) (by kernel_rfl) (fun w' hS' => by (simp only [opr]; go_simp; try with_reducible rfl)) (fun K1 hK1 => ?_)
  clear hK0 K0
  simp only [Act.put, List.setIfInBounds_toArray, List.set_cons_zero, List.set_cons_succ]
  refine mix_take hK1 (some 47) (.move (.tmp 1)) 3 _ (by kernel_rfl) (by kernel_rfl) (fun w' hS' => by (simp only [opr]; go_simp; try with_reducible rfl)) (fun K2 hK2 => ?_)
  clear hK1 K1
  simp only [Act.put, List.setIfInBounds_toArray, List.set_cons_zero, List.set_cons_succ]
  refine mix_take hK2 (some 48) (.move (.tmp 7)) 3 _ (by kernel_rfl) (by kernel_rfl) (fun w' hS' => by (simp only [opr]; go_simp; try with_reducible rfl)) (fun K3 hK3 => ?_)
  clear hK2 K2
  simp only [Act.put, List.setIfInBounds_toArray, List.set_cons_zero, List.set_cons_succ]
  refine mix_take hK3 (some 49) (.binOp BinOp.add 3 (.tmp 47) (.tmp 48) 3) 3 _ (by kernel_rfl) (by kernel_rfl) (fun w' hS' => by (simp only [opr]; go_simp; try with_reducible rfl)) (fun K4 hK4 => ?_)
  clear hK3 K3
  simp only [Act.put, List.setIfInBounds_toArray, List.set_cons_zero, List.set_cons_succ]
  refine mix_take hK4 (some 50) (.slice 26 (.tmp 46) (some (.tmp 49)) none none) 26 _ (by kernel_rfl) (by kernel_rfl) (fun w' hS' => by exact slice26_l (k := i + 1) (o := (i + 1) * 3) rfl rfl (by omega) hz3 rfl rfl rfl _ _ _) (fun K5 hK5 => ?_)
  clear hK4 K4
  simp only [Act.put, List.setIfInBounds_toArray, List.set_cons_zero, List.set_cons_succ]
  refine mix_take hK5 (some 51) (.move (.tmp 0)) 26 _ (by kernel_rfl) (by kernel_rfl) (fun w' hS' => by (simp only [opr]; go_simp; try with_reducible rfl)) (fun K6 hK6 => ?_)
  clear hK5 K5
  simp only [Act.put, List.setIfInBounds_toArray, List.set_cons_zero, List.set_cons_succ]
  refine mix_take hK6 (some 52) (.move (.tmp 1)) 3 _ (by kernel_rfl) (by kernel_rfl) (fun w' hS' => by (simp only [opr]; go_simp; try with_reducible rfl)) (fun K7 hK7 => ?_)
  clear hK6 K6
  simp only [Act.put, List.setIfInBounds_toArray, List.set_cons_zero, List.set_cons_succ]
  refine mix_take hK7 (some 53) (.slice 26 (.tmp 51) (some (.tmp 52)) none none) 26 _ (by kernel_rfl) (by kernel_rfl) (fun w' hS' => by exact slice26_l (k := i) (o := i * 3) rfl rfl (by omega) hz7 rfl rfl rfl _ _ _) (fun K8 hK8 => ?_)
  clear hK7 K7
  simp only [Act.put, List.setIfInBounds_toArray, List.set_cons_zero, List.set_cons_succ]
  refine mix_chain hK8 (fun K8c hK8c => ?_)
  clear hK8 K8
  refine op_plain (some 54) (.call { callee := Callee.builtin Builtin.copy, args := #[.tmp 50, .tmp 53], argTypes := #[26, 26] }) 3 (by kernel_rfl) (by kernel_rfl) ?_
  rw [← hw5]
  refine wpList_copyS rfl (.tmp 50) (.tmp 53) 26 rfl 35 3 Try.underlying26 size35 B ((i + 1) * 3) _ _ g (i * 3) _ _ rfl rfl (wc (L.drop i)) (n - i) HMN.out HCL.out HSRC.out HTH.out HONE.out ?_
  refine wpList_nil ?_
  rw [← hw6]
  refine hK8c _ _ trivial (mix_begin fun K9 hK9 => ?_)
  clear hK8c K8c
  try simp only [Act.put, List.setIfInBounds_toArray, List.set_cons_zero, List.set_cons_succ]
  refine hK9 _ _ (mix_nil ?_)
  clear hK9 K9
  clear hw5 hw6 hcp HAP
  go_wp2
  go_ret
  exact ⟨_, rfl, HFIN.out.1, HFIN.out.2.1, fun j hj => .inr (by have := HFIN.out.2.2; cases hj; exact this)⟩

end Go.Proofs.Ytihciknbmhadjaa
