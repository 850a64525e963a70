/-
  A window comes ahead of all: walked. No conditions.
  A window is made: walked. No conditions.
-/
import Derived.Test.YticccknocjnkpaaG7
import Derived.Lib.Overlaps
import Derived.Lib.AppendZerosOnto
import Derived.Laws.Externs
import Derived.Laws.LoneSync
import Derived.ArgAppend
import Derived.Lib.SliceRun
namespace Go.Proofs.Yticccknocjnkpaa
open Go.RowKit

theorem run_copyS {P : Program} (w : World) (T elem ty : TypeId) (size : Nat) (hu : P.underlying T = some (.slice elem)) (hsz : (P.info? elem).map (·.size) = some size)
    (b o1 dLen dCap ab ao sLen sCap : Nat) (cs : List Value) (m : Nat) (hm : m = Nat.min sLen dLen) (hc : cs.length = m * size) (hsrc : ∀ j v, cs[j]? = some v → w.cell? ⟨ab, ao + j, none⟩ = some v) (ht : w.there b o1 (m * size)) (h1 : ∀ v ∈ cs, v.oneCell' = true) :
    (Builtin.copy_ #[T, T] ty #[.slice (some ⟨b, o1, none⟩) dLen dCap, .slice (some ⟨ab, ao, none⟩) sLen sCap]).run P w = .ok (goInt m) (w.setCells b o1 cs) := by
  have hl := run_loadCells_list (P := P) w ⟨ab, ao, none⟩ cs (fun j v hv => by rw [addr_add]; exact hsrc j v hv)
  have hst := run_storeCells_cells (P := P) b o1 cs 0 w (fun j hj => by simpa using (ht j (by omega)).1) (fun j hj => by simpa using (ht j (by omega)).2) h1
  rw [hc] at hl
  cases hq : P.info? elem with
  | none => simp [hq] at hsz
  | some i =>
    have hi : i.size = size := by simpa [hq] using hsz
    simp [Builtin.copy_, run_underlying hu, Builtin.lenOf, Builtin.firstCells, sizeOf, typeInfo, hq, hi, ← hm, hl, hst]

theorem wpList_copyS {P : Program} {w : World} {ops : Array Oper} {rest : List Oper} {o : Oper} {a : Act} {Q : Exit → Act → World → Prop} (hgd : o.guard = none) (d s : Operand) (T : TypeId)
    (ho : o.op = .call { callee := .builtin .copy, args := #[d, s], argTypes := #[T, T] }) (elem : TypeId) (size : Nat) (hu : P.underlying T = some (.slice elem)) (hsz : (P.info? elem).map (·.size) = some size)
    (b o1 dLen dCap ab ao sLen sCap : Nat) (hd : a.eval d = .slice (some ⟨b, o1, none⟩) dLen dCap) (hs : a.eval s = .slice (some ⟨ab, ao, none⟩) sLen sCap)
    (cs : List Value) (m : Nat) (hm : m = Nat.min sLen dLen) (hc : cs.length = m * size) (hsrc : ∀ j v, cs[j]? = some v → w.cell? ⟨ab, ao + j, none⟩ = some v) (ht : w.there b o1 (m * size)) (h1 : ∀ v ∈ cs, v.oneCell' = true)
    (h : wpList P ops Q rest (a.put o.dst (goInt m)) (w.setCells b o1 cs)) : wpList P ops Q (o :: rest) a w := by
  refine wpList_plain hgd fun K hK => ?_
  have hrun := run_copyS (P := P) w T elem o.type size hu hsz b o1 dLen dCap ab ao sLen sCap cs m hm hc hsrc ht h1
  unfold Oper.wp
  simp [execOp, ho, resolve, invoke, builtin, hd, hs, hrun, Result.andThen]
  exact hK _ _ h

theorem add_zero' (ad : Addr) (z : Nat) : ad.add (0 * z) = ad := by
  rw [Nat.zero_mul]
  obtain ⟨b, o, sp⟩ := ad
  unfold Addr.add
  split <;> simp_all

/-- s[:k]. -/
theorem exec_slice_h {P : Program} {a : Act} {t sz : Nat} {x y : Operand} {sa : Option Addr} {m cap k : Nat} (ht : P.underlying t = some (.slice (P.elem t))) (hz : (P.info? (P.elem t)).map (·.size) = some sz) (hx : a.eval x = .slice sa m cap) (hy : a.eval y = .int .i64 (k : Nat)) (hk : k ≤ cap) (w : World) (d : Option Tmp) (ty : TypeId) :
    (execOp a.eval (opr d (.slice t x none (some y) none) ty)).run P w = .ok (.value (.slice sa k cap)) w := by
  obtain ⟨i, hi, rfl⟩ := Option.map_eq_some_iff.1 hz
  unfold execOp
  simp only [opr, hx, Option.map_some, Option.map_none, hy]
  rw [Sem.run_bind, run_sliceAt_slice _ _ _ _ _ _ ht, run_slice_h _ _ _ _ _ ht _ _ (by omega) (by omega)]
  simp [sizeOf, typeInfo, hi, Result.andThen, sliced]
  intro h
  cases sa with
  | none => rfl
  | some ad => simpa using add_zero' ad i.size

/-- s[k:]. -/
theorem exec_slice_l {P : Program} {a : Act} {t sz : Nat} {x y : Operand} {sa : Option Addr} {m cap k : Nat} (ht : P.underlying t = some (.slice (P.elem t))) (hz : (P.info? (P.elem t)).map (·.size) = some sz) (hx : a.eval x = .slice sa m cap) (hy : a.eval y = .int .i64 (k : Nat)) (hk : k ≤ m) (w : World) (d : Option Tmp) (ty : TypeId) :
    (execOp a.eval (opr d (.slice t x (some y) none none) ty)).run P w = .ok (.value (.slice (if cap = k then sa else sa.map (·.add (k * sz))) (m - k) (cap - k))) w := by
  obtain ⟨i, hi, rfl⟩ := Option.map_eq_some_iff.1 hz
  unfold execOp
  simp only [opr, hx, Option.map_some, Option.map_none, hy]
  rw [Sem.run_bind, run_sliceAt_slice _ _ _ _ _ _ ht, run_slice_l _ _ _ _ _ ht _ _ (by omega) (by omega)]
  simp [sizeOf, typeInfo, hi, Result.andThen, sliced]

theorem elem30 : Try.prog.underlying 30 = some (.slice (Try.prog.elem 30)) := by kernel_rfl

theorem esize30 : (Try.prog.info? (Try.prog.elem 30)).map (·.size) = some 7 := by kernel_rfl

/-- s[k:] of windows. -/
theorem slice30_l {a : Act} {x y : Operand} {g m cap k o m2 c2 : Nat} (hx : a.eval x = .slice (some ⟨g, 0, none⟩) m cap) (hy : a.eval y = .int .i64 (k : Nat)) (hk : k ≤ m) (hc : ¬ cap = k) (ho : o = k * 7) (h1 : m2 = m - k) (h2 : c2 = cap - k) (w : World) (d : Option Tmp) (ty : TypeId) :
    (execOp a.eval (opr d (.slice 30 x (some y) none none) ty)).run Try.prog w = .ok (.value (.slice (some ⟨g, o, none⟩) m2 c2)) w := by
  rw [exec_slice_l elem30 esize30 hx hy hk w d ty, if_neg hc, ho, h1, h2]
  simp [addr_add]

/-- s[:k] of windows. -/
theorem slice30_h {a : Act} {x y : Operand} {sa : Option Addr} {m cap k : Nat} (hx : a.eval x = .slice sa m cap) (hy : a.eval y = .int .i64 (k : Nat)) (hk : k ≤ cap) (w : World) (d : Option Tmp) (ty : TypeId) :
    (execOp a.eval (opr d (.slice 30 x none (some y) none) ty)).run Try.prog w = .ok (.value (.slice sa k cap)) w := exec_slice_h elem30 esize30 hx hy hk w d ty

theorem size78 : (Try.prog.info? 78).map (·.size) = some 7 := by kernel_rfl

theorem info78 : (Try.prog.info? 78).map (fun i => (i.zero, i.size, i.bytes)) = some (some (.agg #[.int .i64 0, .int .i64 0, .int .i64 0, .int .i64 0, .int .i64 0, .int .i64 0, .bool false]), 7, 56) := by kernel_rfl

theorem sizeOf78 (w : World) : (Go.sizeOf 78).run Try.prog w = .ok 7 w := by kernel_rfl

/-- A new block and a row that has cells: they don't overlap. -/
theorem apart70 (w : World) (vb b ob la ca lb cb : Nat) (p : Wn) (x : Value) (_hv : NBox w vb p) (hz : ∃ c e, w.heap[vb]? = some (.cells c e)) (hb : w.cell? ⟨b, 0, none⟩ = some x) (hne : vb ≠ b) :
    (callFunc 73 #[.slice (some ⟨vb, 0, none⟩) la ca, .slice (some ⟨b, ob, none⟩) lb cb]).run Try.prog w = .ok (.value (.bool false)) w := by
  obtain ⟨c, e, hz⟩ := hz
  obtain ⟨tB, kB, h1, h2, _⟩ := World.shape?_of_cell? hb
  have hfz : ∀ k, w.frozen? ⟨vb, k, none⟩ = false := fun k => by simp [World.frozen?, hz]
  rw [run_callFunc_extern Try.func73 (by kernel_rfl) (by kernel_rfl) (by kernel_rfl) (e := Extern.SlicesOverlaps.overlaps #[30, 30] #[4]) (by kernel_rfl),
    Lib.run_overlaps_apart w 30 4 78 Try.underlying30 7 sizeOf78 ⟨vb, 0, none⟩ ⟨b, ob, none⟩ la ca lb cb hne e tB c.size kB (by simp [World.shape?, hz]) h1 (by simp only at h2; omega) (hfz _) (hfz _)]
  rfl

/-- What comes of a window ahead of all: a row, and where it lies. -/
def InsOut (L : List Wn) (p : Wn) (v0 : Value) (w : World) (e : Ending) (w' : World) : Prop := ∃ v, e = .returned v ∧ Wv w' v (p :: L) ∧ Stay (fun j => v0.ownBlock = some j) w w' ∧ ∀ j, v.ownBlock = some j → v0.ownBlock = some j ∨ w.heap.size ≤ j

set_option maxHeartbeats 2000000 in
theorem insert50_shift (g n cap vb : Nat) (L : List Wn) (p : Wn) (w : World) (h : Ws w (some ⟨g, 0, none⟩) n cap L) (h1 : 1 ≤ n) (hc : n + 1 ≤ cap) (hm : n ≤ 256) (hv : NBox w vb p) (hz : ∃ c e, w.heap[vb]? = some (.cells c e)) (hne : vb ≠ g) :
    Calls Try.prog 50 #[.slice (some ⟨g, 0, none⟩) n cap, .int .i64 0, .slice (some ⟨vb, 0, none⟩) 1 1] w (InsOut L p (.slice (some ⟨g, 0, none⟩) n cap) w) := by
  have hx : ∃ x, w.cell? ⟨g, 0, none⟩ = some x := by
    obtain ⟨q, hq⟩ : ∃ q, L[0]? = some q := ⟨_, List.getElem?_eq_getElem (by have := h.1; omega)⟩
    obtain ⟨g', e, hb⟩ := h.at hq
    cases e
    exact ⟨_, by have := hb.c0; rwa [Nat.zero_mul] at this⟩
  obtain ⟨x, hx⟩ := hx
  have HOV := hide' (fun ob la ca lb cb => apart70 w vb g ob la ca lb cb p x hv hz hx hne)
  have hov := HOV.out
  obtain ⟨wd, hwd⟩ : ∃ W, W = w.drew := ⟨_, rfl⟩
  have hst : Stay (fun _ => False) w wd := by rw [hwd]; exact (Stay.refl _ _).drew
  have HST := hide' hst
  have HW := hide' (h.keep hst)
  have HV := hide' (hv.keep hst)
  have HMN : Hid (n = Nat.min (n + 1 - 0) (n + 1 - 1)) := hide' (by show n = min (n + 1 - 0) (n + 1 - 1); omega)
  have HCL : Hid ((wc L).length = n * 7) := hide' (by rw [wc_length, h.1])
  have hgr : g < wd.heap.size ∧ wd.rangeAt g 0 (wc L) ∧ wd.there g 0 (cap * 7) := by
    rcases HW.out.2.2.2 with ⟨e, _⟩ | ⟨g', e, r⟩
    · cases e
    · cases e; exact r
  have HSRC : Hid (∀ j v, (wc L)[j]? = some v → wd.cell? ⟨g, 0 + j, none⟩ = some v) := hide' hgr.2.1
  have HTH : Hid (wd.there g 7 (n * 7)) := hide' (there_part hgr.2.2 (by omega))
  have HONE := hide' (wc_one L)
  obtain ⟨w1, hw1⟩ : ∃ W, W = wd.setCells g 7 (wc L) := ⟨_, rfl⟩
  have hst1 : Stay (fun j => j = g) wd w1 := by rw [hw1]; exact (Stay.refl (fun j => j = g) wd).setCells g _ _ rfl
  have hv1 := HV.out.stay hst1 hne
  have hcp : ∀ ty, (Builtin.copy_ #[30, 30] ty #[.slice (some ⟨g, 0, none⟩) (n + 1) cap, .slice (some ⟨vb, 0, none⟩) 1 1]).run Try.prog w1 = .ok (.int .i64 1) (w1.setCells g 0 p.parts) := fun ty =>
    run_copyS w1 30 78 ty 7 Try.underlying30 size78 g 0 (n + 1) cap vb 0 1 1 p.parts 1 (show 1 = min 1 (n + 1) by omega) rfl hv1.cells (by rw [hw1]; exact World.there_setCells (there_part hgr.2.2 (by omega)) _ _ _) p.parts_one
  obtain ⟨w2, hw2⟩ : ∃ W, W = w1.setCells g 0 p.parts := ⟨_, rfl⟩
  rw [← hw2] at hcp
  have HFIN : Hid (Wv w2 (.slice (some ⟨g, 0, none⟩) (n + 1) cap) (p :: L) ∧ Stay (fun j => (Value.slice (some ⟨g, 0, none⟩) n cap).ownBlock = some j) w w2) := by
    have hf := HW.out.first p (i := n) (Nat.le_refl _) hc
    rw [List.take_of_length_le (by rw [h.1]; exact Nat.le_refl _), List.drop_of_length_le (by rw [h.1]; omega), List.append_nil, ← hw1, ← hw2, show max n (n + 1) = n + 1 by omega] at hf
    refine ⟨⟨_, cap, by rw [List.length_cons, h.1], by rw [List.length_cons, h.1]; exact hf, fun e => by omega⟩, ?_⟩
    have hs2 : Stay (fun j => j = g) wd w2 := by rw [hw2]; exact hst1.setCells g p.parts 0 rfl
    exact (hst.mono (fun _ _ h => h.elim)).trans (hs2.mono (fun j _ e => by rw [e]; rfl))
  clear hw2 hst1 hv1
  have HNN := hide' (show L.length = n ∧ 1 ≤ n ∧ n + 1 ≤ cap ∧ n ≤ 256 from ⟨h.1, h1, hc, hm⟩)
  have HNE := hide' hne
  have hz1 : ¬ (0 : Int) = (n : Int) := by omega
  have hz2 : ¬ ((cap : Int) < (n : Int) + 1) := by omega
  have hz3 : ¬ cap = 1 := by omega
  have hz4 : n + 1 ≤ cap := hc
  have hz5 : (n : Int) ≤ 256 := by omega
  have hz6 : (1 : Int) ≤ (n : Int) + 1 := by omega
  have hz7 : ¬ cap = 0 := by omega
  have hz8 : (n : Int) + 1 ≤ (cap : Int) := by omega
  have hz9 : 1 ≤ n + 1 := by omega
  clear hst hgr h h1 hc hm hv hz hne hx
  go_enter Try.func50, Try.ntmps50
  go_wp2_with (simp only [hov])
  have hS : True := trivial
  refine wp_region_mix (fun _ => True) [(0, true), (1, true), (2, true), (3, true), (4, true), (5, true), (6, true), (7, true), (8, false)] (by kernel_rfl) (by kernel_rfl) (fun _ d _ _ _ h => by cases d <;> exact h) hS ?_
  refine mix_begin (fun K0 hK0 => ?_)
  refine mix_take hK0 (some 69) (.move (.tmp 0)) 30 _ (by kernel_rfl) (by kernel_rfl) (fun w' hS' => by (simp only [opr]; go_simp; try with_reducible rfl)) (fun K1 hK1 => ?_)
  clear hK0 K0
  simp only [Act.put, List.setIfInBounds_toArray, List.set_cons_zero, List.set_cons_succ]
  refine mix_take hK1 (some 70) (.move (.tmp 1)) 3 _ (by kernel_rfl) (by kernel_rfl) (fun w' hS' => by (simp only [opr]; go_simp; try with_reducible rfl)) (fun K2 hK2 => ?_)
  clear hK1 K1
  simp only [Act.put, List.setIfInBounds_toArray, List.set_cons_zero, List.set_cons_succ]
  refine mix_take hK2 (some 71) (.move (.tmp 7)) 3 _ (by kernel_rfl) (by kernel_rfl) (fun w' hS' => by (simp only [opr]; go_simp; try with_reducible rfl)) (fun K3 hK3 => ?_)
  clear hK2 K2
  simp only [Act.put, List.setIfInBounds_toArray, List.set_cons_zero, List.set_cons_succ]
  refine mix_take hK3 (some 72) (.binOp BinOp.add 3 (.tmp 70) (.tmp 71) 3) 3 _ (by kernel_rfl) (by kernel_rfl) (fun w' hS' => by (simp only [opr]; go_simp; try with_reducible rfl)) (fun K4 hK4 => ?_)
  clear hK3 K3
  simp only [Act.put, List.setIfInBounds_toArray, List.set_cons_zero, List.set_cons_succ]
  refine mix_take hK4 (some 73) (.slice 30 (.tmp 69) (some (.tmp 72)) none none) 30 _ (by kernel_rfl) (by kernel_rfl) (fun w' hS' => by exact slice30_l (k := 1) (o := 7) rfl rfl (by omega) hz3 rfl rfl rfl _ _ _) (fun K5 hK5 => ?_)
  clear hK4 K4
  simp only [Act.put, List.setIfInBounds_toArray, List.set_cons_zero, List.set_cons_succ]
  refine mix_take hK5 (some 74) (.move (.tmp 0)) 30 _ (by kernel_rfl) (by kernel_rfl) (fun w' hS' => by (simp only [opr]; go_simp; try with_reducible rfl)) (fun K6 hK6 => ?_)
  clear hK5 K5
  simp only [Act.put, List.setIfInBounds_toArray, List.set_cons_zero, List.set_cons_succ]
  refine mix_take hK6 (some 75) (.move (.tmp 1)) 3 _ (by kernel_rfl) (by kernel_rfl) (fun w' hS' => by (simp only [opr]; go_simp; try with_reducible rfl)) (fun K7 hK7 => ?_)
  clear hK6 K6
  simp only [Act.put, List.setIfInBounds_toArray, List.set_cons_zero, List.set_cons_succ]
  refine mix_take hK7 (some 76) (.slice 30 (.tmp 74) (some (.tmp 75)) none none) 30 _ (by kernel_rfl) (by kernel_rfl) (fun w' hS' => by exact slice30_l (k := 0) (o := 0) rfl rfl (by omega) hz7 rfl rfl rfl _ _ _) (fun K8 hK8 => ?_)
  clear hK7 K7
  simp only [Act.put, List.setIfInBounds_toArray, List.set_cons_zero, List.set_cons_succ]
  refine mix_chain hK8 (fun K8c hK8c => ?_)
  clear hK8 K8
  refine op_plain (some 77) (.call { callee := Callee.builtin Builtin.copy, args := #[.tmp 73, .tmp 76], argTypes := #[30, 30] }) 3 (by kernel_rfl) (by kernel_rfl) ?_
  rw [← hwd]
  refine wpList_copyS rfl (.tmp 73) (.tmp 76) 30 rfl 78 7 Try.underlying30 size78 g 7 _ _ g 0 _ _ rfl rfl (wc L) n HMN.out HCL.out HSRC.out HTH.out HONE.out ?_
  refine wpList_nil ?_
  rw [← hw1]
  refine hK8c _ _ trivial (mix_begin fun K9 hK9 => ?_)
  clear hK8c K8c
  try simp only [Act.put, List.setIfInBounds_toArray, List.set_cons_zero, List.set_cons_succ]
  refine hK9 _ _ (mix_nil ?_)
  clear hK9 K9
  clear hwd hw1 hov HOV
  go_wp2
  go_ret
  refine ⟨_, rfl, HFIN.out.1, HFIN.out.2, fun j hj => .inl hj⟩

theorem zeroCells_size (k : Nat) : (Builtin.zeroCells (.agg #[.int .i64 0, .int .i64 0, .int .i64 0, .int .i64 0, .int .i64 0, .int .i64 0, .bool false] : Value).cells k).size = k * 7 := by
  have e : (.agg #[.int .i64 0, .int .i64 0, .int .i64 0, .int .i64 0, .int .i64 0, .int .i64 0, .bool false] : Value).cells.size = 7 := by rfl
  simp only [Builtin.zeroCells, Array.size_map, Array.size_range, e]

theorem wc_cons_parts {W : World} {a : Option Addr} {n gc : Nat} {L : List Wn} {p : Wn} (hn : L.length = n) : Ws W a (n + 1) gc (p :: L) ↔ (n + 1 ≤ gc ∧ gc ≤ maxLen ∧ ((a = none ∧ gc = 0) ∨ ∃ g, a = some ⟨g, 0, none⟩ ∧ g < W.heap.size ∧ W.rangeAt g 0 (p.parts ++ wc L) ∧ W.there g 0 (gc * 7))) :=
  ⟨fun h => h.2, fun h => ⟨by rw [List.length_cons, hn], h⟩⟩

/-- A row is built in a block that has room. -/
theorem Ws.build {w : World} {B gc n : Nat} {L : List Wn} {p : Wn} (hB : B < w.heap.size) (ht : w.there B 0 (gc * 7)) (hn : L.length = n) (hc : n + 1 ≤ gc) (hm : gc ≤ maxLen) : Ws ((w.setCells B 0 p.parts).drew.setCells B 7 (wc L)) (some ⟨B, 0, none⟩) (n + 1) gc (p :: L) := by
  refine (wc_cons_parts hn).2 ?_
  obtain ⟨ys, hy⟩ : ∃ ys, ys = p.parts := ⟨_, rfl⟩
  have hl : ys.length = 7 := by rw [hy]; rfl
  rw [← hy]
  clear hy
  obtain ⟨w1, hw1⟩ : ∃ W, W = (w.setCells B 0 ys).drew := ⟨_, rfl⟩
  have ht0 : (w.setCells B 0 ys).there B 0 (gc * 7) := World.there_setCells ht B 0 ys
  have ht1 : w1.there B 0 (gc * 7) := by rw [hw1]; exact fun j hj => ht0 j hj
  have h1 := range_patch (w := w) (g := B) (xs := []) (ys := ys) (k := 0) (fun j v h => by simp at h) (Nat.zero_le _) (there_part ht (by omega))
  simp only [List.take_nil, List.nil_append, List.drop_nil, List.append_nil] at h1
  have h2 : w1.rangeAt B 0 ys := by rw [hw1]; exact fun j v hj => h1 j v hj
  have hs1 : Stay (fun j => j = B) w w1 := by rw [hw1]; exact ((Stay.refl (fun j => j = B) w).setCells B ys 0 rfl).drew
  rw [← hw1]
  clear hw1 ht0 h1
  have h3 := range_patch (k := 7) (ys := wc L) h2 (by omega) (there_part ht1 (by rw [wc_length]; omega))
  rw [List.take_of_length_le (by omega), List.drop_of_length_le (by omega), List.append_nil] at h3
  exact ⟨hc, hm, .inr ⟨B, rfl, Nat.lt_of_lt_of_le hB (hs1.setCells B (wc L) 7 rfl).size, h3, World.there_setCells ht1 B 7 (wc L)⟩⟩

set_option maxHeartbeats 2000000 in
theorem insert50_grow (g n vb : Nat) (L : List Wn) (p : Wn) (w : World) (h : Ws w (some ⟨g, 0, none⟩) n n L) (h1 : 1 ≤ n) (hm : n ≤ 256) (hv : NBox w vb p) :
    Calls Try.prog 50 #[.slice (some ⟨g, 0, none⟩) n n, .int .i64 0, .slice (some ⟨vb, 0, none⟩) 1 1] w (InsOut L p (.slice (some ⟨g, 0, none⟩) n n) w) := by
  obtain ⟨i, hi, hzz⟩ := Option.map_eq_some_iff.1 info78
  simp only [Prod.mk.injEq] at hzz
  obtain ⟨g1, g2, g3⟩ := hzz
  obtain ⟨gc, hgc⟩ : ∃ c, c = grownCap w (0 + (n + 1)) n 78 := ⟨_, rfl⟩
  have hge : n + 1 ≤ gc := by rw [hgc]; have := grownCap_ge w (0 + (n + 1)) n 78; omega
  have hgm : gc ≤ maxLen := by rw [hgc]; exact grownCap_le_maxLen w _ _ _ (by unfold maxLen; omega)
  have happ : ∀ ty, (Builtin.append_ #[30, 3] ty #[.slice (some ⟨g, 0, none⟩) 0 n, .int .i64 ((n : Int) + 1)]).run Try.prog w = _ := fun ty =>
    Lib.run_append_grow_zeros w 30 3 ty 78 i _ .i64 .i64 Try.underlying30 Try.underlying3 hi g1 (some ⟨g, 0, none⟩) 0 n [] (by simp [Builtin.firstCells, loadCells, loadCellsFrom]) (n + 1) (by omega) (by omega) (by omega) (by omega) (by rw [g3]; omega) (growslice_fits (by omega) (by rw [g3]; omega))
  rw [← hgc] at happ
  obtain ⟨B, hB⟩ : ∃ B, B = w.heap.size := ⟨_, rfl⟩
  obtain ⟨C, hC⟩ : ∃ C : Array Value, C = (([] : List Value).toArray ++ Builtin.zeroCells (.agg #[.int .i64 0, .int .i64 0, .int .i64 0, .int .i64 0, .int .i64 0, .int .i64 0, .bool false] : Value).cells (n + 1) ++ Builtin.zeroCells (.agg #[.int .i64 0, .int .i64 0, .int .i64 0, .int .i64 0, .int .i64 0, .int .i64 0, .bool false] : Value).cells (gc - (0 + (n + 1)))) := ⟨_, rfl⟩
  have hCs : C.size = gc * 7 := by rw [hC, Array.size_append, Array.size_append, zeroCells_size, zeroCells_size]; simp; omega
  rw [← hB, ← hC, Nat.zero_add] at happ
  obtain ⟨w3, hw3⟩ : ∃ W, W = w.drew.alloc (.cells C 78) := ⟨_, rfl⟩
  rw [← hw3] at happ
  have HAP := hide' happ
  have hst3 : Stay (fun _ => False) w w3 := by rw [hw3]; exact (Stay.refl _ _).drew.alloc _
  have hB3 : B < w3.heap.size := by rw [hw3, hB]; simp
  have hth3 : w3.there B 0 (gc * 7) := fun j hj => by
    have hh : w3.heap[B]? = some (.cells C 78) := by rw [hw3, hB]; exact heap_alloc_new _ _
    exact ⟨by rw [cell_of_row w3 B _ C 78 (0, 0) hh, Nat.zero_add, Array.getElem?_eq_getElem (by omega)]; rfl, by simp [World.frozen?, hh]⟩
  have hv3 := hv.keep hst3
  obtain ⟨w4, hw4⟩ : ∃ W, W = w3.setCells B 0 p.parts := ⟨_, rfl⟩
  have hcp : ∀ ty, (Builtin.copy_ #[30, 30] ty #[.slice (some ⟨B, 0, none⟩) (n + 1) gc, .slice (some ⟨vb, 0, none⟩) 1 1]).run Try.prog w3 = .ok (.int .i64 1) w4 := fun ty => by
    rw [hw4]
    exact run_copyS w3 30 78 ty 7 Try.underlying30 size78 B 0 (n + 1) gc vb 0 1 1 p.parts 1 (show 1 = min 1 (n + 1) by omega) rfl hv3.cells (there_part hth3 (by omega)) p.parts_one
  have hst4 : Stay (fun j => w.heap.size ≤ j) w w4 := by rw [hw4]; exact (hst3.mono (fun _ _ h => h.elim)).setCells B p.parts 0 (by omega)
  obtain ⟨w5, hw5⟩ : ∃ W, W = w4.drew := ⟨_, rfl⟩
  have hst5 : Stay (fun j => w.heap.size ≤ j) w w5 := by rw [hw5]; exact hst4.drew
  have hw5s := h.stay hst5 (fun k hk e => by have := h.lt k hk; omega)
  have HMN : Hid (n = Nat.min (n - 0) (n + 1 - 1)) := hide' (by show n = min (n - 0) (n + 1 - 1); omega)
  have HCL : Hid ((wc L).length = n * 7) := hide' (by rw [wc_length, h.1])
  have HSRC : Hid (∀ j v, (wc L)[j]? = some v → w5.cell? ⟨g, 0 + j, none⟩ = some v) := by
    rcases hw5s.2.2.2 with ⟨e, _⟩ | ⟨g', e, _, r, _⟩
    · cases e
    · cases e; exact hide' r
  have HTH : Hid (w5.there B 7 (n * 7)) := by
    have hth4 : w4.there B 0 (gc * 7) := by rw [hw4]; exact World.there_setCells hth3 B 0 p.parts
    have hth5 : w5.there B 0 (gc * 7) := by rw [hw5]; exact fun j hj => hth4 j hj
    exact hide' (there_part hth5 (by omega))
  have HONE := hide' (wc_one L)
  obtain ⟨w6, hw6⟩ : ∃ W, W = w5.setCells B 7 (wc L) := ⟨_, rfl⟩
  have HFIN : Hid (Wv w6 (.slice (some ⟨B, 0, none⟩) (n + 1) gc) (p :: L) ∧ Stay (fun j => (Value.slice (some ⟨g, 0, none⟩) n n).ownBlock = some j) w w6 ∧ w.heap.size ≤ B) := by
    have hf : Ws w6 (some ⟨B, 0, none⟩) (n + 1) gc (p :: L) := by rw [hw6, hw5, hw4]; exact Ws.build hB3 hth3 h.1 hge hgm
    refine ⟨⟨_, gc, by rw [List.length_cons, h.1], by rw [List.length_cons, h.1]; exact hf, fun e => by omega⟩, ?_, by omega⟩
    have hs6 : Stay (fun j => w.heap.size ≤ j) w w6 := by rw [hw6]; exact hst5.setCells B (wc L) 7 (by omega)
    exact hs6.mono (fun j hj e => by omega)
  have hz1 : ¬ (0 : Int) = (n : Int) := by omega
  have hz2 : (n : Int) < (n : Int) + 1 := by omega
  have hz3 : ¬ gc = 1 := by omega
  have hz5 : (n : Int) ≤ 256 := by omega
  have hz6 : (1 : Int) ≤ (n : Int) + 1 := by omega
  have hz7 : ¬ n = 0 := by omega
  have hz9 : 1 ≤ n + 1 := by omega
  have hza : ¬ gc = 0 := by omega
  have hzb : n + 1 ≤ gc := hge
  clear happ hst3 hB3 hth3 hv3 hw4 hst4 hst5 hw5s h h1 hv hw3 hB hC hCs hgc hi g1 g2 g3 hge hgm
  go_enter Try.func50, Try.ntmps50
  go_wp2_with (at_builtin; go_must (refine Lib.wpList_append_run _ rfl _ _ 30 3 rfl _ _ rfl rfl _ _ (HAP.out _) ?_))
  have hS : True := trivial
  refine wp_region_mix (fun _ => True) [(0, true), (1, true), (2, true), (3, true), (4, true), (5, true), (6, true), (7, true), (8, false)] (by kernel_rfl) (by kernel_rfl) (fun _ d _ _ _ h => by cases d <;> exact h) hS ?_
  refine mix_begin (fun K0 hK0 => ?_)
  refine mix_take hK0 (some 46) (.move (.tmp 9)) 30 _ (by kernel_rfl) (by kernel_rfl) (fun w' hS' => by (simp only [opr]; go_simp; try with_reducible rfl)) (fun K1 hK1 => ?_)
  clear hK0 K0
  simp only [Act.put, List.setIfInBounds_toArray, List.set_cons_zero, List.set_cons_succ]
  refine mix_take hK1 (some 47) (.move (.tmp 1)) 3 _ (by kernel_rfl) (by kernel_rfl) (fun w' hS' => by (simp only [opr]; go_simp; try with_reducible rfl)) (fun K2 hK2 => ?_)
  clear hK1 K1
  simp only [Act.put, List.setIfInBounds_toArray, List.set_cons_zero, List.set_cons_succ]
  refine mix_take hK2 (some 48) (.move (.tmp 7)) 3 _ (by kernel_rfl) (by kernel_rfl) (fun w' hS' => by (simp only [opr]; go_simp; try with_reducible rfl)) (fun K3 hK3 => ?_)
  clear hK2 K2
  simp only [Act.put, List.setIfInBounds_toArray, List.set_cons_zero, List.set_cons_succ]
  refine mix_take hK3 (some 49) (.binOp BinOp.add 3 (.tmp 47) (.tmp 48) 3) 3 _ (by kernel_rfl) (by kernel_rfl) (fun w' hS' => by (simp only [opr]; go_simp; try with_reducible rfl)) (fun K4 hK4 => ?_)
  clear hK3 K3
  simp only [Act.put, List.setIfInBounds_toArray, List.set_cons_zero, List.set_cons_succ]
  refine mix_take hK4 (some 50) (.slice 30 (.tmp 46) (some (.tmp 49)) none none) 30 _ (by kernel_rfl) (by kernel_rfl) (fun w' hS' => by exact slice30_l (k := 1) (o := 7) rfl rfl (by omega) hz3 rfl rfl rfl _ _ _) (fun K5 hK5 => ?_)
  clear hK4 K4
  simp only [Act.put, List.setIfInBounds_toArray, List.set_cons_zero, List.set_cons_succ]
  refine mix_take hK5 (some 51) (.move (.tmp 0)) 30 _ (by kernel_rfl) (by kernel_rfl) (fun w' hS' => by (simp only [opr]; go_simp; try with_reducible rfl)) (fun K6 hK6 => ?_)
  clear hK5 K5
  simp only [Act.put, List.setIfInBounds_toArray, List.set_cons_zero, List.set_cons_succ]
  refine mix_take hK6 (some 52) (.move (.tmp 1)) 3 _ (by kernel_rfl) (by kernel_rfl) (fun w' hS' => by (simp only [opr]; go_simp; try with_reducible rfl)) (fun K7 hK7 => ?_)
  clear hK6 K6
  simp only [Act.put, List.setIfInBounds_toArray, List.set_cons_zero, List.set_cons_succ]
  refine mix_take hK7 (some 53) (.slice 30 (.tmp 51) (some (.tmp 52)) none none) 30 _ (by kernel_rfl) (by kernel_rfl) (fun w' hS' => by exact slice30_l (k := 0) (o := 0) rfl rfl (by omega) hz7 rfl rfl rfl _ _ _) (fun K8 hK8 => ?_)
  clear hK7 K7
  simp only [Act.put, List.setIfInBounds_toArray, List.set_cons_zero, List.set_cons_succ]
  refine mix_chain hK8 (fun K8c hK8c => ?_)
  clear hK8 K8
  refine op_plain (some 54) (.call { callee := Callee.builtin Builtin.copy, args := #[.tmp 50, .tmp 53], argTypes := #[30, 30] }) 3 (by kernel_rfl) (by kernel_rfl) ?_
  rw [← hw5]
  refine wpList_copyS rfl (.tmp 50) (.tmp 53) 30 rfl 78 7 Try.underlying30 size78 B 7 _ _ g 0 _ _ rfl rfl (wc L) n HMN.out HCL.out HSRC.out HTH.out HONE.out ?_
  refine wpList_nil ?_
  rw [← hw6]
  refine hK8c _ _ trivial (mix_begin fun K9 hK9 => ?_)
  clear hK8c K8c
  try simp only [Act.put, List.setIfInBounds_toArray, List.set_cons_zero, List.set_cons_succ]
  refine hK9 _ _ (mix_nil ?_)
  clear hK9 K9
  clear hw5 hw6 hcp HAP
  go_wp2
  go_ret
  exact ⟨_, rfl, HFIN.out.1, HFIN.out.2.1, fun j hj => .inr (by have := HFIN.out.2.2; cases hj; exact this)⟩

end Go.Proofs.Yticccknocjnkpaa

namespace Go.Proofs.Yticccknocjnkpaa
open Go.RowKit

theorem insert50_room (g cap vb : Nat) (p : Wn) (w : World) (h : Ws w (some ⟨g, 0, none⟩) 0 cap []) (hc : 1 ≤ cap) (hv : NBox w vb p) :
    Calls Try.prog 50 #[.slice (some ⟨g, 0, none⟩) 0 cap, .int .i64 0, .slice (some ⟨vb, 0, none⟩) 1 1] w (InsOut [] p (.slice (some ⟨g, 0, none⟩) 0 cap) w) := by
  have hgr : g < w.heap.size ∧ w.there g 0 (cap * 7) := by
    rcases h.2.2.2 with ⟨e, _⟩ | ⟨g', e, h1, _, h3⟩
    · cases e
    · cases e; exact ⟨h1, h3⟩
  obtain ⟨i, hi, hzz⟩ := Option.map_eq_some_iff.1 info78
  simp only [Prod.mk.injEq] at hzz
  obtain ⟨g1, g2, g3⟩ := hzz
  have hth : w.there g 0 7 := there_part hgr.2 (by omega)
  have happ : ∀ ty, (Builtin.append_ #[30, 30] ty #[.slice (some ⟨g, 0, none⟩) 0 cap, .slice (some ⟨vb, 0, none⟩) 1 1]).run Try.prog w = .ok (.slice (some ⟨g, 0, none⟩) (0 + 1) cap) (w.setCells g (0 + 0 * i.size) p.parts) := fun ty =>
    run_append_room_cells w 30 ty 78 i Try.underlying30 hi g 0 0 cap ⟨vb, 0, none⟩ 1 1 p.parts (by rw [g2]; rfl) (fun j u hu => by rw [addr_add]; exact hv.cells j u hu) p.parts_one (by omega)
      (fun j hj => by rw [Nat.zero_mul]; simpa using (hth j hj).1) (fun j hj => by rw [Nat.zero_mul]; simpa using (hth j hj).2)
  rw [Nat.zero_mul, Nat.zero_add, Nat.zero_add] at happ
  obtain ⟨w1, hw1⟩ : ∃ W, W = w.setCells g 0 p.parts := ⟨_, rfl⟩
  have hst : Stay (fun j => j = g) w w1 := by rw [hw1]; exact (Stay.refl (fun j => j = g) w).setCells g p.parts 0 rfl
  have hth1 : w1.there g 0 (cap * 7) := by rw [hw1]; exact World.there_setCells hgr.2 g 0 p.parts
  have hr1 := range_patch (w := w) (g := g) (xs := []) (ys := p.parts) (k := 0) (fun j v h => by simp at h) (Nat.zero_le _) hth
  rw [← hw1] at happ hr1
  have HAP := hide' happ
  have HFIN : Hid (Wv w1 (.slice (some ⟨g, 0, none⟩) 1 cap) [p] ∧ Stay (fun j => (Value.slice (some ⟨g, 0, none⟩) 0 cap).ownBlock = some j) w w1) :=
    ⟨⟨_, cap, rfl, ⟨rfl, hc, h.2.2.1, .inr ⟨g, rfl, Nat.lt_of_lt_of_le hgr.1 hst.size, by simpa [wc] using hr1, hth1⟩⟩, fun e => by omega⟩, hst.mono (fun j _ e => by rw [e]; rfl)⟩
  clear happ hr1 hst hth1 hgr hth hw1 h hv hc g1 g2 g3 hi
  go_enter Try.func50, Try.ntmps50
  go_wp2_with (at_builtin; go_must (refine Lib.wpList_append_run _ rfl _ _ 30 30 rfl _ _ rfl rfl _ _ (HAP.out _) ?_))
  go_ret
  exact ⟨_, rfl, HFIN.out.1, HFIN.out.2, fun j hj => .inl hj⟩

theorem insert50_nil (vb : Nat) (p : Wn) (w : World) (hv : NBox w vb p) :
    Calls Try.prog 50 #[.slice none 0 0, .int .i64 0, .slice (some ⟨vb, 0, none⟩) 1 1] w (InsOut [] p (.slice none 0 0) w) := by
  have HSRC : Hid (IsRowS w 7 (.slice (some ⟨vb, 0, none⟩) 1 1) 1 p.parts) := .inr ⟨_, _, rfl, rfl, fun j u hu => by rw [addr_add]; exact hv.cells j u hu⟩
  have HNIL : Hid (w.ownsRow w.heap.size 78 7 (.slice none 0 0) 0 []) := World.ownsRow_nil w _ 78 7
  have HONE := hide' p.parts_one
  clear hv
  go_enter Try.func50, Try.ntmps50
  go_wp2_with (at_builtin; go_must (refine appS rfl _ _ 30 rfl Try.underlying30 info78 rfl (by decide) (by decide) HNIL.out rfl HSRC.out rfl HONE.out (by decide) (Nat.le_refl _) ?_; intro v5 W5 ho hst hb; have HO := hide' ho; have HST := hide' hst; clear ho hst hb))
  go_ret
  refine ⟨_, rfl, ?_, HST.out, fun j hj => .inr (HO.out.lt j hj).1⟩
  have ho := HO.out
  rw [List.nil_append, Nat.zero_add, show p.parts = wc [p] by simp [wc]] at ho
  obtain ⟨a, cap, hv, hw, _⟩ := Ws.of_owns ho
  exact ⟨a, cap, hv, hw, fun e => by have := hw.2.1; omega⟩

theorem insert50 (v : Value) (vb : Nat) (L : List Wn) (p : Wn) (w : World) (h : Wv w v L) (hm : L.length ≤ 255) (hv : NBox w vb p) (hz : ∃ c e, w.heap[vb]? = some (.cells c e)) (hne : v.ownBlock ≠ some vb) :
    Calls Try.prog 50 #[v, .int .i64 0, .slice (some ⟨vb, 0, none⟩) 1 1] w (InsOut L p v w) := by
  obtain ⟨a, cap, rfl, hw, h0⟩ := h
  rcases hw.2.2.2 with ⟨rfl, rfl⟩ | ⟨g, rfl, _⟩
  · obtain rfl : L = [] := List.eq_nil_of_length_eq_zero (by have := hw.2.1; omega)
    exact insert50_nil vb p w hv
  · have hc : cap ≠ 0 := fun e => by have := h0 e; cases this
    have hne' : vb ≠ g := fun e => hne (by rw [e]; rfl)
    have h2 := hw.2.1
    by_cases hn : L.length = 0
    · obtain rfl : L = [] := List.eq_nil_of_length_eq_zero hn
      exact insert50_room g cap vb p w hw (by omega) hv
    · by_cases hr : L.length + 1 ≤ cap
      · exact insert50_shift g L.length cap vb L p w hw (by omega) hr (by omega) hv hz hne'
      · obtain rfl : cap = L.length := by omega
        exact insert50_grow g L.length vb L p w hw (by omega) (by omega) hv

/-- What turned is the stack's; what is new of it is new. -/
def SMoved (q q' : Sm) (w w' : World) : Prop := Stay q.own w w' ∧ ∀ j, q'.own j → q.own j ∨ w.heap.size ≤ j

/-- What comes of one more window: how many were made, all windows, a number, what is wrong. -/
def addR (sw sh m : Int) (L : List Wn) (env : Int) (r : R) : Int × List Wn × Int × Int :=
  if env < 0 then (m, L, 0, 1) else if fitB sw sh r = false then (m, L, 0, 2) else if 256 ≤ L.length then (m, L, 0, 3) else (m + 1, ⟨m + 1, env, r.x, r.y, r.w, r.h, false⟩ :: L, m + 1, 0)

/-- What a stack is behind a call that answers a number and an error. -/
def AddS (q : Sm) (sw sh : Int) (y : Int × List Wn × Int × Int) (w : World) (e : Ending) (w' : World) : Prop :=
  ∃ v, e = .returned (.tuple #[.int .i64 y.2.2.1, .int .i64 y.2.2.2]) ∧ SAt w' ⟨q.b, v⟩ sw sh y.1 y.2.1 ∧ SMoved q ⟨q.b, v⟩ w w'

theorem SMoved.of_stay {q : Sm} {w w' : World} (h : Stay (fun _ => False) w w') : SMoved q q w w' := ⟨h.mono (fun _ _ h => h.elim), fun _ h => .inl h⟩

theorem boxR_stay {T : Nat → Prop} {w w1 : World} {b : Nat} {r : R} (h : Box w b r) (hs : Stay T w w1) (hn : ¬ T b) : Box w1 b r := by
  obtain ⟨h0, h1, h2, h3, k0, k1, k2, k3⟩ := h
  have hb : b < w.heap.size := World.block_lt_of_cell? _ _ h0
  have c : ∀ o, w1.cell? ⟨b, o, none⟩ = w.cell? ⟨b, o, none⟩ := fun o => hs.cell (p := ⟨b, o, none⟩) hb hn
  have f : ∀ o, w1.frozen? ⟨b, o, none⟩ = w.frozen? ⟨b, o, none⟩ := fun o => hs.frozen (p := ⟨b, o, none⟩) hb hn
  exact ⟨(c 0).trans h0, (c 1).trans h1, (c 2).trans h2, (c 3).trans h3, (f 0).trans k0, (f 1).trans k1, (f 2).trans k2, (f 3).trans k3⟩

set_option maxHeartbeats 4000000 in
theorem add21 (q : Sm) (sw sh m : Int) (L : List Wn) (env : Int) (r : R) (w : World) (h : SAt w q sw sh m L) (h1 : scrB sw = true) (h2 : scrB sh = true) (hm0 : 0 ≤ m) (hm1 : m ≤ 1000000) :
    Calls Try.prog 21 #[.pointer (some ⟨q.b, 0, none⟩), .int .i64 env, .agg #[.int .i64 r.x, .int .i64 r.y, .int .i64 r.w, .int .i64 r.h]] w (AddS q sw sh (addR sw sh m L env r) w) := by
  obtain ⟨b, v⟩ := q
  obtain ⟨W0, hW0⟩ : ∃ W, W = w.alloc (.cells #[.int .i64 r.x, .int .i64 r.y, .int .i64 r.w, .int .i64 r.h] 41) := ⟨_, rfl⟩
  obtain ⟨bs, hbs⟩ : ∃ b, b = w.heap.size := ⟨_, rfl⟩
  have hst : Stay (fun _ => False) w W0 := by rw [hW0]; exact (Stay.refl _ _).alloc _
  have HS0 := hide' hst
  have HR := hide' (show Box W0 bs r by rw [hW0]; exact Box.new r hbs.symm)
  have HSA := hide' (h.keep hst)
  have HBL := hide' (show b < w.heap.size from h.lt _ (.inl rfl))
  have HNO : Hid (¬ v.ownBlock = some b ∧ ¬ v.ownBlock = some bs) := hide' ⟨fun e => h.vb _ e rfl, fun e => by have := h.lt _ (.inr e); omega⟩
  have HBB : Hid (¬ bs = b) := hide' (by have := HBL.out; omega)
  obtain ⟨y, hy⟩ : ∃ y, y = addR sw sh m L env r := ⟨_, rfl⟩
  rw [← hy]
  unfold addR at hy
  have HF := hide' (fun W hs => fits49 ⟨b, v⟩ sw sh m L r W (HSA.out.keep hs) h1 h2)
  obtain ⟨fb, hfb⟩ : ∃ f, f = fitB sw sh r := ⟨_, rfl⟩
  rw [← hfb] at hy HF
  have HYA := hide' hy
  have HSX0 := hide' (Stay.refl (fun _ => False) W0)
  clear hst h h1 h2 hy hfb
  go_enter Try.func21, Try.ntmps21
  go_upto_region 1 with fail
  rw [← hW0, ← hbs]
  clear hW0 hbs
  by_cases he : env < 0
  · have HY : Hid (y = (m, L, 0, 1)) := by rw [HYA.out]; exact if_pos he
    have HSX := HSX0
    go_wp2
    go_returns
    exact ⟨v, by rw [HY.out]; rfl, by rw [HY.out]; exact HSA.out.keep HSX.out, SMoved.of_stay (HS0.out.trans HSX.out)⟩
  · have he' : ¬ env < 0 := he
    have HYB : Hid (y = if fb = false then (m, L, 0, 2) else if 256 ≤ L.length then (m, L, 0, 3) else (m + 1, ⟨m + 1, env, r.x, r.y, r.w, r.h, false⟩ :: L, m + 1, 0)) := by rw [HYA.out]; exact if_neg he
    clear HYA
    obtain ⟨c0, c1, c2, c3, _⟩ := HR.out
    go_wp2_with fail
    refine (HF.out _ (Stay.refl _ _)).mono ?_
    rintro _ w1 ⟨rfl, hs⟩
    have HSX := hide' hs
    clear hs HF HSX0 c0 c1 c2 c3
    cases fb
    · have HY : Hid (y = (m, L, 0, 2)) := by rw [HYB.out]; exact if_pos rfl
      go_wp2
      go_returns
      exact ⟨v, by rw [HY.out]; rfl, by rw [HY.out]; exact HSA.out.keep HSX.out, SMoved.of_stay (HS0.out.trans HSX.out)⟩
    have HYC : Hid (y = if 256 ≤ L.length then (m, L, 0, 3) else (m + 1, ⟨m + 1, env, r.x, r.y, r.w, r.h, false⟩ :: L, m + 1, 0)) := by rw [HYB.out]; exact if_neg (by decide)
    clear HYB
    have hS1 := HSA.out.keep HSX.out
    obtain ⟨a, cap, hv, _, _⟩ := hS1.row
    simp only at hv
    obtain ⟨_, _, _, _, k4, k5, _, _, _, _, f4, f5⟩ := hS1.box
    simp only at k4 k5
    rw [hv] at k4
    obtain ⟨n, hn⟩ : ∃ n, n = L.length := ⟨_, rfl⟩
    have hnz : (n : Int) ≤ 256 := by have := hS1.n1; omega
    rw [← hn] at HYC k4
    by_cases hfull : 256 ≤ n
    · have HY : Hid (y = (m, L, 0, 3)) := by rw [HYC.out]; exact if_pos hfull
      obtain rfl : n = 256 := by omega
      clear hS1 hfull hnz hn HYC hv
      go_wp2
      go_returns
      exact ⟨v, by rw [HY.out]; rfl, by rw [HY.out]; exact HSA.out.keep HSX.out, SMoved.of_stay (HS0.out.trans HSX.out)⟩
    · have HY : Hid (y = (m + 1, ⟨m + 1, env, r.x, r.y, r.w, r.h, false⟩ :: L, m + 1, 0)) := by rw [HYC.out]; exact if_neg hfull
      have hd : decide ((256 : Int) ≤ (n : Nat)) = false := decide_eq_false (by omega)
      have hwm : IntKind.i64.wrap (m + 1) = m + 1 := by rw [IntKind.wrap_i64]; omega
      have HLN : Hid (L.length ≤ 255) := hide' (by omega)
      clear hn HYC
      go_upto_region 8 with fail
      have HKB0 : Hid (KBox (w1.setCell ⟨b, 5, none⟩ (.int .i64 (m + 1))) b ⟨0, 0, sw, sh, v, m + 1⟩) := hide' (hS1.box.put5 rfl)
      obtain ⟨m1, hm1'⟩ : ∃ x, x = m + 1 := ⟨_, rfl⟩
      have hst5 : Stay (fun j => j = b) w1 (w1.setCell ⟨b, 5, none⟩ (.int .i64 (m + 1))) := (Stay.refl (fun j => j = b) w1).setCell (p := ⟨b, 5, none⟩) rfl _
      rw [← hm1'] at HKB0 hst5 HY ⊢
      clear hwm
      have HRX := hide' (HR.out.keep HSX.out)
      have hww := hS1.row
      simp only at hww
      refine any_begin (fun w' => Box w' bs r ∧ w'.cell? ⟨b, 5, none⟩ = some (.int .i64 m1)) (by kernel_rfl) (fun K0 hK0 => ?_)
      obtain ⟨W3, hW3⟩ : ∃ W, W = (w1.setCell ⟨b, 5, none⟩ (.int .i64 m1)).drew := ⟨_, rfl⟩
      have hstd : Stay (fun _ => False) (w1.setCell ⟨b, 5, none⟩ (.int .i64 m1)) W3 := by rw [hW3]; exact (Stay.refl _ _).drew
      have HKB := hide' (HKB0.out.keep hstd)
      have hst6 := hst5.trans (hstd.mono (fun _ _ h => h.elim))
      have HWV : Hid (Wv W3 v L) := hide' (hww.stay hst6 (fun j hj e => HNO.out.1 (by rw [hj, e])))
      have HSF : Hid (Box W3 bs r ∧ W3.cell? ⟨b, 5, none⟩ = some (.int .i64 m1)) := hide' ⟨boxR_stay HRX.out hst6 (fun e => HBB.out e), HKB.out.c5⟩
      have HST : Hid (Stay (fun j => j = b ∨ v.ownBlock = some j) w W3) := hide' (((HS0.out.trans HSX.out).mono (fun _ _ h => h.elim)).trans (hst6.mono (fun _ _ e => .inl e)))
      have HYY := HY
      have HBSW := HBL
      rw [← hW3]
      clear hW3 hstd hst6 hww hst5 hS1 HKB0 HRX hv k4 k5 f4 f5 hd hfull hnz hm1'
      refine any_take (i := 0) hK0 (some 30) (.move (.tmp 0)) 28 _ (by kernel_rfl) (fun _ d _ _ _ h => by cases d <;> exact h) (by kernel_rfl) (by kernel_rfl) (fun w' hS' => by simp only [opr]; go_simp; try with_reducible rfl) HSF.out (fun K1 hK1 => ?_)
      clear hK0 K0
      try simp only [Act.put, List.setIfInBounds_toArray, List.set_cons_zero, List.set_cons_succ]
      refine any_take (i := 1) hK1 (some 31) (.move (.tmp 0)) 28 _ (by kernel_rfl) (fun _ d _ _ _ h => by cases d <;> exact h) (by kernel_rfl) (by kernel_rfl) (fun w' hS' => by simp only [opr]; go_simp; try with_reducible rfl) HSF.out (fun K2 hK2 => ?_)
      clear hK1 K1
      try simp only [Act.put, List.setIfInBounds_toArray, List.set_cons_zero, List.set_cons_succ]
      refine any_take (i := 2) hK2 (some 32) (.nilCheck (.tmp 31)) 0 _ (by kernel_rfl) (fun _ d _ _ _ h => by cases d <;> exact h) (by kernel_rfl) (by kernel_rfl) (fun w' hS' => by simp only [opr]; go_simp; try with_reducible rfl) HSF.out (fun K3 hK3 => ?_)
      clear hK2 K2
      try simp only [Act.put, List.setIfInBounds_toArray, List.set_cons_zero, List.set_cons_succ]
      refine any_take (i := 3) hK3 (some 33) (.fieldAddr 72 (.tmp 32) 1) 0 _ (by kernel_rfl) (fun _ d _ _ _ h => by cases d <;> exact h) (by kernel_rfl) (by kernel_rfl) (fun w' hS' => by simp only [opr]; go_simp; try with_reducible rfl) HSF.out (fun K4 hK4 => ?_)
      clear hK3 K3
      try simp only [Act.put, List.setIfInBounds_toArray, List.set_cons_zero, List.set_cons_succ]
      refine any_take (i := 5) hK4 (some 35) (.move (.tmp 0)) 28 _ (by kernel_rfl) (fun _ d _ _ _ h => by cases d <;> exact h) (by kernel_rfl) (by kernel_rfl) (fun w' hS' => by simp only [opr]; go_simp; try with_reducible rfl) HSF.out (fun K5 hK5 => ?_)
      clear hK4 K4
      try simp only [Act.put, List.setIfInBounds_toArray, List.set_cons_zero, List.set_cons_succ]
      refine any_take (i := 6) hK5 (some 36) (.nilCheck (.tmp 35)) 0 _ (by kernel_rfl) (fun _ d _ _ _ h => by cases d <;> exact h) (by kernel_rfl) (by kernel_rfl) (fun w' hS' => by simp only [opr]; go_simp; try with_reducible rfl) HSF.out (fun K6 hK6 => ?_)
      clear hK5 K5
      try simp only [Act.put, List.setIfInBounds_toArray, List.set_cons_zero, List.set_cons_succ]
      refine any_take (i := 7) hK6 (some 37) (.fieldAddr 72 (.tmp 36) 2) 0 _ (by kernel_rfl) (fun _ d _ _ _ h => by cases d <;> exact h) (by kernel_rfl) (by kernel_rfl) (fun w' hS' => by simp only [opr]; go_simp; try with_reducible rfl) HSF.out (fun K7 hK7 => ?_)
      clear hK6 K6
      try simp only [Act.put, List.setIfInBounds_toArray, List.set_cons_zero, List.set_cons_succ]
      refine any_take (i := 8) hK7 (some 38) (.load 3 (.tmp 37)) 3 _ (by kernel_rfl) (fun _ d _ _ _ h => by cases d <;> exact h) (by kernel_rfl) (by kernel_rfl) (fun w' hS' => by (have k5 := hS'.2; simp only [opr]; go_simp; try with_reducible rfl)) HSF.out (fun K8 hK8 => ?_)
      clear hK7 K7
      try simp only [Act.put, List.setIfInBounds_toArray, List.set_cons_zero, List.set_cons_succ]
      refine any_take (i := 9) hK8 (some 39) (.move (.tmp 1)) 3 _ (by kernel_rfl) (fun _ d _ _ _ h => by cases d <;> exact h) (by kernel_rfl) (by kernel_rfl) (fun w' hS' => by simp only [opr]; go_simp; try with_reducible rfl) HSF.out (fun K9 hK9 => ?_)
      clear hK8 K8
      try simp only [Act.put, List.setIfInBounds_toArray, List.set_cons_zero, List.set_cons_succ]
      refine any_take (i := 10) hK9 (some 40) (.load 41 (.tmp 5)) 41 _ (by kernel_rfl) (fun _ d _ _ _ h => by cases d <;> exact h) (by kernel_rfl) (by kernel_rfl) (fun w' hS' => by exact run_load_box rfl rfl hS'.1) HSF.out (fun K10 hK10 => ?_)
      clear hK9 K9
      try simp only [Act.put, List.setIfInBounds_toArray, List.set_cons_zero, List.set_cons_succ]
      refine any_take (i := 11) hK10 (some 41) (.build 78 #[(0, .tmp 38), (1, .tmp 39), (2, .tmp 40)]) 78 _ (by kernel_rfl) (fun _ d _ _ _ h => by cases d <;> exact h) (by kernel_rfl) (by kernel_rfl) (fun w' hS' => by simp only [opr]; go_simp; try with_reducible rfl) HSF.out (fun K11 hK11 => ?_)
      clear hK10 K10
      try simp only [Act.put, List.setIfInBounds_toArray, List.set_cons_zero, List.set_cons_succ]
      refine any_pick (rs := [4, 12]) hK11 (by kernel_rfl) (fun K12 hK12 => ?_)
      clear hK11 K11
      intro i hi
      simp only [List.mem_cons, List.not_mem_nil, or_false] at hi
      rcases hi with rfl | rfl
      · refine op_plain (some 34) (.load 30 (.tmp 33)) 30 (by kernel_rfl) (by kernel_rfl) ?_
        obtain ⟨_, _, _, _, k4, _, _, _, _, _, f4, _⟩ := HKB.out
        simp only at k4
        go_wp2
        clear k4 f4
        refine hK12 4 (by simp) _ _ HSF.out (any_more fun K13 hK13 => ?_)
        clear hK12 K12
        refine any_pick (rs := [12]) hK13 (by kernel_rfl) (fun K14 hK14 => ?_)
        clear hK13 K13
        intro i hi
        simp only [List.mem_cons, List.not_mem_nil, or_false] at hi
        rcases hi with rfl
        refine op_plain (some 42) (.buildSlice 30 1 #[(0, .tmp 41)]) 30 (by kernel_rfl) (by kernel_rfl) ?_
        go_wp2
        have hst : Stay (fun _ => False) W3 (W3.alloc (.cells #[.int .i64 m1, .int .i64 env, .int .i64 r.x, .int .i64 r.y, .int .i64 r.w, .int .i64 r.h, .bool false] 78)) := (Stay.refl _ _).alloc _
        have HKB' := hide' (HKB.out.keep hst)
        have HWV' := hide' (HWV.out.stay hst (fun _ _ h => h))
        have HSF' := hide' (show Box (W3.alloc (.cells #[.int .i64 m1, .int .i64 env, .int .i64 r.x, .int .i64 r.y, .int .i64 r.w, .int .i64 r.h, .bool false] 78)) bs r ∧ (W3.alloc (.cells #[.int .i64 m1, .int .i64 env, .int .i64 r.x, .int .i64 r.y, .int .i64 r.w, .int .i64 r.h, .bool false] 78)).cell? ⟨b, 5, none⟩ = some (.int .i64 m1) from ⟨HSF.out.1.keep hst, keep_cell hst HSF.out.2⟩)
        have HST' := hide' (HST.out.trans (hst.mono (fun _ _ h => h.elim)))
        have HNB : Hid (NBox (W3.alloc (.cells #[.int .i64 m1, .int .i64 env, .int .i64 r.x, .int .i64 r.y, .int .i64 r.w, .int .i64 r.h, .bool false] 78)) W3.heap.size ⟨m1, env, r.x, r.y, r.w, r.h, false⟩ ∧ (∃ c e, (W3.alloc (.cells #[.int .i64 m1, .int .i64 env, .int .i64 r.x, .int .i64 r.y, .int .i64 r.w, .int .i64 r.h, .bool false] 78)).heap[W3.heap.size]? = some (.cells c e)) ∧ v.ownBlock ≠ some W3.heap.size) := ⟨NBox.new ⟨m1, env, r.x, r.y, r.w, r.h, false⟩ rfl, ⟨_, _, heap_alloc_new _ _⟩, fun e => by have := HWV.out.lt _ e; omega⟩
        clear hst
        clear HKB
        have HKB := HKB'
        clear HKB'
        clear HWV
        have HWV := HWV'
        clear HWV'
        clear HSF
        have HSF := HSF'
        clear HSF'
        clear HST
        have HST := HST'
        clear HST'
        obtain ⟨B2, hB⟩ : ∃ B, B = W3.heap.size := ⟨_, rfl⟩
        rw [← hB] at HNB
        rw [← hB]
        clear hB
        obtain ⟨Wk1, hW⟩ : ∃ Wq, Wq = (W3.alloc (.cells #[.int .i64 m1, .int .i64 env, .int .i64 r.x, .int .i64 r.y, .int .i64 r.w, .int .i64 r.h, .bool false] 78)) := ⟨_, rfl⟩
        rw [← hW] at HKB HWV HSF HST HNB
        rw [← hW]
        clear hW
        refine hK14 12 (by simp) _ _ HSF.out (any_more fun K15 hK15 => ?_)
        clear hK14 K14
        refine any_pick (rs := [13]) hK15 (by kernel_rfl) (fun K16 hK16 => ?_)
        clear hK15 K15
        intro i hi
        simp only [List.mem_cons, List.not_mem_nil, or_false] at hi
        rcases hi with rfl
        refine op_plain (some 43) (.call { callee := Callee.value (.func 50), args := #[.tmp 34, .const (Value.int IntKind.i64 0), .tmp 42], argTypes := #[30, 3, 30] }) 30 (by kernel_rfl) (by kernel_rfl) ?_
        have HINS := hide' (insert50 v B2 L ⟨m1, env, r.x, r.y, r.w, r.h, false⟩ Wk1 HWV.out HLN.out HNB.out.1 HNB.out.2.1 HNB.out.2.2)
        clear HNB
        go_wp2_with fail
        refine HINS.out.mono ?_
        rintro _ Wk3 ⟨vn, rfl, hwv, hst, hnb⟩
        obtain ⟨va, vc, hvn⟩ : ∃ va vc, vn = .slice va (L.length + 1) vc := by
          obtain ⟨va, vc, h, _⟩ := hwv
          exact ⟨va, vc, h⟩
        subst hvn
        have HKB' := hide' (HKB.out.stay hst (fun e => HNO.out.1 e))
        have HSF' := hide' (show Box Wk3 bs r ∧ Wk3.cell? ⟨b, 5, none⟩ = some (.int .i64 m1) from ⟨boxR_stay HSF.out.1 hst (fun e => HNO.out.2 e), (hst.cell (p := ⟨b, 5, none⟩) HKB.out.lt (fun e => HNO.out.1 e)).trans HSF.out.2⟩)
        have HNV := hide' hnb
        have HSW := hide' (show w.heap.size ≤ Wk1.heap.size from HST.out.size)
        have HST' : Hid (Stay (fun j => j = b ∨ v.ownBlock = some j) w Wk3) := hide' (HST.out.trans (hst.mono (fun _ _ e => .inr e)))
        have HWV' := hide' hwv
        clear hwv hst hnb HINS
        clear HKB
        have HKB := HKB'
        clear HKB'
        clear HWV
        have HWV := HWV'
        clear HWV'
        clear HSF
        have HSF := HSF'
        clear HSF'
        clear HST
        have HST := HST'
        clear HST'
        go_wp2
        refine hK16 13 (by simp) _ _ HSF.out (any_more fun K17 hK17 => ?_)
        clear hK16 K16
        refine any_take (i := 14) hK17 (some 44) (.nilCheck (.tmp 30)) 0 _ (by kernel_rfl) (fun _ d _ _ _ h => by cases d <;> exact h) (by kernel_rfl) (by kernel_rfl) (fun w' hS' => by simp only [opr]; go_simp; try with_reducible rfl) HSF.out (fun K18 hK18 => ?_)
        clear hK17 K17
        try simp only [Act.put, List.setIfInBounds_toArray, List.set_cons_zero, List.set_cons_succ]
        refine any_take (i := 15) hK18 (some 45) (.fieldAddr 72 (.tmp 44) 1) 0 _ (by kernel_rfl) (fun _ d _ _ _ h => by cases d <;> exact h) (by kernel_rfl) (by kernel_rfl) (fun w' hS' => by simp only [opr]; go_simp; try with_reducible rfl) HSF.out (fun K19 hK19 => ?_)
        clear hK18 K18
        try simp only [Act.put, List.setIfInBounds_toArray, List.set_cons_zero, List.set_cons_succ]
        refine any_pick (rs := [16]) hK19 (by kernel_rfl) (fun K20 hK20 => ?_)
        clear hK19 K19
        intro i hi
        simp only [List.mem_cons, List.not_mem_nil, or_false] at hi
        rcases hi with rfl
        refine op_plain none (.store 30 (.tmp 45) (.tmp 43)) 0 (by kernel_rfl) (by kernel_rfl) ?_
        obtain ⟨_, _, _, _, k4, k5, _, _, _, _, f4, f5⟩ := HKB.out
        simp only at k4 k5
        go_wp2
        clear k4 k5 f4 f5
        have HVB : Hid (∀ j, (Value.slice va (L.length + 1) vc).ownBlock = some j → j ≠ b) := hide' (fun j hj e => by
          rcases HNV.out j hj with h1 | h1
          · exact HNO.out.1 (by rw [← e]; exact h1)
          · have := HBL.out; have := HSW.out; omega)
        have hst : Stay (fun j => j = b) Wk3 (Wk3.setCell ⟨b, 4, none⟩ (.slice va (L.length + 1) vc)) := (Stay.refl (fun j => j = b) Wk3).setCell (p := ⟨b, 4, none⟩) rfl _
        have HKB' : Hid (KBox (Wk3.setCell ⟨b, 4, none⟩ (.slice va (L.length + 1) vc)) b ⟨0, 0, sw, sh, (.slice va (L.length + 1) vc), m1⟩) := hide' (HKB.out.put4 rfl)
        have HSF' := hide' (show Box (Wk3.setCell ⟨b, 4, none⟩ (.slice va (L.length + 1) vc)) bs r ∧ (Wk3.setCell ⟨b, 4, none⟩ (.slice va (L.length + 1) vc)).cell? ⟨b, 5, none⟩ = some (.int .i64 m1) from ⟨boxR_stay HSF.out.1 hst (fun e => HBB.out e), HKB'.out.c5⟩)
        have HWV' := hide' (HWV.out.stay hst (fun j hj e => HVB.out j hj e))
        have HST' := hide' (HST.out.setCell (p := ⟨b, 4, none⟩) (.inl rfl) (.slice va (L.length + 1) vc))
        clear hst
        clear HKB
        have HKB := HKB'
        clear HKB'
        clear HWV
        have HWV := HWV'
        clear HWV'
        clear HSF
        have HSF := HSF'
        clear HSF'
        clear HST
        have HST := HST'
        clear HST'
        obtain ⟨Wk4, hW⟩ : ∃ Wq, Wq = (Wk3.setCell ⟨b, 4, none⟩ (.slice va (L.length + 1) vc)) := ⟨_, rfl⟩
        rw [← hW] at HKB HWV HSF HST
        rw [← hW]
        clear hW
        refine hK20 16 (by simp) _ _ HSF.out (any_more fun K21 hK21 => ?_)
        clear hK20 K20
        refine any_done hK21 (by kernel_rfl) ?_
        clear hK21 K21
        have k5 := HSF.out.2
        go_wp2
        go_returns
        refine ⟨.slice va (L.length + 1) vc, by rw [HYY.out]; rfl, ?_, HST.out, fun j hj => ?_⟩
        · rw [HYY.out]
          exact ⟨HKB.out, HWV.out, HVB.out, by have := HLN.out; rw [List.length_cons]; omega⟩
        · rcases hj with hj | hj
          · exact .inl (.inl hj)
          · rcases HNV.out j hj with h1 | h1
            · exact .inl (.inr h1)
            · exact .inr (by have := HSW.out; omega)
      · refine op_plain (some 42) (.buildSlice 30 1 #[(0, .tmp 41)]) 30 (by kernel_rfl) (by kernel_rfl) ?_
        go_wp2
        have hst : Stay (fun _ => False) W3 (W3.alloc (.cells #[.int .i64 m1, .int .i64 env, .int .i64 r.x, .int .i64 r.y, .int .i64 r.w, .int .i64 r.h, .bool false] 78)) := (Stay.refl _ _).alloc _
        have HKB' := hide' (HKB.out.keep hst)
        have HWV' := hide' (HWV.out.stay hst (fun _ _ h => h))
        have HSF' := hide' (show Box (W3.alloc (.cells #[.int .i64 m1, .int .i64 env, .int .i64 r.x, .int .i64 r.y, .int .i64 r.w, .int .i64 r.h, .bool false] 78)) bs r ∧ (W3.alloc (.cells #[.int .i64 m1, .int .i64 env, .int .i64 r.x, .int .i64 r.y, .int .i64 r.w, .int .i64 r.h, .bool false] 78)).cell? ⟨b, 5, none⟩ = some (.int .i64 m1) from ⟨HSF.out.1.keep hst, keep_cell hst HSF.out.2⟩)
        have HST' := hide' (HST.out.trans (hst.mono (fun _ _ h => h.elim)))
        have HNB : Hid (NBox (W3.alloc (.cells #[.int .i64 m1, .int .i64 env, .int .i64 r.x, .int .i64 r.y, .int .i64 r.w, .int .i64 r.h, .bool false] 78)) W3.heap.size ⟨m1, env, r.x, r.y, r.w, r.h, false⟩ ∧ (∃ c e, (W3.alloc (.cells #[.int .i64 m1, .int .i64 env, .int .i64 r.x, .int .i64 r.y, .int .i64 r.w, .int .i64 r.h, .bool false] 78)).heap[W3.heap.size]? = some (.cells c e)) ∧ v.ownBlock ≠ some W3.heap.size) := ⟨NBox.new ⟨m1, env, r.x, r.y, r.w, r.h, false⟩ rfl, ⟨_, _, heap_alloc_new _ _⟩, fun e => by have := HWV.out.lt _ e; omega⟩
        clear hst
        clear HKB
        have HKB := HKB'
        clear HKB'
        clear HWV
        have HWV := HWV'
        clear HWV'
        clear HSF
        have HSF := HSF'
        clear HSF'
        clear HST
        have HST := HST'
        clear HST'
        obtain ⟨B6, hB⟩ : ∃ B, B = W3.heap.size := ⟨_, rfl⟩
        rw [← hB] at HNB
        rw [← hB]
        clear hB
        obtain ⟨Wk5, hW⟩ : ∃ Wq, Wq = (W3.alloc (.cells #[.int .i64 m1, .int .i64 env, .int .i64 r.x, .int .i64 r.y, .int .i64 r.w, .int .i64 r.h, .bool false] 78)) := ⟨_, rfl⟩
        rw [← hW] at HKB HWV HSF HST HNB
        rw [← hW]
        clear hW
        refine hK12 12 (by simp) _ _ HSF.out (any_more fun K13 hK13 => ?_)
        clear hK12 K12
        refine any_pick (rs := [4]) hK13 (by kernel_rfl) (fun K14 hK14 => ?_)
        clear hK13 K13
        intro i hi
        simp only [List.mem_cons, List.not_mem_nil, or_false] at hi
        rcases hi with rfl
        refine op_plain (some 34) (.load 30 (.tmp 33)) 30 (by kernel_rfl) (by kernel_rfl) ?_
        obtain ⟨_, _, _, _, k4, _, _, _, _, _, f4, _⟩ := HKB.out
        simp only at k4
        go_wp2
        clear k4 f4
        refine hK14 4 (by simp) _ _ HSF.out (any_more fun K15 hK15 => ?_)
        clear hK14 K14
        refine any_pick (rs := [13]) hK15 (by kernel_rfl) (fun K16 hK16 => ?_)
        clear hK15 K15
        intro i hi
        simp only [List.mem_cons, List.not_mem_nil, or_false] at hi
        rcases hi with rfl
        refine op_plain (some 43) (.call { callee := Callee.value (.func 50), args := #[.tmp 34, .const (Value.int IntKind.i64 0), .tmp 42], argTypes := #[30, 3, 30] }) 30 (by kernel_rfl) (by kernel_rfl) ?_
        have HINS := hide' (insert50 v B6 L ⟨m1, env, r.x, r.y, r.w, r.h, false⟩ Wk5 HWV.out HLN.out HNB.out.1 HNB.out.2.1 HNB.out.2.2)
        clear HNB
        go_wp2_with fail
        refine HINS.out.mono ?_
        rintro _ Wk7 ⟨vn, rfl, hwv, hst, hnb⟩
        obtain ⟨va, vc, hvn⟩ : ∃ va vc, vn = .slice va (L.length + 1) vc := by
          obtain ⟨va, vc, h, _⟩ := hwv
          exact ⟨va, vc, h⟩
        subst hvn
        have HKB' := hide' (HKB.out.stay hst (fun e => HNO.out.1 e))
        have HSF' := hide' (show Box Wk7 bs r ∧ Wk7.cell? ⟨b, 5, none⟩ = some (.int .i64 m1) from ⟨boxR_stay HSF.out.1 hst (fun e => HNO.out.2 e), (hst.cell (p := ⟨b, 5, none⟩) HKB.out.lt (fun e => HNO.out.1 e)).trans HSF.out.2⟩)
        have HNV := hide' hnb
        have HSW := hide' (show w.heap.size ≤ Wk5.heap.size from HST.out.size)
        have HST' : Hid (Stay (fun j => j = b ∨ v.ownBlock = some j) w Wk7) := hide' (HST.out.trans (hst.mono (fun _ _ e => .inr e)))
        have HWV' := hide' hwv
        clear hwv hst hnb HINS
        clear HKB
        have HKB := HKB'
        clear HKB'
        clear HWV
        have HWV := HWV'
        clear HWV'
        clear HSF
        have HSF := HSF'
        clear HSF'
        clear HST
        have HST := HST'
        clear HST'
        go_wp2
        refine hK16 13 (by simp) _ _ HSF.out (any_more fun K17 hK17 => ?_)
        clear hK16 K16
        refine any_take (i := 14) hK17 (some 44) (.nilCheck (.tmp 30)) 0 _ (by kernel_rfl) (fun _ d _ _ _ h => by cases d <;> exact h) (by kernel_rfl) (by kernel_rfl) (fun w' hS' => by simp only [opr]; go_simp; try with_reducible rfl) HSF.out (fun K18 hK18 => ?_)
        clear hK17 K17
        try simp only [Act.put, List.setIfInBounds_toArray, List.set_cons_zero, List.set_cons_succ]
        refine any_take (i := 15) hK18 (some 45) (.fieldAddr 72 (.tmp 44) 1) 0 _ (by kernel_rfl) (fun _ d _ _ _ h => by cases d <;> exact h) (by kernel_rfl) (by kernel_rfl) (fun w' hS' => by simp only [opr]; go_simp; try with_reducible rfl) HSF.out (fun K19 hK19 => ?_)
        clear hK18 K18
        try simp only [Act.put, List.setIfInBounds_toArray, List.set_cons_zero, List.set_cons_succ]
        refine any_pick (rs := [16]) hK19 (by kernel_rfl) (fun K20 hK20 => ?_)
        clear hK19 K19
        intro i hi
        simp only [List.mem_cons, List.not_mem_nil, or_false] at hi
        rcases hi with rfl
        refine op_plain none (.store 30 (.tmp 45) (.tmp 43)) 0 (by kernel_rfl) (by kernel_rfl) ?_
        obtain ⟨_, _, _, _, k4, k5, _, _, _, _, f4, f5⟩ := HKB.out
        simp only at k4 k5
        go_wp2
        clear k4 k5 f4 f5
        have HVB : Hid (∀ j, (Value.slice va (L.length + 1) vc).ownBlock = some j → j ≠ b) := hide' (fun j hj e => by
          rcases HNV.out j hj with h1 | h1
          · exact HNO.out.1 (by rw [← e]; exact h1)
          · have := HBL.out; have := HSW.out; omega)
        have hst : Stay (fun j => j = b) Wk7 (Wk7.setCell ⟨b, 4, none⟩ (.slice va (L.length + 1) vc)) := (Stay.refl (fun j => j = b) Wk7).setCell (p := ⟨b, 4, none⟩) rfl _
        have HKB' : Hid (KBox (Wk7.setCell ⟨b, 4, none⟩ (.slice va (L.length + 1) vc)) b ⟨0, 0, sw, sh, (.slice va (L.length + 1) vc), m1⟩) := hide' (HKB.out.put4 rfl)
        have HSF' := hide' (show Box (Wk7.setCell ⟨b, 4, none⟩ (.slice va (L.length + 1) vc)) bs r ∧ (Wk7.setCell ⟨b, 4, none⟩ (.slice va (L.length + 1) vc)).cell? ⟨b, 5, none⟩ = some (.int .i64 m1) from ⟨boxR_stay HSF.out.1 hst (fun e => HBB.out e), HKB'.out.c5⟩)
        have HWV' := hide' (HWV.out.stay hst (fun j hj e => HVB.out j hj e))
        have HST' := hide' (HST.out.setCell (p := ⟨b, 4, none⟩) (.inl rfl) (.slice va (L.length + 1) vc))
        clear hst
        clear HKB
        have HKB := HKB'
        clear HKB'
        clear HWV
        have HWV := HWV'
        clear HWV'
        clear HSF
        have HSF := HSF'
        clear HSF'
        clear HST
        have HST := HST'
        clear HST'
        obtain ⟨Wk8, hW⟩ : ∃ Wq, Wq = (Wk7.setCell ⟨b, 4, none⟩ (.slice va (L.length + 1) vc)) := ⟨_, rfl⟩
        rw [← hW] at HKB HWV HSF HST
        rw [← hW]
        clear hW
        refine hK20 16 (by simp) _ _ HSF.out (any_more fun K21 hK21 => ?_)
        clear hK20 K20
        refine any_done hK21 (by kernel_rfl) ?_
        clear hK21 K21
        have k5 := HSF.out.2
        go_wp2
        go_returns
        refine ⟨.slice va (L.length + 1) vc, by rw [HYY.out]; rfl, ?_, HST.out, fun j hj => ?_⟩
        · rw [HYY.out]
          exact ⟨HKB.out, HWV.out, HVB.out, by have := HLN.out; rw [List.length_cons]; omega⟩
        · rcases hj with hj | hj
          · exact .inl (.inl hj)
          · rcases HNV.out j hj with h1 | h1
            · exact .inl (.inr h1)
            · exact .inr (by have := HSW.out; omega)

end Go.Proofs.Yticccknocjnkpaa
