/-
  A process is taken out of the row: walked. No conditions.
-/
import Derived.Test.YtefpifnfinkbaaaEC
import Derived.Lib.SliceRun
import Derived.Deep.DeepCutAuto
namespace Go.Proofs.Ytefpifnfinkbaaa
open Go.RowKit

/-- Cells of nothing. -/
def zs (m : Nat) : List Value := (Builtin.zeroCells (Value.agg #[.int .i64 0, .int .i64 0, .int .i64 0, .int .i64 0, .int .i64 0, .bool false]).cells m).toList

theorem zs_len (m : Nat) : (zs m).length = m * 6 := by
  have e : (Value.agg #[.int .i64 0, .int .i64 0, .int .i64 0, .int .i64 0, .int .i64 0, .bool false]).cells.size = 6 := by rfl
  unfold zs
  rw [Array.length_toList]
  simp only [Builtin.zeroCells, Array.size_map, Array.size_range, e]

theorem zs_one (m : Nat) : ∀ u ∈ zs m, u.oneCell' = true := by
  intro u hu
  unfold zs Builtin.zeroCells at hu
  rw [Array.toList_map, List.mem_map] at hu
  obtain ⟨i, _, rfl⟩ := hu
  have hi : i % 6 < 6 := Nat.mod_lt _ (by decide)
  show (((#[.int .i64 0, .int .i64 0, .int .i64 0, .int .i64 0, .int .i64 0, .bool false] : Array Value))[i % 6]!).oneCell' = true
  match i % 6, hi with
  | 0, _ => rfl
  | 1, _ => rfl
  | 2, _ => rfl
  | 3, _ => rfl
  | 4, _ => rfl
  | 5, _ => rfl

theorem zeroValue40 (w : World) : (zeroValue 40).run Try.prog w = .ok (.agg #[.int .i64 0, .int .i64 0, .int .i64 0, .int .i64 0, .int .i64 0, .bool false]) w := by kernel_rfl

theorem run_clear26 (w : World) (ty : TypeId) (b o m c : Nat) (hm : 0 < m) (ht : w.there b o (m * 6)) : (Builtin.clear_ #[26] ty #[.slice (some ⟨b, o, none⟩) m c]).run Try.prog w = .ok (.tuple #[]) (w.setCells b o (zs m)) := by
  have hst := run_storeCells_cells (P := Try.prog) b o (zs m) 0 w (fun j hj => by simpa using (ht j (by rw [zs_len] at hj; exact hj)).1) (fun j hj => by simpa using (ht j (by rw [zs_len] at hj; exact hj)).2) (zs_one m)
  simp only [Nat.add_zero] at hst
  unfold zs at hst ⊢
  obtain ⟨k, rfl⟩ : ∃ k, m = k + 1 := ⟨m - 1, by omega⟩
  simp [Builtin.clear_, run_underlying Try.underlying26, hst]

theorem Ws.ther {w : World} {g n cap : Nat} {L : List Pr} (h : Ws w (some ⟨g, 0, none⟩) n cap L) : g < w.heap.size ∧ w.there g 0 (cap * 6) ∧ w.rangeAt g 0 (wc L) := by
  rcases h.2.2.2 with ⟨e, _⟩ | ⟨g', e, h1, h2, h3⟩
  · cases e
  · cases e; exact ⟨h1, h3, h2⟩

theorem add_zero' (ad : Addr) (z : Nat) : ad.add (0 * z) = ad := by
  rw [Nat.zero_mul]
  obtain ⟨b, o, sp⟩ := ad
  unfold Addr.add
  split <;> simp_all

/-- s[:k]. -/
theorem exec_slice_h {P : Program} {a : Act} {t sz : Nat} {x y : Operand} {sa : Option Addr} {m cap k : Nat} (ht : P.underlying t = some (.slice (P.elem t))) (hz : (P.info? (P.elem t)).map (·.size) = some sz) (hx : a.eval x = .slice sa m cap) (hy : a.eval y = .int .i64 (k : Nat)) (hk : k ≤ cap) (w : World) (d : Option Tmp) (ty : TypeId) :
    (execOp a.eval (opr d (.slice t x none (some y) none) ty)).run P w = .ok (.value (.slice sa k cap)) w := by
  obtain ⟨i, hi, rfl⟩ := Option.map_eq_some_iff.1 hz
  unfold execOp
  simp only [opr, hx, Option.map_some, Option.map_none, hy]
  rw [Sem.run_bind, run_sliceAt_slice _ _ _ _ _ _ ht, run_slice_h _ _ _ _ _ ht _ _ (by omega) (by omega)]
  simp [sizeOf, typeInfo, hi, Result.andThen, sliced]
  intro h
  cases sa with
  | none => rfl
  | some ad => simpa using add_zero' ad i.size

/-- s[k:]. -/
theorem exec_slice_l {P : Program} {a : Act} {t sz : Nat} {x y : Operand} {sa : Option Addr} {m cap k : Nat} (ht : P.underlying t = some (.slice (P.elem t))) (hz : (P.info? (P.elem t)).map (·.size) = some sz) (hx : a.eval x = .slice sa m cap) (hy : a.eval y = .int .i64 (k : Nat)) (hk : k ≤ m) (w : World) (d : Option Tmp) (ty : TypeId) :
    (execOp a.eval (opr d (.slice t x (some y) none none) ty)).run P w = .ok (.value (.slice (if cap = k then sa else sa.map (·.add (k * sz))) (m - k) (cap - k))) w := by
  obtain ⟨i, hi, rfl⟩ := Option.map_eq_some_iff.1 hz
  unfold execOp
  simp only [opr, hx, Option.map_some, Option.map_none, hy]
  rw [Sem.run_bind, run_sliceAt_slice _ _ _ _ _ _ ht, run_slice_l _ _ _ _ _ ht _ _ (by omega) (by omega)]
  simp [sizeOf, typeInfo, hi, Result.andThen, sliced]

theorem elem26 : Try.prog.underlying 26 = some (.slice (Try.prog.elem 26)) := by kernel_rfl

theorem esize26 : (Try.prog.info? (Try.prog.elem 26)).map (·.size) = some 6 := by kernel_rfl

/-- s[k:] of processes. -/
theorem slice26_l {a : Act} {x y : Operand} {g m cap k o m2 c2 : Nat} (hx : a.eval x = .slice (some ⟨g, 0, none⟩) m cap) (hy : a.eval y = .int .i64 (k : Nat)) (hk : k ≤ m) (hc : ¬ cap = k) (ho : o = k * 6) (h1 : m2 = m - k) (h2 : c2 = cap - k) (w : World) (d : Option Tmp) (ty : TypeId) :
    (execOp a.eval (opr d (.slice 26 x (some y) none none) ty)).run Try.prog w = .ok (.value (.slice (some ⟨g, o, none⟩) m2 c2)) w := by
  rw [exec_slice_l elem26 esize26 hx hy hk w d ty, if_neg hc, ho, h1, h2]
  simp [addr_add]

/-- s[k:], wherever it lies. -/
theorem slice26_la {a : Act} {x y : Operand} {g m cap k m2 c2 : Nat} {ad : Addr} (hx : a.eval x = .slice (some ⟨g, 0, none⟩) m cap) (hy : a.eval y = .int .i64 (k : Nat)) (hk : k ≤ m) (ha : ad = if cap = k then ⟨g, 0, none⟩ else ⟨g, k * 6, none⟩) (h1 : m2 = m - k) (h2 : c2 = cap - k) (w : World) (d : Option Tmp) (ty : TypeId) :
    (execOp a.eval (opr d (.slice 26 x (some y) none none) ty)).run Try.prog w = .ok (.value (.slice (some ad) m2 c2)) w := by
  rw [exec_slice_l elem26 esize26 hx hy hk w d ty, ha, h1, h2]
  split <;> simp [addr_add]

/-- s[:k] of processes. -/
theorem slice26_h {a : Act} {x y : Operand} {sa : Option Addr} {m cap k : Nat} (hx : a.eval x = .slice sa m cap) (hy : a.eval y = .int .i64 (k : Nat)) (hk : k ≤ cap) (w : World) (d : Option Tmp) (ty : TypeId) :
    (execOp a.eval (opr d (.slice 26 x none (some y) none) ty)).run Try.prog w = .ok (.value (.slice sa k cap)) w := exec_slice_h elem26 esize26 hx hy hk w d ty

/-- One is taken out. -/
theorem Ws.cut {w : World} {g n cap i : Nat} {L : List Pr} (h : Ws w (some ⟨g, 0, none⟩) n cap L) (hi : i < n) : Ws (w.setCells g (i * 6) (wc (L.drop (i + 1)))) (some ⟨g, 0, none⟩) (n - 1) cap (L.eraseIdx i) := by
  have h1 := h.1
  have h2 := h.2.1
  have he : L.eraseIdx i = L.take i ++ L.drop (i + 1) := List.eraseIdx_eq_take_drop_succ L i
  refine ⟨by rw [List.length_eraseIdx, if_pos (by omega)]; omega, by omega, h.2.2.1, ?_⟩
  rcases h.2.2.2 with ⟨h0, _⟩ | ⟨g', h0, hg, hr, ht⟩
  · cases h0
  · cases h0
    have hst : Stay (fun j => j = g) w (w.setCells g (i * 6) (wc (L.drop (i + 1)))) := (Stay.refl (fun j => j = g) w).setCells g _ _ rfl
    refine .inr ⟨g, rfl, Nat.lt_of_lt_of_le hg hst.size, ?_, World.there_setCells ht _ _ _⟩
    have hx := range_patch (k := i * 6) (ys := wc (L.drop (i + 1))) hr (by rw [wc_length]; omega) (there_part ht (by rw [wc_length, List.length_drop]; omega))
    rw [← wc_take, ← wc_append, ← he] at hx
    exact range_front hx

/-- What processes are without one. -/
def DelP (L : List Pr) (i : Nat) (g n cap : Nat) (w : World) (e : Ending) (w' : World) : Prop := e = .returned (.slice (some ⟨g, 0, none⟩) (n - 1) cap) ∧ Ws w' (some ⟨g, 0, none⟩) (n - 1) cap (L.eraseIdx i) ∧ Stay (fun j => j = g) w w'

set_option maxHeartbeats 2000000 in
theorem delete50_at (g i r k n cap : Nat) (L : List Pr) (w : World) (h : Ws w (some ⟨g, 0, none⟩) n cap L) (hk : k = i + 1) (hn : n = r + k) (hm : n ≤ 2048) :
    Calls Try.prog 50 #[.slice (some ⟨g, 0, none⟩) n cap, .int .i64 (i : Nat), .int .i64 (k : Nat)] w (DelP L i g n cap w) := by
  obtain ⟨ii, hii, hzz⟩ := Option.map_eq_some_iff.1 info40
  simp only [Prod.mk.injEq] at hzz
  obtain ⟨g1, g2, g3⟩ := hzz
  obtain ⟨wd, hwd⟩ : ∃ W, W = w.drew := ⟨_, rfl⟩
  have hst : Stay (fun _ => False) w wd := by rw [hwd]; exact (Stay.refl _ _).drew
  have hW := h.keep hst
  have hlen := h.1
  have hcap := h.2.1
  have hgr := hW.ther
  obtain ⟨ad, had⟩ : ∃ ad : Addr, ad = if cap = k then ⟨g, 0, none⟩ else ⟨g, k * 6, none⟩ := ⟨_, rfl⟩
  have hld : (wc (L.drop k)).length = r * 6 := by rw [wc_length, List.length_drop, hlen]; omega
  have hsrc : ∀ j u, (wc (L.drop k))[j]? = some u → wd.cell? (ad.add j) = some u := fun j u hu => by
    have hj : j < (wc (L.drop k)).length := (List.getElem?_eq_some_iff.1 hu).1
    rw [had, if_neg (by omega), addr_add]
    rw [wc_drop, List.getElem?_drop] at hu
    have := hgr.2.2 _ _ hu
    rwa [Nat.zero_add] at this
  have happ : ∀ ty, (Builtin.append_ #[26, 26] ty #[.slice (some ⟨g, 0, none⟩) i cap, .slice (some ad) r (cap - k)]).run Try.prog wd = .ok (.slice (some ⟨g, 0, none⟩) (i + r) cap) (wd.setCells g (0 + i * ii.size) (wc (L.drop k))) := fun ty =>
    run_append_room_cells wd 26 ty 40 ii Try.underlying26 hii g 0 i cap ad _ _ _ (by rw [g2]; exact hld) hsrc (wc_one _) (by omega)
      (fun j hj => by
        have := hgr.2.1 (i * 6 + j) (by omega)
        rw [g2]; simpa using this.1)
      (fun j hj => by
        have := hgr.2.1 (i * 6 + j) (by omega)
        rw [g2]; simpa using this.2)
  rw [g2, Nat.zero_add] at happ
  have hout := hW.cut (i := i) (by omega)
  rw [← hk] at hout
  obtain ⟨w1, hw1⟩ : ∃ W, W = wd.setCells g (i * 6) (wc (L.drop k)) := ⟨_, rfl⟩
  have hs1 : Stay (fun j => j = g) wd w1 := by rw [hw1]; exact (Stay.refl (fun j => j = g) wd).setCells g (wc (L.drop k)) (i * 6) rfl
  rw [← hw1] at happ hout
  obtain ⟨m, hme⟩ : ∃ m, m = i + r := ⟨_, rfl⟩
  rw [← hme] at happ
  have hn1 : n - 1 = m := by omega
  rw [hn1] at hout
  have hth := hout.ther.2.1
  have hcl : ∀ ty, (Builtin.clear_ #[26] ty #[.slice (some ⟨g, m * 6, none⟩) 1 (cap - m)]).run Try.prog w1 = .ok (.tuple #[]) (w1.setCells g (m * 6) (zs 1)) := fun ty => run_clear26 w1 ty g (m * 6) 1 (cap - m) (by omega) (there_part hth (by omega))
  obtain ⟨w2, hw2⟩ : ∃ W, W = w1.setCells g (m * 6) (zs 1) := ⟨_, rfl⟩
  have hout2 := hout.behind (zs 1) (Nat.le_refl (m * 6))
  have hs2 : Stay (fun j => j = g) w1 w2 := by rw [hw2]; exact (Stay.refl (fun j => j = g) w1).setCells g (zs 1) (m * 6) rfl
  rw [← hw2] at hcl hout2
  have HAP := hide' happ
  have HAD := hide' had
  have HFIN : Hid (Ws w2 (some ⟨g, 0, none⟩) m cap (L.eraseIdx i) ∧ Stay (fun j => j = g) w w2 ∧ n - 1 = m) := hide' ⟨hout2, (hst.mono (fun _ _ h => h.elim)).trans (hs1.trans hs2), hn1⟩
  have hz1 : ¬ (i : Int) = (k : Int) := by omega
  have hz2 : (k : Int) ≤ (n : Int) := by omega
  have hz3 : (m : Int) ≤ (n : Int) := by omega
  have hz4 : (n : Int) ≤ (cap : Int) := by omega
  have hz5 : (i : Int) ≤ (k : Int) := by omega
  have hz6 : (m : Int) ≤ 2048 := by omega
  have hz7 : (0 : Int) ≤ (n : Int) := by omega
  have hz8 : ¬ cap = m := by omega
  have hz9 : n ≤ cap := hcap
  have hza : n - m = 1 := by omega
  have hzb : n - k = r := by omega
  have hzc : (k : Int) ≤ 2048 := by omega
  have hzd : (i : Int) ≤ 2048 := by omega
  have hze : (n : Int) ≤ 2048 := by omega
  have hzf : i ≤ cap := by omega
  have hzg : k ≤ n := by omega
  clear happ had hout hout2 hs1 hs2 hw1 hw2 hth hsrc hld hgr hW hst h g1 g2 g3 hii hlen hcap hk hn hme hn1
  go_enter Try.func50, Try.ntmps50
  go_wp2_with fail
  have hS : True := trivial
  refine wp_region_mix (fun _ => True) [(0, true), (1, true), (2, true), (3, true), (4, true), (5, true), (6, false), (7, true)] (by kernel_rfl) (by kernel_rfl) (fun _ d _ _ _ h => by cases d <;> exact h) hS ?_
  refine mix_begin (fun K0 hK0 => ?_)
  refine mix_take hK0 (some 20) (.move (.tmp 0)) 26 _ (by kernel_rfl) (by kernel_rfl) (fun w' hS' => by (simp only [opr]; go_simp; try with_reducible rfl)) (fun K1 hK1 => ?_)
  clear hK0 K0
  simp only [Act.put, lA, lZ, lS]
  refine mix_take hK1 (some 21) (.move (.tmp 1)) 3 _ (by kernel_rfl) (by kernel_rfl) (fun w' hS' => by (simp only [opr]; go_simp; try with_reducible rfl)) (fun K2 hK2 => ?_)
  clear hK1 K1
  simp only [Act.put, lA, lZ, lS]
  refine mix_take hK2 (some 22) (.slice 26 (.tmp 20) none (some (.tmp 21)) none) 26 _ (by kernel_rfl) (by kernel_rfl) (fun w' hS' => by exact slice26_h (k := i) rfl rfl (by omega) _ _ _) (fun K3 hK3 => ?_)
  clear hK2 K2
  simp only [Act.put, lA, lZ, lS]
  refine mix_take hK3 (some 23) (.move (.tmp 0)) 26 _ (by kernel_rfl) (by kernel_rfl) (fun w' hS' => by (simp only [opr]; go_simp; try with_reducible rfl)) (fun K4 hK4 => ?_)
  clear hK3 K3
  simp only [Act.put, lA, lZ, lS]
  refine mix_take hK4 (some 24) (.move (.tmp 2)) 3 _ (by kernel_rfl) (by kernel_rfl) (fun w' hS' => by (simp only [opr]; go_simp; try with_reducible rfl)) (fun K5 hK5 => ?_)
  clear hK4 K4
  simp only [Act.put, lA, lZ, lS]
  refine mix_take hK5 (some 25) (.slice 26 (.tmp 23) (some (.tmp 24)) none none) 26 _ (by kernel_rfl) (by kernel_rfl) (fun w' hS' => by exact slice26_la (k := k) (m2 := r) (ad := ad) rfl rfl (by omega) HAD.out (by omega) rfl _ _ _) (fun K6 hK6 => ?_)
  clear hK5 K5
  simp only [Act.put, lA, lZ, lS]
  refine mix_chain hK6 (fun K6c hK6c => ?_)
  clear hK6 K6
  refine op_plain (some 26) (.call { callee := Callee.builtin Builtin.append, args := #[.tmp 22, .tmp 25], argTypes := #[26, 26] }) 26 (by kernel_rfl) (by kernel_rfl) ?_
  rw [← hwd]
  refine Lib.wpList_append_run _ rfl _ _ 26 26 rfl _ _ rfl rfl _ _ (HAP.out _) ?_
  refine wpList_nil ?_
  refine hK6c _ _ trivial (mix_begin fun K7 hK7 => ?_)
  clear hK6c K6c
  try simp only [Act.put, lA, lZ, lS]
  refine mix_take hK7 (some 0) (.assign (.tmp 26)) 26 _ (by kernel_rfl) (by kernel_rfl) (fun w' hS' => by (simp only [opr]; go_simp; try with_reducible rfl)) (fun K8 hK8 => ?_)
  clear hK7 K7
  simp only [Act.put, lA, lZ]
  refine hK8 _ _ (mix_nil ?_)
  clear hK8 K8
  clear HAP HAD hwd
  go_wp2_with (simp only [hcl])
  go_ret
  exact ⟨by rw [HFIN.out.2.2]; rfl, by rw [HFIN.out.2.2]; exact HFIN.out.1, HFIN.out.2.1⟩

theorem delete50 (g i n cap : Nat) (L : List Pr) (w : World) (h : Ws w (some ⟨g, 0, none⟩) n cap L) (hi : i < n) (hm : n ≤ 2048) :
    Calls Try.prog 50 #[.slice (some ⟨g, 0, none⟩) n cap, .int .i64 (i : Nat), .int .i64 ((i : Int) + 1)] w (DelP L i g n cap w) :=
  delete50_at g i (n - (i + 1)) (i + 1) n cap L w h rfl (by omega) hm

end Go.Proofs.Ytefpifnfinkbaaa
