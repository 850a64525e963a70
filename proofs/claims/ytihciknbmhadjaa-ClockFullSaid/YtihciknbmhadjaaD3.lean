/-
  Timers are cloned; the first ones go: walked. No conditions.
-/
import Derived.Test.YtihciknbmhadjaaD2
import Derived.ArgAppend
import Derived.Lib.AppendZerosOnto
namespace Go.Proofs.Ytihciknbmhadjaa
open Go.RowKit

theorem run_copyS {P : Program} (w : World) (T elem ty : TypeId) (size : Nat) (hu : P.underlying T = some (.slice elem)) (hsz : (P.info? elem).map (·.size) = some size)
    (b o1 dLen dCap ab ao sLen sCap : Nat) (cs : List Value) (m : Nat) (hm : m = Nat.min sLen dLen) (hc : cs.length = m * size) (hsrc : ∀ j v, cs[j]? = some v → w.cell? ⟨ab, ao + j, none⟩ = some v) (ht : w.there b o1 (m * size)) (h1 : ∀ v ∈ cs, v.oneCell' = true) :
    (Builtin.copy_ #[T, T] ty #[.slice (some ⟨b, o1, none⟩) dLen dCap, .slice (some ⟨ab, ao, none⟩) sLen sCap]).run P w = .ok (goInt m) (w.setCells b o1 cs) := by
  have hl := run_loadCells_list (P := P) w ⟨ab, ao, none⟩ cs (fun j v hv => by rw [addr_add]; exact hsrc j v hv)
  have hst := run_storeCells_cells (P := P) b o1 cs 0 w (fun j hj => by simpa using (ht j (by omega)).1) (fun j hj => by simpa using (ht j (by omega)).2) h1
  rw [hc] at hl
  cases hq : P.info? elem with
  | none => simp [hq] at hsz
  | some i =>
    have hi : i.size = size := by simpa [hq] using hsz
    simp [Builtin.copy_, run_underlying hu, Builtin.lenOf, Builtin.firstCells, sizeOf, typeInfo, hq, hi, ← hm, hl, hst]

theorem wpList_copyS {P : Program} {w : World} {ops : Array Oper} {rest : List Oper} {o : Oper} {a : Act} {Q : Exit → Act → World → Prop} (hgd : o.guard = none) (d s : Operand) (T : TypeId)
    (ho : o.op = .call { callee := .builtin .copy, args := #[d, s], argTypes := #[T, T] }) (elem : TypeId) (size : Nat) (hu : P.underlying T = some (.slice elem)) (hsz : (P.info? elem).map (·.size) = some size)
    (b o1 dLen dCap ab ao sLen sCap : Nat) (hd : a.eval d = .slice (some ⟨b, o1, none⟩) dLen dCap) (hs : a.eval s = .slice (some ⟨ab, ao, none⟩) sLen sCap)
    (cs : List Value) (m : Nat) (hm : m = Nat.min sLen dLen) (hc : cs.length = m * size) (hsrc : ∀ j v, cs[j]? = some v → w.cell? ⟨ab, ao + j, none⟩ = some v) (ht : w.there b o1 (m * size)) (h1 : ∀ v ∈ cs, v.oneCell' = true)
    (h : wpList P ops Q rest (a.put o.dst (goInt m)) (w.setCells b o1 cs)) : wpList P ops Q (o :: rest) a w := by
  refine wpList_plain hgd fun K hK => ?_
  have hrun := run_copyS (P := P) w T elem o.type size hu hsz b o1 dLen dCap ab ao sLen sCap cs m hm hc hsrc ht h1
  unfold Oper.wp
  simp [execOp, ho, resolve, invoke, builtin, hd, hs, hrun, Result.andThen]
  exact hK _ _ h

theorem add_zero' (ad : Addr) (z : Nat) : ad.add (0 * z) = ad := by
  rw [Nat.zero_mul]
  obtain ⟨b, o, sp⟩ := ad
  unfold Addr.add
  split <;> simp_all

/-- s[:k]. -/
theorem exec_slice_h {P : Program} {a : Act} {t sz : Nat} {x y : Operand} {sa : Option Addr} {m cap k : Nat} (ht : P.underlying t = some (.slice (P.elem t))) (hz : (P.info? (P.elem t)).map (·.size) = some sz) (hx : a.eval x = .slice sa m cap) (hy : a.eval y = .int .i64 (k : Nat)) (hk : k ≤ cap) (w : World) (d : Option Tmp) (ty : TypeId) :
    (execOp a.eval (opr d (.slice t x none (some y) none) ty)).run P w = .ok (.value (.slice sa k cap)) w := by
  obtain ⟨i, hi, rfl⟩ := Option.map_eq_some_iff.1 hz
  unfold execOp
  simp only [opr, hx, Option.map_some, Option.map_none, hy]
  rw [Sem.run_bind, run_sliceAt_slice _ _ _ _ _ _ ht, run_slice_h _ _ _ _ _ ht _ _ (by omega) (by omega)]
  simp [sizeOf, typeInfo, hi, Result.andThen, sliced]
  intro h
  cases sa with
  | none => rfl
  | some ad => simpa using add_zero' ad i.size

/-- s[k:]. -/
theorem exec_slice_l {P : Program} {a : Act} {t sz : Nat} {x y : Operand} {sa : Option Addr} {m cap k : Nat} (ht : P.underlying t = some (.slice (P.elem t))) (hz : (P.info? (P.elem t)).map (·.size) = some sz) (hx : a.eval x = .slice sa m cap) (hy : a.eval y = .int .i64 (k : Nat)) (hk : k ≤ m) (w : World) (d : Option Tmp) (ty : TypeId) :
    (execOp a.eval (opr d (.slice t x (some y) none none) ty)).run P w = .ok (.value (.slice (if cap = k then sa else sa.map (·.add (k * sz))) (m - k) (cap - k))) w := by
  obtain ⟨i, hi, rfl⟩ := Option.map_eq_some_iff.1 hz
  unfold execOp
  simp only [opr, hx, Option.map_some, Option.map_none, hy]
  rw [Sem.run_bind, run_sliceAt_slice _ _ _ _ _ _ ht, run_slice_l _ _ _ _ _ ht _ _ (by omega) (by omega)]
  simp [sizeOf, typeInfo, hi, Result.andThen, sliced]

theorem elem26 : Try.prog.underlying 26 = some (.slice (Try.prog.elem 26)) := by kernel_rfl

theorem esize26 : (Try.prog.info? (Try.prog.elem 26)).map (·.size) = some 3 := by kernel_rfl

/-- s[k:] of timers. -/
theorem slice26_l {a : Act} {x y : Operand} {g m cap k o m2 c2 : Nat} (hx : a.eval x = .slice (some ⟨g, 0, none⟩) m cap) (hy : a.eval y = .int .i64 (k : Nat)) (hk : k ≤ m) (hc : ¬ cap = k) (ho : o = k * 3) (h1 : m2 = m - k) (h2 : c2 = cap - k) (w : World) (d : Option Tmp) (ty : TypeId) :
    (execOp a.eval (opr d (.slice 26 x (some y) none none) ty)).run Try.prog w = .ok (.value (.slice (some ⟨g, o, none⟩) m2 c2)) w := by
  rw [exec_slice_l elem26 esize26 hx hy hk w d ty, if_neg hc, ho, h1, h2]
  simp [addr_add]

/-- s[k:], wherever it lies. -/
theorem slice26_la {a : Act} {x y : Operand} {g m cap k m2 c2 : Nat} {ad : Addr} (hx : a.eval x = .slice (some ⟨g, 0, none⟩) m cap) (hy : a.eval y = .int .i64 (k : Nat)) (hk : k ≤ m) (ha : ad = if cap = k then ⟨g, 0, none⟩ else ⟨g, k * 3, none⟩) (h1 : m2 = m - k) (h2 : c2 = cap - k) (w : World) (d : Option Tmp) (ty : TypeId) :
    (execOp a.eval (opr d (.slice 26 x (some y) none none) ty)).run Try.prog w = .ok (.value (.slice (some ad) m2 c2)) w := by
  rw [exec_slice_l elem26 esize26 hx hy hk w d ty, ha, h1, h2]
  split <;> simp [addr_add]

/-- s[:k] of timers. -/
theorem slice26_h {a : Act} {x y : Operand} {sa : Option Addr} {m cap k : Nat} (hx : a.eval x = .slice sa m cap) (hy : a.eval y = .int .i64 (k : Nat)) (hk : k ≤ cap) (w : World) (d : Option Tmp) (ty : TypeId) :
    (execOp a.eval (opr d (.slice 26 x none (some y) none) ty)).run Try.prog w = .ok (.value (.slice sa k cap)) w := exec_slice_h elem26 esize26 hx hy hk w d ty

theorem size35 : (Try.prog.info? 35).map (·.size) = some 3 := by kernel_rfl

theorem info35 : (Try.prog.info? 35).map (fun i => (i.zero, i.size, i.bytes)) = some (some (.agg #[.int .i64 0, .int .i64 0, .int .i64 0]), 3, 24) := by kernel_rfl

/-- Timers that are handed out, in memory that is new. -/
def NewL (L : List Tm) (w : World) (e : Ending) (w' : World) : Prop := ∃ a c, e = .returned (.slice a L.length c) ∧ Stay (fun _ => False) w w' ∧ Rd w' a L ∧ L.length ≤ c ∧ ∀ k, a.map Addr.block = some k → w.heap.size ≤ k

theorem eql26_nil (a : Addr) (m c : Nat) (w : World) : (binOp .eql 26 (.slice (some a) m c) (.slice none 0 0)).run Try.prog w = .ok (.bool false) w := by
  simp only [binOp]
  simp [run_equal_slice_nil w 26 35 (some a) m c Try.underlying26]

theorem eql26_nils (w : World) : (binOp .eql 26 (.slice none 0 0) (.slice none 0 0)).run Try.prog w = .ok (.bool true) w := by
  simp only [binOp]
  simp [run_equal_slice_nil w 26 35 none 0 0 Try.underlying26]

attribute [local go_sem] eql26_nil eql26_nils

theorem clone24_some (g n c : Nat) (L : List Tm) (w : World) (h : Ws w (some ⟨g, 0, none⟩) n c L) (hm : n ≤ 2048) : Calls Try.prog 24 #[.slice (some ⟨g, 0, none⟩) n c] w (NewL L w) := by
  have HO := hide' (owns_newS w #[] 35 3 0 rfl (by decide))
  have HSRC := hide' (h.row.stay ((Stay.refl (fun _ => False) w).alloc (.cells #[] 35)) (fun _ _ h => h))
  have HS := hide' ((Stay.refl (fun _ => False) w).alloc (.cells #[] 35))
  have HN := hide' h.1
  clear h
  go_enter Try.func24, Try.ntmps24
  go_wp2_with (at_builtin; refine appS rfl _ _ 26 rfl Try.underlying26 info35 rfl (by decide) (by decide) HO.out rfl HSRC.out rfl (wc_one _) (by omega) (by simp) ?_; intro v W1 ho hst hb; have HO2 := hide' ho; have HT2 := hide' hst; clear ho hst hb)
  go_wp2
  go_ret
  have h2 := HO2.out
  rw [Nat.zero_add, show (#[] : Array Value).toList ++ wc L = wc L from rfl] at h2
  obtain ⟨a, cap, rfl, hw, hb⟩ := Ws.of_owns h2
  refine ⟨a, cap, by rw [HN.out]; rfl, HS.out.trans2 HT2.out (fun j hj e => by have e2 : w.heap.size = j := Option.some.inj e; omega), hw.rd, by rw [HN.out]; exact hw.2.1, fun k hk => hb k hk⟩

theorem clone24_nil (w : World) : Calls Try.prog 24 #[.slice none 0 0] w (NewL [] w) := by
  have HS := hide' (Stay.refl (fun _ => False) w)
  go_enter Try.func24, Try.ntmps24
  go_wp2
  go_ret
  exact ⟨none, 0, rfl, HS.out, Rd.nil _ _, Nat.le_refl _, fun k hk => by cases hk⟩

theorem clone24 (a : Option Addr) (n c : Nat) (L : List Tm) (w : World) (h : Ws w a n c L) (hm : n ≤ 2048) : Calls Try.prog 24 #[.slice a n c] w (NewL L w) := by
  rcases h.2.2.2 with ⟨rfl, rfl⟩ | ⟨g, rfl, _⟩
  · have h1 := h.1; have h2 := h.2.1
    obtain rfl : n = 0 := by omega
    obtain rfl : L = [] := List.eq_nil_of_length_eq_zero h1
    exact clone24_nil w
  · exact clone24_some g n c L w h hm

/-- What timers are without the first ones. -/
def DelN (L : List Tm) (k : Nat) (a : Option Addr) (cap : Nat) (w : World) (e : Ending) (w' : World) : Prop := e = .returned (.slice a (L.length - k) cap) ∧ Ws w' a (L.length - k) cap (L.drop k) ∧ Stay (fun j => a.map Addr.block = some j) w w'

theorem delete25_none (a : Option Addr) (n cap : Nat) (L : List Tm) (w : World) (h : Ws w a n cap L) : Calls Try.prog 25 #[.slice a n cap, .int .i64 0, .int .i64 0] w (DelN L 0 a cap w) := by
  have HF : Hid (Ws w a (L.length - 0) cap (L.drop 0) ∧ L.length - 0 = n) := by
    have h1 := h.1
    exact ⟨by rw [List.drop_zero, Nat.sub_zero, h1]; exact h, by omega⟩
  have hc := h.2.1
  have n0 : (0 : Int) ≤ (n : Nat) := by omega
  have n1 : (n : Int) ≤ (cap : Nat) := by omega
  clear h hc
  go_enter Try.func25, Try.ntmps25
  go_wp2
  go_ret
  exact ⟨by rw [HF.out.2]; rfl, HF.out.1, Stay.refl _ _⟩

set_option maxHeartbeats 2000000 in
theorem delete25_some (g r k cap : Nat) (L : List Tm) (w : World) (h : Ws w (some ⟨g, 0, none⟩) (r + k) cap L) (hk : 1 ≤ k) (hm : r + k ≤ 2048) :
    Calls Try.prog 25 #[.slice (some ⟨g, 0, none⟩) (r + k) cap, .int .i64 0, .int .i64 (k : Nat)] w (DelN L k (some ⟨g, 0, none⟩) cap w) := by
  obtain ⟨ii, hii, hzz⟩ := Option.map_eq_some_iff.1 info35
  simp only [Prod.mk.injEq] at hzz
  obtain ⟨g1, g2, g3⟩ := hzz
  obtain ⟨wd, hwd⟩ : ∃ W, W = w.drew := ⟨_, rfl⟩
  have hst : Stay (fun _ => False) w wd := by rw [hwd]; exact (Stay.refl _ _).drew
  have hW := h.keep hst
  have hlen := h.1
  have hcap := h.2.1
  have hgr := hW.ther
  obtain ⟨ad, had⟩ : ∃ ad : Addr, ad = if cap = k then ⟨g, 0, none⟩ else ⟨g, k * 3, none⟩ := ⟨_, rfl⟩
  have hld : (wc (L.drop k)).length = (r + k - k) * 3 := by rw [wc_length, List.length_drop, hlen]
  have hsrc : ∀ j u, (wc (L.drop k))[j]? = some u → wd.cell? (ad.add j) = some u := fun j u hu => by
    have hj : j < (wc (L.drop k)).length := (List.getElem?_eq_some_iff.1 hu).1
    rw [had, if_neg (by omega), addr_add]
    rw [wc_drop, List.getElem?_drop] at hu
    have := hgr.2.2 _ _ hu
    rwa [Nat.zero_add] at this
  have happ : ∀ ty, (Builtin.append_ #[26, 26] ty #[.slice (some ⟨g, 0, none⟩) 0 cap, .slice (some ad) (r + k - k) (cap - k)]).run Try.prog wd = .ok (.slice (some ⟨g, 0, none⟩) (0 + (r + k - k)) cap) (wd.setCells g (0 + 0 * ii.size) (wc (L.drop k))) := fun ty =>
    run_append_room_cells wd 26 ty 35 ii Try.underlying26 hii g 0 0 cap ad _ _ _ (by rw [g2]; exact hld) hsrc (wc_one _) (by omega)
      (fun j hj => by
        have := hgr.2.1 j (by omega)
        rw [Nat.zero_mul]; simpa using this.1)
      (fun j hj => by
        have := hgr.2.1 j (by omega)
        rw [Nat.zero_mul]; simpa using this.2)
  rw [Nat.zero_mul, Nat.zero_add, Nat.zero_add, Nat.add_sub_cancel] at happ
  have hout := hW.front (k := k) (by omega)
  rw [Nat.add_sub_cancel] at hout
  obtain ⟨w1, hw1⟩ : ∃ W, W = wd.setCells g 0 (wc (L.drop k)) := ⟨_, rfl⟩
  have hs1 : Stay (fun j => j = g) wd w1 := by rw [hw1]; exact (Stay.refl (fun j => j = g) wd).setCells g (wc (L.drop k)) 0 rfl
  rw [← hw1] at happ hout
  have hth := hout.ther.2.1
  have hcl : ∀ ty, (Builtin.clear_ #[26] ty #[.slice (some ⟨g, r * 3, none⟩) k (cap - r)]).run Try.prog w1 = .ok (.tuple #[]) (w1.setCells g (r * 3) (zs k)) := fun ty => run_clear26 w1 ty g (r * 3) k (cap - r) (by omega) (there_part hth (by omega))
  obtain ⟨w2, hw2⟩ : ∃ W, W = w1.setCells g (r * 3) (zs k) := ⟨_, rfl⟩
  have hout2 := hout.behind (zs k) (Nat.le_refl (r * 3))
  have hs2 : Stay (fun j => j = g) w1 w2 := by rw [hw2]; exact (Stay.refl (fun j => j = g) w1).setCells g (zs k) (r * 3) rfl
  rw [← hw2] at hcl hout2
  have HAP := hide' happ
  have HAD := hide' had
  have HFIN : Hid (Ws w2 (some ⟨g, 0, none⟩) r cap (L.drop k) ∧ Stay (fun j => j = g) w w2 ∧ L.length - k = r) := hide' ⟨hout2, (hst.mono (fun _ _ h => h.elim)).trans (hs1.trans hs2), by omega⟩
  have hz1 : ¬ (0 : Int) = (k : Int) := by omega
  have hz2 : (k : Int) ≤ (r : Int) + (k : Int) := by omega
  have hz3 : (r : Int) ≤ (r : Int) + (k : Int) := by omega
  have hz4 : (r : Int) + (k : Int) ≤ (cap : Int) := by omega
  have hz6 : (r : Int) ≤ 2048 := by omega
  have hz7 : (0 : Int) ≤ (r : Int) + (k : Int) := by omega
  have hz8 : ¬ cap = r := by omega
  have hz9 : r + k ≤ cap := hcap
  have hza : r + k - r = k := by omega
  have hzb : r + k - k = r := by omega
  have hzc : (k : Int) ≤ 2048 := by omega
  clear happ had hout hout2 hs1 hs2 hw1 hw2 hth hsrc hld hgr hW hst h g1 g2 g3 hii hlen hcap
  go_enter Try.func25, Try.ntmps25
  go_wp2_with fail
  have hS : True := trivial
  refine wp_region_mix (fun _ => True) [(0, true), (1, true), (2, true), (3, true), (4, true), (5, true), (6, false), (7, true)] (by kernel_rfl) (by kernel_rfl) (fun _ d _ _ _ h => by cases d <;> exact h) hS ?_
  refine mix_begin (fun K0 hK0 => ?_)
  refine mix_take hK0 (some 20) (.move (.tmp 0)) 26 _ (by kernel_rfl) (by kernel_rfl) (fun w' hS' => by (simp only [opr]; go_simp; try with_reducible rfl)) (fun K1 hK1 => ?_)
  clear hK0 K0
  simp only [Act.put, List.setIfInBounds_toArray, List.set_cons_zero, List.set_cons_succ]
  refine mix_take hK1 (some 21) (.move (.tmp 1)) 3 _ (by kernel_rfl) (by kernel_rfl) (fun w' hS' => by (simp only [opr]; go_simp; try with_reducible rfl)) (fun K2 hK2 => ?_)
  clear hK1 K1
  simp only [Act.put, List.setIfInBounds_toArray, List.set_cons_zero, List.set_cons_succ]
  refine mix_take hK2 (some 22) (.slice 26 (.tmp 20) none (some (.tmp 21)) none) 26 _ (by kernel_rfl) (by kernel_rfl) (fun w' hS' => by exact slice26_h (k := 0) rfl rfl (by omega) _ _ _) (fun K3 hK3 => ?_)
  clear hK2 K2
  simp only [Act.put, List.setIfInBounds_toArray, List.set_cons_zero, List.set_cons_succ]
  refine mix_take hK3 (some 23) (.move (.tmp 0)) 26 _ (by kernel_rfl) (by kernel_rfl) (fun w' hS' => by (simp only [opr]; go_simp; try with_reducible rfl)) (fun K4 hK4 => ?_)
  clear hK3 K3
  simp only [Act.put, List.setIfInBounds_toArray, List.set_cons_zero, List.set_cons_succ]
  refine mix_take hK4 (some 24) (.move (.tmp 2)) 3 _ (by kernel_rfl) (by kernel_rfl) (fun w' hS' => by (simp only [opr]; go_simp; try with_reducible rfl)) (fun K5 hK5 => ?_)
  clear hK4 K4
  simp only [Act.put, List.setIfInBounds_toArray, List.set_cons_zero, List.set_cons_succ]
  refine mix_take hK5 (some 25) (.slice 26 (.tmp 23) (some (.tmp 24)) none none) 26 _ (by kernel_rfl) (by kernel_rfl) (fun w' hS' => by exact slice26_la (k := k) (m2 := r) (ad := ad) rfl rfl (by omega) HAD.out (by omega) rfl _ _ _) (fun K6 hK6 => ?_)
  clear hK5 K5
  simp only [Act.put, List.setIfInBounds_toArray, List.set_cons_zero, List.set_cons_succ]
  refine mix_chain hK6 (fun K6c hK6c => ?_)
  clear hK6 K6
  refine op_plain (some 26) (.call { callee := Callee.builtin Builtin.append, args := #[.tmp 22, .tmp 25], argTypes := #[26, 26] }) 26 (by kernel_rfl) (by kernel_rfl) ?_
  rw [← hwd]
  refine Lib.wpList_append_run _ rfl _ _ 26 26 rfl _ _ rfl rfl _ _ (HAP.out _) ?_
  refine wpList_nil ?_
  refine hK6c _ _ trivial (mix_begin fun K7 hK7 => ?_)
  clear hK6c K6c
  try simp only [Act.put, List.setIfInBounds_toArray, List.set_cons_zero, List.set_cons_succ]
  refine mix_take hK7 (some 0) (.assign (.tmp 26)) 26 _ (by kernel_rfl) (by kernel_rfl) (fun w' hS' => by (simp only [opr]; go_simp; try with_reducible rfl)) (fun K8 hK8 => ?_)
  clear hK7 K7
  simp only [Act.put, List.setIfInBounds_toArray, List.set_cons_zero]
  refine hK8 _ _ (mix_nil ?_)
  clear hK8 K8
  clear HAP HAD hwd
  go_wp2_with (simp only [hcl])
  go_ret
  exact ⟨by rw [HFIN.out.2.2]; rfl, by rw [HFIN.out.2.2]; exact HFIN.out.1, HFIN.out.2.1.mono (fun j _ e => by rw [e]; rfl)⟩

theorem delete25 (a : Option Addr) (n k cap : Nat) (L : List Tm) (w : World) (h : Ws w a n cap L) (hk : k ≤ n) (hm : n ≤ 2048) : Calls Try.prog 25 #[.slice a n cap, .int .i64 0, .int .i64 (k : Nat)] w (DelN L k a cap w) := by
  by_cases h0 : k = 0
  · subst h0
    exact delete25_none a n cap L w h
  · obtain ⟨r, rfl⟩ : ∃ r, n = r + k := ⟨n - k, by omega⟩
    rcases h.2.2.2 with ⟨rfl, rfl⟩ | ⟨g, rfl, _⟩
    · have h2 := h.2.1; omega
    · exact delete25_some g r k cap L w h (by omega) hm

end Go.Proofs.Ytihciknbmhadjaa
