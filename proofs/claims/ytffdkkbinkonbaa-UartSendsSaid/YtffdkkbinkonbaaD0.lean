/-
  Whether bytes are the same; the document's Receive: walked. No conditions.
-/
import Derived.Test.YtffdkkbinkonbaaC5
namespace Go.Proofs.Ytffdkkbinkonbaa
open Go.RowKit

/-- Bytes that can be read. -/
def Bs (w : World) (v : Value) (l : List Int) : Prop := ∃ a cap, v = .slice a l.length cap ∧ l.length ≤ cap ∧ (l ≠ [] → ∃ b off, a = some ⟨b, off, none⟩ ∧ Ints .u8 w b off l)

theorem Bs.keep {w w' : World} {v : Value} {l : List Int} (h : Bs w v l) (hs : Stay (fun _ => False) w w') : Bs w' v l := by
  obtain ⟨a, cap, h1, h2, h3⟩ := h
  exact ⟨a, cap, h1, h2, fun hn => by obtain ⟨b, o, e, hi⟩ := h3 hn; exact ⟨b, o, e, fun j hj => keep_cell hs (hi j hj)⟩⟩

theorem bs_cell {w : World} {b o : Nat} {l : List Int} (h : ∀ j u, (bys l)[j]? = some u → w.cell? ⟨b, o + j, none⟩ = some u) : Ints .u8 w b o l := fun j hj => h j _ (by
  unfold bys
  rw [List.getElem?_map, List.getElem?_eq_getElem hj, List.getD_eq_getElem?_getD, List.getElem?_eq_getElem hj]; rfl)

theorem bs_owned {w : World} {base e n : Nat} {t : Value} {l : List Int} (h : w.ownsRow base e 1 t n (bys l)) : Bs w t l := by
  obtain ⟨a, cap, e1, hl, hc⟩ := ownsRow_shape h
  have hn : n = l.length := by rw [← hl]; unfold bys; simp
  subst hn
  rcases h.2 with ⟨e2, h0⟩ | ⟨g, cap', cur, e2, _, _, h3, _⟩
  · rw [e2]
    exact ⟨none, 0, by rw [h0], by omega, fun hne => absurd (List.eq_nil_of_length_eq_zero h0) hne⟩
  · rw [e2]
    refine ⟨_, cap', rfl, h3, fun _ => ⟨g, 0, rfl, bs_cell fun j u hu => ?_⟩⟩
    have := h.cells (g := g) (by rw [e2]; rfl) j u hu
    rwa [addr_add] at this

theorem same12_nil (a1 a2 : Option Addr) (k1 k2 : Nat) (w : World) : Calls Try.prog 12 #[.slice a1 0 k1, .slice a2 0 k2] w (Gives (.bool true) w) := by
  go_enter Try.func12, Try.ntmps12
  go_wp2_with fail
  go_loopg [5] 0 (fun g i wr => g = 0 ∧ i = .int .i64 0 ∧ wr = w)
  case atStart => exact ⟨rfl, rfl, rfl⟩
  case round =>
    obtain ⟨rfl, rfl, rfl⟩ := hrel
    go_wp2
    go_ret
    exact ⟨rfl, Stay.refl _ _⟩

set_option maxHeartbeats 1000000 in
theorem same12_some (l : List Int) (b1 o1 k1 b2 o2 k2 n : Nat) (w : World) (hn : n ≤ 1000) (hl : l.length = n) (h1 : Ints .u8 w b1 o1 l) (h2 : Ints .u8 w b2 o2 l) :
    Calls Try.prog 12 #[.slice (some ⟨b1, o1, none⟩) n k1, .slice (some ⟨b2, o2, none⟩) n k2] w (Gives (.bool true) w) := by
  have H1 := hide' h1
  have H2 := hide' h2
  have HL := hide' hl
  have hnz : (n : Int) ≤ 1000 := by omega
  clear h1 h2 hn hl
  go_enter Try.func12, Try.ntmps12
  go_wp2_with fail
  go_loopg [5] n (fun g i wr => ∃ j : Nat, j ≤ n ∧ g = n - j ∧ i = .int .i64 (j : Int) ∧ ∃ q, wr = w.drewN q)
  case atStart => exact ⟨0, Nat.zero_le _, rfl, rfl, 0, rfl⟩
  case round =>
    obtain ⟨j, hj, rfl, rfl, q, rfl⟩ := hrel
    by_cases hlt : j < n
    · have a1 : w.cell? ⟨b1, o1 + j, none⟩ = some (.int .u8 (l.getD j 0)) := H1.out j (by have := HL.out; omega)
      have a2 : w.cell? ⟨b2, o2 + j, none⟩ = some (.int .u8 (l.getD j 0)) := H2.out j (by have := HL.out; omega)
      obtain ⟨x, hx⟩ : ∃ x, x = l.getD j 0 := ⟨_, rfl⟩
      rw [← hx] at a1 a2
      clear hx
      have jz : (j : Int) < n := by omega
      have j0 : (0 : Int) ≤ j := by omega
      go_wp2_with fail
      go_quiet (fail)
      go_wp2
      go_roundg (n - (j + 1))
      case measure => omega
      case rel => exact ⟨j + 1, by omega, rfl, by go_num, _, rfl⟩
    · have : j = n := by omega
      subst this
      go_wp2
      go_ret
      exact ⟨rfl, (Stay.refl _ _).drewN _⟩

theorem same12 (v1 v2 : Value) (l : List Int) (w : World) (h1 : Bs w v1 l) (h2 : Bs w v2 l) (hn : l.length ≤ 1000) : Calls Try.prog 12 #[v1, v2] w (Gives (.bool true) w) := by
  obtain ⟨a1, k1, rfl, _, c1⟩ := h1
  obtain ⟨a2, k2, rfl, _, c2⟩ := h2
  by_cases h : l = []
  · subst h
    exact same12_nil a1 a2 k1 k2 w
  · obtain ⟨b1, o1, rfl, i1⟩ := c1 h
    obtain ⟨b2, o2, rfl, i2⟩ := c2 h
    exact same12_some l b1 o1 k1 b2 o2 k2 l.length w hn rfl i1 i2

theorem results_d_bool {fn : Func} {p t : Tmp} (h : fn.results = #[.cell p 29, .tmp t]) (tmps : Array Value) (w : World) (g : Nat) (r : Dr) (n : Bool) (hp : tmps.getD p undef = .pointer (some ⟨g, 0, none⟩)) (ht : tmps.getD t undef = .bool n) (hb : DBox w g r) :
    (results fn tmps).run Try.prog w = .ok (.tuple #[.agg #[r.v, r.u, .bool r.o], .bool n]) w := by
  have hp' : tmps[p]?.getD undef = .pointer (some ⟨g, 0, none⟩) := by simpa using hp
  have ht' : tmps[t]?.getD undef = .bool n := by simpa using ht
  simp [results, h, hp', ht', asAddr, run_loadVar_cells w g 0 29 _ _ hb.cells Try.underlying29 rfl (by kernel_rfl)]

theorem own_newS {base e size n : Nat} {t : Value} {vs : List Value} {w : World} (h : w.ownsRow base e size t n vs) (o : Obj) : (w.alloc o).ownsRow base e size t n vs := ((Stay.refl (fun _ => False) w).alloc o).owns h (fun _ _ h => h)

theorem owns_shape {base e size n : Nat} {t : Value} {vs : List Value} {w : World} (h : w.ownsRow base e size t n vs) : ∃ a c, t = .slice a n c := by
  rcases h.2 with ⟨h, h0⟩ | ⟨g, c, _, h, _⟩
  · exact ⟨none, 0, by rw [h, h0]⟩
  · exact ⟨_, c, h⟩

/-- The document's line behind an item that came. -/
def RRcv (vi vo : Value) (o : Bool) (L : List (Int × Int)) (r x f : Int) (w : World) (e : Ending) (w' : World) : Prop :=
  Stay (fun _ => False) w w' ∧ ((r ≤ (L.length : Nat) ∧ e = .returned (.tuple #[.agg #[vi, vo, .bool true], .bool false])) ∨
    ((L.length : Nat) < r ∧ ∃ v, e = .returned (.tuple #[.agg #[v, vo, .bool false], .bool true]) ∧ w'.ownsRow w.heap.size 36 2 v (L.length + 1) (its (L ++ [(x, flagB o f)]))))

set_option maxRecDepth 100000 in
theorem rreceive8_full (vi vo : Value) (o : Bool) (L : List (Int × Int)) (r x f : Int) (w : World) (hv : IsRowS w 2 vi L.length (its L)) (ho : ∃ a k c, vo = .slice a k c) (hr : r ≤ (L.length : Nat)) : Calls Try.prog 8 #[.agg #[vi, vo, .bool o], .int .i64 r, .int .u8 x, .int .i64 f] w (RRcv vi vo o L r x f w) := by
  obtain ⟨va, vc, rfl⟩ : ∃ a c, vi = .slice a L.length c := by
    rcases hv with ⟨h, h0, _⟩ | ⟨ad, c, h, _⟩
    · exact ⟨none, 0, by rw [h, h0]⟩
    · exact ⟨_, c, h⟩
  obtain ⟨n, hn⟩ : ∃ n, n = L.length := ⟨_, rfl⟩
  rw [← hn] at hv hr
  rw [← hn]
  have i1 : r ≤ (n : Nat) := hr
  obtain ⟨B, hB⟩ : ∃ B, B = w.heap.size := ⟨_, rfl⟩
  obtain ⟨W, hW⟩ : ∃ W, W = (w.alloc (.cells #[.slice va n vc, vo, .bool o] 29)).alloc (.cells #[.slice none 0 0, .slice none 0 0, .bool false] 29) := ⟨_, rfl⟩
  have HD1 : Hid (DBox W B ⟨.slice va n vc, vo, o⟩) := by rw [hW, hB]; exact (DBox.new ⟨.slice va n vc, vo, o⟩ rfl).alloc _
  have HD2 : Hid (DBox W (B + 1) ⟨.slice none 0 0, .slice none 0 0, false⟩) := by rw [hW, hB]; exact DBox.new ⟨.slice none 0 0, .slice none 0 0, false⟩ (by simp)
  have HS0 : Hid (Stay (fun _ => False) w W) := by rw [hW]; exact ((Stay.refl _ _).alloc _).alloc _
  have HBW : Hid (B = w.heap.size ∧ W = (w.alloc (.cells #[.slice va n vc, vo, .bool o] 29)).alloc (.cells #[.slice none 0 0, .slice none 0 0, .bool false] 29)) := ⟨hB, hW⟩
  have HV := hide' hv
  have HN := hide' hn
  obtain ⟨oa, on, oc, rfl⟩ := ho
  clear hB hW hv hr hn
  go_enter Try.func8, Try.ntmps8
  go_upto_region 1 with fail
  obtain ⟨hB, hW⟩ := HBW.out
  rw [← hW, ← hB]
  clear hB hW
  have d1 := HD1.out
  have d2 := HD2.out
  obtain ⟨c0, c1, c2, f0, f1, f2⟩ := d1
  obtain ⟨e0, e1, e2, g0, g1, g2⟩ := d2
  simp only at c0 c1 c2 e0 e1 e2
  go_wp2
  have hst : Stay (fun _ => False) w W := HS0.out
  have hb := HBW.out.1
  have hb2 := (HD2.out.other (b' := B) (o := 2) (v := .bool true) (by omega)).put ⟨.slice va n vc, .slice oa on oc, true⟩
  exact bodyPost_ret (results_d_bool rfl _ _ (B + 1) ⟨.slice va n vc, .slice oa on oc, true⟩ false rfl rfl hb2) rfl ⟨DBox.stay_put (hst.setNew (p := ⟨B, 2, none⟩) (by show w.heap.size ≤ B; omega) _) (by omega) _ _ _, .inl ⟨by rw [← HN.out]; exact i1, rfl⟩⟩

set_option maxRecDepth 100000 in
theorem rreceive8_f (vi vo : Value) (L : List (Int × Int)) (r x f : Int) (w : World) (hv : IsRowS w 2 vi L.length (its L)) (ho : ∃ a k c, vo = .slice a k c) (hr : (L.length : Nat) < r) (hl : L.length ≤ 1000) : Calls Try.prog 8 #[.agg #[vi, vo, .bool false], .int .i64 r, .int .u8 x, .int .i64 f] w (RRcv vi vo false L r x f w) := by
  obtain ⟨g, hg⟩ : ∃ g, g = bits .and .i64 f 6 := ⟨_, rfl⟩
  have e1' := hg.symm
  have HG : Hid (flagB false f = g) := by rw [hg]; rfl
  clear hg
  obtain ⟨va, vc, rfl⟩ : ∃ a c, vi = .slice a L.length c := by
    rcases hv with ⟨h, h0, _⟩ | ⟨ad, c, h, _⟩
    · exact ⟨none, 0, by rw [h, h0]⟩
    · exact ⟨_, c, h⟩
  obtain ⟨n, hn⟩ : ∃ n, n = L.length := ⟨_, rfl⟩
  rw [← hn] at hv hr
  rw [← hn]
  have i1 : ¬ r ≤ (n : Nat) := by omega
  obtain ⟨B, hB⟩ : ∃ B, B = w.heap.size := ⟨_, rfl⟩
  obtain ⟨W, hW⟩ : ∃ W, W = (w.alloc (.cells #[.slice va n vc, vo, .bool false] 29)).alloc (.cells #[.slice none 0 0, .slice none 0 0, .bool false] 29) := ⟨_, rfl⟩
  have HD1 : Hid (DBox W B ⟨.slice va n vc, vo, false⟩) := by rw [hW, hB]; exact (DBox.new ⟨.slice va n vc, vo, false⟩ rfl).alloc _
  have HD2 : Hid (DBox W (B + 1) ⟨.slice none 0 0, .slice none 0 0, false⟩) := by rw [hW, hB]; exact DBox.new ⟨.slice none 0 0, .slice none 0 0, false⟩ (by simp)
  have HS0 : Hid (Stay (fun _ => False) w W) := by rw [hW]; exact ((Stay.refl _ _).alloc _).alloc _
  have HBW : Hid (B = w.heap.size ∧ W = (w.alloc (.cells #[.slice va n vc, vo, .bool false] 29)).alloc (.cells #[.slice none 0 0, .slice none 0 0, .bool false] 29)) := ⟨hB, hW⟩
  have HV := hide' hv
  have HN := hide' hn
  obtain ⟨oa, on, oc, rfl⟩ := ho
  have HLL : Hid (n ≤ 1000) := by show n ≤ 1000; omega
  clear hB hW hv hr hn hl
  go_enter Try.func8, Try.ntmps8
  go_upto_region 1 with fail
  obtain ⟨hB, hW⟩ := HBW.out
  rw [← hW, ← hB]
  clear hB hW
  have d1 := HD1.out
  have d2 := HD2.out
  obtain ⟨c0, c1, c2, f0, f1, f2⟩ := d1
  obtain ⟨e0, e1, e2, g0, g1, g2⟩ := d2
  simp only at c0 c1 c2 e0 e1 e2
  have c0' : ∀ o : Obj, (W.alloc o).cell? ⟨B, 0, none⟩ = some (.slice va n vc) := fun o => keep_cell ((Stay.refl _ _).alloc o) c0
  have HO0 : Hid ((W.alloc (.cells #[] 36)).ownsRow W.heap.size 36 2 (.slice (some ⟨W.heap.size, 0, none⟩) 0 0) 0 []) := owns_newS W #[] 36 2 0 rfl (by decide)
  have HV0 : Hid (IsRowS (W.alloc (.cells #[] 36)) 2 (.slice va n vc) n (its L)) := HV.out.stay (HS0.out.alloc _) (fun _ _ h => h)
  have HB0 : Hid (W.heap.size ≤ (W.alloc (.cells #[] 36)).heap.size) := ((Stay.refl (fun _ => False) W).alloc _).size
  have HN0 : Hid (0 + n ≤ 1000000) := by have := HLL.out; show 0 + n ≤ 1000000; omega
  have HN1 : Hid (0 + n + 1 ≤ 1000000) := by have := HLL.out; show 0 + n + 1 ≤ 1000000; omega
  go_wp2_with (at_builtin; go_must (refine appS rfl _ _ 26 rfl Try.underlying26 info36 rfl (by decide) (by decide) HO0.out rfl HV0.out rfl (its_one L) HN0.out HB0.out ?_; intro v1 w1 ho1 hs1 hb1; have hst1 : Stay (fun _ => False) W w1 := ((Stay.refl (fun _ => False) W).alloc (.cells #[] 36)).trans2 hs1 (fun j hj e => by cases e; exact absurd hj (Nat.lt_irrefl _)); have HS1 := hide' hst1; have HO1 := hide' (own_newS ho1 (.cells #[.int .u8 x, .int .i64 g] 36)); have HV1 : Hid (IsRowS (w1.alloc (.cells #[.int .u8 x, .int .i64 g] 36)) 2 (.slice (some ⟨w1.heap.size, 0, none⟩) 1 1) 1 (its [(x, g)])) := isRowS_new w1 #[.int .u8 x, .int .i64 g] 36 2 1 rfl; have HB1 : Hid (W.heap.size ≤ (w1.alloc (.cells #[.int .u8 x, .int .i64 g] 36)).heap.size) := Nat.le_trans hst1.size ((Stay.refl (fun _ => False) w1).alloc _).size; clear ho1 hs1 hb1 hst1 c0' c0 c1 c2 f0 f1 f2 e0 e1 e2 g0 g1 g2; go_wp2_with (at_builtin; go_must (refine appS rfl _ _ 26 rfl Try.underlying26 info36 rfl (by decide) (by decide) HO1.out rfl HV1.out rfl (its_one _) HN1.out HB1.out ?_; intro v2 w2 ho2 hs2 hb2; obtain ⟨va2, vc2, rfl⟩ := owns_shape ho2; have hst2 : Stay (fun _ => False) W w2 := (HS1.out.alloc (.cells #[.int .u8 x, .int .i64 g] 36)).trans2 hs2 (fun j hj e => by have := (HO1.out.lt j e).1; omega); have HS2 := hide' hst2; have HO2 := hide' ho2; have d1 := HD1.out.keep hst2; have d2 := HD2.out.keep hst2; clear ho2 hs2 hb2 hst2; obtain ⟨c0, c1, c2, f0, f1, f2⟩ := d1; obtain ⟨e0, e1, e2, g0, g1, g2⟩ := d2; simp only at c0 c1 c2 e0 e1 e2))))
  obtain ⟨WF, hWF⟩ : ∃ W, W = (((((w2.setCell ⟨B, 0, none⟩ (Value.slice va2 (n + 1) vc2)).setCell ⟨B, 2, none⟩ (.bool false)).setCell ⟨B + 1, 0, none⟩ (Value.slice va2 (n + 1) vc2)).setCell ⟨B + 1, 1, none⟩ (Value.slice oa on oc)).setCell ⟨B + 1, 2, none⟩ (.bool false)) := ⟨_, rfl⟩
  have hst : Stay (fun _ => False) w w2 := HS0.out.trans HS2.out
  have hb := HBW.out.1
  have hWB : B + 2 ≤ W.heap.size := by have := HD2.out.lt; omega
  have hb2 : DBox WF (B + 1) ⟨(Value.slice va2 (n + 1) vc2), (Value.slice oa on oc), false⟩ := by rw [hWF]; exact (((HD2.out.keep HS2.out).other (b' := B) (o := 0) (v := (Value.slice va2 (n + 1) vc2)) (by omega)).other (b' := B) (o := 2) (v := .bool false) (by omega)).put ⟨(Value.slice va2 (n + 1) vc2), (Value.slice oa on oc), false⟩
  have ho := HO2.out
  rw [Nat.zero_add, List.nil_append, ← its_append] at ho
  have hset : Stay (fun j => j = B ∨ j = B + 1) w2 WF := by
    rw [hWF]
    exact (((((Stay.refl (fun j => j = B ∨ j = B + 1) w2).setCell (p := ⟨B, 0, none⟩) (.inl rfl) _).setCell (p := ⟨B, 2, none⟩) (.inl rfl) _).setCell (p := ⟨B + 1, 0, none⟩) (.inr rfl) _).setCell (p := ⟨B + 1, 1, none⟩) (.inr rfl) _).setCell (p := ⟨B + 1, 2, none⟩) (.inr rfl) _
  have hown := hset.owns ho (fun j hj e => by have := (ho.lt j hj).1; omega)
  have hsf : Stay (fun _ => False) w WF := hst.trans2 hset (fun j hj e => by omega)
  rw [← hWF]
  clear hWF
  have hown2 : WF.ownsRow w.heap.size 36 2 (Value.slice va2 (n + 1) vc2) (L.length + 1) (its (L ++ [(x, flagB false f)])) := by rw [HG.out, ← HN.out]; exact ownsRow_base hown HS0.out.size
  have hlt : (L.length : Nat) < r := by rw [← HN.out]; omega
  have hfin : RRcv (.slice va n vc) (Value.slice oa on oc) false L r x f w (.returned (.tuple #[.agg #[(Value.slice va2 (n + 1) vc2), (Value.slice oa on oc), .bool false], .bool true])) WF := ⟨hsf, .inr ⟨hlt, (Value.slice va2 (n + 1) vc2), rfl, hown2⟩⟩
  exact bodyPost_ret (results_d_bool rfl _ _ (B + 1) ⟨(Value.slice va2 (n + 1) vc2), (Value.slice oa on oc), false⟩ true rfl rfl hb2) rfl hfin

set_option maxRecDepth 100000 in
theorem rreceive8_t (vi vo : Value) (L : List (Int × Int)) (r x f : Int) (w : World) (hv : IsRowS w 2 vi L.length (its L)) (ho : ∃ a k c, vo = .slice a k c) (hr : (L.length : Nat) < r) (hl : L.length ≤ 1000) : Calls Try.prog 8 #[.agg #[vi, vo, .bool true], .int .i64 r, .int .u8 x, .int .i64 f] w (RRcv vi vo true L r x f w) := by
  obtain ⟨g0, hg0⟩ : ∃ g, g = bits .and .i64 f 6 := ⟨_, rfl⟩
  have e1' := hg0.symm
  obtain ⟨g, hg⟩ : ∃ g, g = bits .or .i64 g0 1 := ⟨_, rfl⟩
  have e2' := hg.symm
  have HG : Hid (flagB true f = g) := by rw [hg, hg0]; rfl
  clear hg0 hg
  obtain ⟨va, vc, rfl⟩ : ∃ a c, vi = .slice a L.length c := by
    rcases hv with ⟨h, h0, _⟩ | ⟨ad, c, h, _⟩
    · exact ⟨none, 0, by rw [h, h0]⟩
    · exact ⟨_, c, h⟩
  obtain ⟨n, hn⟩ : ∃ n, n = L.length := ⟨_, rfl⟩
  rw [← hn] at hv hr
  rw [← hn]
  have i1 : ¬ r ≤ (n : Nat) := by omega
  obtain ⟨B, hB⟩ : ∃ B, B = w.heap.size := ⟨_, rfl⟩
  obtain ⟨W, hW⟩ : ∃ W, W = (w.alloc (.cells #[.slice va n vc, vo, .bool true] 29)).alloc (.cells #[.slice none 0 0, .slice none 0 0, .bool false] 29) := ⟨_, rfl⟩
  have HD1 : Hid (DBox W B ⟨.slice va n vc, vo, true⟩) := by rw [hW, hB]; exact (DBox.new ⟨.slice va n vc, vo, true⟩ rfl).alloc _
  have HD2 : Hid (DBox W (B + 1) ⟨.slice none 0 0, .slice none 0 0, false⟩) := by rw [hW, hB]; exact DBox.new ⟨.slice none 0 0, .slice none 0 0, false⟩ (by simp)
  have HS0 : Hid (Stay (fun _ => False) w W) := by rw [hW]; exact ((Stay.refl _ _).alloc _).alloc _
  have HBW : Hid (B = w.heap.size ∧ W = (w.alloc (.cells #[.slice va n vc, vo, .bool true] 29)).alloc (.cells #[.slice none 0 0, .slice none 0 0, .bool false] 29)) := ⟨hB, hW⟩
  have HV := hide' hv
  have HN := hide' hn
  obtain ⟨oa, on, oc, rfl⟩ := ho
  have HLL : Hid (n ≤ 1000) := by show n ≤ 1000; omega
  clear hB hW hv hr hn hl
  go_enter Try.func8, Try.ntmps8
  go_upto_region 1 with fail
  obtain ⟨hB, hW⟩ := HBW.out
  rw [← hW, ← hB]
  clear hB hW
  have d1 := HD1.out
  have d2 := HD2.out
  obtain ⟨c0, c1, c2, f0, f1, f2⟩ := d1
  obtain ⟨e0, e1, e2, g0, g1, g2⟩ := d2
  simp only at c0 c1 c2 e0 e1 e2
  have c0' : ∀ o : Obj, (W.alloc o).cell? ⟨B, 0, none⟩ = some (.slice va n vc) := fun o => keep_cell ((Stay.refl _ _).alloc o) c0
  have HO0 : Hid ((W.alloc (.cells #[] 36)).ownsRow W.heap.size 36 2 (.slice (some ⟨W.heap.size, 0, none⟩) 0 0) 0 []) := owns_newS W #[] 36 2 0 rfl (by decide)
  have HV0 : Hid (IsRowS (W.alloc (.cells #[] 36)) 2 (.slice va n vc) n (its L)) := HV.out.stay (HS0.out.alloc _) (fun _ _ h => h)
  have HB0 : Hid (W.heap.size ≤ (W.alloc (.cells #[] 36)).heap.size) := ((Stay.refl (fun _ => False) W).alloc _).size
  have HN0 : Hid (0 + n ≤ 1000000) := by have := HLL.out; show 0 + n ≤ 1000000; omega
  have HN1 : Hid (0 + n + 1 ≤ 1000000) := by have := HLL.out; show 0 + n + 1 ≤ 1000000; omega
  go_wp2_with (at_builtin; go_must (refine appS rfl _ _ 26 rfl Try.underlying26 info36 rfl (by decide) (by decide) HO0.out rfl HV0.out rfl (its_one L) HN0.out HB0.out ?_; intro v1 w1 ho1 hs1 hb1; have hst1 : Stay (fun _ => False) W w1 := ((Stay.refl (fun _ => False) W).alloc (.cells #[] 36)).trans2 hs1 (fun j hj e => by cases e; exact absurd hj (Nat.lt_irrefl _)); have HS1 := hide' hst1; have HO1 := hide' (own_newS ho1 (.cells #[.int .u8 x, .int .i64 g] 36)); have HV1 : Hid (IsRowS (w1.alloc (.cells #[.int .u8 x, .int .i64 g] 36)) 2 (.slice (some ⟨w1.heap.size, 0, none⟩) 1 1) 1 (its [(x, g)])) := isRowS_new w1 #[.int .u8 x, .int .i64 g] 36 2 1 rfl; have HB1 : Hid (W.heap.size ≤ (w1.alloc (.cells #[.int .u8 x, .int .i64 g] 36)).heap.size) := Nat.le_trans hst1.size ((Stay.refl (fun _ => False) w1).alloc _).size; clear ho1 hs1 hb1 hst1 c0' c0 c1 c2 f0 f1 f2 e0 e1 e2 g0 g1 g2; go_wp2_with (at_builtin; go_must (refine appS rfl _ _ 26 rfl Try.underlying26 info36 rfl (by decide) (by decide) HO1.out rfl HV1.out rfl (its_one _) HN1.out HB1.out ?_; intro v2 w2 ho2 hs2 hb2; obtain ⟨va2, vc2, rfl⟩ := owns_shape ho2; have hst2 : Stay (fun _ => False) W w2 := (HS1.out.alloc (.cells #[.int .u8 x, .int .i64 g] 36)).trans2 hs2 (fun j hj e => by have := (HO1.out.lt j e).1; omega); have HS2 := hide' hst2; have HO2 := hide' ho2; have d1 := HD1.out.keep hst2; have d2 := HD2.out.keep hst2; clear ho2 hs2 hb2 hst2; obtain ⟨c0, c1, c2, f0, f1, f2⟩ := d1; obtain ⟨e0, e1, e2, g0, g1, g2⟩ := d2; simp only at c0 c1 c2 e0 e1 e2))))
  obtain ⟨WF, hWF⟩ : ∃ W, W = (((((w2.setCell ⟨B, 0, none⟩ (Value.slice va2 (n + 1) vc2)).setCell ⟨B, 2, none⟩ (.bool false)).setCell ⟨B + 1, 0, none⟩ (Value.slice va2 (n + 1) vc2)).setCell ⟨B + 1, 1, none⟩ (Value.slice oa on oc)).setCell ⟨B + 1, 2, none⟩ (.bool false)) := ⟨_, rfl⟩
  have hst : Stay (fun _ => False) w w2 := HS0.out.trans HS2.out
  have hb := HBW.out.1
  have hWB : B + 2 ≤ W.heap.size := by have := HD2.out.lt; omega
  have hb2 : DBox WF (B + 1) ⟨(Value.slice va2 (n + 1) vc2), (Value.slice oa on oc), false⟩ := by rw [hWF]; exact (((HD2.out.keep HS2.out).other (b' := B) (o := 0) (v := (Value.slice va2 (n + 1) vc2)) (by omega)).other (b' := B) (o := 2) (v := .bool false) (by omega)).put ⟨(Value.slice va2 (n + 1) vc2), (Value.slice oa on oc), false⟩
  have ho := HO2.out
  rw [Nat.zero_add, List.nil_append, ← its_append] at ho
  have hset : Stay (fun j => j = B ∨ j = B + 1) w2 WF := by
    rw [hWF]
    exact (((((Stay.refl (fun j => j = B ∨ j = B + 1) w2).setCell (p := ⟨B, 0, none⟩) (.inl rfl) _).setCell (p := ⟨B, 2, none⟩) (.inl rfl) _).setCell (p := ⟨B + 1, 0, none⟩) (.inr rfl) _).setCell (p := ⟨B + 1, 1, none⟩) (.inr rfl) _).setCell (p := ⟨B + 1, 2, none⟩) (.inr rfl) _
  have hown := hset.owns ho (fun j hj e => by have := (ho.lt j hj).1; omega)
  have hsf : Stay (fun _ => False) w WF := hst.trans2 hset (fun j hj e => by omega)
  rw [← hWF]
  clear hWF
  have hown2 : WF.ownsRow w.heap.size 36 2 (Value.slice va2 (n + 1) vc2) (L.length + 1) (its (L ++ [(x, flagB true f)])) := by rw [HG.out, ← HN.out]; exact ownsRow_base hown HS0.out.size
  have hlt : (L.length : Nat) < r := by rw [← HN.out]; omega
  have hfin : RRcv (.slice va n vc) (Value.slice oa on oc) true L r x f w (.returned (.tuple #[.agg #[(Value.slice va2 (n + 1) vc2), (Value.slice oa on oc), .bool false], .bool true])) WF := ⟨hsf, .inr ⟨hlt, (Value.slice va2 (n + 1) vc2), rfl, hown2⟩⟩
  exact bodyPost_ret (results_d_bool rfl _ _ (B + 1) ⟨(Value.slice va2 (n + 1) vc2), (Value.slice oa on oc), false⟩ true rfl rfl hb2) rfl hfin

theorem rreceive8 (vi vo : Value) (o : Bool) (L : List (Int × Int)) (r x f : Int) (w : World) (hv : IsRowS w 2 vi L.length (its L)) (ho : ∃ a k c, vo = .slice a k c) (hl : L.length ≤ 1000) : Calls Try.prog 8 #[.agg #[vi, vo, .bool o], .int .i64 r, .int .u8 x, .int .i64 f] w (RRcv vi vo o L r x f w) := by
  by_cases hr : r ≤ (L.length : Nat)
  · exact rreceive8_full vi vo o L r x f w hv ho hr
  · cases o
    · exact rreceive8_f vi vo L r x f w hv ho (by omega) hl
    · exact rreceive8_t vi vo L r x f w hv ho (by omega) hl

end Go.Proofs.Ytffdkkbinkonbaa
