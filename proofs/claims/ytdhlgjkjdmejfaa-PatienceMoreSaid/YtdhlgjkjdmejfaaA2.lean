/-
  Integers of 64 bits, results, rows that can be read, blocks apart. No conditions.
-/
import Derived.Test.YtdhlgjkjdmejfaaA1
import Derived.Laws.BitsLemmas
namespace Go.Proofs.Ytdhlgjkjdmejfaa
open Go.RowKit

/-- A number of 64 bits. -/
def W64 (x : Int) : Prop := -9223372036854775808 ≤ x ∧ x ≤ 9223372036854775807

theorem bits_w64 (op : BinOp) (x y : Int) : W64 (bits op .i64 x y) := by
  unfold bits W64
  simp only [IntKind.wrap_i64]
  omega

theorem or_zero {x : Int} (h : W64 x) : bits .or .i64 x 0 = x := by
  have e : BitVec.ofInt 64 x ||| BitVec.ofInt 64 0 = BitVec.ofInt 64 x := by
    rw [show BitVec.ofInt 64 0 = 0#64 by decide]; simp
  show IntKind.i64.wrap ((BitVec.ofInt 64 x ||| BitVec.ofInt 64 0).toNat : Nat) = x
  rw [e, BitVec.toNat_ofInt, IntKind.wrap_i64]
  unfold W64 at h
  omega

theorem keep_cell {W w1 : World} {p : Addr} {v : Value} (hs : Stay (fun _ => False) W w1) (h : W.cell? p = some v) : w1.cell? p = some v := by
  rw [← h]; exact hs.cell (World.block_lt_of_cell? _ _ h) (fun h => h)

theorem keep_frozen {W w1 : World} {p : Addr} {v : Value} {b : Bool} (hs : Stay (fun _ => False) W w1) (h : W.cell? p = some v) (hf : W.frozen? p = b) : w1.frozen? p = b := by
  rw [← hf]; exact hs.frozen (World.block_lt_of_cell? _ _ h) (fun h => h)

theorem ret_bool {a b : Bool} (h : a = b) : Ending.returned (.bool a) = .returned (.bool b) := by rw [h]

theorem ret_int {a b : Int} (h : a = b) : Ending.returned (.int .i64 a) = .returned (.int .i64 b) := by rw [h]

/-- What a variable of a struct (or an array) of one-cell parts reads as. -/
theorem run_loadVar_cells {P : Program} (w : World) (g off : Nat) (ty : TypeId) (cs : List Value) (d : TypeDesc) (hc : ∀ j v, cs[j]? = some v → w.cell? ⟨g, off + j, none⟩ = some v)
    (hu : P.underlying ty = some d) (hd : (match d with | .struct _ | .array _ _ => true | _ => false) = true) (hi : (P.info? ty).map (·.size) = some cs.length) :
    (loadVar ty ⟨g, off, none⟩).run P w = .ok (.agg cs.toArray) w := by
  have hl : (loadCells ⟨g, off, none⟩ cs.length).run P w = .ok cs.toArray w :=
    run_loadCells_list (P := P) w ⟨g, off, none⟩ cs (fun j v hv => by
      have hadd : (⟨g, off, none⟩ : Addr).add j = ⟨g, off + j, none⟩ := by unfold Addr.add; split <;> simp_all
      rw [hadd]
      exact hc j v hv)
  cases hq : P.info? ty with
  | none => simp [hq] at hi
  | some i =>
    have hs : i.size = cs.length := by simpa [hq] using hi
    have hagg : (isAgg ty).run P w = .ok true w := by
      unfold isAgg
      rw [Sem.run_bind, run_underlying hu w]
      cases d <;> simp_all
    simp [loadVar, Sem.run_bind, hagg, sizeOf, typeInfo, hq, hs, hl]

/-- A result that lies in memory. -/
theorem results_cells {P : Program} {fn : Func} {p : Tmp} {ty : TypeId} (h : fn.results = #[.cell p ty]) (tmps : Array Value) (w : World) (g off : Nat) (cs : List Value) (d : TypeDesc)
    (hp : tmps.getD p undef = .pointer (some ⟨g, off, none⟩)) (hc : ∀ j v, cs[j]? = some v → w.cell? ⟨g, off + j, none⟩ = some v)
    (hu : P.underlying ty = some d) (hd : (match d with | .struct _ | .array _ _ => true | _ => false) = true) (hi : (P.info? ty).map (·.size) = some cs.length) :
    (results fn tmps).run P w = .ok (.agg cs.toArray) w := by
  have hp' : tmps[p]?.getD undef = .pointer (some ⟨g, off, none⟩) := by simpa using hp
  simp [results, h, hp', asAddr, run_loadVar_cells w g off ty cs d hc hu hd hi]

theorem and_255 (n : Int) : bits .and .i64 n 255 = n % 256 := by
  have h : (BitVec.ofInt 64 255).toNat = 2 ^ 8 - 1 := by decide
  have key : (BitVec.ofInt 64 n &&& BitVec.ofInt 64 255).toNat = (n % ((2 ^ 64 : Nat) : Int)).toNat % 2 ^ 8 := by
    rw [BitVec.toNat_and, BitVec.toNat_ofInt, h, Nat.and_two_pow_sub_one_eq_mod]
  show IntKind.i64.wrap ((BitVec.ofInt 64 n &&& BitVec.ofInt 64 255).toNat : Nat) = n % 256
  rw [key, IntKind.wrap_i64]
  omega

theorem ret_three {a b c x y z : Int} (h1 : a = x) (h2 : b = y) (h3 : c = z) : Ending.returned (.tuple #[.int .i64 a, .int .i64 b, .int .i64 c]) = .returned (.tuple #[.int .i64 x, .int .i64 y, .int .i64 z]) := by rw [h1, h2, h3]

theorem results_tmp4 {fn : Func} {t u v x : Tmp} (h : fn.results = #[.tmp t, .tmp u, .tmp v, .tmp x]) (tmps : Array Value) (P : Program) (w : World) :
    (results fn tmps).run P w = .ok (.tuple #[tmps.getD t undef, tmps.getD u undef, tmps.getD v undef, tmps.getD x undef]) w := by
  simp [results, h]

theorem or_add (k : Nat) (x y : Int) (hx : x % 2 ^ k = 0) (h0 : 0 ≤ x) (h1 : x < 4611686018427387904) (hy : 0 ≤ y) (hk : y < 2 ^ k) (h2 : y < 4611686018427387904) : bits .or .i64 x y = x + y := by
  obtain ⟨a, rfl⟩ := Int.eq_ofNat_of_zero_le h0
  obtain ⟨b, rfl⟩ := Int.eq_ofNat_of_zero_le hy
  have e1 : (BitVec.ofInt 64 ((a : Nat) : Int)).toNat = a := by rw [BitVec.toNat_ofInt]; omega
  have e2 : (BitVec.ofInt 64 ((b : Nat) : Int)).toNat = b := by rw [BitVec.toNat_ofInt]; omega
  have hb : b < 2 ^ k := by exact_mod_cast hk
  have ha : a % 2 ^ k = 0 := by exact_mod_cast hx
  have e3 : a ||| b = a + b := by
    have hm := Nat.div_add_mod a (2 ^ k)
    rw [ha, Nat.add_zero] at hm
    rw [← hm]
    exact (Nat.two_pow_add_eq_or_of_lt hb (a / 2 ^ k)).symm
  show IntKind.i64.wrap ((BitVec.ofInt 64 ((a : Nat) : Int) ||| BitVec.ofInt 64 ((b : Nat) : Int)).toNat : Nat) = _
  rw [BitVec.toNat_or, e1, e2, e3, IntKind.wrap_i64]
  omega

theorem ret_two {a b x y : Int} (h1 : a = x) (h2 : b = y) : Ending.returned (.tuple #[.int .i64 a, .int .i64 b]) = .returned (.tuple #[.int .i64 x, .int .i64 y]) := by rw [h1, h2]

theorem getD_mem {l : List Int} {j : Nat} (h : j < l.length) : l.getD j 0 ∈ l := by
  rw [List.getD_eq_getElem?_getD, List.getElem?_eq_getElem h]; exact List.getElem_mem h

theorem beq_f {x y : Int} (h : ¬ x = y) : (x == y) = false := by simpa using h

theorem beq_t {x y : Int} (h : x = y) : (x == y) = true := by simpa using h

theorem Ints.keep {k : IntKind} {W W' : World} {b off : Nat} {l : List Int} (h : Ints k W b off l) (hb : b < W.heap.size) (hs : Stay (fun _ => False) W W') : Ints k W' b off l := h.stay hb hs (fun h => h)

theorem drop_cons (l : List Int) (k : Nat) (h : k < l.length) : l.drop k = l.getD k 0 :: l.drop (k + 1) := by
  rw [List.getD_eq_getElem?_getD, List.getElem?_eq_getElem h]
  exact List.drop_eq_getElem_cons h

theorem Ints.drop {k : IntKind} {W : World} {b off : Nat} {l : List Int} (h : Ints k W b off l) (j : Nat) : Ints k W b (off + j) (l.drop j) := fun i hi => by
  rw [List.length_drop] at hi
  rw [Nat.add_assoc, h (j + i) (by omega)]
  simp [List.getD_eq_getElem?_getD, List.getElem?_drop]

theorem w64_wf {x : Int} (h : W64 x) : (Lit.int .i64 x).wf = true := by
  have z1 : IntKind.i64.min = -9223372036854775808 := by decide
  have z2 : IntKind.i64.max = 9223372036854775807 := by decide
  unfold W64 at h
  simp only [Lit.wf, decide_eq_true_eq, Bool.and_eq_true]
  omega

/-- A row of integers that can be read. -/
def Row (w : World) (t : Value) (l : List Int) : Prop := ∃ a cap, IArg .i64 w t l a cap

/-- A row of integers is handed back, and nothing that was there has turned. -/
def GivesRow (l : List Int) (w : World) (e : Ending) (w' : World) : Prop := ∃ t, e = .returned t ∧ Row w' t l ∧ Stay (fun _ => False) w w'

theorem Row.keep {w w' : World} {t : Value} {l : List Int} (h : Row w t l) (hs : Stay (fun _ => False) w w') : Row w' t l := by
  obtain ⟨a, cap, h⟩ := h
  exact ⟨a, cap, h.stay0 hs⟩

theorem row_nil (w : World) : Row w (.slice none 0 0) [] := ⟨none, 0, rfl, fun h => absurd rfl h, fun _ => rfl, Nat.le_refl _, by unfold maxLen; omega, fun x hx => by simp at hx⟩

theorem isRow_keep {w w' : World} {t : Value} {xs : List Value} (h : IsRow w t xs) (hs : Stay (fun _ => False) w w') : IsRow w' t xs := by
  rcases h with h | ⟨ad, m, c, h1, h2, h3⟩
  · exact .inl h
  · exact .inr ⟨ad, m, c, h1, h2, fun j u hu => keep_cell hs (h3 j u hu)⟩

/-- A block that an own row does not lie in. -/
def Apart (W : World) (v : Value) (k : Nat) : Prop := k < W.heap.size ∧ v.ownBlock ≠ some k

theorem Apart.alloc {W : World} {v : Value} {k : Nat} (h : Apart W v k) (o : Obj) : Apart (W.alloc o) v k := ⟨by have := h.1; simp; omega, h.2⟩

theorem Apart.fresh {W : World} {v : Value} {k : Nat} (h : Apart W v k) (o : Obj) : Apart (W.alloc o) (.slice (some ⟨W.heap.size, 0, none⟩) 0 0) k := ⟨by have := h.1; simp; omega, fun e => by have h1 := h.1; simp [Value.ownBlock] at e; omega⟩

theorem Apart.none (W : World) (o : Obj) : Apart (W.alloc o) (.slice Option.none 0 0) W.heap.size := ⟨by simp, fun e => by cases e⟩

theorem Apart.new {W : World} {v : Value} {base e s n : Nat} {xs : List Value} {o : Obj} (h : W.ownsRow base e s v n xs) : Apart (W.alloc o) v W.heap.size := ⟨by simp, fun hk => by have := (h.lt _ hk).2; omega⟩

theorem Apart.step {W W1 : World} {v v1 : Value} {k : Nat} {T : Nat → Prop} (h : Apart W v k) (hs : Stay T W W1) (hb : v1.ownBlock = v.ownBlock ∨ v1.ownBlock = some W.heap.size) : Apart W1 v1 k := by
  refine ⟨Nat.lt_of_lt_of_le h.1 hs.size, fun e => ?_⟩
  rcases hb with hb | hb
  · exact h.2 (hb ▸ e)
  · rw [e] at hb
    have := h.1
    cases hb
    omega

theorem isRowS_of {w : World} {v : Value} {news : List Value} (h : IsRow w v news) : IsRowS w 1 v news.length news := by
  rcases h with ⟨rfl, rfl⟩ | ⟨ad, m, c, rfl, rfl, hc⟩
  · exact .inl ⟨rfl, rfl, rfl⟩
  · exact .inr ⟨ad, c, rfl, by omega, hc⟩

theorem and_zero (f : Int) : bits .and .i64 f 0 = 0 := by
  show IntKind.i64.wrap ((BitVec.ofInt 64 f &&& BitVec.ofInt 64 0).toNat : Nat) = 0
  rw [show BitVec.ofInt 64 0 = 0#64 by decide]
  simp
  decide

theorem row_owned {w : World} {base e : Nat} {t : Value} {l : List Int} (h : w.ownsRow base e 1 t l.length (l.map (.int .i64 ·))) (hw : ∀ x ∈ l, W64 x) : Row w t l := by
  obtain ⟨a, cap, h, _⟩ := owned_arg h (fun x hx => w64_wf (hw x hx))
  exact ⟨a, cap, h⟩

theorem row_new (w : World) (cs : Array Value) (e : TypeId) (l : List Int) (n : Nat) (hn : cs.size = n) (hl : cs.toList = l.map (.int .i64 ·)) (hw : ∀ x ∈ l, W64 x) (hm : n ≤ maxLen) : Row (w.alloc (.cells cs e)) (.slice (some ⟨w.heap.size, 0, none⟩) n n) l := by
  subst hn
  have h := owns_new w cs e hm
  have ec : cs.size = l.length := by rw [← Array.length_toList, hl, List.length_map]
  rw [hl, ec] at h
  rw [ec]
  exact row_owned h hw

/-- The world behind a row that was made, and the own row in it. -/
theorem own_new {base e n : Nat} {t : Value} {vs : List Value} {w : World} (h : w.ownsRow base e 1 t n vs) (o : Obj) : (w.alloc o).ownsRow base e 1 t n vs := ((Stay.refl (fun _ => False) w).alloc o).owns h (fun _ _ h => h)

theorem own_base {base e n : Nat} {t : Value} {vs : List Value} {w : World} (h : w.ownsRow base e 1 t n vs) : ∀ k, t.ownBlock = some k → base ≤ k := fun k hk => (h.lt k hk).1

theorem row_joined {W : World} {base e n : Nat} {t : Value} {xs : List Value} {l : List Int} (h : W.ownsRow base e 1 t n xs) (hx : xs = l.map (.int .i64 ·)) (hw : ∀ x ∈ l, (Lit.int .i64 x).wf = true) : Row W t l := by
  have hn : n = l.length := by have := h.1; rw [hx] at this; simpa using this.symm
  subst hn hx
  obtain ⟨a, cap, h, _⟩ := owned_arg h hw
  exact ⟨a, cap, h⟩

end Go.Proofs.Ytdhlgjkjdmejfaa
