/-
  A region that draws its order: what only looks is taken first, wherever it stands; what makes or turns memory comes in its one order. No conditions.
-/
import Derived.Test.YtdhlgjkjdmejfaaA0
import Derived.OrdersHeld
import Derived.Maps.AppendAt
namespace Go.Proofs.Ytdhlgjkjdmejfaa
open Go.RowKit

section
variable {P : Program} {ops : Array Oper} {Q : Exit → Act → World → Prop} {md : Region.Mode} {S : World → Prop}

/-- The walk of a region by a plan: number and whether it only looks. -/
def wpMix (P : Program) (ops : Array Oper) (S : World → Prop) (Q : Exit → Act → World → Prop) : List (Nat × Bool) → Act → World → Prop
  | [], a, w => Q .normal a w
  | (i, true) :: r, a, w => ∃ o v, ops[i]? = some o ∧ YieldsIf P ops S o v a ∧ wpMix P ops S Q r (a.put o.dst v) w
  | (i, false) :: r, a, w => wpOp P ops Q i (fun a' w' => S w' ∧ wpMix P ops S Q r a' w') a w

/-- Is the plan one that serves every order? -/
def mixB (md : Region.Mode) (ops : Array Oper) : List (Nat × Bool) → Array Bool → Bool
  | [], listed => (Region.ready md ops listed).isEmpty
  | (i, true) :: r, listed => (Region.ready md ops listed).contains i && Region.free md ops listed i && mixB md ops r (listed.setIfInBounds i true)
  | (i, false) :: r, listed => (Region.ready md ops listed == [i]) && mixB md ops r (listed.setIfInBounds i true)

theorem anyH_of_mix (hs : Region.noSelect ops = true) (hQ : ∀ (c : _) (d : Option Tmp) (v : Value) (a : Act) (w : World), Q (.panic c) (a.put d v) w → Q (.panic c) a w) :
    ∀ (σ : List (Nat × Bool)) (listed : Array Bool) (a : Act) (w : World), mixB md ops σ listed = true → S w → wpMix P ops S Q σ a w → wpAnyH P md ops Q S σ.length listed a w
  | [], listed, a, w, hB, _, h => ⟨by simpa [mixB] using hB, h⟩
  | (i, true) :: r, listed, a, w, hB, hS, h => by
    simp only [mixB, Bool.and_eq_true] at hB
    obtain ⟨⟨h1, h2⟩, h3⟩ := hB
    obtain ⟨o, v, hi, hy, hr⟩ := h
    exact wpAnyH_take hi hs h2 h1 (fun c a w => hQ c o.dst v a w) hy hS (anyH_of_mix hs hQ r _ _ _ h3 hS hr)
  | (i, false) :: r, listed, a, w, hB, hS, h => by
    simp only [mixB, Bool.and_eq_true, beq_iff_eq] at hB
    obtain ⟨h1, h3⟩ := hB
    refine wpAnyH_all h1 (by simp) (fun j hj => ?_)
    obtain rfl : j = i := by simpa using hj
    exact wpOp_mono (fun a' w' h' => ⟨h'.1, anyH_of_mix hs hQ r _ a' w' h3 h'.1 h'.2⟩) h

theorem wp_region_mix {id : Nat} {a : Act} {w : World} (S : World → Prop) (σ : List (Nat × Bool)) (hm : P.follows .mixedOrders = true)
    (hB : (Region.noSelect ops && (σ.length == ops.size) && mixB .any ops σ (Array.replicate ops.size false)) = true)
    (hQ : ∀ (c : _) (d : Option Tmp) (v : Value) (a : Act) (w : World), Q (.panic c) (a.put d v) w → Q (.panic c) a w)
    (hS : S w.drew) (h : wpMix P ops S Q σ a w.drew) : (Code.region id ops true).wp P Q a w := by
  simp only [Bool.and_eq_true, beq_iff_eq] at hB
  obtain ⟨⟨h1, h2⟩, h3⟩ := hB
  refine wp_region_held (S := S) hm ?_
  rw [← h2]
  exact anyH_of_mix h1 hQ σ _ a _ (by rw [h2]; exact h3) hS h

theorem mix_nil {a : Act} {w : World} (h : Q .normal a w) : wpMix P ops S Q [] a w := h

/-- Begin: what follows stands behind a letter. -/
theorem mix_begin {σ : List (Nat × Bool)} {a : Act} {w : World} (h : ∀ K : Act → World → Prop, (∀ a w, wpMix P ops S Q σ a w → K a w) → K a w) : wpMix P ops S Q σ a w := h _ (fun _ _ h => h)

/-- An operation whose guard is not met. -/
theorem mix_skip {i : Nat} {b : Bool} {σ : List (Nat × Bool)} {K : Act → World → Prop} {a : Act} {w : World} (hK : ∀ a w, wpMix P ops S Q ((i, b) :: σ) a w → K a w) (d : Option Tmp) (hd : (ops[i]?).map (·.dst) = some d)
    (hg : (ops[i]?).map (fun o => Region.wanted o (yielded ops a.tmps)) = some false) (hS : S w) (h : ∀ K2 : Act → World → Prop, (∀ a w, wpMix P ops S Q σ a w → K2 a w) → K2 (a.put d undef) w) : K a w := by
  obtain ⟨o, hi, rfl⟩ := Option.map_eq_some_iff.1 hd
  rw [hi] at hg
  have hg' : Region.wanted o (yielded ops a.tmps) = false := by simpa using hg
  refine hK a w ?_
  cases b with
  | true => exact ⟨o, undef, hi, .inr ⟨hg', rfl⟩, h _ fun _ _ h => h⟩
  | false =>
    show wpOp P ops Q i _ a w
    unfold wpOp
    simp only [hi, hg', Bool.false_eq_true, if_false]
    exact ⟨hS, h _ fun _ _ h => h⟩

/-- An operation by what counts in a run. -/
def opr (d : Option Tmp) (x : Op) (ty : TypeId) : Oper := { dst := d, op := x, type := ty, pos := "", after := #[], guard := none }

theorem execOp_opr (ρ : Operand → Value) (o : Oper) : execOp ρ o = execOp ρ (opr o.dst o.op o.type) := by
  obtain ⟨d, x, ty, ps, af, g⟩ := o
  rfl

theorem opr_of {i : Nat} {d : Option Tmp} {x : Op} {ty : TypeId} (hi : (ops[i]?).map (fun o => (o.dst, o.op, o.type)) = some (d, x, ty)) {ρ : Array Value} {b : Bool} (hg : (ops[i]?).map (fun o => Region.wanted o (yielded ops ρ)) = some b) :
    ∃ o, ops[i]? = some o ∧ o.dst = d ∧ (∀ ρ, execOp ρ o = execOp ρ (opr d x ty)) ∧ Region.wanted o (yielded ops ρ) = b := by
  obtain ⟨o, ho, h⟩ := Option.map_eq_some_iff.1 hi
  obtain ⟨o', ho', h'⟩ := Option.map_eq_some_iff.1 hg
  obtain rfl : o' = o := Option.some.inj (ho'.symm.trans ho)
  simp only [Prod.mk.injEq] at h
  obtain ⟨rfl, rfl, rfl⟩ := h
  exact ⟨o', ho, rfl, fun ρ => execOp_opr ρ o', h'⟩

/-- An operation that only looks. -/
theorem mix_take {i : Nat} {σ : List (Nat × Bool)} {K : Act → World → Prop} {a : Act} {w : World} (hK : ∀ a w, wpMix P ops S Q ((i, true) :: σ) a w → K a w) (d : Option Tmp) (x : Op) (ty : TypeId) (v : Value)
    (hi : (ops[i]?).map (fun o => (o.dst, o.op, o.type)) = some (d, x, ty))
    (hg : (ops[i]?).map (fun o => Region.wanted o (yielded ops a.tmps)) = some true) (hv : ∀ w, S w → (execOp a.eval (opr d x ty)).run P w = .ok (.value v) w)
    (h : ∀ K2 : Act → World → Prop, (∀ a w, wpMix P ops S Q σ a w → K2 a w) → K2 (a.put d v) w) : K a w := by
  obtain ⟨o, h1, rfl, h3, h4⟩ := opr_of hi hg
  exact hK a w ⟨o, v, h1, .inl ⟨h4, fun w hw => by rw [h3]; exact hv w hw⟩, h _ fun _ _ h => h⟩

/-- A function with a body is entered. -/
theorem enters {P : Program} {f : FuncId} {fn : Func} (hf : P.funcs[f]? = some fn) (hn : (fn.name == "runtime.NumGoroutine") = false) (hb : fn.body.isNone = false) (args : Array Value) (w : World) : (callFunc f args).run P w = .ok (.enter f args) w := by
  have h1 : fn.name ≠ "runtime.NumGoroutine" := by simpa using hn
  have h2 : ¬ fn.body = none := by intro h; simp [h] at hb
  simp [callFunc, hf, h1, h2]

/-- A call of a Go function. -/
theorem mix_call {i : Nat} {σ : List (Nat × Bool)} {K : Act → World → Prop} {a : Act} {w : World} (hK : ∀ a w, wpMix P ops S Q ((i, false) :: σ) a w → K a w) (d : Option Tmp) (f : FuncId) (xs : Array Operand) (tys : Array TypeId) (ty : TypeId) (args : Array Value)
    (hi : (ops[i]?).map (fun o => (o.dst, o.op, o.type)) = some (d, .call { callee := .value (.func f), args := xs, argTypes := tys }, ty))
    (hg : (ops[i]?).map (fun o => Region.wanted o (yielded ops a.tmps)) = some true) (hf : ∀ args w, (callFunc f args).run P w = .ok (.enter f args) w) (ha : xs.map a.eval = args)
    (h : ∀ K2 : Act → World → Prop, (∀ a w, wpMix P ops S Q σ a w → K2 a w) → Calls P f args w fun e w' => ∃ v, e = .returned v ∧ S w' ∧ K2 (a.put d v) w') : K a w := by
  obtain ⟨o, h1, rfl, h3, h4⟩ := opr_of hi hg
  refine hK a w ?_
  show wpOp P ops Q i _ a w
  unfold wpOp
  simp only [h1, h4, if_true]
  refine .inl ?_
  unfold Oper.wp
  have he : (execOp a.eval o).run P w = .ok (.enter f args) w := by
    rw [h3]
    simp [execOp, opr, resolve, invoke, Act.eval, hf, ha, go_sem]
  rw [he]
  refine (h _ fun _ _ h => h).mono ?_
  rintro e w' ⟨v, rfl, h1, h2⟩
  exact ⟨h1, h2⟩

/-- Begin, where several may come up. -/
theorem any_begin {id : Nat} {a : Act} {w : World} (S : World → Prop) (hm : P.follows .mixedOrders = true)
    (h : ∀ K : Act → World → Prop, (∀ a w, wpAnyH P .any ops Q S ops.size (Array.replicate ops.size false) a w → K a w) → K a w.drew) : (Code.region id ops true).wp P Q a w :=
  wp_region_held (S := S) hm (h _ fun _ _ h => h)

theorem any_take {i fuel : Nat} {listed : Array Bool} {K : Act → World → Prop} {a : Act} {w : World} (hK : ∀ a w, wpAnyH P md ops Q S (fuel + 1) listed a w → K a w) (d : Option Tmp) (x : Op) (ty : TypeId) (v : Value)
    (hs : (Region.noSelect ops && Region.free md ops listed i && (Region.ready md ops listed).contains i) = true) (hQ : ∀ (c : _) (d : Option Tmp) (v : Value) (a : Act) (w : World), Q (.panic c) (a.put d v) w → Q (.panic c) a w)
    (hi : (ops[i]?).map (fun o => (o.dst, o.op, o.type)) = some (d, x, ty)) (hg : (ops[i]?).map (fun o => Region.wanted o (yielded ops a.tmps)) = some true)
    (hv : ∀ w, S w → (execOp a.eval (opr d x ty)).run P w = .ok (.value v) w) (hS : S w)
    (h : ∀ K2 : Act → World → Prop, (∀ a w, wpAnyH P md ops Q S fuel (listed.setIfInBounds i true) a w → K2 a w) → K2 (a.put d v) w) : K a w := by
  obtain ⟨o, h1, rfl, h3, h4⟩ := opr_of hi hg
  simp only [Bool.and_eq_true] at hs
  exact hK a w (wpAnyH_take h1 hs.1.1 hs.1.2 hs.2 (fun c a w => hQ c o.dst v a w) (.inl ⟨h4, fun w hw => by rw [h3]; exact hv w hw⟩) hS (h _ fun _ _ h => h))

/-- Of several operations each may come up. -/
theorem any_pick {rs : List Nat} {fuel : Nat} {listed : Array Bool} {K : Act → World → Prop} {a : Act} {w : World} (hK : ∀ a w, wpAnyH P md ops Q S (fuel + 1) listed a w → K a w) (hr : (Region.ready md ops listed == rs && !rs.isEmpty) = true)
    (h : ∀ K2 : Nat → Act → World → Prop, (∀ i ∈ rs, ∀ a w, S w → wpAnyH P md ops Q S fuel (listed.setIfInBounds i true) a w → K2 i a w) → ∀ i ∈ rs, wpOp P ops Q i (K2 i) a w) : K a w := by
  simp only [Bool.and_eq_true, beq_iff_eq] at hr
  exact hK a w (wpAnyH_all hr.1 (by rintro rfl; simp at hr) fun i hi => h (fun i a' w' => S w' ∧ wpAnyH P md ops Q S fuel (listed.setIfInBounds i true) a' w') (fun _ _ _ _ h1 h2 => ⟨h1, h2⟩) i hi)

theorem any_done {fuel : Nat} {listed : Array Bool} {K : Act → World → Prop} {a : Act} {w : World} (hK : ∀ a w, wpAnyH P md ops Q S fuel listed a w → K a w) (hr : (Region.ready md ops listed).isEmpty = true) (h : Q .normal a w) : K a w :=
  hK a w (wpAnyH_done (by simpa using hr) h _)

/-- Any operation that comes in its one order. -/
theorem mix_chain {i : Nat} {σ : List (Nat × Bool)} {K : Act → World → Prop} {a : Act} {w : World} (hK : ∀ a w, wpMix P ops S Q ((i, false) :: σ) a w → K a w)
    (h : ∀ K2 : Act → World → Prop, (∀ a w, S w → wpMix P ops S Q σ a w → K2 a w) → wpOp P ops Q i K2 a w) : K a w :=
  hK a w (h (fun a' w' => S w' ∧ wpMix P ops S Q σ a' w') (fun _ _ h1 h2 => ⟨h1, h2⟩))

/-- What follows, behind a letter. -/
theorem any_more {fuel : Nat} {listed : Array Bool} {a : Act} {w : World} (h : ∀ K : Act → World → Prop, (∀ a w, wpAnyH P md ops Q S fuel listed a w → K a w) → K a w) : wpAnyH P md ops Q S fuel listed a w := h _ fun _ _ h => h

/-- An operation as a piece of a plain walk. -/
theorem op_plain {i : Nat} {K : Act → World → Prop} {a : Act} {w : World} (d : Option Tmp) (x : Op) (ty : TypeId) (hi : (ops[i]?).map (fun o => (o.dst, o.op, o.type)) = some (d, x, ty))
    (hg : (ops[i]?).map (fun o => Region.wanted o (yielded ops a.tmps)) = some true) (h : wpList P #[] (Exit.then K Q) [{ dst := d, op := x, type := ty, pos := "", after := #[], guard := none }] a w) : wpOp P ops Q i K a w := by
  obtain ⟨o, h1, h2, h3, h4⟩ := opr_of hi hg
  unfold wpOp
  simp only [h1, h4, if_true]
  unfold wpList at h
  rw [if_pos (by simp [Region.wanted])] at h
  have he : ∀ ρ, execOp ρ o = execOp ρ { dst := d, op := x, type := ty, pos := "", after := #[], guard := none } := h3
  rcases h with h | ⟨h5, h6⟩
  · left
    unfold Oper.wp at *
    rw [he]
    revert h
    generalize (execOp a.eval { dst := d, op := x, type := ty, pos := "", after := #[], guard := none }).run P w = r
    intro h
    subst h2
    cases r with
    | ok n w' =>
      cases n <;> first | exact h | skip
    | halt s w' => cases s <;> exact h
  · right
    refine ⟨?_, h6⟩
    unfold Oper.asks at *
    rw [he]
    exact h5

/-- A slice that holds a row of elements of several cells each, nil included. -/
def IsRowS (w : World) (size : Nat) (v : Value) (m : Nat) (news : List Value) : Prop :=
  (v = .slice none 0 0 ∧ m = 0 ∧ news = []) ∨ ∃ ad c, v = .slice (some ad) m c ∧ news.length = m * size ∧ ∀ j u, news[j]? = some u → w.cell? (ad.add j) = some u

theorem owns_newS (w : World) (c : Array Value) (e : TypeId) (size n : Nat) (hc : c.size = n * size) (hm : n ≤ maxLen) : (w.alloc (.cells c e)).ownsRow w.heap.size e size (.slice (some ⟨w.heap.size, 0, none⟩) n n) n c.toList :=
  ⟨by simpa using hc, .inr ⟨w.heap.size, n, c, rfl, Nat.le_refl _, heap_alloc_new w _, Nat.le_refl _, hm, hc, List.take_of_length_le (by simp [hc])⟩⟩

theorem isRowS_new (w : World) (c : Array Value) (t : TypeId) (size n : Nat) (hc : c.size = n * size) : IsRowS (w.alloc (.cells c t)) size (.slice (some ⟨w.heap.size, 0, none⟩) n n) n c.toList := by
  refine Or.inr ⟨_, _, rfl, by simpa using hc, fun j u hu => ?_⟩
  rw [addr_add]
  have hj : c[j]? = some u := by simpa using hu
  simp [hj]

theorem IsRowS.stay {S : Nat → Prop} {w w' : World} {size : Nat} {v : Value} {m : Nat} {news : List Value} (h : IsRowS w size v m news) (hs : Stay S w w') (hn : ∀ k, v.ownBlock = some k → ¬ S k) : IsRowS w' size v m news := by
  rcases h with h | ⟨ad, c, rfl, hm, hc⟩
  · exact .inl h
  · exact .inr ⟨ad, c, rfl, hm, fun j u hu => (hs.cell (p := ad.add j) (World.block_lt_of_cell? _ _ (hc j u hu)) (by rw [show (ad.add j).block = ad.block by unfold Addr.add; split <;> rfl]; exact hn ad.block rfl)).trans (hc j u hu)⟩

/-- A row is appended to an own row, whatever the elements' size: only its block may have turned; where the new row lies. -/
theorem appS {P : Program} {ops : Array Oper} {rest : List Oper} {o : Oper} {a : Act} {Q : Exit → Act → World → Prop} (hgd : o.guard = none) (s x : Operand) (t : TypeId)
    (ho : o.op = .call { callee := .builtin .append, args := #[s, x], argTypes := #[t, t] }) {w : World} {base n m size bytes : Nat} {e : TypeId} {z v sv : Value} {xs news : List Value} (hu : P.underlying t = some (.slice e))
    (hinfo : (P.info? e).map (fun i => (i.zero, i.size, i.bytes)) = some (some z, size, bytes)) (hz : z.cells.size = size) (hs0 : 0 < size) (hby : bytes ≤ 1000)
    (hown : w.ownsRow base e size v n xs) (hs : a.eval s = v) (hsrc : IsRowS w size sv m news) (hx : a.eval x = sv) (h1 : ∀ u ∈ news, u.oneCell' = true) (hn : n + m ≤ 1000000) (hbase : base ≤ w.heap.size)
    (h : ∀ v' w', w'.ownsRow base e size v' (n + m) (xs ++ news) → Stay (fun k => v.ownBlock = some k) w w' → (v'.ownBlock = v.ownBlock ∨ v'.ownBlock = some w.heap.size) → wpList P ops Q rest (a.put o.dst v') w') : wpList P ops Q (o :: rest) a w := by
  obtain ⟨i, hi, hzz⟩ := Option.map_eq_some_iff.1 hinfo
  simp only [Prod.mk.injEq] at hzz
  obtain ⟨g1, g2, g3⟩ := hzz
  rcases hsrc with ⟨rfl, rfl, rfl⟩ | ⟨ad, c, rfl, hm, hc⟩
  · exact wpList_append_own_none hgd s x t ho base e i size hu hi v n xs hs hown hx (h v w (by simpa using hown) (Stay.refl _ _) (.inl rfl))
  · have hb : (n + m) * bytes ≤ 140737488355328 := Nat.le_trans (Nat.mul_le_mul hn hby) (by decide)
    exact wpList_append_own_at _ hgd s x t ho base e i z size bytes hu hi g1 g2 g3 hz hs0 v n xs hs hown ad _ c news hx hm hc h1 (by unfold maxLen; omega) hb hbase
      (fun v' w' h2 h3 _ h5 => h v' w' h2 ((Stay.refl _ w).grown h3 fun k hk _ => hk) h5)

end

end Go.Proofs.Ytdhlgjkjdmejfaa
