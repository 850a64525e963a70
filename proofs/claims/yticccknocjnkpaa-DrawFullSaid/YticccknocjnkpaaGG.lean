/-
  Is a cell of a window its own; what is copied. No conditions.
  A drawn region in a fence, several orders of it. No conditions.
  What is copied, gathered in a row. No conditions.
-/
import Derived.Test.YticccknocjnkpaaGF
import Derived.Test.YticccknocjnkpaaGE
namespace Go.Proofs.Yticccknocjnkpaa
open Go.RowKit Go.Shelf

/-- What was copied, of places. -/
def drawC {P : Nat → Nat → Bool} (P2 : Nat → Nat → Bool) (Q : Nat → Nat → Wr) (l : List { q : Nat × Nat // P q.1 q.2 = true }) : List Wr := l.flatMap fun x => if P2 x.1.1 x.1.2 = true then [Q x.1.1 x.1.2] else []

section
variable {P P2 : Nat → Nat → Bool} {Q : Nat → Nat → Wr}

theorem drawC_snoc {l : List { q : Nat × Nat // P q.1 q.2 = true }} {x : { q : Nat × Nat // P q.1 q.2 = true }} : drawC P2 Q (l ++ [x]) = drawC P2 Q l ++ if P2 x.1.1 x.1.2 = true then [Q x.1.1 x.1.2] else [] := by
  unfold drawC
  rw [List.flatMap_append]
  simp

theorem drawC_len (l : List { q : Nat × Nat // P q.1 q.2 = true }) : (drawC P2 Q l).length ≤ l.length := by
  induction l with
  | nil => exact Nat.le_refl _
  | cons x l ih =>
    show ((if P2 x.1.1 x.1.2 = true then [Q x.1.1 x.1.2] else []) ++ drawC P2 Q l).length ≤ l.length + 1
    rw [List.length_append]
    split <;> simp <;> omega

theorem drawC_row (j : Nat) : ∀ k, drawC P2 Q (rowS P j k) = rowN (fun j k => P j k && P2 j k) Q j k
  | 0 => rfl
  | k + 1 => by
    show _ = rowN (fun j k => P j k && P2 j k) Q j k ++ if (P j k && P2 j k) = true then [Q j k] else []
    by_cases h : P j k = true
    · rw [rowS_hit h, drawC_snoc, drawC_row j k, h, Bool.true_and]
    · have hf : P j k = false := by simpa using h
      rw [rowS_miss h, drawC_row j k, hf, Bool.false_and, if_neg (by decide), List.append_nil]

theorem drawC_all (n : Nat) : ∀ j, drawC P2 Q (allS P n j) = allN (fun j k => P j k && P2 j k) Q n j
  | 0 => rfl
  | j + 1 => by
    show drawC P2 Q (allS P n j ++ rowS P j n) = allN _ Q n j ++ rowN _ Q j n
    rw [← drawC_all n j, ← drawC_row j n]
    unfold drawC
    rw [List.flatMap_append]

end

/-- Is the other cell the window's? -/
def copyP2 (L : List Wn) (p : Wn) (r : R) (x y : Int) (j k : Nat) : Bool := ownB L p (k - r.x + x) (j - r.y + y)

theorem drawC_copy {L : List Wn} {p : Wn} {r : R} {x y : Int} {a h : Nat} {f : Nat → Cl} (hx : farB x = false) (hy : farB y = false) : drawC (copyP2 L p r x y) (copyQ p r x y a h f) (ownS L p r) = copyA L p r x y a h f := by
  unfold ownS copyA
  rw [hx, hy]
  by_cases hr : rightB r = true
  · rw [if_pos hr, if_pos (by rw [hr]; rfl), drawC_all]
    rfl
  · rw [if_neg hr, if_neg (by simpa using hr)]
    rfl

theorem own_in {L : List Wn} {p : Wn} (hp : OkP p) (x y : Int) : ownB L p x y = (inB ⟨0, 0, p.w, p.h⟩ x y && (ownerL L (p.x + x) (p.y + y) == p.id)) := by
  have e : inB ⟨0, 0, p.w, p.h⟩ x y = (decide (0 ≤ x) && decide (x < p.w) && decide (0 ≤ y) && decide (y < p.h)) := by
    unfold OkP at hp
    unfold inB
    rw [Bool.eq_iff_iff]
    simp only [Bool.and_eq_true, decide_eq_true_eq]
    omega
  rw [e]
  rfl

end Go.Proofs.Yticccknocjnkpaa

namespace Go.Proofs.Yticccknocjnkpaa
open Go.RowKit Go.Shelf

section
variable {F : Fence} {n : Nat} {P : Program} {ops : Array Oper} {Q : Exit → Act → World → Prop} {md : Region.Mode} {S : World → Prop}

theorem anyI_begin {id : Nat} {a : Act} {w : World} (S : World → Prop) (hm : P.follows .mixedOrders = true)
    (h : ∀ K : Act → World → Prop, (∀ a w, wpAnyHI F n P .any ops Q S ops.size (Array.replicate ops.size false) a w → K a w) → K a w.drew) : (Code.region id ops true).wpIn F n P Q a w :=
  wpIn_region_any hm (wpAnyIn_of_held _ _ _ _ (h _ fun _ _ h => h))

theorem anyI_take (ft : Fit F P ops) {i fuel : Nat} {listed : Array Bool} {K : Act → World → Prop} {a : Act} {w : World} (hK : ∀ a w, wpAnyHI F n P md ops Q S (fuel + 1) listed a w → K a w) (d : Option Tmp) (x : Op) (ty : TypeId) (v : Value)
    (hs : (Region.noSelect ops && Region.free md ops listed i && (Region.ready md ops listed).contains i) = true) (hQ : ∀ (c : _) (d : Option Tmp) (v : Value) (a : Act) (w : World), Q (.panic c) (a.put d v) w → Q (.panic c) a w)
    (hi : (ops[i]?).map (fun o => (o.dst, o.op, o.type)) = some (d, x, ty)) (hg : (ops[i]?).map (fun o => Region.wanted o (yielded ops a.tmps)) = some true)
    (hv : ∀ w, S w → (execOp a.eval (opr d x ty)).run P w = .ok (.value v) w) (hS : S w)
    (h : ∀ K2 : Act → World → Prop, (∀ a w, wpAnyHI F n P md ops Q S fuel (listed.setIfInBounds i true) a w → K2 a w) → K2 (a.put d v) w) : K a w := by
  obtain ⟨o, h1, rfl, h3, h4⟩ := opr_of hi hg
  simp only [Bool.and_eq_true] at hs
  exact hK a w (wpAnyHI_first ft h1 (Region.noSelect_spec hs.1.1) (fun c a w => hQ c o.dst v a w) _ listed a w (Region.free_spec h1 hs.1.2) (by simpa using hs.2) (.inl ⟨h4, fun w hw => by rw [h3]; exact hv w hw⟩) hS (h _ fun _ _ h => h))

/-- Of several operations each may come up. -/
theorem anyI_pick {rs : List Nat} {fuel : Nat} {listed : Array Bool} {K : Act → World → Prop} {a : Act} {w : World} (hK : ∀ a w, wpAnyHI F n P md ops Q S (fuel + 1) listed a w → K a w) (hr : (Region.ready md ops listed == rs && !rs.isEmpty) = true)
    (h : ∀ K2 : Nat → Act → World → Prop, (∀ i ∈ rs, ∀ a w, S w → wpAnyHI F n P md ops Q S fuel (listed.setIfInBounds i true) a w → K2 i a w) → ∀ i ∈ rs, wpOpIn F n P ops Q i (K2 i) a w) : K a w := by
  simp only [Bool.and_eq_true, beq_iff_eq] at hr
  refine hK a w ⟨fun e => ?_, fun i hi => ?_⟩
  · rw [hr.1] at e
    rw [e] at hr
    exact absurd hr.2 (by decide)
  · rw [hr.1] at hi
    exact h (fun i a' w' => S w' ∧ wpAnyHI F n P md ops Q S fuel (listed.setIfInBounds i true) a' w') (fun _ _ _ _ h1 h2 => ⟨h1, h2⟩) i hi

theorem anyI_done {fuel : Nat} {listed : Array Bool} {K : Act → World → Prop} {a : Act} {w : World} (hK : ∀ a w, wpAnyHI F n P md ops Q S fuel listed a w → K a w) (hr : (Region.ready md ops listed).isEmpty = true) (h : Q .normal a w) : K a w := by
  refine hK a w ?_
  have hr' : Region.ready md ops listed = [] := by simpa using hr
  cases fuel with
  | zero => exact ⟨hr', h⟩
  | succ k => exact ⟨fun _ => h, fun i hi => by rw [hr'] at hi; cases hi⟩

/-- What follows, behind a letter. -/
theorem anyI_more {fuel : Nat} {listed : Array Bool} {a : Act} {w : World} (h : ∀ K : Act → World → Prop, (∀ a w, wpAnyHI F n P md ops Q S fuel listed a w → K a w) → K a w) : wpAnyHI F n P md ops Q S fuel listed a w := h _ fun _ _ h => h

/-- An operation whose run is known. -/
theorem anyI_run (ft : Fit F P ops) {i : Nat} {K : Act → World → Prop} {a : Act} {w : World} (d : Option Tmp) (x : Op) (ty : TypeId) (v : Value) (w' : World) (hi : (ops[i]?).map (fun o => (o.dst, o.op, o.type)) = some (d, x, ty))
    (hg : (ops[i]?).map (fun o => Region.wanted o (yielded ops a.tmps)) = some true) (hv : (execOp a.eval (opr d x ty)).run P w = .ok (.value v) w') (h : K (a.put d v) w') : wpOpIn F n P ops Q i K a w := by
  obtain ⟨o, h1, rfl, h3, h4⟩ := opr_of hi hg
  unfold wpOpIn
  simp only [h1, h4, if_true]
  unfold Oper.wpIn
  refine ⟨fun f _ => ft.fn f, ?_⟩
  have he : (o.semAt F.round a.eval).run P w = .ok (.value v) w' := by
    rw [ft.sem i o h1, h3]
    exact hv
  rw [he]
  exact h

/-- An operation that yields nothing, whose run is known. -/
theorem anyI_skip (ft : Fit F P ops) {i : Nat} {K : Act → World → Prop} {a : Act} {w : World} (d : Option Tmp) (x : Op) (ty : TypeId) (w' : World) (hi : (ops[i]?).map (fun o => (o.dst, o.op, o.type)) = some (d, x, ty))
    (hg : (ops[i]?).map (fun o => Region.wanted o (yielded ops a.tmps)) = some true) (hv : (execOp a.eval (opr d x ty)).run P w = .ok .skip w') (h : K (a.put d undef) w') : wpOpIn F n P ops Q i K a w := by
  obtain ⟨o, h1, rfl, h3, h4⟩ := opr_of hi hg
  unfold wpOpIn
  simp only [h1, h4, if_true]
  unfold Oper.wpIn
  refine ⟨fun f _ => ft.fn f, ?_⟩
  have he : (o.semAt F.round a.eval).run P w = .ok .skip w' := by
    rw [ft.sem i o h1, h3]
    exact hv
  rw [he]
  exact h

/-- A call. -/
theorem anyI_call (ft : Fit F P ops) {i : Nat} {K : Act → World → Prop} {a : Act} {w : World} (d : Option Tmp) (f : FuncId) (xs : Array Operand) (tys : Array TypeId) (ty : TypeId) (args : Array Value)
    (hi : (ops[i]?).map (fun o => (o.dst, o.op, o.type)) = some (d, .call { callee := .value (.func f), args := xs, argTypes := tys }, ty))
    (hg : (ops[i]?).map (fun o => Region.wanted o (yielded ops a.tmps)) = some true) (hf : ∀ args w, (callFunc f args).run P w = .ok (.enter f args) w) (ha : xs.map a.eval = args)
    (h : Calls P f args w fun e w' => ∃ v, e = .returned v ∧ K (a.put d v) w') : wpOpIn F n P ops Q i K a w := by
  obtain ⟨o, h1, rfl, h3, h4⟩ := opr_of hi hg
  unfold wpOpIn
  simp only [h1, h4, if_true]
  unfold Oper.wpIn
  refine ⟨fun f _ => ft.fn f, ?_⟩
  have he : (o.semAt F.round a.eval).run P w = .ok (.enter f args) w := by
    rw [ft.sem i o h1, h3]
    simp [execOp, opr, resolve, invoke, Act.eval, hf, ha, go_sem]
  rw [he]
  refine ⟨ft.deep, ?_⟩
  refine CallsIn.mono (ft.calls h) ?_
  rintro e w' ⟨v, rfl, h2⟩
  exact h2

end

end Go.Proofs.Yticccknocjnkpaa

namespace Go.Proofs.Yticccknocjnkpaa
open Go.RowKit Go.Shelf

theorem put_fa {q : Fm} {W : World} {f : Nat → Cl} {N : List Wr} (H : FAt W q f N) (x y : Int) (c : Cl) (hx : 0 ≤ x ∧ x < (q.G.w : Nat)) (hy : 0 ≤ y ∧ y < (q.G.h : Nat)) (hl : N.length ≤ 900000) :
    Calls Try.prog 43 #[.pointer (some ⟨q.b, 0, none⟩), .int .i64 x, .int .i64 y, .agg #[.int .i32 c.r, .int .i64 c.fg, .int .i64 c.bg, .int .i64 c.fl]] W fun e w' => ∃ v2, e = .returned (.bool true) ∧ FAt w' (q.with v2) (setF q.G.w q.G.h f x y c) (N ++ [Wr.of x y c]) ∧ Moved q (q.with v2) W w' := by
  have h1 := H.grid.w2
  have h2 := H.grid.h2
  have hi : insB q.G.w q.G.h x y = true := by
    obtain ⟨X, rfl⟩ : ∃ X : Nat, x = X := ⟨x.toNat, by omega⟩
    obtain ⟨Y, rfl⟩ : ∃ Y : Nat, y = Y := ⟨y.toNat, by omega⟩
    exact ins_nat (by omega) (by omega)
  have h := put43 q f N x y c W H (by unfold I64; omega) (by unfold I64; omega) hl
  refine h.mono ?_
  rintro e w' ⟨v2, he, ha, hm⟩
  rw [hi] at he
  unfold noteL at ha
  rw [if_pos hi] at ha
  exact ⟨v2, he, ha, hm⟩

theorem own_scr {L : List Wn} {p : Wn} (hp : OkP p) (u v : Int) : ownB L p u v = (inB ⟨p.x, p.y, p.w, p.h⟩ (p.x + u) (p.y + v) && (ownerL L (p.x + u) (p.y + v) == p.id)) := by
  have e : inB ⟨p.x, p.y, p.w, p.h⟩ (p.x + u) (p.y + v) = (decide (0 ≤ u) && decide (u < p.w) && decide (0 ≤ v) && decide (v < p.h)) := by
    unfold OkP at hp
    unfold inB
    rw [Bool.eq_iff_iff]
    simp only [Bool.and_eq_true, decide_eq_true_eq]
    omega
  rw [e]
  rfl

theorem drawC_mem {P : Nat → Nat → Bool} {P2 : Nat → Nat → Bool} {Q : Nat → Nat → Wr} {q : Wr} : ∀ (l : List { q : Nat × Nat // P q.1 q.2 = true }), q ∈ drawC P2 Q l → ∃ j k, P2 j k = true ∧ q = Q j k := by
  intro l h
  unfold drawC at h
  obtain ⟨x, _, hx⟩ := List.mem_flatMap.1 h
  by_cases hp : P2 x.1.1 x.1.2 = true
  · rw [if_pos hp] at hx
    exact ⟨_, _, hp, List.mem_singleton.1 hx⟩
  · rw [if_neg hp] at hx
    cases hx

/-- What is copied comes to cells of the window. -/
theorem copy_mem {L : List Wn} {p : Wn} {r : R} {x y : Int} {a h : Nat} {f : Nat → Cl} {P : Nat → Nat → Bool} {q : Wr} (l : List { q : Nat × Nat // P q.1 q.2 = true }) (hq : q ∈ drawC (copyP2 L p r x y) (copyQ p r x y a h f) l) : p.x ≤ q.x ∧ q.x < p.x + p.w ∧ p.y ≤ q.y ∧ q.y < p.y + p.h := by
  obtain ⟨j, k, hp, rfl⟩ := drawC_mem l hq
  unfold copyP2 ownB at hp
  simp only [Bool.and_eq_true, decide_eq_true_eq] at hp
  show p.x ≤ p.x + (k - r.x + x) ∧ p.x + (k - r.x + x) < p.x + p.w ∧ p.y ≤ p.y + (j - r.y + y) ∧ p.y + (j - r.y + y) < p.y + p.h
  omega

/-- Writes that are gathered in a row of one's own: wl: where it began; bc: the row's box. -/
structure MI (bc : Nat) (wl : World) (M : List Wr) (v : Value) (W : World) : Prop where
  row : Win W 6 v M.length (wrs M)
  st : Stay (fun j => j = bc) wl W
  vo : ∀ j, v.ownBlock = some j → wl.heap.size ≤ j
  nl : M = [] → v = .slice none 0 0
  cc : W.cell? ⟨bc, 0, none⟩ = some v
  cf : W.frozen? ⟨bc, 0, none⟩ = false

section
variable {bc : Nat} {wl W W' w1 w2 : World} {M : List Wr} {v v2 : Value}

theorem MI.cellsAt (H : MI bc wl M v W) : ∀ j, v.ownBlock = some j → CellsAt W j := by
  intro j hj
  cases hM : M with
  | nil =>
    rw [H.nl hM] at hj
    cases hj
  | cons a l => exact H.row.cellsAt (by decide) (by rw [hM]; simp) j hj

theorem MI.grown (H : MI bc wl M v W) {row : Option Nat} (hg : W.grownBy W' row) (hr : ∀ r, row = some r → wl.heap.size ≤ r ∧ ∃ o : Obj, W.heap[r]? = some o ∧ o.isCells = false) : MI bc wl M v W' :=
  ⟨H.row.stay (stay_row hg) (fun j hj => row_not hr (H.cellsAt j hj)), H.st.grown hg (fun k e hk => by have := (hr k e).1; omega), H.vo, H.nl,
    cell_kept H.cc hg (fun r e => (hr r e).2), (frozen_kept H.cc hg (fun r e => (hr r e).2)).trans H.cf⟩

theorem MI.keep (H : MI bc wl M v W) (hs : Stay (fun _ => False) W w1) : MI bc wl M v w1 :=
  ⟨H.row.stay hs (fun _ _ h => h), H.st.trans (hs.mono (fun _ _ h => h.elim)), H.vo, H.nl, keep_cell hs H.cc, keep_frozen hs H.cc H.cf⟩

/-- A write is gathered. -/
theorem MI.put (H : MI bc wl M v W) (hlt : bc < wl.heap.size) (p : Wr) (hs : Stay (fun _ => False) W w1) (hw : Win w2 6 v2 (M.length + 1) (wrs M ++ p.parts)) (hsa : Stay (fun j => v.ownBlock = some j) w1 w2) (hba : v2.ownBlock = v.ownBlock ∨ v2.ownBlock = some w1.heap.size) :
    MI bc wl (M ++ [p]) v2 (w2.setCell ⟨bc, 0, none⟩ v2) ∧ KeepsFrom wl.heap.size W (w2.setCell ⟨bc, 0, none⟩ v2) ∧ Stay (fun j => j < wl.heap.size → j = bc) W (w2.setCell ⟨bc, 0, none⟩ v2) := by
  have hlt1 : bc < w1.heap.size := World.block_lt_of_cell? _ _ (keep_cell hs H.cc)
  have hno : ¬ v.ownBlock = some bc := fun e => by have := H.vo bc e; omega
  have hc2 : w2.cell? ⟨bc, 0, none⟩ = some v := (hsa.cell (p := ⟨bc, 0, none⟩) hlt1 hno).trans (keep_cell hs H.cc)
  have hf2 : w2.frozen? ⟨bc, 0, none⟩ = false := (hsa.frozen (p := ⟨bc, 0, none⟩) hlt1 hno).trans (keep_frozen hs H.cc H.cf)
  have hst : Stay (fun j => j = bc) w2 (w2.setCell ⟨bc, 0, none⟩ v2) := (Stay.refl (fun j => j = bc) w2).setCell (p := ⟨bc, 0, none⟩) rfl _
  have hz1 := hs.size
  have hz2 := H.st.size
  have hv2 : ∀ j, v2.ownBlock = some j → wl.heap.size ≤ j := fun j hj => by
    rcases hba with e | e
    · exact H.vo j (by rw [← e]; exact hj)
    · rw [hj] at e
      cases e
      omega
  have hSW : Stay (fun j => v.ownBlock = some j) W w2 := (hs.mono (fun _ _ h => h.elim)).trans hsa
  refine ⟨⟨?_, ?_, hv2, fun e => absurd e (by simp), World.cell?_setCell_same' _ _ _ (by rw [hc2]; rfl), by rw [World.frozen?_setCell]; exact hf2⟩, ?_, ?_⟩
  · rw [show wrs (M ++ [p]) = wrs M ++ p.parts by unfold wrs; rw [List.flatMap_append]; simp, List.length_append]
    exact hw.stay hst (fun j hj e => by subst e; have := hv2 _ hj; omega)
  · exact (H.st.trans2 hSW (fun j hj e => by have := H.vo j e; omega)).trans hst
  · exact (keepsFrom_of_stay hs (fun _ h => h.elim)).trans ((keepsFrom_of_stay hsa (fun j hj => by
      intro o ho
      have hjW : j < W.heap.size := by
        have h1 := H.cellsAt j hj
        rcases Nat.lt_or_ge j W.heap.size with h | h
        · exact h
        · exfalso
          cases hM : M with
          | nil => rw [H.nl hM] at hj; cases hj
          | cons a l =>
            rcases H.row.2 with ⟨_, h0⟩ | ⟨g, o', cap, e, _, _, _, h3, _⟩
            · rw [hM] at h0; cases h0
            · rw [e] at hj
              cases hj
              have hp : 0 < (wrs M).length := by rw [wrs_len, hM]; simp
              have h9 : g < W.heap.size := World.block_lt_of_cell? _ _ (h3 0 _ (List.getElem?_eq_getElem hp))
              exact absurd h9 (Nat.not_lt.2 h)
      rw [hs.block j hjW (fun h => h)] at ho
      exact H.cellsAt j hj o ho)).trans (keepsFrom_of_stay hst (fun j hj => by subst hj; exact cellsAt_of hc2)))
  · exact ((hSW.mono (fun j _ e hj => by have := H.vo j e; omega)).trans (hst.mono (fun j _ e _ => e)))

end

end Go.Proofs.Yticccknocjnkpaa
