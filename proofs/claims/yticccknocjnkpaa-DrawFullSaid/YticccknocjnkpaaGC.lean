/-
  What a round of a loop over an iterator keeps. No conditions.
  A region that draws its order, with a call of yield in it: what only looks is taken first; calls come in their one order. No conditions.
  A loop over an iterator that is never left: no conditions.
  The cells of a rectangle that a window owns, handed out: walked. No conditions.
-/
import Derived.Test.YticccknocjnkpaaY4
import Derived.RangeFuncNested
import Derived.RangeFuncBound
import Derived.RangeFuncCalls
import Derived.RangeFuncLeaves
import Derived.Shelf.Abstract
import Derived.Shelf.RegionOpen
import Derived.WalkKit
import Derived.OwnWalkIn
import Derived.TacticsInMore
import Derived.LoopNIn
import Derived.LoopIn
import Derived.OrdersIn
namespace Go.Proofs.Yticccknocjnkpaa
open Go.RowKit Go.Shelf

/-- If something lies there it is cells. -/
def CellsAt (W : World) (j : Nat) : Prop := ∀ o, W.heap[j]? = some o → o.isCells = true

theorem cellsAt_of {W : World} {a : Addr} {v : Value} (h : W.cell? a = some v) : CellsAt W a.block := by
  obtain ⟨o, ho, hc⟩ := cells_of_cell h
  intro o' ho'
  rw [ho] at ho'
  cases ho'
  exact hc

theorem Win.cellsAt {w : World} {size n : Nat} {v : Value} {xs : List Value} (h : Win w size v n xs) (h1 : 0 < size) (hn : n ≠ 0) : ∀ j, v.ownBlock = some j → CellsAt w j := by
  have hl := h.1
  rcases h.2 with ⟨rfl, h0⟩ | ⟨g, o, cap, rfl, _, _, _, h3, _⟩
  · exact absurd h0 hn
  · intro j hj
    cases hj
    have hp : 0 < xs.length := by rw [hl]; exact Nat.mul_pos (Nat.pos_of_ne_zero hn) h1
    exact cellsAt_of (h3 0 _ (List.getElem?_eq_getElem hp))

theorem FAt.cellsAt {W : World} {q : Fm} {f : Nat → Cl} {L : List Wr} (h : FAt W q f L) : ∀ j, q.own j → CellsAt W j := by
  intro j hj
  rcases hj with rfl | (rfl | rfl | rfl) | hj
  · exact cellsAt_of h.box.c0
  · exact cellsAt_of h.grid.top
  · exact cellsAt_of (h.grid.rows 0 h.grid.h1)
  · exact cellsAt_of ((h.grid.pix 0 h.grid.size).1 0 _ rfl)
  · cases hL : L with
    | nil =>
      rw [h.vn hL] at hj
      cases hj
    | cons a l => exact h.row.cellsAt (by decide) (by rw [hL]; simp) j hj

theorem SAt.cellsAt {W : World} {q : Sm} {sw sh m : Int} {L : List Wn} (h : SAt W q sw sh m L) : ∀ j, q.own j → CellsAt W j := by
  intro j hj
  rcases hj with rfl | hj
  · exact cellsAt_of h.box.c0
  · obtain ⟨a, cap, e, hws, hz⟩ := h.row
    rw [e] at hj
    rcases hws.2.2.2 with ⟨rfl, _⟩ | ⟨g, rfl, _, _, ht⟩
    · cases hj
    · cases hj
      have hc : 0 < cap := by
        rcases Nat.eq_zero_or_pos cap with h0 | h0
        · exact absurd (hz h0) (by simp)
        · exact h0
      obtain ⟨v, hv⟩ := Option.isSome_iff_exists.1 (ht 0 (by omega)).1
      exact cellsAt_of hv

theorem keepsFrom_of_stay {B : Nat} {T : Nat → Prop} {W W' : World} (h : Stay T W W') (hc : ∀ j, T j → CellsAt W j) : KeepsFrom B W W' :=
  ⟨h.size, fun k o _ hk ho => (h.block k (Array.getElem?_eq_some_iff.1 hk).1 (fun t => by rw [hc k t o hk] at ho; cases ho)).trans hk⟩

theorem stay_row {W W' : World} {row : Option Nat} (hg : W.grownBy W' row) : Stay (fun k => row = some k) W W' :=
  ⟨hg.os, hg.tape, hg.output, hg.size, fun k hk hn => hg.block k hk (fun e => hn e.symm)⟩

theorem row_not {W : World} {row : Option Nat} {B : Nat} (hr : ∀ r, row = some r → B ≤ r ∧ ∃ o : Obj, W.heap[r]? = some o ∧ o.isCells = false) {j : Nat} (h : CellsAt W j) : ¬ row = some j := fun e => by
  obtain ⟨_, o, ho, hc⟩ := hr j e
  rw [h o ho] at hc
  cases hc

/-- No cell of it is a rune. -/
def Plain (c : Array Value) : Prop := ∀ (i : Nat) (n : Int), c[i]? ≠ some (Value.int .i32 n)

/-- What a round may turn: T, of what is older; and what is not plain. -/
def KpT (T : Nat → Prop) (n₀ : Nat) (A : World) (j : Nat) : Prop := (j < n₀ → T j) ∧ (n₀ ≤ j → ∀ c e, A.heap[j]? = some (.cells c e) → ¬ Plain c)

/-- What a round keeps. -/
def Kp (T : Nat → Prop) (n₀ : Nat) (A B : World) : Prop := Stay (KpT T n₀ A) A B

variable {T S : Nat → Prop} {n₀ : Nat} {A B C W W' : World}

theorem Kp.trans (h : Kp T n₀ A B) (k : Kp T n₀ B C) : Kp T n₀ A C :=
  Stay.trans2 h k (fun j hj t => ⟨t.1, fun hn c e hc hp => by
    have h1 : B.heap[j]? = A.heap[j]? := h.block j hj (fun s => s.2 hn c e hc hp)
    exact t.2 hn c e (h1.trans hc) hp⟩)

theorem Kp.putObj (w : World) (hw : n₀ ≤ w.heap.size) (W : World) (l : Nat) (o o' : Obj) (hl : w.heap.size ≤ l) (ho : W.heap[l]? = some o) (hc : o.isCells = false) (_ : o.isWalk = false) : Kp T n₀ W (W.putObj l o') :=
  (stay_row (grownBy_putObj' W l o')).mono (fun j _ e => by
    cases e
    exact ⟨fun h => by omega, fun _ c e hk => by rw [ho] at hk; cases hk; cases hc⟩)

/-- A step that turned S alone. -/
theorem Kp.of_stay (h : Stay S W W') (h1 : ∀ j, S j → j < n₀ → T j) (h2 : ∀ j, S j → n₀ ≤ j → ∀ c e, W.heap[j]? = some (.cells c e) → ¬ Plain c) : Kp T n₀ W W' :=
  h.mono (fun j _ s => ⟨h1 j s, h2 j s⟩)

theorem Kp.stay0 (h : Stay (fun _ => False) W W') : Kp T n₀ W W' := Kp.of_stay h (fun _ h => h.elim) (fun _ h => h.elim)

theorem plain_no {W : World} {j o : Nat} {n : Int} (h : W.cell? ⟨j, o, none⟩ = some (.int .i32 n)) : ∀ c e, W.heap[j]? = some (.cells c e) → ¬ Plain c := by
  intro c e hc hp
  refine hp o n ?_
  rw [← h]
  simp [World.cell?, hc]

/-- Notes that are not empty are not plain. -/
theorem FAt.notPlain {q : Fm} {f : Nat → Cl} {L : List Wr} (h : FAt W q f L) (hL : L ≠ []) : ∀ j, q.v.ownBlock = some j → ∀ c e, W.heap[j]? = some (.cells c e) → ¬ Plain c := by
  intro j hj
  have hl := h.row
  rcases hl.2 with ⟨e, h0⟩ | ⟨g, o, cap, e, _, _, _, h3, _⟩
  · exact absurd (List.eq_nil_of_length_eq_zero h0) hL
  · rw [e] at hj
    cases hj
    cases L with
    | nil => exact absurd rfl hL
    | cons a l => exact plain_no (h3 2 (.int .i32 a.r) rfl)

/-- While a loop draws into a frame: wl: where it began; nb: its counter. -/
structure BI (fq : Fm) (nb : Nat) (wl : World) (f : Nat → Cl) (N : List Wr) (k : Nat) (v : Value) (W : World) : Prop where
  fa : FAt W (fq.with v) f N
  st : Stay (fun j => fq.own j ∨ j = nb) wl W
  vo : ∀ j, v.ownBlock = some j → fq.own j ∨ (wl.heap.size ≤ j ∧ N ≠ [])
  nc : W.cell? ⟨nb, 0, none⟩ = some (.int .i64 (k : Nat))
  nf : W.frozen? ⟨nb, 0, none⟩ = false

variable {fq : Fm} {nb k : Nat} {wl w1 : World} {f g : Nat → Cl} {N : List Wr} {v : Value}

theorem BI.grown (H : BI fq nb wl f N k v W) {row : Option Nat} (hg : W.grownBy W' row) (hr : ∀ r, row = some r → wl.heap.size ≤ r ∧ ∃ o : Obj, W.heap[r]? = some o ∧ o.isCells = false) : BI fq nb wl f N k v W' :=
  ⟨H.fa.stay (stay_row hg) (fun j hj => row_not hr (H.fa.cellsAt j hj)), H.st.grown hg (fun k e hk => by have := (hr k e).1; omega), H.vo,
    cell_kept H.nc hg (fun r e => (hr r e).2), (frozen_kept H.nc hg (fun r e => (hr r e).2)).trans H.nf⟩

theorem BI.keep (H : BI fq nb wl f N k v W) (hs : Stay (fun _ => False) W w1) : BI fq nb wl f N k v w1 := by
  have hlt : nb < W.heap.size := World.block_lt_of_cell? _ _ H.nc
  exact ⟨H.fa.keep hs, H.st.trans (hs.mono (fun _ _ h => h.elim)), H.vo, keep_cell hs H.nc, (hs.frozen (p := ⟨nb, 0, none⟩) hlt (fun h => h)).trans H.nf⟩

/-- What may turn in a round. -/
theorem BI.turns (H : BI fq nb wl f N k v W) (hfq : ∀ j, fq.own j → j < wl.heap.size) (_hnb : nb < wl.heap.size) :
    (∀ j, (fq.with v).own j → j < wl.heap.size → fq.own j ∨ j = nb) ∧ (∀ j, (fq.with v).own j → wl.heap.size ≤ j → ∀ c e, W.heap[j]? = some (.cells c e) → ¬ Plain c) := by
  have key : ∀ j, (fq.with v).own j → fq.own j ∨ (v.ownBlock = some j ∧ wl.heap.size ≤ j ∧ N ≠ []) := fun j hj => by
    rcases hj with h | h | h
    · exact .inl (.inl h)
    · exact .inl (.inr (.inl h))
    · rcases H.vo j h with h1 | h1
      · exact .inl h1
      · exact .inr ⟨h, h1⟩
  refine ⟨fun j hj hlt => ?_, fun j hj hle => ?_⟩
  · rcases key j hj with h | h
    · exact .inl h
    · omega
  · rcases key j hj with h | ⟨h, _, hN⟩
    · have := hfq j h
      omega
    · exact H.fa.notPlain hN j h

/-- A cell is drawn, and counted. -/
theorem BI.put (H : BI fq nb wl f N k v W) (hfq : ∀ j, fq.own j → j < wl.heap.size) (hnb : nb < wl.heap.size) (hno : ¬ fq.own nb) {v2 : Value} (p : Wr) (ha : FAt w1 (fq.with v2) g (N ++ [p])) (hm : Moved (fq.with v) (fq.with v2) W w1) :
    BI fq nb wl g (N ++ [p]) (k + 1) v2 (w1.setCell ⟨nb, 0, none⟩ (.int .i64 ((k : Int) + 1))) ∧ w1.cell? ⟨nb, 0, none⟩ = some (.int .i64 (k : Nat)) ∧ w1.frozen? ⟨nb, 0, none⟩ = false ∧ KeepsFrom wl.heap.size W (w1.setCell ⟨nb, 0, none⟩ (.int .i64 ((k : Int) + 1))) ∧ Kp (fun j => fq.own j ∨ j = nb) wl.heap.size W (w1.setCell ⟨nb, 0, none⟩ (.int .i64 ((k : Int) + 1))) := by
  have hlt : nb < W.heap.size := World.block_lt_of_cell? _ _ H.nc
  have hnv : ¬ (fq.with v).own nb := fun h => by
    rcases h with h | h | h
    · exact hno (.inl h)
    · exact hno (.inr (.inl h))
    · rcases H.vo nb h with h1 | h1
      · exact hno h1
      · omega
  have hnv2 : ¬ (fq.with v2).own nb := fun h => by
    rcases hm.2 nb h with h1 | h1
    · exact hnv h1
    · omega
  have hc1 : w1.cell? ⟨nb, 0, none⟩ = some (.int .i64 (k : Nat)) := (hm.1.cell (p := ⟨nb, 0, none⟩) hlt hnv).trans H.nc
  have hf1 : w1.frozen? ⟨nb, 0, none⟩ = false := (hm.1.frozen (p := ⟨nb, 0, none⟩) hlt hnv).trans H.nf
  have hst : Stay (fun j => j = nb) w1 (w1.setCell ⟨nb, 0, none⟩ (.int .i64 ((k : Int) + 1))) := (Stay.refl (fun j => j = nb) w1).setCell (p := ⟨nb, 0, none⟩) rfl _
  have hlt1 : nb < w1.heap.size := World.block_lt_of_cell? _ _ hc1
  have hv2 : ∀ j, v2.ownBlock = some j → fq.own j ∨ (wl.heap.size ≤ j ∧ N ++ [p] ≠ []) := fun j hj => by
    rcases hm.2 j (.inr (.inr hj)) with h1 | h1
    · rcases h1 with h1 | h1 | h1
      · exact .inl (.inl h1)
      · exact .inl (.inr (.inl h1))
      · rcases H.vo j h1 with h2 | h2
        · exact .inl h2
        · exact .inr ⟨h2.1, by simp⟩
    · exact .inr ⟨Nat.le_trans H.st.size h1, by simp⟩
  obtain ⟨t1, t2⟩ := H.turns hfq hnb
  refine ⟨⟨ha.stay hst (fun j hj e => by subst e; exact hnv2 hj), ?_, hv2, World.cell?_setCell_same' _ _ _ (by rw [hc1]; rfl), by rw [World.frozen?_setCell]; exact hf1⟩, hc1, hf1, ?_, ?_⟩
  · refine (H.st.trans2 hm.1 (fun j hj h => ?_)).trans (hst.mono (fun _ _ e => .inr e))
    exact t1 j h hj
  · exact (keepsFrom_of_stay hm.1 (fun j hj => H.fa.cellsAt j hj)).trans (keepsFrom_of_stay hst (fun j hj => by subst hj; exact cellsAt_of hc1))
  · exact (Kp.of_stay hm.1 t1 t2).trans (Kp.of_stay hst (fun j hj _ => .inr hj) (fun j hj hle => by subst hj; omega))

end Go.Proofs.Yticccknocjnkpaa

namespace Go.Proofs.Yticccknocjnkpaa
open Go.RowKit

section
variable {F : Fence} {n : Nat} {P : Program} {ops : Array Oper} {Q : Exit → Act → World → Prop} {md : Region.Mode} {S : World → Prop}

/-- A fence that fits: all functions, any depth; no operation is a 'defer'. -/
structure Fit (F : Fence) (P : Program) (ops : Array Oper) : Prop where
  fn : ∀ f, F.fn f
  depth : F.depth = none
  sem : ∀ (i : Nat) (o : Oper), ops[i]? = some o → ∀ ρ, o.semAt F.round ρ = execOp ρ o
  calls : ∀ {m : Nat} {f : FuncId} {args : Array Value} {w : World} {R : Ending → World → Prop}, Calls P f args w R → CallsIn F m P f args w R

theorem fit_wide (P : Program) (ops : Array Oper) : Fit Fence.wide P ops := ⟨fun _ => trivial, rfl, fun _ _ _ _ => rfl, fun h => callsIn_wide.2 h⟩

def noDefer (ops : Array Oper) : Bool := ops.toList.all fun o => match o.op with | .defer _ => false | _ => true

theorem fit_round (P : Program) (ops : Array Oper) (l : Nat) (h : noDefer ops = true) : Fit (Fence.wide.inRound l) P ops := ⟨fun _ => trivial, rfl, fun i o hi ρ => Oper.semAt_some l ρ o (fun c e => by
  have hm : o ∈ ops.toList := by
    rw [Array.mem_toList_iff]
    exact Array.mem_of_getElem? hi
  have := List.all_eq_true.1 h o hm
  rw [e] at this
  cases this), fun h => CallsIn.inRound l (callsIn_wide.2 h)⟩

theorem Fit.deep (ft : Fit F P ops) {k : Nat} : F.depth.isSome = true → 1 ≤ k := fun e => by rw [ft.depth] at e; cases e

theorem yieldsIf_wpOpIn (ft : Fit F P ops) {i : Nat} {o : Oper} {v : Value} {a : Act} (hi : ops[i]? = some o) (hy : YieldsIf P ops S o v a)
    {K : Act → World → Prop} {w : World} (hS : S w) (h : K (a.put o.dst v) w) : wpOpIn F n P ops Q i K a w := by
  unfold Go.wpOpIn
  simp only [hi]
  rcases hy with ⟨hw, hv⟩ | ⟨hw, rfl⟩
  · simp only [hw, if_true, Oper.wpIn, ft.sem i o hi, hv w hS, Oper.uponIn]; exact ⟨fun f _ => ft.fn f, h⟩
  · simp only [hw, Bool.false_eq_true, if_false]; exact ⟨fun f _ => ft.fn f, h⟩

theorem wpOpIn_putIf (ft : Fit F P ops) {j : Nat} {oi oj : Oper} {v : Value} (hj : ops[j]? = some oj) (hap : oi.apart ops oj = true)
    (hsi : ∀ cs b, oi.op ≠ .select cs b) (hsj : ∀ cs b, oj.op ≠ .select cs b)
    (hQ : ∀ c a w, Q (.panic c) (a.put oi.dst v) w → Q (.panic c) a w) {K : Act → World → Prop} {a : Act} {w : World}
    (hy : YieldsIf P ops S oi v a) (h : wpOpIn F n P ops Q j K (a.put oi.dst v) w) :
    wpOpIn F n P ops Q j (fun a' w' => YieldsIf P ops S oi v a' ∧ K (a'.put oi.dst v) w') a w := by
  have hsm := ft.sem j oj hj
  obtain ⟨h1, h2, h3⟩ := Oper.apart_spec hap
  have keep : ∀ (a : Act), YieldsIf P ops S oi v a → ∀ u, YieldsIf P ops S oi v (a.put oj.dst u) := fun a hy u =>
    hy.of_same (execOp_put oi hsi a oj.dst u h3) (wanted_put oi a oj.dst u h3)
  have keepD : ∀ d, YieldsIf P ops S oi v { a with defers := d :: a.defers } := fun d => hy.of_same rfl rfl
  unfold wpOpIn at *
  simp only [hj] at *
  rw [wanted_put oj a oi.dst v h1, about_put oj w a oi.dst v h1] at h
  split
  · rename_i hw
    simp only [hw, if_true] at h
    unfold Oper.wpIn at *
    rw [about_put oj w a oi.dst v h1] at h
    refine ⟨h.1, ?_⟩
    have h := h.2
    rw [hsm, execOp_put oj hsj a oi.dst v h1] at h
    rw [hsm]
    generalize (execOp a.eval oj).run P w = r at *
    cases r with
    | ok x w' =>
      cases x <;> simp only [Oper.uponIn] at h ⊢
      case value u => exact ⟨keep a hy u, by rw [← Act.put_comm a v u h2]; exact h⟩
      case skip => exact ⟨keep a hy _, by rw [← Act.put_comm a v undef h2]; exact h⟩
      case defer d =>
        refine ⟨keep _ (keepD d) _, ?_⟩
        rw [← Act.put_comm _ v undef h2, ← Act.put_defers]
        exact h
      case enter f args =>
        refine ⟨h.1, CallsIn.mono h.2 fun e w'' he => ?_⟩
        cases e with
        | returned u => exact ⟨keep a hy u, by rw [← Act.put_comm a v u h2]; exact he⟩
        | panicked c => exact hQ _ _ _ he
        | outgrown => exact he
      case row row args => exact ⟨h.1, RowsIn.mono h.2 fun u w'' he => ⟨keep a hy u, by rw [← Act.put_comm a v u h2]; exact he⟩⟩
      case round l f tmps assign body =>
        refine ⟨h.1, RoundIn.mono h.2 fun e w'' he => ?_⟩
        cases e with
        | returned u => exact ⟨keep a hy u, by rw [← Act.put_comm a v u h2]; exact he⟩
        | panicked c => exact hQ _ _ _ he
        | outgrown => exact he
    | halt x w' =>
      cases x <;> simp only [Oper.uponIn] at h ⊢
      case panic u => exact hQ _ _ _ h
  · rename_i hw
    simp only [hw] at h
    exact ⟨h.1, keep a hy _, by rw [← Act.put_comm a v undef h2]; exact h.2⟩

/-- Whatever order is picked from here on; S holds behind every operation that is carried out. -/
def wpAnyHI (F : Fence) (n : Nat) (P : Program) (md : Region.Mode) (ops : Array Oper) (Q : Exit → Act → World → Prop) (S : World → Prop) : Nat → Array Bool → Act → World → Prop
  | 0, listed, a, w => Region.ready md ops listed = [] ∧ Q .normal a w
  | fuel + 1, listed, a, w =>
    (Region.ready md ops listed = [] → Q .normal a w) ∧
    ∀ i ∈ Region.ready md ops listed, wpOpIn F n P ops Q i (fun a' w' => S w' ∧ wpAnyHI F n P md ops Q S fuel (listed.setIfInBounds i true) a' w') a w

theorem wpAnyIn_of_held : ∀ (fuel : Nat) (listed : Array Bool) (a : Act) (w : World), wpAnyHI F n P md ops Q S fuel listed a w → wpAnyIn F n P md ops Q fuel listed a w
  | 0, _, _, _, h => h
  | fuel + 1, _, _, _, h => ⟨h.1, fun i hi => wpOpIn_mono (fun a' w' h' => wpAnyIn_of_held fuel _ a' w' h'.2) (h.2 i hi)⟩

theorem wpAnyHI_first (ft : Fit F P ops) {i : Nat} {oi : Oper} {v : Value} (hi : ops[i]? = some oi) (hsel : ∀ (j : Nat) (o : Oper) cs b, ops[j]? = some o → o.op ≠ .select cs b)
    (hQ : ∀ c a w, Q (.panic c) (a.put oi.dst v) w → Q (.panic c) a w) :
    ∀ (fuel : Nat) (listed : Array Bool) (a : Act) (w : World),
      (∀ j oj, ops[j]? = some oj → j ≠ i → listed.getD j true = false → (∀ e ∈ oj.after, Region.binds md e = true → e.on ≠ i) → oi.apart ops oj = true) →
      i ∈ Region.ready md ops listed → YieldsIf P ops S oi v a → S w →
      wpAnyHI F n P md ops Q S fuel (listed.setIfInBounds i true) (a.put oi.dst v) w → wpAnyHI F n P md ops Q S (fuel + 1) listed a w := by
  intro fuel
  induction fuel with
  | zero =>
    intro listed a w _ hr hy hS H
    refine ⟨fun h => (by rw [h] at hr; cases hr), fun j hj => ?_⟩
    by_cases hji : j = i
    · subst hji; exact yieldsIf_wpOpIn ft hi hy hS ⟨hS, H⟩
    · have := ready_mono hj hji
      rw [H.1] at this
      cases this
  | succ fuel ih =>
    intro listed a w hfree hr hy hS H
    refine ⟨fun h => (by rw [h] at hr; cases hr), fun j hj => ?_⟩
    by_cases hji : j = i
    · subst hji; exact yieldsIf_wpOpIn ft hi hy hS ⟨hS, H⟩
    · have h1 := H.2 j (ready_mono hj hji)
      obtain ⟨hjun, oj, hoj, hall⟩ := mem_ready.1 hj
      have hnot : ∀ e ∈ oj.after, Region.binds md e = true → e.on ≠ i := fun e he hb heq => by
        have h1 := hall e he hb
        have h0 := (mem_ready.1 hr).1
        rw [heq] at h1
        rcases Nat.lt_or_ge i listed.size with h' | h'
        · simp [h'] at h0 h1; rw [h0] at h1; cases h1
        · simp [Array.getElem?_eq_none h'] at h1
      have h2 := wpOpIn_putIf ft hoj (hfree j oj hoj hji hjun hnot) (fun cs b => hsel i oi cs b hi) (fun cs b => hsel j oj cs b hoj) hQ hy h1
      have hfree' : ∀ k ok, ops[k]? = some ok → k ≠ i → (listed.setIfInBounds j true).getD k true = false →
          (∀ e ∈ ok.after, Region.binds md e = true → e.on ≠ i) → oi.apart ops ok = true := fun k ok hk hki hun hno => by
        refine hfree k ok hk hki ?_ hno
        by_cases hjk : j = k
        · subst hjk; exact hjun
        · rw [getD_set_ne true hjk] at hun; exact hun
      refine wpOpIn_mono (fun a' w' h3 => ⟨h3.2.1, ih (listed.setIfInBounds j true) a' w' hfree' (ready_mono hr (Ne.symm hji)) h3.1 h3.2.1 ?_⟩) h2
      rw [Array.setIfInBounds_comm _ _ hji]
      exact h3.2.2

/-- The walk of a region by a plan, in a fence. -/
def wpMixI (F : Fence) (n : Nat) (P : Program) (ops : Array Oper) (S : World → Prop) (Q : Exit → Act → World → Prop) : List (Nat × Bool) → Act → World → Prop
  | [], a, w => Q .normal a w
  | (i, true) :: r, a, w => ∃ o v, ops[i]? = some o ∧ YieldsIf P ops S o v a ∧ wpMixI F n P ops S Q r (a.put o.dst v) w
  | (i, false) :: r, a, w => wpOpIn F n P ops Q i (fun a' w' => S w' ∧ wpMixI F n P ops S Q r a' w') a w

theorem anyHI_of_mix (ft : Fit F P ops) (hs : Region.noSelect ops = true) (hQ : ∀ (c : _) (d : Option Tmp) (v : Value) (a : Act) (w : World), Q (.panic c) (a.put d v) w → Q (.panic c) a w) :
    ∀ (σ : List (Nat × Bool)) (listed : Array Bool) (a : Act) (w : World), mixB md ops σ listed = true → S w → wpMixI F n P ops S Q σ a w → wpAnyHI F n P md ops Q S σ.length listed a w
  | [], listed, a, w, hB, _, h => ⟨by simpa [mixB] using hB, h⟩
  | (i, true) :: r, listed, a, w, hB, hS, h => by
    simp only [mixB, Bool.and_eq_true] at hB
    obtain ⟨⟨h1, h2⟩, h3⟩ := hB
    obtain ⟨o, v, hi, hy, hr⟩ := h
    exact wpAnyHI_first ft hi (Region.noSelect_spec hs) (fun c a w => hQ c o.dst v a w) _ listed a w (Region.free_spec hi h2) (by simpa using h1) hy hS (anyHI_of_mix ft hs hQ r _ _ _ h3 hS hr)
  | (i, false) :: r, listed, a, w, hB, hS, h => by
    simp only [mixB, Bool.and_eq_true, beq_iff_eq] at hB
    obtain ⟨h1, h3⟩ := hB
    refine ⟨fun h0 => absurd (h1 ▸ h0) (by simp), fun j hj => ?_⟩
    rw [h1] at hj
    obtain rfl : j = i := by simpa using hj
    exact wpOpIn_mono (fun a' w' h' => ⟨h'.1, anyHI_of_mix ft hs hQ r _ a' w' h3 h'.1 h'.2⟩) h

theorem wpIn_region_mix (ft : Fit F P ops) {id : Nat} {a : Act} {w : World} (S : World → Prop) (σ : List (Nat × Bool)) (hm : P.follows .mixedOrders = true)
    (hB : (Region.noSelect ops && (σ.length == ops.size) && mixB .any ops σ (Array.replicate ops.size false)) = true)
    (hQ : ∀ (c : _) (d : Option Tmp) (v : Value) (a : Act) (w : World), Q (.panic c) (a.put d v) w → Q (.panic c) a w)
    (hS : S w.drew) (h : wpMixI F n P ops S Q σ a w.drew) : (Code.region id ops true).wpIn F n P Q a w := by
  simp only [Bool.and_eq_true, beq_iff_eq] at hB
  obtain ⟨⟨h1, h2⟩, h3⟩ := hB
  refine wpIn_region_any hm (wpAnyIn_of_held (S := S) _ _ _ _ ?_)
  rw [← h2]
  exact anyHI_of_mix ft h1 hQ σ _ a _ (by rw [h2]; exact h3) hS h

theorem mixI_nil {a : Act} {w : World} (h : Q .normal a w) : wpMixI F n P ops S Q [] a w := h

theorem mixI_begin {σ : List (Nat × Bool)} {a : Act} {w : World} (h : ∀ K : Act → World → Prop, (∀ a w, wpMixI F n P ops S Q σ a w → K a w) → K a w) : wpMixI F n P ops S Q σ a w := h _ (fun _ _ h => h)

theorem mixI_skip (ft : Fit F P ops) {i : Nat} {b : Bool} {σ : List (Nat × Bool)} {K : Act → World → Prop} {a : Act} {w : World} (hK : ∀ a w, wpMixI F n P ops S Q ((i, b) :: σ) a w → K a w) (d : Option Tmp) (hd : (ops[i]?).map (·.dst) = some d)
    (hg : (ops[i]?).map (fun o => Region.wanted o (yielded ops a.tmps)) = some false) (hS : S w) (h : ∀ K2 : Act → World → Prop, (∀ a w, wpMixI F n P ops S Q σ a w → K2 a w) → K2 (a.put d undef) w) : K a w := by
  obtain ⟨o, hi, rfl⟩ := Option.map_eq_some_iff.1 hd
  rw [hi] at hg
  have hg' : Region.wanted o (yielded ops a.tmps) = false := by simpa using hg
  refine hK a w ?_
  cases b with
  | true => exact ⟨o, undef, hi, .inr ⟨hg', rfl⟩, h _ fun _ _ h => h⟩
  | false =>
    show wpOpIn F n P ops Q i _ a w
    unfold wpOpIn
    simp only [hi, hg', Bool.false_eq_true, if_false]
    exact ⟨fun f _ => ft.fn f, hS, h _ fun _ _ h => h⟩

theorem mixI_take {i : Nat} {σ : List (Nat × Bool)} {K : Act → World → Prop} {a : Act} {w : World} (hK : ∀ a w, wpMixI F n P ops S Q ((i, true) :: σ) a w → K a w) (d : Option Tmp) (x : Op) (ty : TypeId) (v : Value)
    (hi : (ops[i]?).map (fun o => (o.dst, o.op, o.type)) = some (d, x, ty))
    (hg : (ops[i]?).map (fun o => Region.wanted o (yielded ops a.tmps)) = some true) (hv : ∀ w, S w → (execOp a.eval (opr d x ty)).run P w = .ok (.value v) w)
    (h : ∀ K2 : Act → World → Prop, (∀ a w, wpMixI F n P ops S Q σ a w → K2 a w) → K2 (a.put d v) w) : K a w := by
  obtain ⟨o, h1, rfl, h3, h4⟩ := opr_of hi hg
  exact hK a w ⟨o, v, h1, .inl ⟨h4, fun w hw => by rw [h3]; exact hv w hw⟩, h _ fun _ _ h => h⟩

theorem mixI_call (ft : Fit F P ops) {i : Nat} {σ : List (Nat × Bool)} {K : Act → World → Prop} {a : Act} {w : World} (hK : ∀ a w, wpMixI F n P ops S Q ((i, false) :: σ) a w → K a w) (d : Option Tmp) (f : FuncId) (xs : Array Operand) (tys : Array TypeId) (ty : TypeId) (args : Array Value)
    (hi : (ops[i]?).map (fun o => (o.dst, o.op, o.type)) = some (d, .call { callee := .value (.func f), args := xs, argTypes := tys }, ty))
    (hg : (ops[i]?).map (fun o => Region.wanted o (yielded ops a.tmps)) = some true) (hf : ∀ args w, (callFunc f args).run P w = .ok (.enter f args) w) (ha : xs.map a.eval = args)
    (h : ∀ K2 : Act → World → Prop, (∀ a w, wpMixI F n P ops S Q σ a w → K2 a w) → Calls P f args w fun e w' => ∃ v, e = .returned v ∧ S w' ∧ K2 (a.put d v) w') : K a w := by
  obtain ⟨o, h1, rfl, h3, h4⟩ := opr_of hi hg
  refine hK a w ?_
  show wpOpIn F n P ops Q i _ a w
  unfold wpOpIn
  simp only [h1, h4, if_true]
  unfold Oper.wpIn
  refine ⟨fun f _ => ft.fn f, ?_⟩
  have he : (o.semAt F.round a.eval).run P w = .ok (.enter f args) w := by
    rw [ft.sem i o h1, h3]
    simp [execOp, opr, resolve, invoke, Act.eval, hf, ha, go_sem]
  rw [he]
  refine ⟨ft.deep, ?_⟩
  refine CallsIn.mono (ft.calls (h _ fun _ _ h => h)) ?_
  rintro e w' ⟨v, rfl, h1, h2⟩
  exact ⟨h1, h2⟩

/-- A call of yield: a round. -/
theorem mixI_yield (ft : Fit F P ops) {i l m : Nat} {σ : List (Nat × Bool)} {K : Act → World → Prop} {a : Act} {w : World} (hK : ∀ a w, wpMixI F n P ops S Q ((i, false) :: σ) a w → K a w) (d : Option Tmp) (x : Operand) (xs : Array Operand) (tys : Array TypeId) (ty : TypeId) (args : Array Value)
    (hi : (ops[i]?).map (fun o => (o.dst, o.op, o.type)) = some (d, .call { callee := .value x, args := xs, argTypes := tys }, ty))
    (hg : (ops[i]?).map (fun o => Region.wanted o (yielded ops a.tmps)) = some true) (hx : a.eval x = .func (.yield l) #[] #[]) (ha : xs.map a.eval = args) {R : Ending → World → Prop} (hm : m = n - 1)
    (hy : YieldAt F m P l args w R)
    (h : ∀ K2 : Act → World → Prop, (∀ a w, wpMixI F n P ops S Q σ a w → K2 a w) → ∀ e w', R e w' → ∃ v, e = .returned v ∧ S w' ∧ K2 (a.put d v) w') : K a w := by
  subst hm
  obtain ⟨fn, tmps, assign, body, h5, h6⟩ := hy
  obtain ⟨o, h1, rfl, h3, h4⟩ := opr_of hi hg
  refine hK a w ?_
  show wpOpIn F n P ops Q i _ a w
  unfold wpOpIn
  simp only [h1, h4, if_true]
  unfold Oper.wpIn
  refine ⟨fun f _ => ft.fn f, ?_⟩
  have he : (o.semAt F.round a.eval).run P w = .ok (.round l fn tmps assign body) w := by
    rw [ft.sem i o h1, h3]
    simp only [execOp, opr, resolve, hx, ha]
    simp [invoke, h5, go_sem]
  rw [he]
  refine ⟨ft.deep, ?_⟩
  refine RoundIn.mono h6 ?_
  intro e w' hr
  obtain ⟨v, rfl, h7, h8⟩ := h _ (fun _ _ h => h) e w' hr
  exact ⟨h7, h8⟩

end

end Go.Proofs.Yticccknocjnkpaa

namespace Go.Proofs.Yticccknocjnkpaa
open Go.RowKit Go.Shelf

section
variable {n : Nat} {P : Program} {α : Type}

/-- An iterator that, if each round goes on, hands out all of S; between two rounds it may rely on what Kp keeps. -/
def SeqAll (n : Nat) (P : Program) (g : Nat) (lb : Array Value) (encs : α → Array Value) (Kp : World → World → Prop) (S : List α → Prop) (N : Nat) (w : World) : Prop :=
  ∀ (l : Nat) (J : List α → World → Prop) (W : World), Below w.heap.size w W → AbidesFrom W.heap.size J →
    (∀ pre x W1, J pre W1 → pre.length < N → YieldAt Fence.wide (n - 1) P l (encs x) W1 fun e W' => e = .returned (.bool true) ∧ J (pre ++ [x]) W' ∧ Kp W1 W') →
    J [] W →
    CallsIn Fence.wide n P g (#[.func (.yield l) #[] #[]] ++ lb) W fun e W' => (∃ v, e = .returned v) ∧ ∃ xs, S xs ∧ J xs W'

/-- How a round ends: it goes on. -/
def goesOn (B : Nat) (Kp : World → World → Prop) (I : World → Prop) (W : World) : Exit → Act → World → Prop
  | .normal, _, W' => KeepsFrom B W W' ∧ Kp W W' ∧ I W'
  | _, _, _ => False

/-- The loop. -/
theorem wpIn_rangeFunc_all {g : Operand} {ps : Array Tmp} {assign body : Code} {Q : Exit → Act → World → Prop} {a : Act} {w : World}
    {gf : Nat} {lb : Array Value} (hg : a.eval g = .func (.func gf) #[] lb) (eg : ∀ args w, (callFunc gf args).run P w = .ok (.enter gf args) w)
    {encs : α → Array Value} {Kp : World → World → Prop} {S : List α → Prop} {N : Nat} (hseq : SeqAll (n - 1) P gf lb encs Kp S N w)
    (hKt : ∀ {A B C : World}, Kp A B → Kp B C → Kp A C) (hKb : ∀ (W : World) (l : Nat) (o o' : Obj), w.heap.size ≤ l → W.heap[l]? = some o → o.isCells = false → o.isWalk = false → Kp W (W.putObj l o')) (hps : ∀ x, (encs x).size = ps.size)
    (I : List α → World → Prop) (hI : OwnFrom w.heap.size I) (h0 : I [] w) (a₁ : α → Act)
    (hassign : ∀ (l : Nat) (x : α) (W : World) (K : Act → World → Prop), K (a₁ x) W →
      assign.wpIn (Fence.wide.inRound l) (n - 1 - 1) P (Exit.then K (fun _ _ _ => False)) { tmps := (ps.zip (encs x)).foldl (fun t (p, v) => t.setIfInBounds p v) a.tmps, defers := [] } W)
    (hbody : ∀ (l : Nat) (pre : List α) (x : α) (W : World), I pre W → pre.length < N → body.wpIn (Fence.wide.inRound l) (n - 1 - 1) P (goesOn w.heap.size Kp (I (pre ++ [x])) W) (a₁ x) W)
    (hdone : ∀ (D : Nat) (xs : List α) (W : World), w.heap.size ≤ D → S xs → I xs W → W.heap[D]? = some (.deferred (some [])) → Q .normal { a with defers := { target := .collected D, args := #[] } :: a.defers } W) :
    (Code.rangeFunc g ps assign body).wpIn Fence.wide n P Q a w := by
  refine wpIn_rangeFunc ?_
  intro fn hfn
  obtain ⟨rc, hrc⟩ : ∃ rc : LoopState → Loop, rc = fun st => { state := st, pending := none, fn, tmps := a.tmps, params := ps, assign, body, defers := w.heap.size } := ⟨_, rfl⟩
  have hrp : ∀ st, (rc st).params = ps := fun st => by rw [hrc]
  obtain ⟨W1, hW1⟩ : ∃ W, W = (w.alloc (.deferred (some []))).alloc (.loop (rc .ready)) := ⟨_, rfl⟩
  have hL1 : W1.heap[w.heap.size + 1]? = some (.loop (rc .ready)) := by
    rw [hW1]
    have := World.alloc_heap_new (w.alloc (.deferred (some []))) (.loop (rc .ready))
    rwa [World.size_alloc] at this
  have hD1 : W1.heap[w.heap.size]? = some (.deferred (some [])) := by
    rw [hW1]
    exact (Below.heap_alloc _ _ _ (by simp)).trans (World.alloc_heap_new w _)
  have hI1 : I [] W1 := by rw [hW1]; exact hI.alloc _ (hI.alloc _ h0)
  have hb1 : Below w.heap.size w W1 := by rw [hW1]; exact ((Below.refl _ w).alloc (Nat.le_refl _) _).alloc (by simp) _
  have hz1 : W1.heap.size = w.heap.size + 2 := by rw [hW1]; simp
  refine ⟨w.heap.size + 1, [{ target := .collected w.heap.size, args := #[] }], W1, { target := .fn (.func gf) lb, args := #[.func (.yield (w.heap.size + 1)) #[] #[]] }, W1, gf, #[.func (.yield (w.heap.size + 1)) #[] #[]] ++ lb, W1, ?_, ?_, fun _ _ => trivial, by simp [invoke, go_sem, eg], fun e => (by cases e), ?_⟩
  · rw [hW1, hrc]
    exact run_enterLoop_outer _ _ _ _ _
  · simp only [resolve, hg]
    simp [go_sem]
  · refine (hseq (w.heap.size + 1) (fun pre W => I pre W ∧ W.heap[w.heap.size + 1]? = some (.loop (rc .ready)) ∧ W.heap[w.heap.size]? = some (.deferred (some []))) W1 hb1 ?_ ?_ ⟨hI1, hL1, hD1⟩).mono ?_
    · intro s A B row hs hg' hr
      have hc : ∀ r, row = some r → w.heap.size ≤ r ∧ ∃ o : Obj, A.heap[r]? = some o ∧ o.isCells = false := fun r e => by
        obtain ⟨h1, o, ho, hw⟩ := hr r e
        exact ⟨by omega, o, ho, Obj.not_cells_of_walk hw⟩
      have hw : ∀ r, row = some r → ∃ o : Obj, A.heap[r]? = some o ∧ o.isWalk = true := fun r e => (hr r e).2
      exact ⟨hI s A B row hs.1 hg' hc, (grownBy_keeps hg' hw hs.2.1 rfl).trans hs.2.1, (grownBy_keeps hg' hw hs.2.2 rfl).trans hs.2.2⟩
    · rintro pre x W ⟨hi, hl, hk⟩ hlen
      have hlt : w.heap.size + 1 < W.heap.size := (Array.getElem?_eq_some_iff.1 hl).1
      have hy := run_yield (P := P) (args := encs x) hl (by rw [hrp]; exact hps x)
      have hre : (rc .ready).fn = fn ∧ (rc .ready).tmps = a.tmps ∧ (rc .ready).params = ps ∧ (rc .ready).assign = assign ∧ (rc .ready).body = body := by rw [hrc]; exact ⟨rfl, rfl, rfl, rfl, rfl⟩
      rw [hre.1, hre.2.1, hre.2.2.1, hre.2.2.2.1, hre.2.2.2.2] at hy
      refine ⟨fn, _, assign, body, hy, roundIn_of_wpIn hfn (hassign _ x W _ ⟨_, run_beginRound hl (by rw [hrc]), ?_⟩)⟩
      obtain ⟨W2, hW2⟩ : ∃ W2, W2 = W.putObj (w.heap.size + 1) (.loop { rc .ready with state := .busy }) := ⟨_, rfl⟩
      rw [← hW2]
      have hl2 : W2.heap[w.heap.size + 1]? = some (.loop { rc .ready with state := .busy }) := by rw [hW2]; exact World.putObj_heap_same hlt
      have hk2 : W2.heap[w.heap.size]? = some (.deferred (some [])) := by rw [hW2]; exact (World.putObj_heap_other (by omega)).trans hk
      have hp2 : Kp W W2 := by rw [hW2]; exact hKb _ _ _ _ (by omega) hl rfl rfl
      have hi2 : I pre W2 := by rw [hW2]; exact hI.putObj _ hi (by omega) hl rfl
      refine wpIn_mono (hbody _ pre x W2 hi2 hlen) ?_
      intro e a3 W3 hp
      cases e with
      | normal =>
        obtain ⟨k1, k2, k3⟩ := hp
        have hl3 := k1.same _ _ (by omega) hl2 rfl
        have hk3 := k1.same _ _ (Nat.le_refl _) hk2 rfl
        have hr := run_endRound (P := P) none hl3
        obtain ⟨W4, hW4⟩ : ∃ W4, W4 = W3.putObj (w.heap.size + 1) (.loop { { rc .ready with state := .busy } with state := if (none : Option Code).isNone then .ready else .done, pending := none }) := ⟨_, rfl⟩
        rw [← hW4] at hr
        refine ⟨_, W4, hr, rfl, ⟨?_, ?_, ?_⟩, hKt (hKt hp2 k2) ?_⟩
        · rw [hW4]; exact hI.putObj _ k3 (by omega) hl3 rfl
        · rw [hW4, hrc]; exact World.putObj_heap_same (Array.getElem?_eq_some_iff.1 hl3).1
        · rw [hW4]; exact (World.putObj_heap_other (by omega)).trans hk3
        · rw [hW4]; exact hKb _ _ _ _ (by omega) hl3 rfl rfl
      | ret => exact hp.elim
      | exit id => exact hp.elim
      | goto t => exact hp.elim
      | panic ch => exact hp.elim
      | outgrown => exact hp.elim
    · rintro e W2 ⟨⟨v, rfl⟩, xs, hS, hi, hl, hk⟩
      have hr := run_endLoop (P := P) hl (by rw [hrc]; simp)
      have hpn : (rc .ready).pending = none := by rw [hrc]
      rw [hpn] at hr
      exact ⟨none, _, hr, hdone _ xs _ (Nat.le_refl _) hS (hI.putObj _ hi (by omega) hl rfl) ((World.putObj_heap_other (by omega)).trans hk)⟩

end

end Go.Proofs.Yticccknocjnkpaa

namespace Go.Proofs.Yticccknocjnkpaa
open Go.RowKit Go.Shelf

section
variable {P : Nat → Nat → Bool}

/-- Places of a row. -/
def rowS (P : Nat → Nat → Bool) (j : Nat) : Nat → List { q : Nat × Nat // P q.1 q.2 = true }
  | 0 => []
  | k + 1 => rowS P j k ++ if h : P j k = true then [⟨(j, k), h⟩] else []

/-- Places of rows. -/
def allS (P : Nat → Nat → Bool) (n : Nat) : Nat → List { q : Nat × Nat // P q.1 q.2 = true }
  | 0 => []
  | j + 1 => allS P n j ++ rowS P j n

theorem rowS_hit {j k : Nat} (h : P j k = true) : rowS P j (k + 1) = rowS P j k ++ [⟨(j, k), h⟩] := by
  show _ ++ _ = _
  rw [dif_pos h]

theorem rowS_miss {j k : Nat} (h : ¬ P j k = true) : rowS P j (k + 1) = rowS P j k := by
  show _ ++ _ = _
  rw [dif_neg h, List.append_nil]

theorem rowS_len (j : Nat) : ∀ k, (rowS P j k).length ≤ k
  | 0 => Nat.le_refl _
  | k + 1 => by
    have := rowS_len j k
    by_cases h : P j k = true
    · rw [rowS_hit h, List.length_append]
      simp only [List.length_cons, List.length_nil]
      omega
    · rw [rowS_miss h]
      omega

theorem allS_len (n : Nat) : ∀ j, (allS P n j).length ≤ j * n
  | 0 => by simp [allS]
  | j + 1 => by
    have h1 := allS_len n j
    have h2 := rowS_len (P := P) j n
    show (_ ++ _ : List _).length ≤ (j + 1) * n
    rw [List.length_append, Nat.succ_mul]
    omega

/-- Nothing ahead. -/
theorem rowS_nil {j : Nat} : ∀ k, (∀ i, i < k → ¬ P j i = true) → rowS P j k = []
  | 0, _ => rfl
  | k + 1, h => by rw [rowS_miss (h k (by omega)), rowS_nil k (fun i hi => h i (by omega))]

/-- Nothing behind. -/
theorem rowS_end {j a : Nat} : ∀ d, (∀ i, a ≤ i → ¬ P j i = true) → rowS P j (a + d) = rowS P j a
  | 0, _ => rfl
  | d + 1, h => by
    show rowS P j (a + d + 1) = _
    rw [rowS_miss (h (a + d) (by omega)), rowS_end d h]

theorem allS_nil {n : Nat} : ∀ j, (∀ i k, i < j → ¬ P i k = true) → allS P n j = []
  | 0, _ => rfl
  | j + 1, h => by
    show allS P n j ++ rowS P j n = []
    rw [allS_nil j (fun i k hi => h i k (by omega)), rowS_nil n (fun i _ => h j i (by omega)), List.append_nil]

theorem allS_end {n a : Nat} : ∀ d, (∀ i k, a ≤ i → ¬ P i k = true) → allS P n (a + d) = allS P n a
  | 0, _ => rfl
  | d + 1, h => by
    show allS P n (a + d) ++ rowS P (a + d) n = _
    rw [allS_end d h, rowS_nil n (fun i _ => h (a + d) i (by omega)), List.append_nil]

end

/-- A place, as it is handed out. -/
def encXY {P : Nat → Nat → Bool} (x : { q : Nat × Nat // P q.1 q.2 = true }) : Array Value := #[.int .i64 (x.1.2 : Nat), .int .i64 (x.1.1 : Nat)]

/-- The cells of a rectangle that a window owns. -/
def ownS (L : List Wn) (p : Wn) (r : R) : List { q : Nat × Nat // fillP L p r q.1 q.2 = true } := if rightB r = true then allS (fillP L p r) p.w.toNat p.h.toNat else []

/-- What of a rectangle lies in a window. -/
theorem both_in {L : List Wn} {p : Wn} {r : R} (hp : OkP p) : ∃ X Y A H : Nat, bothR r ⟨0, 0, p.w, p.h⟩ = ⟨X, Y, A, H⟩ ∧ X + A ≤ p.w.toNat ∧ Y + H ≤ p.h.toNat ∧ (rightB r = true → ∀ j k, fillP L p r j k = true → Y ≤ j ∧ j < Y + H ∧ X ≤ k ∧ k < X + A) ∧ (¬ rightB r = true → H = 0 ∧ Y = 0) ∧ (∀ j k, Y ≤ j → j < Y + H → X ≤ k → k < X + A → inB r k j = true) := by
  unfold OkP at hp
  have hw : rightB ⟨0, 0, p.w, p.h⟩ = true := by
    unfold rightB nearB
    simp only [Bool.and_eq_true, decide_eq_true_eq]
    omega
  unfold bothR
  by_cases hr : rightB r = true
  · rw [if_pos (by rw [hr, hw]; rfl)]
    have hrb := right_bd hr
    have hin : ∀ j k : Nat, inB r k j = true → (1 ≤ r.w ∧ 1 ≤ r.h ∧ r.x ≤ k ∧ (k : Int) - r.x < r.w ∧ r.y ≤ j ∧ (j : Int) - r.y < r.h) := fun j k h => by
      unfold inB at h
      simp only [Bool.and_eq_true, decide_eq_true_eq] at h
      obtain ⟨⟨⟨⟨⟨h1, h2⟩, h3⟩, h4⟩, h5⟩, h6⟩ := h
      exact ⟨h1, h2, h3, h4, h5, h6⟩
    have hfill : ∀ j k : Nat, fillP L p r j k = true → (1 ≤ r.w ∧ 1 ≤ r.h ∧ r.x ≤ k ∧ (k : Int) - r.x < r.w ∧ r.y ≤ j ∧ (j : Int) - r.y < r.h) ∧ (k : Int) < p.w ∧ (j : Int) < p.h := fun j k h => by
      unfold fillP ownB at h
      simp only [Bool.and_eq_true, decide_eq_true_eq] at h
      exact ⟨hin j k h.1, h.2.1.1.1.2, h.2.1.2⟩
    unfold orNoneR interR
    simp only
    by_cases he : emptyB ⟨max r.x 0, max r.y 0, min (r.x + r.w) (0 + p.w) - max r.x 0, min (r.y + r.h) (0 + p.h) - max r.y 0⟩ = true
    · rw [if_pos he]
      unfold emptyB at he
      simp only [Bool.or_eq_true, decide_eq_true_eq] at he
      refine ⟨0, 0, 0, 0, rfl, by omega, by omega, fun _ j k h => ?_, fun h => absurd hr h, fun j k _ h => by omega⟩
      have := hfill j k h
      omega
    · rw [if_neg he]
      unfold emptyB at he
      simp only [Bool.or_eq_true, decide_eq_true_eq] at he
      refine ⟨(max r.x 0).toNat, (max r.y 0).toNat, (min (r.x + r.w) (0 + p.w) - max r.x 0).toNat, (min (r.y + r.h) (0 + p.h) - max r.y 0).toNat, ?_, by omega, by omega, fun _ j k h => ?_, fun h => absurd hr h, fun j k h1 h2 h3 h4 => ?_⟩
      · congr 1 <;> omega
      · have := hfill j k h
        omega
      · unfold inB
        simp only [Bool.and_eq_true, decide_eq_true_eq]
        omega
  · rw [if_neg (by rw [Bool.and_eq_true]; exact fun h => hr h.1)]
    exact ⟨0, 0, 0, 0, rfl, by omega, by omega, fun h => absurd h hr, fun _ => ⟨rfl, rfl⟩, fun j k _ h => by omega⟩

/-- What an iterator looks at: its box, the window, the stack. -/
structure OSt (T : Nat → Prop) (n₀ bi bw b3 : Nat) (I : R) (p : Wn) (sq : Sm) (sw sh m : Int) (L : List Wn) (w : World) : Prop where
  bx : Box w bi I
  pl : ∃ c e, w.heap[bi]? = some (.cells c e) ∧ Plain c
  nw : NBox w bw p
  c3 : w.cell? ⟨b3, 0, none⟩ = some (.pointer (some ⟨sq.b, 0, none⟩))
  sa : SAt w sq sw sh m L
  bi0 : n₀ ≤ bi
  bw0 : bw < n₀ ∧ ¬ T bw
  b30 : b3 < n₀ ∧ ¬ T b3
  sq0 : ∀ j, sq.own j → j < n₀ ∧ ¬ T j

variable {T : Nat → Prop} {n₀ bi bw b3 : Nat} {I : R} {p : Wn} {sq : Sm} {sw sh m : Int} {L : List Wn} {w w1 : World}

theorem OSt.kp (h : OSt T n₀ bi bw b3 I p sq sw sh m L w) (hk : Kp T n₀ w w1) : OSt T n₀ bi bw b3 I p sq sw sh m L w1 := by
  obtain ⟨c, e, hc, hp⟩ := h.pl
  have hn : ¬ KpT T n₀ w bi := fun t => t.2 h.bi0 c e hc hp
  have ho : ∀ j, j < n₀ → ¬ T j → ¬ KpT T n₀ w j := fun j h1 h2 t => h2 (t.1 h1)
  exact ⟨boxR_stay h.bx hk hn, ⟨c, e, (hk.block bi (Array.getElem?_eq_some_iff.1 hc).1 hn).trans hc, hp⟩, h.nw.stay hk (ho _ h.bw0.1 h.bw0.2), (hk.cell (p := ⟨b3, 0, none⟩) (World.block_lt_of_cell? _ _ h.c3) (ho _ h.b30.1 h.b30.2)).trans h.c3,
    h.sa.stay hk (fun j hj => ho j (h.sq0 j hj).1 (h.sq0 j hj).2), h.bi0, h.bw0, h.b30, h.sq0⟩

theorem OSt.keep (h : OSt T n₀ bi bw b3 I p sq sw sh m L w) (hs : Stay (fun _ => False) w w1) : OSt T n₀ bi bw b3 I p sq sw sh m L w1 := h.kp (Kp.stay0 hs)

theorem abides_stay {β : Type} {B : Nat} {J : β → World → Prop} (hJ : AbidesFrom B J) {s : β} (h : J s w) (hs : Stay (fun _ => False) w w1) : J s w1 :=
  hJ s w w1 none h ⟨hs.os, hs.tape, hs.output, hs.size, fun k hk _ => hs.block k hk (fun h => h)⟩ (fun r e => by cases e)

theorem stay_below (h : Below w.heap.size w w1) : Stay (fun _ => False) w w1 := ⟨h.os, h.tape, h.output, h.size, fun k hk _ => h.block k hk⟩

end Go.Proofs.Yticccknocjnkpaa
