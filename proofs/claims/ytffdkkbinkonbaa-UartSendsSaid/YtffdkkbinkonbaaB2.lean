/-
  A line, its items and its bytes. No conditions.
-/
import Derived.Test.YtffdkkbinkonbaaB0
import Derived.Test.YtffdkkbinkonbaaB1
namespace Go.Proofs.Ytffdkkbinkonbaa
open Go.RowKit

/-- Cells of items. -/
def its (L : List (Int × Int)) : List Value := L.flatMap fun p => [.int .u8 p.1, .int .i64 p.2]

/-- Cells of bytes. -/
def bys (M : List Int) : List Value := M.map (Value.int .u8 ·)

theorem its_len : ∀ L : List (Int × Int), (its L).length = L.length * 2
  | [] => rfl
  | p :: L => by
    have h := its_len L
    unfold its at h ⊢
    rw [List.flatMap_cons, List.length_append, h, List.length_cons]
    show 2 + L.length * 2 = (L.length + 1) * 2
    omega

theorem its_append (L K : List (Int × Int)) : its (L ++ K) = its L ++ its K := by unfold its; rw [List.flatMap_append]

theorem its_take : ∀ (L : List (Int × Int)) (k : Nat), (its L).take (k * 2) = its (L.take k)
  | [], k => by simp [its]
  | p :: L, 0 => by simp [its]
  | p :: L, k + 1 => by
    have h := its_take L k
    unfold its at h ⊢
    rw [List.flatMap_cons, List.take_succ_cons, List.flatMap_cons, ← h, show (k + 1) * 2 = k * 2 + 1 + 1 by omega]
    rfl

theorem its_drop : ∀ (L : List (Int × Int)) (k : Nat), (its L).drop (k * 2) = its (L.drop k)
  | [], k => by simp [its]
  | p :: L, 0 => by simp [its]
  | p :: L, k + 1 => by
    have h := its_drop L k
    unfold its at h ⊢
    rw [List.flatMap_cons, List.drop_succ_cons, ← h, show (k + 1) * 2 = k * 2 + 1 + 1 by omega]
    rfl

theorem its_one (L : List (Int × Int)) : ∀ u ∈ its L, u.oneCell' = true := by
  intro u hu
  unfold its at hu
  obtain ⟨p, _, hp⟩ := List.mem_flatMap.1 hu
  simp only [List.mem_cons, List.not_mem_nil, or_false] at hp
  rcases hp with rfl | rfl <;> rfl

theorem bys_len (M : List Int) : (bys M).length = M.length * 1 := by unfold bys; simp

theorem bys_append (L K : List Int) : bys (L ++ K) = bys L ++ bys K := by unfold bys; rw [List.map_append]

theorem bys_take (L : List Int) (k : Nat) : (bys L).take (k * 1) = bys (L.take k) := by unfold bys; rw [Nat.mul_one, List.map_take]

theorem bys_drop (L : List Int) (k : Nat) : (bys L).drop (k * 1) = bys (L.drop k) := by unfold bys; rw [Nat.mul_one, List.map_drop]

theorem bys_one (L : List Int) : ∀ u ∈ bys L, u.oneCell' = true := one_ints _ _

/-- A line: where it lies, its room, its items' slice, its bytes' slice, whether something was lost. -/
structure Ln where
  b : Nat
  r : Nat
  v : Value
  u : Value
  o : Bool

def Ln.bx (q : Ln) : Lr := ⟨(q.r : Nat), q.v, (q.r : Nat), q.u, q.o⟩

/-- A block of the line's. -/
def Ln.own (q : Ln) (j : Nat) : Prop := j = q.b ∨ q.v.ownBlock = some j ∨ q.u.ownBlock = some j

/-- The line, its items and its bytes. -/
structure LAt (w : World) (q : Ln) (L : List (Int × Int)) (M : List Int) : Prop where
  box : LBox w q.b q.bx
  inn : Win w 2 q.v L.length (its L)
  snt : Win w 1 q.u M.length (bys M)
  vb : ∀ j, q.v.ownBlock = some j → ¬ j = q.b
  ub : ∀ j, q.u.ownBlock = some j → ¬ j = q.b
  vu : ∀ j, q.v.ownBlock = some j → ¬ q.u.ownBlock = some j
  r1 : 1 ≤ q.r
  r2 : q.r ≤ 65536
  l1 : L.length ≤ q.r
  m1 : M.length ≤ q.r

theorem LAt.stay {T : Nat → Prop} {w w1 : World} {q : Ln} {L : List (Int × Int)} {M : List Int} (h : LAt w q L M) (hs : Stay T w w1) (hn : ∀ j, q.own j → ¬ T j) : LAt w1 q L M :=
  ⟨h.box.stay hs (hn _ (.inl rfl)), h.inn.stay hs (fun j hj => hn j (.inr (.inl hj))), h.snt.stay hs (fun j hj => hn j (.inr (.inr hj))), h.vb, h.ub, h.vu, h.r1, h.r2, h.l1, h.m1⟩

theorem LAt.keep {w w1 : World} {q : Ln} {L : List (Int × Int)} {M : List Int} (h : LAt w q L M) (hs : Stay (fun _ => False) w w1) : LAt w1 q L M := h.stay hs (fun _ _ h => h)

theorem LAt.lt {w : World} {q : Ln} {L : List (Int × Int)} {M : List Int} (h : LAt w q L M) : ∀ j, q.own j → j < w.heap.size := by
  intro j hj
  rcases hj with rfl | hj | hj
  · exact h.box.lt
  · exact h.inn.lt j hj
  · exact h.snt.lt j hj

/-- The cells of a slice that came: the first of them are taken. -/
def Src (w : World) (a : Option Addr) (m : Nat) (news : List Value) : Prop := (∀ ad, a = some ad → ∀ j u, news[j]? = some u → w.cell? (ad.add j) = some u) ∧ (a = none → m = 0)

theorem Src.stay {T : Nat → Prop} {w w1 : World} {a : Option Addr} {m : Nat} {news : List Value} (h : Src w a m news) (hs : Stay T w w1) (hn : ∀ ad, a = some ad → ¬ T ad.block) : Src w1 a m news :=
  ⟨fun ad e j u hu => by
    have hc := h.1 ad e j u hu
    have hb : (ad.add j).block = ad.block := by unfold Addr.add; split <;> rfl
    rw [← hc]
    exact hs.cell (World.block_lt_of_cell? _ _ hc) (by rw [hb]; exact hn ad e), h.2⟩

theorem Src.keep {w w1 : World} {a : Option Addr} {m : Nat} {news : List Value} (h : Src w a m news) (hs : Stay (fun _ => False) w w1) : Src w1 a m news := h.stay hs (fun _ _ h => h)

theorem Src.front {w : World} {a : Option Addr} {m : Nat} {news : List Value} (h : Src w a m news) (k i : Nat) (hk : k ≤ m) : Src w a k (news.take i) :=
  ⟨fun ad e j u hu => h.1 ad e j u (by rw [List.getElem?_take] at hu; split at hu; exact hu; cases hu), fun e => by have := h.2 e; omega⟩

theorem add_zero' (ad : Addr) (z : Nat) : ad.add (0 * z) = ad := by
  rw [Nat.zero_mul]
  obtain ⟨b, o, sp⟩ := ad
  unfold Addr.add
  split <;> simp_all

theorem front_addr (sa : Option Addr) (cap z : Nat) : (if cap = 0 then sa else sa.map (fun x => x.add (0 * z))) = sa := by
  split
  · rfl
  · cases sa with
    | none => rfl
    | some ad => simpa using add_zero' ad z

/-- s[:k]. -/
theorem exec_slice_h {P : Program} {a : Act} {t sz : Nat} {x y : Operand} {sa : Option Addr} {m cap k : Nat} (ht : P.underlying t = some (.slice (P.elem t))) (hz : (P.info? (P.elem t)).map (·.size) = some sz) (hx : a.eval x = .slice sa m cap) (hy : a.eval y = .int .i64 (k : Nat)) (hk : k ≤ cap) (w : World) (d : Option Tmp) (ty : TypeId) :
    (execOp a.eval (opr d (.slice t x none (some y) none) ty)).run P w = .ok (.value (.slice sa k cap)) w := by
  obtain ⟨i, hi, rfl⟩ := Option.map_eq_some_iff.1 hz
  unfold execOp
  simp only [opr, hx, Option.map_some, Option.map_none, hy]
  rw [Sem.run_bind, run_sliceAt_slice _ _ _ _ _ _ ht, run_slice_h _ _ _ _ _ ht _ _ (by omega) (by omega)]
  simp [sizeOf, typeInfo, hi, Result.andThen, sliced]
  intro h
  cases sa with
  | none => rfl
  | some ad => simpa using add_zero' ad i.size

/-- s[k:]. -/
theorem exec_slice_l {P : Program} {a : Act} {t sz : Nat} {x y : Operand} {sa : Option Addr} {m cap k : Nat} (ht : P.underlying t = some (.slice (P.elem t))) (hz : (P.info? (P.elem t)).map (·.size) = some sz) (hx : a.eval x = .slice sa m cap) (hy : a.eval y = .int .i64 (k : Nat)) (hk : k ≤ m) (w : World) (d : Option Tmp) (ty : TypeId) :
    (execOp a.eval (opr d (.slice t x (some y) none none) ty)).run P w = .ok (.value (.slice (if cap = k then sa else sa.map (·.add (k * sz))) (m - k) (cap - k))) w := by
  obtain ⟨i, hi, rfl⟩ := Option.map_eq_some_iff.1 hz
  unfold execOp
  simp only [opr, hx, Option.map_some, Option.map_none, hy]
  rw [Sem.run_bind, run_sliceAt_slice _ _ _ _ _ _ ht, run_slice_l _ _ _ _ _ ht _ _ (by omega) (by omega)]
  simp [sizeOf, typeInfo, hi, Result.andThen, sliced]

theorem info36 : (Try.prog.info? 36).map (fun i => (i.zero, i.size, i.bytes)) = some (some (.agg #[.int .u8 0, .int .i64 0]), 2, 16) := by kernel_rfl

theorem info5 : (Try.prog.info? 5).map (fun i => (i.zero, i.size, i.bytes)) = some (some (.int .u8 0), 1, 1) := by kernel_rfl

theorem elem26 : Try.prog.underlying 26 = some (.slice (Try.prog.elem 26)) := by kernel_rfl

theorem elem27 : Try.prog.underlying 27 = some (.slice (Try.prog.elem 27)) := by kernel_rfl

theorem size26 : (Try.prog.info? (Try.prog.elem 26)).map (·.size) = some 2 := by kernel_rfl

theorem size27 : (Try.prog.info? (Try.prog.elem 27)).map (·.size) = some 1 := by kernel_rfl

end Go.Proofs.Ytffdkkbinkonbaa
