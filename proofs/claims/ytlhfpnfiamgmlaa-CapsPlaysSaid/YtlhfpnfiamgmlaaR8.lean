/-
  Whatever is done with a table: what holds beside it. No conditions.
-/
import Derived.Test.YtlhfpnfiamgmlaaR2
namespace Go.Proofs.Ytlhfpnfiamgmlaa
open Go.RowKit

/-- The table, the document's slots beside it, the names that were made, the act and the name that it uses. -/
structure QIn (w w1 : World) (T B n : Nat) (q : Int) (f f2 : Nat → Sl) (K : Int) (g : Nat) (N : List Nm) (mv : Value) (A : Ac) (ab : Nat) (c : Nm) (nb : Nat) (wr : World) : Prop where
  tab : TIn w T B n q f K wr
  ref : Rd wr g n f2
  vg : w1.heap.size ≤ g ∧ g < wr.heap.size
  row : wr.ownsRow w1.heap.size 30 2 mv N.length (nms N)
  ap : ∀ k, mv.ownBlock = some k → k ≠ g ∧ k ≠ ab ∧ k ≠ nb
  act : ABox wr ab A
  nm : NBox wr nb c
  off : w1.heap.size ≤ ab ∧ w1.heap.size ≤ nb
  size : w1.heap.size ≤ wr.heap.size

variable {w w1 wr w2 : World} {T B n g g' ab nb : Nat} {q K : Int} {f f2 f' : Nat → Sl} {N : List Nm} {mv : Value} {A : Ac} {c : Nm}

theorem QIn.keep (h : QIn w w1 T B n q f f2 K g N mv A ab c nb wr) (hs : Stay (fun _ => False) wr w2) : QIn w w1 T B n q f f2 K g N mv A ab c nb w2 :=
  ⟨h.tab.keep hs, h.ref.keep hs, ⟨h.vg.1, Nat.lt_of_lt_of_le h.vg.2 hs.size⟩, hs.owns h.row (fun _ _ h => h), h.ap, h.act.keep hs, h.nm.keep hs, h.off, Nat.le_trans h.size hs.size⟩

/-- The document's slots have turned. -/
theorem QIn.doc (h : QIn w w1 T B n q f f2 K g N mv A ab c nb wr) (hs : Stay (fun _ => False) wr w2) (hr : Rd w2 g' n f') (hg : g' = g ∨ wr.heap.size ≤ g') : QIn w w1 T B n q f f' K g' N mv A ab c nb w2 := by
  have hlt : g' < w2.heap.size := World.block_lt_of_cell? _ _ (hr 0 h.tab.at'.n0).c0
  refine ⟨h.tab.keep hs, hr, ⟨?_, hlt⟩, hs.owns h.row (fun _ _ h => h), fun k hk => ⟨?_, (h.ap k hk).2⟩, h.act.keep hs, h.nm.keep hs, h.off, Nat.le_trans h.size hs.size⟩
  · rcases hg with rfl | hg
    · exact h.vg.1
    · exact Nat.le_trans h.size hg
  · rcases hg with rfl | hg
    · exact (h.ap k hk).1
    · have := (h.row.lt k hk).2
      omega

/-- The table has turned. -/
theorem QIn.prog {J : Int} (h : QIn w w1 T B n q f f2 K g N mv A ab c nb wr) (hB : B < w1.heap.size) (ht : TIn w T B n q f' J w2) (hs : Stay (fun j => j = B) wr w2) : QIn w w1 T B n q f' f2 J g N mv A ab c nb w2 :=
  ⟨ht, h.ref.stay hs (by have := h.vg; omega), ⟨h.vg.1, Nat.lt_of_lt_of_le h.vg.2 hs.size⟩, hs.owns h.row (fun k hk e => by have := (h.row.lt k hk).1; omega), h.ap, h.act.stay hs (by have := h.off; omega), h.nm.stay hs (by have := h.off; omega), h.off, Nat.le_trans h.size hs.size⟩

/-- A name more. -/
theorem QIn.app {v5 : Value} {p : Nm} (h : QIn w w1 T B n q f f2 K g N mv A ab c nb wr) (hT : T < w1.heap.size) (hB : B < w1.heap.size) (hw : w.heap.size ≤ w1.heap.size) (ho : w2.ownsRow w1.heap.size 30 2 v5 (N.length + 1) (nms N ++ [.int .i64 p.slot, .int .i64 p.gen])) (hs : Stay (fun k => mv.ownBlock = some k) wr w2) (hb : v5.ownBlock = mv.ownBlock ∨ v5.ownBlock = some wr.heap.size) :
    QIn w w1 T B n q f f2 K g (N ++ [p]) v5 A ab c nb w2 := by
  refine ⟨h.tab.beside hs (fun k hk e => by have := (h.row.lt k e).1; omega) (fun e => by have := (h.row.lt T e).1; omega) (fun e => by have := (h.row.lt B e).1; omega), h.ref.stay hs (fun e => (h.ap g e).1 rfl), ⟨h.vg.1, Nat.lt_of_lt_of_le h.vg.2 hs.size⟩, ?_, fun k hk => ?_, h.act.stay hs (fun e => (h.ap ab e).2.1 rfl), h.nm.stay hs (fun e => (h.ap nb e).2.2 rfl), h.off, Nat.le_trans h.size hs.size⟩
  · rw [List.length_append, nms_append]
    exact ho
  · rcases hb with hb | hb
    · exact h.ap k (hb.symm.trans hk)
    · have hk' : some wr.heap.size = some k := hb.symm.trans hk
      injection hk' with hk'
      have h1 := h.vg.2
      have h2 := h.act.lt
      have h3 := h.nm.lt
      omega

/-- Something new of it has turned. -/
theorem QIn.fresh {bd : Nat} (h : QIn w w1 T B n q f f2 K g N mv A ab c nb wr) (hT : T < w1.heap.size) (hB : B < w1.heap.size) (hw : w.heap.size ≤ w1.heap.size) (hs : Stay (fun j => j = bd) wr w2) (h1 : w1.heap.size ≤ bd) (hg : bd ≠ g) (ha : bd ≠ ab) (hn : bd ≠ nb) (hm : ∀ k, mv.ownBlock = some k → k ≠ bd) : QIn w w1 T B n q f f2 K g N mv A ab c nb w2 :=
  ⟨h.tab.beside hs (fun k hk e => by omega) (by omega) (by omega), h.ref.stay hs (fun e => hg e.symm), ⟨h.vg.1, Nat.lt_of_lt_of_le h.vg.2 hs.size⟩, hs.owns h.row (fun k hk e => hm k hk e), h.ap, h.act.stay hs (fun e => ha e.symm), h.nm.stay hs (fun e => hn e.symm), h.off, Nat.le_trans h.size hs.size⟩

/-- What holds between acts. -/
structure RIn (w w1 : World) (T B n : Nat) (q : Int) (f : Nat → Sl) (K : Int) (g : Nat) (N : List Nm) (mv : Value) (wr : World) : Prop where
  tab : TIn w T B n q f K wr
  ref : Rd wr g n f
  vg : w1.heap.size ≤ g ∧ g < wr.heap.size
  row : wr.ownsRow w1.heap.size 30 2 mv N.length (nms N)
  ap : ∀ k, mv.ownBlock = some k → k ≠ g
  size : w1.heap.size ≤ wr.heap.size
  ob : ∀ i, i < n → (f i).obj < 1000
  nl : ∀ p ∈ N, I64 p.slot

theorem QIn.rest {J : Int} (h : QIn w w1 T B n q f f K g N mv A ab c nb wr) (hK : K ≤ J) (ho : ∀ i, i < n → (f i).obj < 1000) (hn : ∀ p ∈ N, I64 p.slot) : RIn w w1 T B n q f J g N mv wr :=
  ⟨h.tab.le hK, h.ref, h.vg, h.row, fun k hk => (h.ap k hk).1, h.size, ho, hn⟩

theorem RIn.keep (h : RIn w w1 T B n q f K g N mv wr) (hs : Stay (fun _ => False) wr w2) : RIn w w1 T B n q f K g N mv w2 :=
  ⟨h.tab.keep hs, h.ref.keep hs, ⟨h.vg.1, Nat.lt_of_lt_of_le h.vg.2 hs.size⟩, hs.owns h.row (fun _ _ h => h), h.ap, Nat.le_trans h.size hs.size, h.ob, h.nl⟩

/-- What is behind an act: the numbers stay small, names are right. -/
theorem ob_add {s : Sl} (h : ∀ i, i < n → (f i).obj < 1000) (hs : s.obj < 1000) : ∀ i, i < n → ((addS n q f s).1 i).obj < 1000 := by
  intro i hi
  unfold addS
  split
  · exact h i hi
  · split
    · show (putF f _ _ i).obj < 1000
      unfold putF
      split
      · exact hs
      · exact h i hi
    · exact h i hi

theorem ob_mint {env kind obj rights : Int} (h : ∀ i, i < n → (f i).obj < 1000) (ho : obj < 1000) : ∀ i, i < n → ((mintS n q f env kind obj rights).1 i).obj < 1000 := by
  unfold mintS
  split
  · exact h
  · exact ob_add h ho

theorem ob_share {env sl gn tw rights : Int} (h : ∀ i, i < n → (f i).obj < 1000) : ∀ i, i < n → ((shareS n q f env sl gn tw rights).1 i).obj < 1000 := by
  unfold shareS
  split
  · rename_i h0
    obtain ⟨k, rfl, hk, _⟩ := ownE_zero h0
    split
    · exact h
    · split
      · exact ob_add h (by rw [Int.toNat_natCast]; exact h k hk)
      · exact h
  · exact h

theorem ob_gone {M : Nat → Bool} (h : ∀ i, i < n → (f i).obj < 1000) : ∀ i, i < n → (goneF M f i).obj < 1000 := by
  intro i hi
  unfold goneF
  split
  · show (0 : Int) < 1000; decide
  · exact h i hi

theorem sl_add {s : Sl} (hn : n ≤ 20) : I64 (addS n q f s).2.1 := by
  unfold I64 addS
  split
  · show -9223372036854775808 ≤ (0 : Int) ∧ (0 : Int) ≤ 9223372036854775807; decide
  · split
    · rename_i h
      show -9223372036854775808 ≤ ((freeIx f n : Nat) : Int) ∧ ((freeIx f n : Nat) : Int) ≤ 9223372036854775807
      omega
    · show -9223372036854775808 ≤ (0 : Int) ∧ (0 : Int) ≤ 9223372036854775807; decide

theorem i64_zero : I64 0 := by unfold I64; decide

theorem sl_mint {env kind obj rights : Int} (hn : n ≤ 20) : I64 (mintS n q f env kind obj rights).2.1 := by
  unfold mintS
  split
  · exact i64_zero
  · exact sl_add hn

theorem sl_share {env sl gn tw rights : Int} (hn : n ≤ 20) : I64 (shareS n q f env sl gn tw rights).2.1 := by
  unfold shareS
  split
  · split
    · exact i64_zero
    · split
      · exact sl_add hn
      · exact i64_zero
  · exact i64_zero

/-- The marks are the same on both sides. -/
theorem marks_same {m0 : Nat → Bool} {M M' : Nat → Bool} (h : ∀ i, M i = true ↔ Bel n f m0 i) (h' : ∀ i, M' i = true ↔ Bel n f m0 i) : M = M' := by
  funext i
  have e := (h i).trans (h' i).symm
  cases a : M i <;> cases b : M' i <;> simp_all

theorem nameR_i64 (h : ∀ p ∈ N, I64 p.slot) (hA : I64 A.slot) : I64 (nameR N A).slot := by
  unfold nameR
  split
  · rename_i hw
    have hl : A.which.toNat < N.length := by omega
    rw [List.getD_eq_getElem?_getD, List.getElem?_eq_getElem hl]
    exact h _ (List.getElem_mem hl)
  · exact hA

/-- The name of an act. -/
theorem name_any {ad : Option Addr} {cp : Nat} (hr : wr.ownsRow w1.heap.size 30 2 (.slice ad N.length cp) N.length (nms N)) (hn : N.length ≤ 1000) : Calls Try.prog 10 #[.slice ad N.length cp, .agg #[.int .i64 A.d, .int .i64 A.env, .int .i64 A.tw, .int .i64 A.kind, .int .i64 A.obj, .int .i64 A.rights, .int .i64 A.which, .int .i64 A.slot, .int .i64 A.gen]] wr (Gives (.agg #[.int .i64 (nameR N A).slot, .int .i64 (nameR N A).gen]) wr) := by
  by_cases h : 0 ≤ A.which ∧ A.which < N.length
  · have e : nameR N A = N.getD A.which.toNat ⟨0, 0⟩ := if_pos h
    obtain ⟨k, hk⟩ := Int.eq_ofNat_of_zero_le h.1
    have hkl : k < N.length := by omega
    have hp : N[k]? = some (N.getD k ⟨0, 0⟩) := by rw [List.getD_eq_getElem?_getD, List.getElem?_eq_getElem hkl]; rfl
    obtain ⟨g, rfl, _, hat⟩ := names_at hr rfl k _ hp
    have e2 : nameR N A = N.getD k ⟨0, 0⟩ := by rw [e, hk, Int.toNat_natCast]
    rw [e2]
    exact name10_some g 0 N.length cp k A _ wr hk hkl hn (by rw [Nat.zero_add]; exact hat)
  · have e : nameR N A = ⟨A.slot, A.gen⟩ := if_neg h
    rw [e]
    exact name10_none ad N.length cp A wr h hn

/-- Both sides' numbers are the same. -/
theorem same_any {L : List Int} {a : Option Addr} {cc : Nat} {v : Value} {base : Nat} (hl : L.length ≤ 1000) (h1 : L ≠ [] → ∃ g, a = some ⟨g, 0, none⟩ ∧ IsRowS wr 1 (.slice a L.length cc) L.length (L.map (.int .i64 ·))) (h2 : wr.ownsRow base 3 1 v L.length (L.map (.int .i64 ·))) :
    Calls Try.prog 25 #[.slice a L.length cc, v] wr (Gives (.bool true) wr) := by
  obtain ⟨ad, cp, rfl⟩ := owns_sliceS h2
  by_cases h : L = []
  · subst h
    exact same25_nil a ad cc cp wr
  · obtain ⟨g, rfl, hr⟩ := h1 h
    have hr2 := owns_isRowS h2 (by simp)
    rcases h2.2 with ⟨_, h0⟩ | ⟨g2, _, _, hv, _⟩
    · exact absurd (List.eq_nil_of_length_eq_zero h0) h
    · injection hv with e1 _ _
      subst e1
      exact same25_some g 0 cc g2 0 cp L wr hr hr2 hl

theorem neqI_same {a : Act} {x y : Operand} {w : World} {d : Option Tmp} {ty : TypeId} (z : Int) (hx : a.eval x = .int .i64 z) (hy : a.eval y = .int .i64 z) : (execOp a.eval (opr d (.binOp .neq 3 x y 3) ty)).run Try.prog w = .ok (.value (.bool false)) w := by
  simp only [opr, execOp, hx, hy]
  go_simp
  try simp

/-- Acts that came in. -/
def ARows (w : World) (ad : Option Addr) (n : Nat) (F : Nat → Ac) : Prop := ∀ i, i < n → ∃ b o, ad = some ⟨b, o, none⟩ ∧ ABoxAt w b (o + i * 9) (F i) ∧ I64 (F i).slot ∧ W64 (F i).rights

theorem ARows.keep {ad : Option Addr} {F : Nat → Ac} {m : Nat} (h : ARows wr ad m F) (hs : Stay (fun _ => False) wr w2) : ARows w2 ad m F := fun i hi => by
  obtain ⟨b, o, e, ha, hr⟩ := h i hi
  exact ⟨b, o, e, ha.keep hs, hr⟩

end Go.Proofs.Ytlhfpnfiamgmlaa
