/-
  The decoder's end and its taking of a byte, walked. No conditions.
-/
import Derived.Test.YtofecgjlghfnlaaDoorC0
import Derived.Maps.AppendAt
namespace Go.Proofs.YtofecgjlghfnlaaDoor
open Go.RowKit

theorem info21 : (Tryd.prog.info? 21).map (fun i => (i.zero, i.size, i.bytes)) = some (some (.int .i32 0), 1, 4) := by kernel_rfl

/-- A rune is added to an own row. -/
theorem app1 {ops : Array Oper} {rest : List Oper} {o : Oper} {a : Act} {Q : Exit → Act → World → Prop} (hgd : o.guard = none) (s x : Operand)
    (ho : o.op = .call { callee := .builtin .append, args := #[s, x], argTypes := #[25, 25] }) {w : World} {base n B : Nat} {v : Value} {xs : List Value} (z : Int)
    (hs : a.eval s = v) (hown : w.ownsRow base 21 1 v n xs) (hx : a.eval x = .slice (some ⟨B, 0, none⟩) 1 1) (hB : w.heap.size = B) (hn : n < 1000000) (hbase : base ≤ w.heap.size)
    (h : ∀ v' w', w'.ownsRow base 21 1 v' (n + 1) (xs ++ [.int .i32 z]) → Stay (fun k => base ≤ k) w w' → wpList Tryd.prog ops Q rest (a.put o.dst v') w') :
    wpList Tryd.prog ops Q (o :: rest) a (w.alloc (.cells #[.int .i32 z] 21)) := by
  subst hB
  obtain ⟨i, hi, hzz⟩ := Option.map_eq_some_iff.1 info21
  simp only [Prod.mk.injEq] at hzz
  obtain ⟨h1, h2, h3⟩ := hzz
  refine wpList_append_own _ hgd s x 25 ho base 21 i (.int .i32 0) 1 4 Tryd.underlying25 hi h1 h2 h3 rfl (by decide) v n xs hs (hown.alloc _) ⟨w.heap.size, 0, none⟩ 1 1 [.int .i32 z] hx rfl (cell_one_new _ _ _)
    (fun y hy => by simp at hy; subst hy; rfl) (by unfold maxLen; omega) (by omega) (by simp; omega) ?_
  intro v' w' hown' hg _
  refine h v' w' hown' (((Stay.refl _ w).alloc _).grown hg fun k hk _ => ?_)
  exact (hown.lt k hk).1

/-- The cells of a decoder. -/
def decF (f k v : Nat) (i : Nat) : Value := if i = 0 then .int .i64 (f : Nat) else if i = 1 then .int .i64 (k : Nat) else .int .i32 (v : Nat)

def Dec (w : World) (D f k v : Nat) : Prop := w.rowIs D 29 3 (decF f k v)

/-- Three stores into a decoder. -/
theorem Dec.set3 {w : World} {D f k v : Nat} (h : Dec w D f k v) (f' k' v' : Nat) : Dec (((w.setCell ⟨D, 0, none⟩ (.int .i64 (f' : Nat))).setCell ⟨D, 1, none⟩ (.int .i64 (k' : Nat))).setCell ⟨D, 2, none⟩ (.int .i32 (v' : Nat))) D f' k' v' :=
  (((h.set 0 _).set 1 _).set 2 _).congr fun i hi => by
    have : i = 0 ∨ i = 1 ∨ i = 2 := by omega
    rcases this with rfl | rfl | rfl <;> rfl

theorem Dec.clear {w : World} {D f k v : Nat} (h : Dec w D f k v) : Dec (((w.setCell ⟨D, 0, none⟩ (.int .i64 0)).setCell ⟨D, 1, none⟩ (.int .i64 0)).setCell ⟨D, 2, none⟩ (.int .i32 0)) D 0 0 0 := h.set3 0 0 0

theorem stay3 {w : World} {D : Nat} (a b c : Value) {S : Nat → Prop} (h : S D) : Stay S w (((w.setCell ⟨D, 0, none⟩ a).setCell ⟨D, 1, none⟩ b).setCell ⟨D, 2, none⟩ c) :=
  (((Stay.refl S w).setCell (p := ⟨D, 0, none⟩) h _).setCell (p := ⟨D, 1, none⟩) h _).setCell (p := ⟨D, 2, none⟩) h _

theorem own_ne {w : World} {base D n : Nat} {t : Value} {xs : List Value} (ht : w.ownsRow base 21 1 t n xs) (hb : D < base) : ∀ k, t.ownBlock = some k → ¬ (k = D) := fun k hk e => by
  have := (ht.lt k hk).1
  omega

theorem end_any (D f k v base n : Nat) (t : Value) (xs : List Value) (w : World) (hD : Dec w D f k v) (hb : D < base) (hbw : base ≤ w.heap.size) (ht : w.ownsRow base 21 1 t n xs) (hn : n < 1000000) (hk : 0 < k) (hk3 : k ≤ 3) :
    Calls Tryd.prog 20 #[.pointer (some ⟨D, 0, none⟩), t] w fun e w' => ∃ t', e = .returned t' ∧ w'.ownsRow base 21 1 t' (n + 1) (xs ++ [.int .i32 65533]) ∧ Dec w' D 0 0 0 ∧ Stay (fun k => k = D ∨ base ≤ k) w w' := by
  have hkz : ((k : Int) == 0) = false := by simp; omega
  have c1 : w.cell? ⟨D, 1, none⟩ = some (.int .i64 (k : Nat)) := hD.cell (i := 1) (by decide)
  have c0 : w.cell? ⟨D, 0, none⟩ = some (.int .i64 (f : Nat)) := hD.cell (i := 0) (by decide)
  have c2 : w.cell? ⟨D, 2, none⟩ = some (.int .i32 (v : Nat)) := hD.cell (i := 2) (by decide)
  have f0 := hD.frozen 0
  have f1 := hD.frozen 1
  have f2 := hD.frozen 2
  have h3 := hD.clear
  have hs := stay3 (w := w) (D := D) (.int .i64 0) (.int .i64 0) (.int .i32 0) (S := fun k => k = D) rfl
  have ho := hs.owns ht (own_ne ht hb)
  have HD := hide' h3
  have HT := hide' ho
  have HS := hide' hs
  clear hD ht h3 hs ho
  go_enter Tryd.func20, Tryd.ntmps20
  go_wp2_with (at_builtin; refine app1 rfl _ _ rfl 65533 rfl HT.out rfl (by simp) hn (by simp; omega) ?_; intro t' w1 ho1 hs1)
  go_ret
  exact ⟨t', rfl, ho1, hs1.row HD.out (by simp; omega), (HS.out.mono fun k _ h => Or.inl h).trans (hs1.mono fun k _ h => Or.inr h)⟩

theorem end_none (D f v : Nat) (t : Value) (w : World) (hD : Dec w D f 0 v) :
    Calls Tryd.prog 20 #[.pointer (some ⟨D, 0, none⟩), t] w fun e w' => e = .returned t ∧ w = w' := by
  have c1 : w.cell? ⟨D, 1, none⟩ = some (.int .i64 0) := hD.cell (i := 1) (by decide)
  go_enter Tryd.func20, Tryd.ntmps20
  go_wp2
  go_ret
  exact ⟨rfl, rfl⟩

end Go.Proofs.YtofecgjlghfnlaaDoor
