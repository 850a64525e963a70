/-
  The program: the setting is turned: walked. No conditions.
-/
import Derived.Test.YtjfhmpjpdcckhaaL18DH
import Derived.Deep.CutBlock
import Derived.Deep.MidRow
namespace Go.Proofs.Ytjfhmpjpdcckhaa.L18
open Go.RowKit

open L17

section
variable {w w1 : World} {p : Nat} {r : Pd} {x : PS}

/-- With Icanon, or not any more. -/
def turnX (x : PS) : PS := if hasB x.t.fl 1 = true then ⟨x.t, x.all.take 254, 0, [], x.st, x.nx⟩ else ⟨x.t, x.all, x.all.length, [], x.st, x.nx⟩

theorem DBox.there17 {b : Nat} {r : Pd} (h : DBox w b r) : w.there b 0 17 := L17.TBox.there h.tm

theorem Core.putT (h : Core w p r x) (t : Tm) : Core (w.setCells p 0 (#[.int .i64 t.fi, .int .i64 t.fo, .int .i64 t.fl, .int .i64 t.k0, .int .i64 t.k1, .int .i64 t.k2, .int .i64 t.k3, .int .i64 t.k4, .int .i64 t.k5, .int .i64 t.k6, .int .i64 t.k7, .int .i64 t.k8, .int .i64 t.k9, .int .i64 t.k10, .int .i64 t.k11, .int .i64 t.mn, .int .i64 t.ti] : Array Value).toList) p (r.put t) (x.setT t) ∧ Stay (fun k => k = p) w (w.setCells p 0 (#[.int .i64 t.fi, .int .i64 t.fo, .int .i64 t.fl, .int .i64 t.k0, .int .i64 t.k1, .int .i64 t.k2, .int .i64 t.k3, .int .i64 t.k4, .int .i64 t.k5, .int .i64 t.k6, .int .i64 t.k7, .int .i64 t.k8, .int .i64 t.k9, .int .i64 t.k10, .int .i64 t.k11, .int .i64 t.mn, .int .i64 t.ti] : Array Value).toList) := by
  have hs : Stay (fun k => k = p) w (w.setCells p 0 (#[.int .i64 t.fi, .int .i64 t.fo, .int .i64 t.fl, .int .i64 t.k0, .int .i64 t.k1, .int .i64 t.k2, .int .i64 t.k3, .int .i64 t.k4, .int .i64 t.k5, .int .i64 t.k6, .int .i64 t.k7, .int .i64 t.k8, .int .i64 t.k9, .int .i64 t.k10, .int .i64 t.k11, .int .i64 t.mn, .int .i64 t.ti] : Array Value).toList) := (Stay.refl (fun k => k = p) w).setCells p _ _ rfl
  refine ⟨⟨?_, rfl, h.ip.stay hs h.n1, h.rd, h.li.stay hs h.n2, h.st, h.wt, h.wf, h.n1, h.n2, h.n3⟩, hs⟩
  have hb := h.box
  rw [L17.set_all]
  exact ((((((((((((((((hb.put0 rfl).put1 rfl).put2 rfl).put3 rfl).put4 rfl).put5 rfl).put6 rfl).put7 rfl).put8 rfl).put9 rfl).put10 rfl).put11 rfl).put12 rfl).put13 rfl).put14 rfl).put15 rfl).put16 rfl
end

theorem set_turn {N : Nat} (d : DS) (t : Tm) (_hO : Ok N d) (h : ¬ d.loc 1 = (d.setT t).loc 1) : turnX (d.ps.setT t) = (d.set t).ps := by
  unfold DS.set
  rw [if_neg h]
  have e1 : (d.setT t).loc 1 = hasB t.fl 1 := rfl
  unfold turnX
  show (if hasB t.fl 1 = true then _ else _) = _
  rw [← e1]
  cases h2 : (d.setT t).loc 1
  · rw [if_neg (by simp), if_pos rfl]
    have e : ((d.setT t).flush.setRaw d.all).all = d.all := by show d.all ++ [].flatten ++ [] = _; simp
    show (⟨t, d.all, d.all.length, [], d.stp, d.nxt⟩ : PS) = ⟨t, ((d.setT t).flush.setRaw d.all).all, d.all.length + ([] : List (List Int)).flatten.length, [], d.stp, d.nxt⟩
    rw [e]; rfl
  · rw [if_pos rfl, if_neg (by simp)]
    have e : ((d.setT t).flush.setLine (d.all.take 254)).all = d.all.take 254 := by show [] ++ [].flatten ++ d.all.take 254 = _; simp
    show (⟨t, d.all.take 254, 0, [], d.stp, d.nxt⟩ : PS) = ⟨t, ((d.setT t).flush.setLine (d.all.take 254)).all, 0, [], d.stp, d.nxt⟩
    rw [e]

theorem wpList_exec_g {P : Program} {ops : Array Oper} {rest : List Oper} {o : Oper} {a : Act} {w : World} {Q : Exit → Act → World → Prop} {v : Value} (hg : Region.wanted o (yielded ops a.tmps) = true) (hr : (execOp a.eval o).run P w = .ok (.value v) w) (h : wpList P ops Q rest (a.put o.dst v) w) : wpList P ops Q (o :: rest) a w := by
  unfold wpList
  rw [if_pos hg]
  left
  unfold Oper.wp
  rw [hr]
  exact h

/-- The setting is turned, if it is right. -/
def SetP (b : Bool) (p : Nat) (O : Nat → Prop) (d : DS) (t : Tm) (w : World) (e : Ending) (w' : World) : Prop := (b = true → TurnP At p O (d.set t) (.bool true) w e w') ∧ (b = false → Gives (.bool false) w e w')

section
variable {w : World} {p : Nat} {O : Nat → Prop} {d : DS}

end

end Go.Proofs.Ytjfhmpjpdcckhaa.L18
