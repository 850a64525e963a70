/-
  The example of the document; settings compared: walked. No conditions.
-/
import Derived.Test.YtdihjodcbpjabaaC6
import Derived.Test.YtdihjodcbpjabaaC2
import Derived.ChangeKeysEq
namespace Go.Proofs.Ytdihjodcbpjabaa
open Go.RowKit

theorem eqItems_same (d : Nat) (xs : Array Value) (w : World) : ∀ is : List Nat, (∀ i ∈ is, ∃ n, xs[i]? = some (.int .i64 n)) → (Op.eqItems (d + 1) 3 1 xs xs is).run Try.prog w = .ok true w
  | [], _ => by simp [Op.eqItems]
  | i :: is, h => by
    obtain ⟨n, hn⟩ := h i (by simp)
    have px : (part 3 xs (i * 1)).run Try.prog w = .ok (.int .i64 n) w := by
      simp [part, isAgg, run_underlying Try.underlying3, hn]
    simp only [Op.eqItems, Sem.run_bind, px, Result.andThen_ok, run_equalIn_int w d 3 .i64 .i64 n n Try.underlying3]
    have ih := eqItems_same d xs w is (fun j hj => h j (by simp [hj]))
    simpa using ih

theorem equal22 (p : Tm) (w : World) : (Op.equalIn 9999 22 (.agg #[.int .i64 p.k0, .int .i64 p.k1, .int .i64 p.k2, .int .i64 p.k3, .int .i64 p.k4, .int .i64 p.k5, .int .i64 p.k6, .int .i64 p.k7, .int .i64 p.k8, .int .i64 p.k9, .int .i64 p.k10, .int .i64 p.k11]) (.agg #[.int .i64 p.k0, .int .i64 p.k1, .int .i64 p.k2, .int .i64 p.k3, .int .i64 p.k4, .int .i64 p.k5, .int .i64 p.k6, .int .i64 p.k7, .int .i64 p.k8, .int .i64 p.k9, .int .i64 p.k10, .int .i64 p.k11])).run Try.prog w = .ok true w := by
  rw [run_equalIn_array w 9998 _ _ Try.underlying22 (show Try.prog.info? 3 = some Try.t3 by kernel_rfl)]
  refine eqItems_same 9997 _ w _ (fun i hi => ?_)
  have hi := List.mem_range.1 hi
  have : i = 0 ∨ i = 1 ∨ i = 2 ∨ i = 3 ∨ i = 4 ∨ i = 5 ∨ i = 6 ∨ i = 7 ∨ i = 8 ∨ i = 9 ∨ i = 10 ∨ i = 11 := by omega
  rcases this with rfl | rfl | rfl | rfl | rfl | rfl | rfl | rfl | rfl | rfl | rfl | rfl <;> exact ⟨_, rfl⟩

set_option maxRecDepth 100000 in
theorem eql24_same (p : Tm) (w : World) : (binOp .eql 24 (.agg #[.int .i64 p.fi, .int .i64 p.fo, .int .i64 p.fl, .int .i64 p.k0, .int .i64 p.k1, .int .i64 p.k2, .int .i64 p.k3, .int .i64 p.k4, .int .i64 p.k5, .int .i64 p.k6, .int .i64 p.k7, .int .i64 p.k8, .int .i64 p.k9, .int .i64 p.k10, .int .i64 p.k11, .int .i64 p.mn, .int .i64 p.ti]) (.agg #[.int .i64 p.fi, .int .i64 p.fo, .int .i64 p.fl, .int .i64 p.k0, .int .i64 p.k1, .int .i64 p.k2, .int .i64 p.k3, .int .i64 p.k4, .int .i64 p.k5, .int .i64 p.k6, .int .i64 p.k7, .int .i64 p.k8, .int .i64 p.k9, .int .i64 p.k10, .int .i64 p.k11, .int .i64 p.mn, .int .i64 p.ti])).run Try.prog w = .ok (.bool true) w := by
  have h := equal22 p w
  go_simp

theorem eql_same {a : Act} {x y : Operand} {w : World} {d : Option Tmp} {ty : TypeId} (p : Tm) (hx : a.eval x = .agg #[.int .i64 p.fi, .int .i64 p.fo, .int .i64 p.fl, .int .i64 p.k0, .int .i64 p.k1, .int .i64 p.k2, .int .i64 p.k3, .int .i64 p.k4, .int .i64 p.k5, .int .i64 p.k6, .int .i64 p.k7, .int .i64 p.k8, .int .i64 p.k9, .int .i64 p.k10, .int .i64 p.k11, .int .i64 p.mn, .int .i64 p.ti]) (hy : a.eval y = .agg #[.int .i64 p.fi, .int .i64 p.fo, .int .i64 p.fl, .int .i64 p.k0, .int .i64 p.k1, .int .i64 p.k2, .int .i64 p.k3, .int .i64 p.k4, .int .i64 p.k5, .int .i64 p.k6, .int .i64 p.k7, .int .i64 p.k8, .int .i64 p.k9, .int .i64 p.k10, .int .i64 p.k11, .int .i64 p.mn, .int .i64 p.ti]) :
    (execOp a.eval (opr d (.binOp .eql 24 x y 24) ty)).run Try.prog w = .ok (.value (.bool true)) w := by
  have h := equal22 p w
  simp only [opr, execOp, hx, hy]
  go_simp

attribute [local go_sem] eql24_same equal22

theorem plain_tells : gB plainT.fi 13 = 10 ∧ gI plainT.fi 13 = true ∧ rightB plainT = true := by decide +kernel

set_option maxRecDepth 100000 in
theorem awake12 (w : World) : Calls Try.prog 12 #[] w (LawTrue w) := by
  have HP := hide' plain17
  have HD := hide' plain18
  have HM := hide' (fun w => map6 plainT 13 w (by decide) (by decide))
  have HR := hide' (right8 plainT)
  rw [plain_tells.1, plain_tells.2.1] at HM
  rw [plain_tells.2.2] at HR
  obtain ⟨p, hp⟩ : ∃ p, p = plainT := ⟨_, rfl⟩
  rw [← hp] at HP HD HM HR
  clear hp
  go_enter Try.func12, Try.ntmps12
  go_wp2_with fail
  refine (HP.out _).mono ?_
  rintro e w1 ⟨rfl, hs⟩
  have HS1 := hide' hs
  clear hs
  go_wp2_with fail
  refine (HM.out _).mono ?_
  rintro e w2 ⟨rfl, hs⟩
  have HS2 := hide' (HS1.out.trans hs)
  clear hs HS1
  go_wp2_with fail
  refine (HP.out _).mono ?_
  rintro e w3 ⟨rfl, hs⟩
  have HS3 := hide' (HS2.out.trans hs)
  clear hs HS2
  go_wp2_with fail
  refine (HD.out _).mono ?_
  rintro e w4 ⟨rfl, hs⟩
  have HS4 := hide' (HS3.out.trans hs)
  clear hs HS3
  go_wp2_with fail
  refine (HP.out _).mono ?_
  rintro e w5 ⟨rfl, hs⟩
  have HS5 := hide' (HS4.out.trans hs)
  clear hs HS4
  go_wp2_with fail
  refine (HR.out _).mono ?_
  rintro e w6 ⟨rfl, hs⟩
  have HS6 := hide' (HS5.out.trans hs)
  clear hs HS5
  go_wp2
  go_ret
  exact ⟨by simp, HS6.out⟩

/-- A setting in a box, its parts unseen. -/
def ABox (w : World) (b : Nat) (A : Array Value) : Prop := ∃ r : Tm, A = #[.int .i64 r.fi, .int .i64 r.fo, .int .i64 r.fl, .int .i64 r.k0, .int .i64 r.k1, .int .i64 r.k2, .int .i64 r.k3, .int .i64 r.k4, .int .i64 r.k5, .int .i64 r.k6, .int .i64 r.k7, .int .i64 r.k8, .int .i64 r.k9, .int .i64 r.k10, .int .i64 r.k11, .int .i64 r.mn, .int .i64 r.ti] ∧ TBox w b r

theorem run_load_ABox {a : Act} {o : Oper} {x : Operand} {w : World} {b : Nat} {A : Array Value} (ho : o.op = .load 24 x) (hx : a.eval x = .pointer (some ⟨b, 0, none⟩)) (hb : ABox w b A) :
    (execOp a.eval o).run Try.prog w = .ok (.value (.agg A)) w := by
  obtain ⟨r, rfl, hb⟩ := hb
  exact run_load_TBox ho hx hb

/-- A setting in a box of the law's own. -/
def One (w : World) (b : Nat) (A : Array Value) (w' : World) : Prop := Stay (fun _ => False) w w' ∧ ABox w' b A

theorem One.keep {w W w1 : World} {b : Nat} {A : Array Value} (h : One w b A W) (hs : Stay (fun _ => False) W w1) : One w b A w1 := by
  obtain ⟨h1, r, e, h2⟩ := h
  exact ⟨h1.trans hs, r, e, h2.keep hs⟩

end Go.Proofs.Ytdihjodcbpjabaa
