/-
  The example of the document; whole functions of any pen: walked. No conditions.
-/
import Derived.Test.YtinikpadbocfaaaF3
namespace Go.Proofs.Ytinikpadbocfaaa
open Go.RowKit

theorem least15 (p : Pn) (w : World) : Calls Try.prog 15 #[.agg #[.int .i64 p.fg, .int .i64 p.bg, .int .i64 p.fl]] w (GivesRow (leastL p) w) := by
  cases h : rightB p with
  | true => exact least15_yes p w h
  | false =>
    refine (least15_no p w h).mono ?_
    rintro e w' ⟨rfl, hs⟩
    exact ⟨_, rfl, by unfold leastL; rw [h]; exact row_nil _, hs⟩

theorem least16 (p : Pn) (w : World) : Calls Try.prog 16 #[.agg #[.int .i64 p.fg, .int .i64 p.bg, .int .i64 p.fl]] w (GivesRow (leastL p) w) := by
  cases h : rightB p with
  | true => exact least16_yes p w h
  | false =>
    refine (least16_no p w h).mono ?_
    rintro e w' ⟨rfl, hs⟩
    exact ⟨_, rfl, by unfold leastL; rw [h]; exact row_nil _, hs⟩

theorem row4_new (w : World) : IArg .i64 (w.alloc (.cells #[.int .i64 1, .int .i64 38, .int .i64 5, .int .i64 9] 3)) (.slice (some ⟨w.heap.size, 0, none⟩) 4 4) [1, 38, 5, 9] (some ⟨w.heap.size, 0, none⟩) 4 := by
  obtain ⟨a, cap, h⟩ := row_new w #[.int .i64 1, .int .i64 38, .int .i64 5, .int .i64 9] [1, 38, 5, 9] 4 rfl rfl (by intro u hu; simp at hu; unfold W64; rcases hu with rfl | rfl | rfl | rfl <;> omega) (by unfold maxLen; omega)
  have e := h.shape
  simp at e
  obtain ⟨rfl, rfl⟩ := e
  exact h

set_option maxHeartbeats 1000000 in
theorem awake7 (w : World) : Calls Try.prog 7 #[] w (LawTrue w) := by
  have HA := hide' (apply11 ⟨0, 0, 0⟩ _ _ _ _ _ (row4_new w) (by simp))
  rw [awake_run] at HA
  have HR := hide' (right9 ⟨0, 0, 0⟩)
  rw [show rightB ⟨0, 0, 0⟩ = true by decide] at HR
  have HS := hide' ((Stay.refl (fun _ => False) w).alloc (.cells #[.int .i64 1, .int .i64 38, .int .i64 5, .int .i64 9] 3))
  go_enter Try.func7, Try.ntmps7
  go_wp2_with fail
  refine HA.out.mono ?_
  rintro e w1 ⟨rfl, hs⟩
  have HS1 := hide' (HS.out.trans hs)
  clear hs HA HS
  go_wp2_with fail
  refine (HR.out _).mono ?_
  rintro e w2 ⟨rfl, hs⟩
  have HS2 := hide' (HS1.out.trans hs)
  clear hs HS1
  go_wp2
  go_ret
  exact ⟨by simp, HS2.out⟩

/-- What stands of a box while a statement is worked out. -/
def OneB (w : World) (b : Nat) (p : Pn) (w' : World) : Prop := Stay (fun _ => False) w w' ∧ Box w' b p

theorem OneB.keep {w W w1 : World} {b : Nat} {p : Pn} (h : OneB w b p W) (hs : Stay (fun _ => False) W w1) : OneB w b p w1 := ⟨h.1.trans hs, h.2.keep hs⟩

def OneR (w : World) (b : Nat) (p : Pn) (t : Value) (l : List Int) (w' : World) : Prop := OneB w b p w' ∧ Row w' t l

theorem OneR.keep {w W w1 : World} {b : Nat} {p : Pn} {t : Value} {l : List Int} (h : OneR w b p t l W) (hs : Stay (fun _ => False) W w1) : OneR w b p t l w1 := ⟨h.1.keep hs, h.2.keep hs⟩

def TwoB (w : World) (b : Nat) (p : Pn) (c : Nat) (q : Pn) (w' : World) : Prop := Stay (fun _ => False) w w' ∧ Box w' b p ∧ Box w' c q

theorem TwoB.keep {w W w1 : World} {b c : Nat} {p q : Pn} (h : TwoB w b p c q W) (hs : Stay (fun _ => False) W w1) : TwoB w b p c q w1 := ⟨h.1.trans hs, h.2.1.keep hs, h.2.2.keep hs⟩

theorem eql_same {a : Act} {x y : Operand} {w : World} {d : Option Tmp} {ty : TypeId} (p : Pn) (hx : a.eval x = .agg #[.int .i64 p.fg, .int .i64 p.bg, .int .i64 p.fl]) (hy : a.eval y = .agg #[.int .i64 p.fg, .int .i64 p.bg, .int .i64 p.fl]) :
    (execOp a.eval (opr d (.binOp .eql 23 x y 23) ty)).run Try.prog w = .ok (.value (.bool true)) w := by
  obtain ⟨p0, p1, p2⟩ := p
  simp only [opr, execOp, hx, hy]
  go_simp

theorem lookL_w64 {c : Int} (h : W64 c) : ∀ x ∈ lookL c, W64 x := by
  unfold W64 at h
  intro x hx
  unfold lookL at hx
  unfold W64
  split at hx
  · simp at hx
    omega
  split at hx
  · simp at hx
  split at hx
  · simp at hx
    omega
  split at hx
  · simp at hx
    omega
  · simp only [List.mem_cons, List.not_mem_nil, or_false] at hx
    split at hx
    all_goals omega

end Go.Proofs.Ytinikpadbocfaaa
