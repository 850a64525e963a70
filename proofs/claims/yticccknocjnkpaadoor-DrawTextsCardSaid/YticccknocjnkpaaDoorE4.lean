/-
  Rows of a grid, the same cells, what is shown: walked. No conditions.
-/
import Derived.Test.YticccknocjnkpaaDoorG5
namespace Go.Proofs.YticccknocjnkpaaDoor
open Go.RowKit

/-- A row that is new. -/
def NewRow (m : Nat) (f : Nat → Cl) (w : World) (e : Ending) (w' : World) : Prop := ∃ g cap, e = .returned (.slice (some ⟨g, 0, none⟩) m cap) ∧ Stay (fun _ => False) w w' ∧ Pix w' g m f ∧ w.heap.size ≤ g

theorem eql26_nil (a : Addr) (m c : Nat) (w : World) : (binOp .eql 26 (.slice (some a) m c) (.slice none 0 0)).run Tryd.prog w = .ok (.bool false) w := by
  simp only [binOp]
  simp [run_equal_slice_nil w 26 40 (some a) m c Tryd.underlying26]

attribute [local go_sem] eql26_nil

theorem neqC_op {a : Act} {x y : Operand} {w : World} {d : Option Tmp} {ty : TypeId} (b : Bool) (p q : Cl) (hx : a.eval x = .agg #[.int .i32 p.r, .int .i64 p.fg, .int .i64 p.bg, .int .i64 p.fl]) (hy : a.eval y = .agg #[.int .i32 q.r, .int .i64 q.fg, .int .i64 q.bg, .int .i64 q.fl]) (hb : (!decide (p = q)) = b) :
    (execOp a.eval (opr d (.binOp .neq 40 x y 40) ty)).run Tryd.prog w = .ok (.value (.bool b)) w := by
  subst hb
  obtain ⟨p0, p1, p2, p3⟩ := p
  obtain ⟨q0, q1, q2, q3⟩ := q
  simp only [opr, execOp, hx, hy]
  by_cases h0 : p0 = q0 <;> by_cases h1 : p1 = q1 <;> by_cases h2 : p2 = q2 <;> by_cases h3 : p3 = q3 <;> (go_simp; try simp [h0, h1, h2, h3])

theorem eqlC_op {a : Act} {x y : Operand} {w : World} {d : Option Tmp} {ty : TypeId} (b : Bool) (p q : Cl) (hx : a.eval x = .agg #[.int .i32 p.r, .int .i64 p.fg, .int .i64 p.bg, .int .i64 p.fl]) (hy : a.eval y = .agg #[.int .i32 q.r, .int .i64 q.fg, .int .i64 q.bg, .int .i64 q.fl]) (hb : decide (p = q) = b) :
    (execOp a.eval (opr d (.binOp .eql 40 x y 40) ty)).run Tryd.prog w = .ok (.value (.bool b)) w := by
  subst hb
  obtain ⟨p0, p1, p2, p3⟩ := p
  obtain ⟨q0, q1, q2, q3⟩ := q
  simp only [opr, execOp, hx, hy]
  by_cases h0 : p0 = q0 <;> by_cases h1 : p1 = q1 <;> by_cases h2 : p2 = q2 <;> by_cases h3 : p3 = q3 <;> (go_simp; try simp [h0, h1, h2, h3])

theorem CAt.box {w : World} {b o : Nat} {c : Cl} (h : CAt w b o c) : BoxCAt w b o c := ⟨h.four.1, h.four.2.1, h.four.2.2.1, h.four.2.2.2⟩

theorem same5 (b1 o1 c1 b2 o2 c2 m m2 : Nat) (f : Nat → Cl) (w : World) (h1 : ∀ i, i < m → CAt w b1 (o1 + i * 4) (f i)) (h2 : ∀ i, i < m → CAt w b2 (o2 + i * 4) (f i)) (hm2 : m2 = m) (hm : m ≤ 1000) :
    Calls Tryd.prog 5 #[.slice (some ⟨b1, o1, none⟩) m c1, .slice (some ⟨b2, o2, none⟩) m2 c2] w (Gives (.bool true) w) := by
  subst hm2
  have HB : Hid (∀ k, k < m2 → ∀ W, Stay (fun _ => False) w W → BoxCAt W b1 (o1 + k * 4) (f k) ∧ BoxCAt W b2 (o2 + k * 4) (f k)) := fun k hk W hs => ⟨((h1 k hk).stay hs (fun h => h)).box, ((h2 k hk).stay hs (fun h => h)).box⟩
  have HS := hide' (Stay.refl (fun _ => False) w)
  have hmi : (m2 : Int) ≤ 1000 := by omega
  clear h1 h2
  go_enter Tryd.func5, Tryd.ntmps5
  go_wp2
  go_loopg [5] m2 (fun g i wr => ∃ k : Nat, k ≤ m2 ∧ g = m2 - k ∧ i = .int .i64 (k : Int) ∧ Hid (Stay (fun _ => False) w wr))
  case atStart => exact ⟨0, Nat.zero_le _, rfl, rfl, HS⟩
  case round =>
    obtain ⟨k, hk, rfl, rfl, HSr⟩ := hrel
    by_cases hlt : k < m2
    · have kn : (k : Int) < m2 := by omega
      have hB2 := HB.out k hlt wr.drew HSr.out.drew
      go_upto_region 6 with fail
      have hS : (fun w' => Stay (fun _ => False) w w' ∧ BoxCAt w' b1 (o1 + k * 4) (f k) ∧ BoxCAt w' b2 (o2 + k * 4) (f k)) wr.drew := ⟨HSr.out.drew, hB2.1, hB2.2⟩
      refine wp_region_mix (fun w' => Stay (fun _ => False) w w' ∧ BoxCAt w' b1 (o1 + k * 4) (f k) ∧ BoxCAt w' b2 (o2 + k * 4) (f k)) [(0, true), (1, true), (2, true), (3, true), (4, true), (5, true), (6, true), (7, true), (8, true)] (by kernel_rfl) (by kernel_rfl) (fun _ d _ _ _ h => by cases d <;> exact h) hS ?_
      refine mix_begin (fun K0 hK0 => ?_)
      refine mix_take hK0 (some 17) (.move (.tmp 0)) 26 _ (by kernel_rfl) (by kernel_rfl) (fun w' hS' => by simp only [opr]; go_simp; try with_reducible rfl) (fun K1 hK1 => ?_)
      clear hK0 K0
      simp only [Act.put, List.setIfInBounds_toArray, List.set_cons_zero, List.set_cons_succ]
      refine mix_take hK1 (some 18) (.move (.tmp 5)) 3 _ (by kernel_rfl) (by kernel_rfl) (fun w' hS' => by simp only [opr]; go_simp; try with_reducible rfl) (fun K2 hK2 => ?_)
      clear hK1 K1
      simp only [Act.put, List.setIfInBounds_toArray, List.set_cons_zero, List.set_cons_succ]
      refine mix_take hK2 (some 19) (.indexAddr 26 (.tmp 17) (.tmp 18)) 0 _ (by kernel_rfl) (by kernel_rfl) (fun w' hS' => by simp only [opr]; go_simp; try with_reducible rfl) (fun K3 hK3 => ?_)
      clear hK2 K2
      simp only [Act.put, List.setIfInBounds_toArray, List.set_cons_zero, List.set_cons_succ]
      refine mix_take hK3 (some 20) (.load 40 (.tmp 19)) 40 _ (by kernel_rfl) (by kernel_rfl) (fun w' hS' => by first | exact run_load_BoxCAt rfl rfl hS'.2.1 | exact run_load_BoxCAt rfl rfl hS'.2.2) (fun K4 hK4 => ?_)
      clear hK3 K3
      simp only [Act.put, List.setIfInBounds_toArray, List.set_cons_zero, List.set_cons_succ]
      refine mix_take hK4 (some 21) (.move (.tmp 1)) 26 _ (by kernel_rfl) (by kernel_rfl) (fun w' hS' => by simp only [opr]; go_simp; try with_reducible rfl) (fun K5 hK5 => ?_)
      clear hK4 K4
      simp only [Act.put, List.setIfInBounds_toArray, List.set_cons_zero, List.set_cons_succ]
      refine mix_take hK5 (some 22) (.move (.tmp 5)) 3 _ (by kernel_rfl) (by kernel_rfl) (fun w' hS' => by simp only [opr]; go_simp; try with_reducible rfl) (fun K6 hK6 => ?_)
      clear hK5 K5
      simp only [Act.put, List.setIfInBounds_toArray, List.set_cons_zero, List.set_cons_succ]
      refine mix_take hK6 (some 23) (.indexAddr 26 (.tmp 21) (.tmp 22)) 0 _ (by kernel_rfl) (by kernel_rfl) (fun w' hS' => by simp only [opr]; go_simp; try with_reducible rfl) (fun K7 hK7 => ?_)
      clear hK6 K6
      simp only [Act.put, List.setIfInBounds_toArray, List.set_cons_zero, List.set_cons_succ]
      refine mix_take hK7 (some 24) (.load 40 (.tmp 23)) 40 _ (by kernel_rfl) (by kernel_rfl) (fun w' hS' => by first | exact run_load_BoxCAt rfl rfl hS'.2.1 | exact run_load_BoxCAt rfl rfl hS'.2.2) (fun K8 hK8 => ?_)
      clear hK7 K7
      simp only [Act.put, List.setIfInBounds_toArray, List.set_cons_zero, List.set_cons_succ]
      refine mix_take hK8 (some 25) (.binOp BinOp.neq 40 (.tmp 20) (.tmp 24) 40) 4 _ (by kernel_rfl) (by kernel_rfl) (fun w' hS' => by exact neqC_op false _ _ rfl rfl (by simp)) (fun K9 hK9 => ?_)
      clear hK8 K8
      simp only [Act.put, List.setIfInBounds_toArray, List.set_cons_zero, List.set_cons_succ]
      refine hK9 _ _ (mix_nil ?_)
      clear hK9 K9
      have HS2 := hide' hS.1
      clear hS hB2 HSr
      go_wp2
      go_roundg (m2 - (k + 1))
      case rel => exact ⟨k + 1, by omega, rfl, by go_num, HS2⟩
      case measure => omega
    · have d1 : decide ((k : Int) < m2) = false := by simp; omega
      go_wp2
      go_ret
      exact ⟨rfl, HSr.out⟩

end Go.Proofs.YticccknocjnkpaaDoor
