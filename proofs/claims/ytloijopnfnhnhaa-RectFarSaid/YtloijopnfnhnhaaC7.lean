/-
  The same rectangles: walked. No conditions.
-/
import Derived.Test.YtloijopnfnhnhaaC6
namespace Go.Proofs.Ytloijopnfnhnhaa
open Go.RowKit

theorem run_load_at {a : Act} {d : Option Tmp} {ty : TypeId} {x : Operand} {w : World} {g o : Nat} {r : R} (hx : a.eval x = .pointer (some ⟨g, o, none⟩)) (hb : BoxAt w g o r) :
    (execOp a.eval (opr d (.load 23 x) ty)).run Try.prog w = .ok (.value (.agg #[.int .i64 r.x, .int .i64 r.y, .int .i64 r.w, .int .i64 r.h])) w := by
  unfold execOp
  simp only [opr, hx, Instr.loadAt, Instr.sureAddr, Sem.run_bind, Sem.run_pure, Result.andThen_ok]
  rw [run_loadVar_cells w g o 23 _ _ hb.cells Try.underlying23 rfl (by kernel_rfl)]
  rfl

theorem neq_op {a : Act} {x y : Operand} {w : World} {d : Option Tmp} {ty : TypeId} (b : Bool) (p q : R) (hx : a.eval x = .agg #[.int .i64 p.x, .int .i64 p.y, .int .i64 p.w, .int .i64 p.h]) (hy : a.eval y = .agg #[.int .i64 q.x, .int .i64 q.y, .int .i64 q.w, .int .i64 q.h]) (hb : (!decide (p = q)) = b) :
    (execOp a.eval (opr d (.binOp .neq 23 x y 23) ty)).run Try.prog w = .ok (.value (.bool b)) w := by
  subst hb
  obtain ⟨p0, p1, p2, p3⟩ := p
  obtain ⟨q0, q1, q2, q3⟩ := q
  simp only [opr, execOp, hx, hy]
  by_cases h0 : p0 = q0 <;> by_cases h1 : p1 = q1 <;> by_cases h2 : p2 = q2 <;> by_cases h3 : p3 = q3 <;> (go_simp; try simp [h0, h1, h2, h3])

theorem same_drop (L1 L2 : List R) (k : Nat) (r1 r2 : R) (h1 : L1[k]? = some r1) (h2 : L2[k]? = some r2) : decide (L1.drop k = L2.drop k) = (decide (r1 = r2) && decide (L1.drop (k + 1) = L2.drop (k + 1))) := by
  obtain ⟨k1, e1⟩ := List.getElem?_eq_some_iff.1 h1
  obtain ⟨k2, e2⟩ := List.getElem?_eq_some_iff.1 h2
  rw [List.drop_eq_getElem_cons k1, List.drop_eq_getElem_cons k2, e1, e2, Bool.eq_iff_iff]
  simp

set_option maxHeartbeats 1000000 in
theorem sameAll15 (v1 v2 : Value) (L1 L2 : List R) (w : World) (h1 : Rects w v1 L1) (h2 : Rects w v2 L2) : Calls Try.prog 15 #[v1, v2] w (Gives (.bool (decide (L1 = L2))) w) := by
  have len_le : ∀ (v : Value) (L : List R), Rects w v L → L.length ≤ maxLen := fun v L h => by
    rcases h with ⟨rfl, _⟩ | ⟨g, cap, _, h2, h3, _⟩
    · exact Nat.zero_le _
    · omega
  have shape : ∀ (v : Value) (L : List R), Rects w v L → ∃ a c, v = .slice a L.length c := fun v L h => by
    rcases h with ⟨rfl, h⟩ | ⟨g, cap, h, _⟩
    · exact ⟨none, 0, h⟩
    · exact ⟨_, _, h⟩
  by_cases hn : L1.length = L2.length
  · by_cases h0 : L1.length = 0
    · obtain ⟨a1, c1, e1⟩ := shape _ _ h1
      obtain ⟨a2, c2, e2⟩ := shape _ _ h2
      have z1 := List.eq_nil_of_length_eq_zero h0
      have z2 := List.eq_nil_of_length_eq_zero (hn ▸ h0)
      subst z1 z2 e1 e2
      have HS := hide' (Stay.refl (fun _ => False) w)
      clear h1 h2 len_le shape hn h0
      simp only [List.length_nil]
      go_enter Try.func15, Try.ntmps15
      go_wp2
      go_loopg [5] 0 (fun g i wr => g = 0 ∧ i = .int .i64 0 ∧ wr = w)
      case atStart => exact ⟨rfl, rfl, rfl⟩
      case round =>
        obtain ⟨rfl, rfl, rfl⟩ := hrel
        go_wp2
        go_ret
        exact ⟨ret_bool (by simp), HS.out⟩
    · have m1 := len_le _ _ h1
      unfold maxLen at m1
      rcases h1 with ⟨rfl, _⟩ | ⟨g1, cap1, rfl, _, _, b1⟩
      · exact absurd rfl h0
      rcases h2 with ⟨rfl, _⟩ | ⟨g2, cap2, rfl, _, _, b2⟩
      · exact absurd hn h0
      obtain ⟨n, hn1⟩ : ∃ n, n = L1.length := ⟨_, rfl⟩
      have hn2 := hn1.trans hn
      rw [← hn1, ← hn2]
      rw [← hn1] at m1
      have HN1 := hide' hn1
      have HN2 := hide' hn2
      have HB1 := hide' b1
      have HB2 := hide' b2
      have HD : Hid (decide (L1 = L2) = decide (L1.drop 0 = L2.drop 0)) := rfl
      obtain ⟨q, hq⟩ : ∃ q, q = decide (L1 = L2) := ⟨_, rfl⟩
      rw [← hq] at HD ⊢
      have HS := hide' (Stay.refl (fun _ => False) w)
      clear b1 b2 hn1 hn2 len_le shape hn h0 hq
      go_enter Try.func15, Try.ntmps15
      go_wp2
      go_loopg [5] n (fun g i wr => ∃ k : Nat, k ≤ n ∧ g = n - k ∧ i = .int .i64 (k : Int) ∧ Hid (Stay (fun _ => False) w wr) ∧ Hid (q = decide (L1.drop k = L2.drop k)))
      case atStart => exact ⟨0, Nat.zero_le _, rfl, rfl, HS, HD⟩
      case round =>
        obtain ⟨k, hk, rfl, rfl, HSr, HI⟩ := hrel
        by_cases hlt : k < n
        · obtain ⟨r1, e1⟩ : ∃ r, L1[k]? = some r := ⟨_, List.getElem?_eq_getElem (by have := HN1.out; omega)⟩
          obtain ⟨r2, e2⟩ : ∃ r, L2[k]? = some r := ⟨_, List.getElem?_eq_getElem (by have := HN2.out; omega)⟩
          have B1 := (HB1.out k r1 e1).keep HSr.out
          have B2 := (HB2.out k r2 e2).keep HSr.out
          have HR := hide' (same_drop L1 L2 k r1 r2 e1 e2)
          have HB := hide' (⟨HSr.out, B1, B2⟩ : (fun w' => Stay (fun _ => False) w w' ∧ BoxAt w' g1 (k * 4) r1 ∧ BoxAt w' g2 (k * 4) r2) wr)
          have k0 : (0 : Int) ≤ k := by omega
          have kn : (k : Int) < n := by omega
          clear B1 B2 e1 e2
          by_cases hne : r1 = r2
          · have HI2 : Hid (q = decide (L1.drop (k + 1) = L2.drop (k + 1))) := by
              show _ = _
              rw [HI.out, HR.out]; simp [hne]
            have HNE : Hid ((!decide (r1 = r2)) = false) := by
              show _ = _
              simp [hne]
            clear HI HR hne
            go_wp2_with fail
            have hS := (⟨HB.out.1.drew, HB.out.2.1.keep (Stay.refl _ _).drew, HB.out.2.2.keep (Stay.refl _ _).drew⟩ : (fun w' => Stay (fun _ => False) w w' ∧ BoxAt w' g1 (k * 4) r1 ∧ BoxAt w' g2 (k * 4) r2) wr.drew)
            refine wp_region_mix (fun w' => Stay (fun _ => False) w w' ∧ BoxAt w' g1 (k * 4) r1 ∧ BoxAt w' g2 (k * 4) r2) [(0, true), (1, true), (2, true), (3, true), (4, true), (5, true), (6, true), (7, true), (8, true)] (by kernel_rfl) (by kernel_rfl) (fun _ d _ _ _ h => by cases d <;> exact h) hS ?_
            refine mix_begin (fun K0 hK0 => ?_)
            refine mix_take hK0 (some 17) (.move (.tmp 0)) 29 _ (by kernel_rfl) (by kernel_rfl) (fun w' hS' => by simp only [opr]; go_simp; try with_reducible rfl) (fun K1 hK1 => ?_)
            clear hK0 K0
            simp only [Act.put, List.setIfInBounds_toArray, List.set_cons_zero, List.set_cons_succ]
            refine mix_take hK1 (some 18) (.move (.tmp 5)) 3 _ (by kernel_rfl) (by kernel_rfl) (fun w' hS' => by simp only [opr]; go_simp; try with_reducible rfl) (fun K2 hK2 => ?_)
            clear hK1 K1
            simp only [Act.put, List.setIfInBounds_toArray, List.set_cons_zero, List.set_cons_succ]
            refine mix_take hK2 (some 19) (.indexAddr 29 (.tmp 17) (.tmp 18)) 0 _ (by kernel_rfl) (by kernel_rfl) (fun w' hS' => by simp only [opr]; go_simp; try with_reducible rfl) (fun K3 hK3 => ?_)
            clear hK2 K2
            simp only [Act.put, List.setIfInBounds_toArray, List.set_cons_zero, List.set_cons_succ]
            refine mix_take hK3 (some 20) (.load 23 (.tmp 19)) 23 _ (by kernel_rfl) (by kernel_rfl) (fun w' hS' => by first | exact run_load_at rfl hS'.2.1 | exact run_load_at rfl hS'.2.2) (fun K4 hK4 => ?_)
            clear hK3 K3
            simp only [Act.put, List.setIfInBounds_toArray, List.set_cons_zero, List.set_cons_succ]
            refine mix_take hK4 (some 21) (.move (.tmp 1)) 29 _ (by kernel_rfl) (by kernel_rfl) (fun w' hS' => by simp only [opr]; go_simp; try with_reducible rfl) (fun K5 hK5 => ?_)
            clear hK4 K4
            simp only [Act.put, List.setIfInBounds_toArray, List.set_cons_zero, List.set_cons_succ]
            refine mix_take hK5 (some 22) (.move (.tmp 5)) 3 _ (by kernel_rfl) (by kernel_rfl) (fun w' hS' => by simp only [opr]; go_simp; try with_reducible rfl) (fun K6 hK6 => ?_)
            clear hK5 K5
            simp only [Act.put, List.setIfInBounds_toArray, List.set_cons_zero, List.set_cons_succ]
            refine mix_take hK6 (some 23) (.indexAddr 29 (.tmp 21) (.tmp 22)) 0 _ (by kernel_rfl) (by kernel_rfl) (fun w' hS' => by simp only [opr]; go_simp; try with_reducible rfl) (fun K7 hK7 => ?_)
            clear hK6 K6
            simp only [Act.put, List.setIfInBounds_toArray, List.set_cons_zero, List.set_cons_succ]
            refine mix_take hK7 (some 24) (.load 23 (.tmp 23)) 23 _ (by kernel_rfl) (by kernel_rfl) (fun w' hS' => by first | exact run_load_at rfl hS'.2.1 | exact run_load_at rfl hS'.2.2) (fun K8 hK8 => ?_)
            clear hK7 K7
            simp only [Act.put, List.setIfInBounds_toArray, List.set_cons_zero, List.set_cons_succ]
            refine mix_take hK8 (some 25) (.binOp BinOp.neq 23 (.tmp 20) (.tmp 24) 23) 4 _ (by kernel_rfl) (by kernel_rfl) (fun w' hS' => by exact neq_op false _ _ rfl rfl HNE.out) (fun K9 hK9 => ?_)
            clear hK8 K8
            simp only [Act.put, List.setIfInBounds_toArray, List.set_cons_zero, List.set_cons_succ]
            refine hK9 _ _ (mix_nil ?_)
            clear hK9 K9
            have HS2 := hide' hS.1
            clear hS HB HSr
            go_wp2
            go_roundg (n - (k + 1))
            case rel => exact ⟨k + 1, by omega, rfl, by go_num, HS2, HI2⟩
            case measure => omega
          · have HI2 : Hid (q = false) := by
              show _ = _
              rw [HI.out, HR.out]; simp [hne]
            have HNE : Hid ((!decide (r1 = r2)) = true) := by
              show _ = _
              simp [hne]
            clear HI HR hne
            go_wp2_with fail
            have hS := (⟨HB.out.1.drew, HB.out.2.1.keep (Stay.refl _ _).drew, HB.out.2.2.keep (Stay.refl _ _).drew⟩ : (fun w' => Stay (fun _ => False) w w' ∧ BoxAt w' g1 (k * 4) r1 ∧ BoxAt w' g2 (k * 4) r2) wr.drew)
            refine wp_region_mix (fun w' => Stay (fun _ => False) w w' ∧ BoxAt w' g1 (k * 4) r1 ∧ BoxAt w' g2 (k * 4) r2) [(0, true), (1, true), (2, true), (3, true), (4, true), (5, true), (6, true), (7, true), (8, true)] (by kernel_rfl) (by kernel_rfl) (fun _ d _ _ _ h => by cases d <;> exact h) hS ?_
            refine mix_begin (fun K0 hK0 => ?_)
            refine mix_take hK0 (some 17) (.move (.tmp 0)) 29 _ (by kernel_rfl) (by kernel_rfl) (fun w' hS' => by simp only [opr]; go_simp; try with_reducible rfl) (fun K1 hK1 => ?_)
            clear hK0 K0
            simp only [Act.put, List.setIfInBounds_toArray, List.set_cons_zero, List.set_cons_succ]
            refine mix_take hK1 (some 18) (.move (.tmp 5)) 3 _ (by kernel_rfl) (by kernel_rfl) (fun w' hS' => by simp only [opr]; go_simp; try with_reducible rfl) (fun K2 hK2 => ?_)
            clear hK1 K1
            simp only [Act.put, List.setIfInBounds_toArray, List.set_cons_zero, List.set_cons_succ]
            refine mix_take hK2 (some 19) (.indexAddr 29 (.tmp 17) (.tmp 18)) 0 _ (by kernel_rfl) (by kernel_rfl) (fun w' hS' => by simp only [opr]; go_simp; try with_reducible rfl) (fun K3 hK3 => ?_)
            clear hK2 K2
            simp only [Act.put, List.setIfInBounds_toArray, List.set_cons_zero, List.set_cons_succ]
            refine mix_take hK3 (some 20) (.load 23 (.tmp 19)) 23 _ (by kernel_rfl) (by kernel_rfl) (fun w' hS' => by first | exact run_load_at rfl hS'.2.1 | exact run_load_at rfl hS'.2.2) (fun K4 hK4 => ?_)
            clear hK3 K3
            simp only [Act.put, List.setIfInBounds_toArray, List.set_cons_zero, List.set_cons_succ]
            refine mix_take hK4 (some 21) (.move (.tmp 1)) 29 _ (by kernel_rfl) (by kernel_rfl) (fun w' hS' => by simp only [opr]; go_simp; try with_reducible rfl) (fun K5 hK5 => ?_)
            clear hK4 K4
            simp only [Act.put, List.setIfInBounds_toArray, List.set_cons_zero, List.set_cons_succ]
            refine mix_take hK5 (some 22) (.move (.tmp 5)) 3 _ (by kernel_rfl) (by kernel_rfl) (fun w' hS' => by simp only [opr]; go_simp; try with_reducible rfl) (fun K6 hK6 => ?_)
            clear hK5 K5
            simp only [Act.put, List.setIfInBounds_toArray, List.set_cons_zero, List.set_cons_succ]
            refine mix_take hK6 (some 23) (.indexAddr 29 (.tmp 21) (.tmp 22)) 0 _ (by kernel_rfl) (by kernel_rfl) (fun w' hS' => by simp only [opr]; go_simp; try with_reducible rfl) (fun K7 hK7 => ?_)
            clear hK6 K6
            simp only [Act.put, List.setIfInBounds_toArray, List.set_cons_zero, List.set_cons_succ]
            refine mix_take hK7 (some 24) (.load 23 (.tmp 23)) 23 _ (by kernel_rfl) (by kernel_rfl) (fun w' hS' => by first | exact run_load_at rfl hS'.2.1 | exact run_load_at rfl hS'.2.2) (fun K8 hK8 => ?_)
            clear hK7 K7
            simp only [Act.put, List.setIfInBounds_toArray, List.set_cons_zero, List.set_cons_succ]
            refine mix_take hK8 (some 25) (.binOp BinOp.neq 23 (.tmp 20) (.tmp 24) 23) 4 _ (by kernel_rfl) (by kernel_rfl) (fun w' hS' => by exact neq_op true _ _ rfl rfl HNE.out) (fun K9 hK9 => ?_)
            clear hK8 K8
            simp only [Act.put, List.setIfInBounds_toArray, List.set_cons_zero, List.set_cons_succ]
            refine hK9 _ _ (mix_nil ?_)
            clear hK9 K9
            have HS2 := hide' hS.1
            clear hS HB HSr
            go_wp2
            go_ret
            exact ⟨ret_bool HI2.out.symm, HS2.out⟩
        · have HI2 : Hid (q = true) := by
            show _ = _
            rw [HI.out, List.drop_of_length_le (by have := HN1.out; omega), List.drop_of_length_le (by have := HN2.out; omega)]; simp
          have d1 : decide ((k : Int) < n) = false := by simp; omega
          clear HI
          go_wp2
          go_ret
          exact ⟨ret_bool HI2.out.symm, HSr.out⟩
  · obtain ⟨a1, c1, e1⟩ := shape _ _ h1
    obtain ⟨a2, c2, e2⟩ := shape _ _ h2
    have m1 := len_le _ _ h1
    have m2 := len_le _ _ h2
    unfold maxLen at m1 m2
    have HQ : Hid (decide (L1 = L2) = false) := by
      show _ = _
      simp only [decide_eq_false_iff_not]
      rintro rfl
      exact hn rfl
    obtain ⟨q, hq⟩ : ∃ q, q = decide (L1 = L2) := ⟨_, rfl⟩
    rw [← hq] at HQ ⊢
    subst e1 e2
    clear h1 h2 len_le shape hq
    obtain ⟨n1, hn1⟩ : ∃ n, n = L1.length := ⟨_, rfl⟩
    obtain ⟨n2, hn2⟩ : ∃ n, n = L2.length := ⟨_, rfl⟩
    rw [← hn1, ← hn2] at hn
    rw [← hn1, ← hn2]
    have d1 : ((n1 : Int) == (n2 : Int)) = false := by simp; omega
    have d2 : ((n1 : Int) != (n2 : Int)) = true := by simp; omega
    have d3 : (n1 == n2) = false := by simpa using hn
    clear hn1 hn2 hn m1 m2
    go_enter Try.func15, Try.ntmps15
    go_wp2
    go_ret
    exact ⟨ret_bool HQ.out.symm, Stay.refl _ _⟩

end Go.Proofs.Ytloijopnfnhnhaa
