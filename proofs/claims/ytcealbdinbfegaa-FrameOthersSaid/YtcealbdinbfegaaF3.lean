/-
  The document's Same of notes, walked: true of the same. No conditions.
-/
import Derived.Test.YtcealbdinbfegaaB4
namespace Go.Proofs.Ytcealbdinbfegaa
open Go.RowKit

theorem neqW_op {a : Act} {x y : Operand} {w : World} {d : Option Tmp} {ty : TypeId} (p : Wr) (hx : a.eval x = .agg #[.int .i64 p.x, .int .i64 p.y, .int .i32 p.r, .int .i64 p.fg, .int .i64 p.bg, .int .i64 p.fl]) (hy : a.eval y = .agg #[.int .i64 p.x, .int .i64 p.y, .int .i32 p.r, .int .i64 p.fg, .int .i64 p.bg, .int .i64 p.fl]) :
    (execOp a.eval (opr d (.binOp .neq 36 x y 36) ty)).run Try.prog w = .ok (.value (.bool false)) w := by
  obtain ⟨p0, p1, p2, p3, p4, p5⟩ := p
  simp only [opr, execOp, hx, hy]
  go_simp
  try simp

theorem same11_some (g1 o1 c1 g2 o2 c2 : Nat) (L : List Wr) (w : World) (h1 : IsRowS w 6 (.slice (some ⟨g1, o1, none⟩) L.length c1) L.length (wrs L)) (h2 : IsRowS w 6 (.slice (some ⟨g2, o2, none⟩) L.length c2) L.length (wrs L)) (hl : L.length ≤ 1000) :
    Calls Try.prog 11 #[.slice (some ⟨g1, o1, none⟩) L.length c1, .slice (some ⟨g2, o2, none⟩) L.length c2] w (Gives (.bool true) w) := by
  obtain ⟨n, hn⟩ : ∃ n, n = L.length := ⟨_, rfl⟩
  have HB : Hid (∀ k, k < n → ∃ p, ∀ W, Stay (fun _ => False) w W → WBoxAt W g1 (o1 + k * 6) p ∧ WBoxAt W g2 (o2 + k * 6) p) := fun k hk => ⟨L[k]'(by omega), fun W hs => ⟨(wr_at h1 k _ (List.getElem?_eq_getElem (by omega))).keep hs, (wr_at h2 k _ (List.getElem?_eq_getElem (by omega))).keep hs⟩⟩
  have HS := hide' (Stay.refl (fun _ => False) w)
  have hmi : (n : Int) ≤ 1000 := by omega
  rw [← hn]
  clear h1 h2 hn hl
  go_enter Try.func11, Try.ntmps11
  go_wp2
  go_loopg [5] n (fun g i wr => ∃ k : Nat, k ≤ n ∧ g = n - k ∧ i = .int .i64 (k : Int) ∧ Hid (Stay (fun _ => False) w wr))
  case atStart => exact ⟨0, Nat.zero_le _, rfl, rfl, HS⟩
  case round =>
    obtain ⟨k, hk, rfl, rfl, HSr⟩ := hrel
    by_cases hlt : k < n
    · have kn : (k : Int) < n := by omega
      obtain ⟨p, hp⟩ := HB.out k hlt
      have HP := hide' hp
      clear hp
      go_upto_region 6 with fail
      have hS : (fun w' => Stay (fun _ => False) w w' ∧ WBoxAt w' g1 (o1 + k * 6) p ∧ WBoxAt w' g2 (o2 + k * 6) p) wr.drew := ⟨HSr.out.drew, HP.out _ HSr.out.drew⟩
      refine wp_region_mix (fun w' => Stay (fun _ => False) w w' ∧ WBoxAt w' g1 (o1 + k * 6) p ∧ WBoxAt w' g2 (o2 + k * 6) p) [(0, true), (1, true), (2, true), (3, true), (4, true), (5, true), (6, true), (7, true), (8, true)] (by kernel_rfl) (by kernel_rfl) (fun _ d _ _ _ h => by cases d <;> exact h) hS ?_
      refine mix_begin (fun K0 hK0 => ?_)
      refine mix_take hK0 (some 17) (.move (.tmp 0)) 22 _ (by kernel_rfl) (by kernel_rfl) (fun w' hS' => by simp only [opr]; go_simp; try with_reducible rfl) (fun K1 hK1 => ?_)
      clear hK0 K0
      simp only [Act.put, List.setIfInBounds_toArray, List.set_cons_zero, List.set_cons_succ]
      refine mix_take hK1 (some 18) (.move (.tmp 5)) 3 _ (by kernel_rfl) (by kernel_rfl) (fun w' hS' => by simp only [opr]; go_simp; try with_reducible rfl) (fun K2 hK2 => ?_)
      clear hK1 K1
      simp only [Act.put, List.setIfInBounds_toArray, List.set_cons_zero, List.set_cons_succ]
      refine mix_take hK2 (some 19) (.indexAddr 22 (.tmp 17) (.tmp 18)) 0 _ (by kernel_rfl) (by kernel_rfl) (fun w' hS' => by simp only [opr]; go_simp; try with_reducible rfl) (fun K3 hK3 => ?_)
      clear hK2 K2
      simp only [Act.put, List.setIfInBounds_toArray, List.set_cons_zero, List.set_cons_succ]
      refine mix_take hK3 (some 20) (.load 36 (.tmp 19)) 36 _ (by kernel_rfl) (by kernel_rfl) (fun w' hS' => by first | exact run_load_WBoxAt rfl rfl hS'.2.1 | exact run_load_WBoxAt rfl rfl hS'.2.2) (fun K4 hK4 => ?_)
      clear hK3 K3
      simp only [Act.put, List.setIfInBounds_toArray, List.set_cons_zero, List.set_cons_succ]
      refine mix_take hK4 (some 21) (.move (.tmp 1)) 22 _ (by kernel_rfl) (by kernel_rfl) (fun w' hS' => by simp only [opr]; go_simp; try with_reducible rfl) (fun K5 hK5 => ?_)
      clear hK4 K4
      simp only [Act.put, List.setIfInBounds_toArray, List.set_cons_zero, List.set_cons_succ]
      refine mix_take hK5 (some 22) (.move (.tmp 5)) 3 _ (by kernel_rfl) (by kernel_rfl) (fun w' hS' => by simp only [opr]; go_simp; try with_reducible rfl) (fun K6 hK6 => ?_)
      clear hK5 K5
      simp only [Act.put, List.setIfInBounds_toArray, List.set_cons_zero, List.set_cons_succ]
      refine mix_take hK6 (some 23) (.indexAddr 22 (.tmp 21) (.tmp 22)) 0 _ (by kernel_rfl) (by kernel_rfl) (fun w' hS' => by simp only [opr]; go_simp; try with_reducible rfl) (fun K7 hK7 => ?_)
      clear hK6 K6
      simp only [Act.put, List.setIfInBounds_toArray, List.set_cons_zero, List.set_cons_succ]
      refine mix_take hK7 (some 24) (.load 36 (.tmp 23)) 36 _ (by kernel_rfl) (by kernel_rfl) (fun w' hS' => by first | exact run_load_WBoxAt rfl rfl hS'.2.1 | exact run_load_WBoxAt rfl rfl hS'.2.2) (fun K8 hK8 => ?_)
      clear hK7 K7
      simp only [Act.put, List.setIfInBounds_toArray, List.set_cons_zero, List.set_cons_succ]
      refine mix_take hK8 (some 25) (.binOp BinOp.neq 36 (.tmp 20) (.tmp 24) 36) 4 _ (by kernel_rfl) (by kernel_rfl) (fun w' hS' => by exact neqW_op p rfl rfl) (fun K9 hK9 => ?_)
      clear hK8 K8
      simp only [Act.put, List.setIfInBounds_toArray, List.set_cons_zero, List.set_cons_succ]
      refine hK9 _ _ (mix_nil ?_)
      clear hK9 K9
      have HS2 := hide' hS.1
      clear hS HSr HP
      go_wp2
      go_roundg (n - (k + 1))
      case rel => exact ⟨k + 1, by omega, rfl, by go_num, HS2⟩
      case measure => omega
    · have d1 : decide ((k : Int) < n) = false := by simp; omega
      go_wp2
      go_ret
      exact ⟨rfl, HSr.out⟩

theorem same11_nil (a1 a2 : Option Addr) (c1 c2 : Nat) (w : World) : Calls Try.prog 11 #[.slice a1 0 c1, .slice a2 0 c2] w (Gives (.bool true) w) := by
  have HS := hide' (Stay.refl (fun _ => False) w)
  go_enter Try.func11, Try.ntmps11
  go_wp2
  go_loopg [5] 0 (fun g i wr => g = 0 ∧ i = .int .i64 0 ∧ Hid (Stay (fun _ => False) w wr))
  case atStart => exact ⟨rfl, rfl, HS⟩
  case round =>
    obtain ⟨rfl, rfl, HSr⟩ := hrel
    go_wp2
    go_ret
    exact ⟨rfl, HSr.out⟩

/-- The same notes, in two windows. -/
theorem same11 (a1 a2 : Option Addr) (c1 c2 n : Nat) (L : List Wr) (w : World) (hn : L.length = n) (h1 : Win w 6 (.slice a1 n c1) L.length (wrs L)) (h2 : Win w 6 (.slice a2 n c2) L.length (wrs L)) (hl : L.length ≤ 1000) :
    Calls Try.prog 11 #[.slice a1 n c1, .slice a2 n c2] w (Gives (.bool true) w) := by
  subst hn
  have r1 := h1.front (Nat.le_refl _)
  have r2 := h2.front (Nat.le_refl _)
  rw [← wrs_len, List.take_length] at r1 r2
  by_cases h0 : L.length = 0
  · rw [h0]
    exact same11_nil a1 a2 c1 c2 w
  · obtain ⟨g1, o1, e1⟩ : ∃ g o, a1 = some ⟨g, o, none⟩ := by
      rcases h1.2 with ⟨_, h⟩ | ⟨g, o, cap, h, _⟩
      · exact absurd h h0
      · cases h
        exact ⟨g, o, rfl⟩
    obtain ⟨g2, o2, e2⟩ : ∃ g o, a2 = some ⟨g, o, none⟩ := by
      rcases h2.2 with ⟨_, h⟩ | ⟨g, o, cap, h, _⟩
      · exact absurd h h0
      · cases h
        exact ⟨g, o, rfl⟩
    subst e1 e2
    exact same11_some g1 o1 c1 g2 o2 c2 L w r1 r2 hl

end Go.Proofs.Ytcealbdinbfegaa
