/-
  GridNews walked: true of any sizes and any cell. No conditions.
-/
import Derived.Test.YtmpmdlbhiogelaaE7
namespace Go.Proofs.Ytmpmdlbhiogelaa
open Go.RowKit

set_option maxRecDepth 100000 in
theorem blit18_to_nil (G : Gr) (F : Nat → Cl) (p q : Nat) (w : World) (hG : GridAt w G F) (p1 : 1 ≤ p) (p2 : p ≤ G.w) (q1 : 1 ≤ q) (q2 : q ≤ G.h) : Calls Try.prog 18 #[.pointer (some ⟨G.g, 0, none⟩), .pointer none, .agg #[.int .i64 (⟨0, 0, (p : Nat), (q : Nat)⟩ : R).x, .int .i64 (⟨0, 0, (p : Nat), (q : Nat)⟩ : R).y, .int .i64 (⟨0, 0, (p : Nat), (q : Nat)⟩ : R).w, .int .i64 (⟨0, 0, (p : Nat), (q : Nat)⟩ : R).h], .int .i64 0, .int .i64 0] w (Gives (.int .i64 0) w) := by
  have hs0 : Stay (fun _ => False) w (w.alloc (.cells #[.int .i64 (⟨0, 0, (p : Nat), (q : Nat)⟩ : R).x, .int .i64 (⟨0, 0, (p : Nat), (q : Nat)⟩ : R).y, .int .i64 (⟨0, 0, (p : Nat), (q : Nat)⟩ : R).w, .int .i64 (⟨0, 0, (p : Nat), (q : Nat)⟩ : R).h] 31)) := (Stay.refl _ _).alloc _
  have hgl := hG.lt
  have g2 := hG.w2
  have g3 := hG.h2
  have HR1 := hide' (right33 ⟨0, 0, (p : Nat), (q : Nat)⟩)
  rw [show rightB ⟨0, 0, (p : Nat), (q : Nat)⟩ = true from right_of (by omega)] at HR1
  have HR2 := hide' (right33 ⟨0, 0, 0, 0⟩)
  rw [show rightB ⟨0, 0, 0, 0⟩ = true by decide] at HR2
  have hq : bothR ⟨0, 0, (p : Nat), (q : Nat)⟩ (⟨0, 0, (G.w : Nat), (G.h : Nat)⟩ : R) = ⟨0, 0, (p : Nat), (q : Nat)⟩ := by
    have h1 := hG.w1
    have h2 := hG.h1
    have h3 := hG.w2
    have h4 := hG.h2
    unfold bothR
    rw [if_pos (by rw [right_of (by omega), right_of (by omega)]; rfl)]
    have e : interR ⟨0, 0, (p : Nat), (q : Nat)⟩ (⟨0, 0, (G.w : Nat), (G.h : Nat)⟩ : R) = ⟨0, 0, (p : Nat), (q : Nat)⟩ := by
      show (⟨max 0 0, max 0 0, min (0 + (p : Int)) (0 + (G.w : Int)) - max 0 0, min (0 + (q : Int)) (0 + (G.h : Int)) - max 0 0⟩ : R) = _
      simp only [R.mk.injEq]
      refine ⟨?_, ?_, ?_, ?_⟩ <;> omega
    rw [e]
    unfold orNoneR
    rw [if_neg (by unfold emptyB; simp; omega)]
  have HBO1 := hide' (fun w => both31 ⟨0, 0, (p : Nat), (q : Nat)⟩ (⟨0, 0, (G.w : Nat), (G.h : Nat)⟩ : R) w)
  rw [hq] at HBO1
  have HBO2 := hide' (fun w => both31 ⟨0, 0, (p : Nat), (q : Nat)⟩ (⟨0, 0, 0, 0⟩ : R) w)
  rw [show bothR ⟨0, 0, (p : Nat), (q : Nat)⟩ ⟨0, 0, 0, 0⟩ = ⟨0, 0, 0, 0⟩ by
    unfold bothR
    rw [if_pos (by rw [right_of (by omega)]; decide)]
    unfold orNoneR
    rw [if_pos]
    unfold emptyB interR
    simp
    omega] at HBO2
  have HAR := hide' (fun w => area32 ⟨0, 0, 0, 0⟩ w)
  rw [show areaI ⟨0, 0, 0, 0⟩ = 0 by decide] at HAR
  let X : World → Prop := fun W => Stay (fun _ => False) w W ∧ GridAt W G F
  have HX : Hid (X (w.alloc (.cells #[.int .i64 (⟨0, 0, (p : Nat), (q : Nat)⟩ : R).x, .int .i64 (⟨0, 0, (p : Nat), (q : Nat)⟩ : R).y, .int .i64 (⟨0, 0, (p : Nat), (q : Nat)⟩ : R).w, .int .i64 (⟨0, 0, (p : Nat), (q : Nat)⟩ : R).h] 31))) := ⟨hs0, hG.keep hs0⟩
  have HB := hide' (Box.new (w := w) ⟨0, 0, (p : Nat), (q : Nat)⟩ rfl)
  have HXK : Hid (∀ W W1, X W → Stay (fun _ => False) W W1 → X W1) := fun W W1 h hs => ⟨h.1.trans hs, h.2.keep hs⟩
  have HXP : Hid (∀ W v0 v1 v2 v3, X W → X ((((W.setCell ⟨w.heap.size, 0, none⟩ v0).setCell ⟨w.heap.size, 1, none⟩ v1).setCell ⟨w.heap.size, 2, none⟩ v2).setCell ⟨w.heap.size, 3, none⟩ v3)) := fun W v0 v1 v2 v3 h =>
    have hp : Stay (fun k => k = w.heap.size) W _ := ((((Stay.refl (fun k => k = w.heap.size) W).setCell (p := ⟨w.heap.size, 0, none⟩) rfl v0).setCell (p := ⟨w.heap.size, 1, none⟩) rfl v1).setCell (p := ⟨w.heap.size, 2, none⟩) rfl v2).setCell (p := ⟨w.heap.size, 3, none⟩) rfl v3
    ⟨h.1.put (Nat.le_refl _) _ _ _ _, h.2.stay hp (by omega) (by omega) (by omega)⟩
  have HXQ : Hid (∀ W v0 v1, X W → X ((W.setCell ⟨w.heap.size, 0, none⟩ v0).setCell ⟨w.heap.size, 1, none⟩ v1)) := fun W v0 v1 h =>
    have hp : Stay (fun k => k = w.heap.size) W _ := ((Stay.refl (fun k => k = w.heap.size) W).setCell (p := ⟨w.heap.size, 0, none⟩) rfl v0).setCell (p := ⟨w.heap.size, 1, none⟩) rfl v1
    ⟨(h.1.setNew (p := ⟨w.heap.size, 0, none⟩) (Nat.le_refl _) v0).setNew (p := ⟨w.heap.size, 1, none⟩) (Nat.le_refl _) v1, h.2.stay hp (by omega) (by omega) (by omega)⟩
  have HXS : Hid (∀ W, X W → Stay (fun _ => False) w W) := fun W h => h.1
  have HWH : Hid (∀ W, X W → Calls Try.prog 28 #[.pointer (some ⟨G.g, 0, none⟩)] W (Gives (.agg #[.int .i64 (⟨0, 0, (G.w : Nat), (G.h : Nat)⟩ : R).x, .int .i64 (⟨0, 0, (G.w : Nat), (G.h : Nat)⟩ : R).y, .int .i64 (⟨0, 0, (G.w : Nat), (G.h : Nat)⟩ : R).w, .int .i64 (⟨0, 0, (G.w : Nat), (G.h : Nat)⟩ : R).h]) W)) := fun W h => whole28 G F W h.2
  have HWO : Hid (∀ W, X W → Calls Try.prog 28 #[.pointer none] W (Gives (.agg #[.int .i64 (⟨0, 0, 0, 0⟩ : R).x, .int .i64 (⟨0, 0, 0, 0⟩ : R).y, .int .i64 (⟨0, 0, 0, 0⟩ : R).w, .int .i64 (⟨0, 0, 0, 0⟩ : R).h]) W)) := fun W h => whole28_nil W
  clear_value X
  clear hs0 hgl hq hG g2 g3 p1 p2 q1 q2
  go_enter Try.func18, Try.ntmps18
  go_upto_region 1 with fail
  obtain ⟨W, hW⟩ : ∃ W, W = (w.alloc (.cells #[.int .i64 (⟨0, 0, (p : Nat), (q : Nat)⟩ : R).x, .int .i64 (⟨0, 0, (p : Nat), (q : Nat)⟩ : R).y, .int .i64 (⟨0, 0, (p : Nat), (q : Nat)⟩ : R).w, .int .i64 (⟨0, 0, (p : Nat), (q : Nat)⟩ : R).h] 31)) := ⟨_, rfl⟩
  have HX' := HX
  have HB' := HB
  rw [← hW] at HX' HB'
  clear HX HB
  have HX := HX'
  have HB := HB'
  clear HX' HB'
  obtain ⟨rc0, rc1, rc2, rc3, rf0, rf1, rf2, rf3⟩ := HB.out
  simp only at rc0 rc1 rc2 rc3
  have hW' := hW
  simp only at hW'
  rw [← hW']
  clear hW hW'
  go_wp2_with fail
  refine (HR1.out _).mono ?_
  rintro e w2 ⟨rfl, hs⟩
  have HX2 := hide' (HXK.out _ _ HX.out hs)
  have HB2 := hide' (HB.out.keep hs)
  clear hs HX HB rc0 rc1 rc2 rc3 rf0 rf1 rf2 rf3
  go_wp2_with fail
  refine (HR2.out _).mono ?_
  rintro e w3 ⟨rfl, hs⟩
  have HX3 := hide' (HXK.out _ _ HX2.out hs)
  have HB3 := hide' (HB2.out.keep hs)
  clear hs HX2 HB2
  obtain ⟨rc0, rc1, rc2, rc3, rf0, rf1, rf2, rf3⟩ := HB3.out
  simp only at rc0 rc1 rc2 rc3
  go_wp2_with fail
  go_quiet (fail)
  clear rc0 rc1 rc2 rc3 rf0 rf1 rf2 rf3
  go_upto_region 4 with fail
  obtain ⟨W4, hW4⟩ : ∃ W, W = (w3.drewN nq) := ⟨_, rfl⟩
  have HX : Hid (X W4) := by rw [hW4]; exact HXK.out _ _ HX3.out ((Stay.refl _ _).drewN _)
  have HB : Hid (Box W4 w.heap.size ⟨0, 0, (p : Nat), (q : Nat)⟩) := by rw [hW4]; exact HB3.out.keep ((Stay.refl _ _).drewN _)
  rw [← hW4]
  clear hW4 HX3 HB3
  have HBO := HBO1
  go_cut [] (fun wx => Hid (X wx ∧ Box wx w.heap.size ⟨0, 0, (p : Nat), (q : Nat)⟩))
  case first =>
    refine any_begin (fun _ => True) (by kernel_rfl) (fun K0 hK0 => ?_)
    have hs : Stay (fun _ => False) W4 W4.drew := (Stay.refl _ _).drew
    have HX' := hide' (HXK.out _ _ HX.out hs)
    have HB' := hide' (HB.out.keep hs)
    clear HX HB hs
    have HX := HX'
    have HB := HB'
    clear HX' HB'
    obtain ⟨Wd, hWd⟩ : ∃ Wd, Wd = W4.drew := ⟨_, rfl⟩
    rw [← hWd] at HX HB
    rw [← hWd]
    clear hWd
    obtain ⟨rc0, rc1, rc2, rc3, rf0, rf1, rf2, rf3⟩ := HB.out
    refine any_take (i := 1) hK0 (some 34) (.move (.tmp 0)) 24 _ (by kernel_rfl) (fun _ d _ _ _ h => by cases d <;> exact h) (by kernel_rfl) (by kernel_rfl) (fun w' hS' => by simp only [opr]; go_simp; try with_reducible rfl) trivial (fun K1 hK1 => ?_)
    clear hK0 K0
    try simp only [Act.put, List.setIfInBounds_toArray, List.set_cons_zero, List.set_cons_succ]
    refine any_pick (rs := [0, 2]) hK1 (by kernel_rfl) (fun K2 hK2 => ?_)
    clear hK1 K1
    intro i hi
    simp only [List.mem_cons, List.not_mem_nil, or_false] at hi
    rcases hi with rfl | rfl
    · refine op_plain (some 33) (.load 31 (.tmp 7)) 31 (by kernel_rfl) (by kernel_rfl) ?_
      go_wp2
      refine hK2 0 (by simp) _ _ trivial (any_more fun K3 hK3 => ?_)
      clear hK2 K2
      refine any_pick (rs := [2]) hK3 (by kernel_rfl) (fun K4 hK4 => ?_)
      clear hK3 K3
      intro i hi
      simp only [List.mem_cons, List.not_mem_nil, or_false] at hi
      rcases hi with rfl
      refine op_plain (some 35) (.call { callee := Callee.value (.func 28), args := #[.tmp 34], argTypes := #[24] }) 31 (by kernel_rfl) (by kernel_rfl) ?_
      go_wp2_with fail
      refine (HWH.out _ HX.out).mono ?_
      rintro e Wr2 ⟨rfl, hs⟩
      have HX' := hide' (HXK.out _ _ HX.out hs)
      have HB' := hide' (HB.out.keep hs)
      clear HX HB hs rc0 rc1 rc2 rc3 rf0 rf1 rf2 rf3
      have HX := HX'
      have HB := HB'
      clear HX' HB'
      obtain ⟨rc0, rc1, rc2, rc3, rf0, rf1, rf2, rf3⟩ := HB.out
      go_wp2
      refine hK4 2 (by simp) _ _ trivial (any_more fun K5 hK5 => ?_)
      clear hK4 K4
      refine any_pick (rs := [3]) hK5 (by kernel_rfl) (fun K6 hK6 => ?_)
      clear hK5 K5
      intro i hi
      simp only [List.mem_cons, List.not_mem_nil, or_false] at hi
      rcases hi with rfl
      refine op_plain (some 36) (.call { callee := Callee.value (.func 31), args := #[.tmp 33, .tmp 35], argTypes := #[31, 31] }) 31 (by kernel_rfl) (by kernel_rfl) ?_
      go_wp2_with fail
      refine (HBO.out _).mono ?_
      rintro e Wr3 ⟨rfl, hs⟩
      have HX' := hide' (HXK.out _ _ HX.out hs)
      have HB' := hide' (HB.out.keep hs)
      clear HX HB hs rc0 rc1 rc2 rc3 rf0 rf1 rf2 rf3
      have HX := HX'
      have HB := HB'
      clear HX' HB'
      obtain ⟨rc0, rc1, rc2, rc3, rf0, rf1, rf2, rf3⟩ := HB.out
      go_wp2
      refine hK6 3 (by simp) _ _ trivial (any_more fun K7 hK7 => ?_)
      clear hK6 K6
      refine any_pick (rs := [4]) hK7 (by kernel_rfl) (fun K8 hK8 => ?_)
      clear hK7 K7
      intro i hi
      simp only [List.mem_cons, List.not_mem_nil, or_false] at hi
      rcases hi with rfl
      refine op_plain none (.store 31 (.tmp 7) (.tmp 36)) 0 (by kernel_rfl) (by kernel_rfl) ?_
      go_wp2
      refine hK8 4 (by simp) _ _ trivial (any_more fun K9 hK9 => ?_)
      clear hK8 K8
      refine any_done hK9 (by kernel_rfl) ?_
      clear hK9 K9
      go_wp2_with fail
      go_meet
      exact ⟨HXP.out _ _ _ _ _ HX.out, HB.out.put ⟨0, 0, (p : Nat), (q : Nat)⟩⟩
    · refine op_plain (some 35) (.call { callee := Callee.value (.func 28), args := #[.tmp 34], argTypes := #[24] }) 31 (by kernel_rfl) (by kernel_rfl) ?_
      go_wp2_with fail
      refine (HWH.out _ HX.out).mono ?_
      rintro e Wr5 ⟨rfl, hs⟩
      have HX' := hide' (HXK.out _ _ HX.out hs)
      have HB' := hide' (HB.out.keep hs)
      clear HX HB hs rc0 rc1 rc2 rc3 rf0 rf1 rf2 rf3
      have HX := HX'
      have HB := HB'
      clear HX' HB'
      obtain ⟨rc0, rc1, rc2, rc3, rf0, rf1, rf2, rf3⟩ := HB.out
      go_wp2
      refine hK2 2 (by simp) _ _ trivial (any_more fun K3 hK3 => ?_)
      clear hK2 K2
      refine any_pick (rs := [0]) hK3 (by kernel_rfl) (fun K4 hK4 => ?_)
      clear hK3 K3
      intro i hi
      simp only [List.mem_cons, List.not_mem_nil, or_false] at hi
      rcases hi with rfl
      refine op_plain (some 33) (.load 31 (.tmp 7)) 31 (by kernel_rfl) (by kernel_rfl) ?_
      go_wp2
      refine hK4 0 (by simp) _ _ trivial (any_more fun K5 hK5 => ?_)
      clear hK4 K4
      refine any_pick (rs := [3]) hK5 (by kernel_rfl) (fun K6 hK6 => ?_)
      clear hK5 K5
      intro i hi
      simp only [List.mem_cons, List.not_mem_nil, or_false] at hi
      rcases hi with rfl
      refine op_plain (some 36) (.call { callee := Callee.value (.func 31), args := #[.tmp 33, .tmp 35], argTypes := #[31, 31] }) 31 (by kernel_rfl) (by kernel_rfl) ?_
      go_wp2_with fail
      refine (HBO.out _).mono ?_
      rintro e Wr7 ⟨rfl, hs⟩
      have HX' := hide' (HXK.out _ _ HX.out hs)
      have HB' := hide' (HB.out.keep hs)
      clear HX HB hs rc0 rc1 rc2 rc3 rf0 rf1 rf2 rf3
      have HX := HX'
      have HB := HB'
      clear HX' HB'
      obtain ⟨rc0, rc1, rc2, rc3, rf0, rf1, rf2, rf3⟩ := HB.out
      go_wp2
      refine hK6 3 (by simp) _ _ trivial (any_more fun K7 hK7 => ?_)
      clear hK6 K6
      refine any_pick (rs := [4]) hK7 (by kernel_rfl) (fun K8 hK8 => ?_)
      clear hK7 K7
      intro i hi
      simp only [List.mem_cons, List.not_mem_nil, or_false] at hi
      rcases hi with rfl
      refine op_plain none (.store 31 (.tmp 7) (.tmp 36)) 0 (by kernel_rfl) (by kernel_rfl) ?_
      go_wp2
      refine hK8 4 (by simp) _ _ trivial (any_more fun K9 hK9 => ?_)
      clear hK8 K8
      refine any_done hK9 (by kernel_rfl) ?_
      clear hK9 K9
      go_wp2_with fail
      go_meet
      exact ⟨HXP.out _ _ _ _ _ HX.out, HB.out.put ⟨0, 0, (p : Nat), (q : Nat)⟩⟩
  case rest =>
  clear HX HB HBO HBO1
  obtain ⟨rc0, rc1, rc2, rc3, rf0, rf1, rf2, rf3⟩ := hcut.out.2
  simp only at rc0 rc1 rc2 rc3
  go_upto_region 6 with fail
  clear rc0 rc1 rc2 rc3 rf0 rf1 rf2 rf3
  obtain ⟨W6, hW6⟩ : ∃ W, W = ((wc.setCell ⟨w.heap.size, 0, none⟩ (.int .i64 0)).setCell ⟨w.heap.size, 1, none⟩ (.int .i64 0)) := ⟨_, rfl⟩
  have HX : Hid (X W6) := by rw [hW6]; exact HXQ.out _ _ _ hcut.out.1
  have HB : Hid (Box W6 w.heap.size ⟨0, 0, (p : Nat), (q : Nat)⟩) := by rw [hW6]; exact hcut.out.2.put01 0 0
  rw [← hW6]
  clear hW6 hcut
  have HBO := HBO2
  go_cut [] (fun wx => Hid (X wx ∧ Box wx w.heap.size ⟨0, 0, 0, 0⟩))
  case first =>
    refine any_begin (fun _ => True) (by kernel_rfl) (fun K0 hK0 => ?_)
    have hs : Stay (fun _ => False) W6 W6.drew := (Stay.refl _ _).drew
    have HX' := hide' (HXK.out _ _ HX.out hs)
    have HB' := hide' (HB.out.keep hs)
    clear HX HB hs
    have HX := HX'
    have HB := HB'
    clear HX' HB'
    obtain ⟨Wd, hWd⟩ : ∃ Wd, Wd = W6.drew := ⟨_, rfl⟩
    rw [← hWd] at HX HB
    rw [← hWd]
    clear hWd
    obtain ⟨rc0, rc1, rc2, rc3, rf0, rf1, rf2, rf3⟩ := HB.out
    refine any_take (i := 1) hK0 (some 48) (.move (.tmp 1)) 24 _ (by kernel_rfl) (fun _ d _ _ _ h => by cases d <;> exact h) (by kernel_rfl) (by kernel_rfl) (fun w' hS' => by simp only [opr]; go_simp; try with_reducible rfl) trivial (fun K1 hK1 => ?_)
    clear hK0 K0
    try simp only [Act.put, List.setIfInBounds_toArray, List.set_cons_zero, List.set_cons_succ]
    refine any_pick (rs := [0, 2]) hK1 (by kernel_rfl) (fun K2 hK2 => ?_)
    clear hK1 K1
    intro i hi
    simp only [List.mem_cons, List.not_mem_nil, or_false] at hi
    rcases hi with rfl | rfl
    · refine op_plain (some 47) (.load 31 (.tmp 7)) 31 (by kernel_rfl) (by kernel_rfl) ?_
      go_wp2
      refine hK2 0 (by simp) _ _ trivial (any_more fun K3 hK3 => ?_)
      clear hK2 K2
      refine any_pick (rs := [2]) hK3 (by kernel_rfl) (fun K4 hK4 => ?_)
      clear hK3 K3
      intro i hi
      simp only [List.mem_cons, List.not_mem_nil, or_false] at hi
      rcases hi with rfl
      refine op_plain (some 49) (.call { callee := Callee.value (.func 28), args := #[.tmp 48], argTypes := #[24] }) 31 (by kernel_rfl) (by kernel_rfl) ?_
      go_wp2_with fail
      refine (HWO.out _ HX.out).mono ?_
      rintro e Wr2 ⟨rfl, hs⟩
      have HX' := hide' (HXK.out _ _ HX.out hs)
      have HB' := hide' (HB.out.keep hs)
      clear HX HB hs rc0 rc1 rc2 rc3 rf0 rf1 rf2 rf3
      have HX := HX'
      have HB := HB'
      clear HX' HB'
      obtain ⟨rc0, rc1, rc2, rc3, rf0, rf1, rf2, rf3⟩ := HB.out
      go_wp2
      refine hK4 2 (by simp) _ _ trivial (any_more fun K5 hK5 => ?_)
      clear hK4 K4
      refine any_pick (rs := [3]) hK5 (by kernel_rfl) (fun K6 hK6 => ?_)
      clear hK5 K5
      intro i hi
      simp only [List.mem_cons, List.not_mem_nil, or_false] at hi
      rcases hi with rfl
      refine op_plain (some 50) (.call { callee := Callee.value (.func 31), args := #[.tmp 47, .tmp 49], argTypes := #[31, 31] }) 31 (by kernel_rfl) (by kernel_rfl) ?_
      go_wp2_with fail
      refine (HBO.out _).mono ?_
      rintro e Wr3 ⟨rfl, hs⟩
      have HX' := hide' (HXK.out _ _ HX.out hs)
      have HB' := hide' (HB.out.keep hs)
      clear HX HB hs rc0 rc1 rc2 rc3 rf0 rf1 rf2 rf3
      have HX := HX'
      have HB := HB'
      clear HX' HB'
      obtain ⟨rc0, rc1, rc2, rc3, rf0, rf1, rf2, rf3⟩ := HB.out
      go_wp2
      refine hK6 3 (by simp) _ _ trivial (any_more fun K7 hK7 => ?_)
      clear hK6 K6
      refine any_pick (rs := [4]) hK7 (by kernel_rfl) (fun K8 hK8 => ?_)
      clear hK7 K7
      intro i hi
      simp only [List.mem_cons, List.not_mem_nil, or_false] at hi
      rcases hi with rfl
      refine op_plain none (.store 31 (.tmp 7) (.tmp 50)) 0 (by kernel_rfl) (by kernel_rfl) ?_
      go_wp2
      refine hK8 4 (by simp) _ _ trivial (any_more fun K9 hK9 => ?_)
      clear hK8 K8
      refine any_done hK9 (by kernel_rfl) ?_
      clear hK9 K9
      go_wp2_with fail
      go_meet
      exact ⟨HXP.out _ _ _ _ _ HX.out, HB.out.put ⟨0, 0, 0, 0⟩⟩
    · refine op_plain (some 49) (.call { callee := Callee.value (.func 28), args := #[.tmp 48], argTypes := #[24] }) 31 (by kernel_rfl) (by kernel_rfl) ?_
      go_wp2_with fail
      refine (HWO.out _ HX.out).mono ?_
      rintro e Wr5 ⟨rfl, hs⟩
      have HX' := hide' (HXK.out _ _ HX.out hs)
      have HB' := hide' (HB.out.keep hs)
      clear HX HB hs rc0 rc1 rc2 rc3 rf0 rf1 rf2 rf3
      have HX := HX'
      have HB := HB'
      clear HX' HB'
      obtain ⟨rc0, rc1, rc2, rc3, rf0, rf1, rf2, rf3⟩ := HB.out
      go_wp2
      refine hK2 2 (by simp) _ _ trivial (any_more fun K3 hK3 => ?_)
      clear hK2 K2
      refine any_pick (rs := [0]) hK3 (by kernel_rfl) (fun K4 hK4 => ?_)
      clear hK3 K3
      intro i hi
      simp only [List.mem_cons, List.not_mem_nil, or_false] at hi
      rcases hi with rfl
      refine op_plain (some 47) (.load 31 (.tmp 7)) 31 (by kernel_rfl) (by kernel_rfl) ?_
      go_wp2
      refine hK4 0 (by simp) _ _ trivial (any_more fun K5 hK5 => ?_)
      clear hK4 K4
      refine any_pick (rs := [3]) hK5 (by kernel_rfl) (fun K6 hK6 => ?_)
      clear hK5 K5
      intro i hi
      simp only [List.mem_cons, List.not_mem_nil, or_false] at hi
      rcases hi with rfl
      refine op_plain (some 50) (.call { callee := Callee.value (.func 31), args := #[.tmp 47, .tmp 49], argTypes := #[31, 31] }) 31 (by kernel_rfl) (by kernel_rfl) ?_
      go_wp2_with fail
      refine (HBO.out _).mono ?_
      rintro e Wr7 ⟨rfl, hs⟩
      have HX' := hide' (HXK.out _ _ HX.out hs)
      have HB' := hide' (HB.out.keep hs)
      clear HX HB hs rc0 rc1 rc2 rc3 rf0 rf1 rf2 rf3
      have HX := HX'
      have HB := HB'
      clear HX' HB'
      obtain ⟨rc0, rc1, rc2, rc3, rf0, rf1, rf2, rf3⟩ := HB.out
      go_wp2
      refine hK6 3 (by simp) _ _ trivial (any_more fun K7 hK7 => ?_)
      clear hK6 K6
      refine any_pick (rs := [4]) hK7 (by kernel_rfl) (fun K8 hK8 => ?_)
      clear hK7 K7
      intro i hi
      simp only [List.mem_cons, List.not_mem_nil, or_false] at hi
      rcases hi with rfl
      refine op_plain none (.store 31 (.tmp 7) (.tmp 50)) 0 (by kernel_rfl) (by kernel_rfl) ?_
      go_wp2
      refine hK8 4 (by simp) _ _ trivial (any_more fun K9 hK9 => ?_)
      clear hK8 K8
      refine any_done hK9 (by kernel_rfl) ?_
      clear hK9 K9
      go_wp2_with fail
      go_meet
      exact ⟨HXP.out _ _ _ _ _ HX.out, HB.out.put ⟨0, 0, 0, 0⟩⟩
  case rest =>
  have HI := hide' (HXS.out _ hcut.out.1)
  have HB := hide' hcut.out.2
  clear hcut HX HXK HXP HXQ HXS HBO HBO2 HWH HWO HR1 HR2
  obtain ⟨rc0, rc1, rc2, rc3, rf0, rf1, rf2, rf3⟩ := HB.out
  simp only at rc0 rc1 rc2 rc3
  go_wp2_with fail
  clear rc0 rc1 rc2 rc3 rf0 rf1 rf2 rf3
  go_loopg [53] 0 (fun g v wr => g = 0 ∧ v = .int .i64 0 ∧ wr = wc)
  case atStart => exact ⟨rfl, rfl, rfl⟩
  case round =>
    obtain ⟨rfl, rfl, rfl⟩ := hrel
    obtain ⟨rc0, rc1, rc2, rc3, rf0, rf1, rf2, rf3⟩ := HB.out
    simp only at rc0 rc1 rc2 rc3
    go_wp2_with fail
    refine (HAR.out _).mono ?_
    rintro e w9 ⟨rfl, hs⟩
    have HE := hide' (HI.out.trans hs)
    clear hs
    go_wp2
    go_ret
    exact ⟨rfl, HE.out⟩

theorem resize17_nil (G : Gr) (F : Nat → Cl) (x y : Int) (w : World) (hG : GridAt w G F) (h : (sizeB x && sizeB y) = false) : Calls Try.prog 17 #[.pointer (some ⟨G.g, 0, none⟩), .int .i64 x, .int .i64 y] w (Gives (.pointer none) w) := by
  have HG := hide' hG
  have HN := hide' (new8_nil x y w h)
  have HW := hide' (fun w h => whole28 G F w h)
  have HB : Hid (∀ W, GridAt W G F → Calls Try.prog 18 #[.pointer (some ⟨G.g, 0, none⟩), .pointer none, .agg #[.int .i64 (⟨0, 0, (G.w : Nat), (G.h : Nat)⟩ : R).x, .int .i64 (⟨0, 0, (G.w : Nat), (G.h : Nat)⟩ : R).y, .int .i64 (⟨0, 0, (G.w : Nat), (G.h : Nat)⟩ : R).w, .int .i64 (⟨0, 0, (G.w : Nat), (G.h : Nat)⟩ : R).h], .int .i64 0, .int .i64 0] W (Gives (.int .i64 0) W)) := fun W h => blit18_to_nil G F G.w G.h W h h.w1 (Nat.le_refl _) h.h1 (Nat.le_refl _)
  clear hG h
  go_enter Try.func17, Try.ntmps17
  go_wp2_with fail
  refine HN.out.mono ?_
  rintro e w1 ⟨rfl, hs⟩
  have HG1 := hide' (HG.out.keep hs)
  have HS1 := hide' hs
  clear hs HG HN
  go_wp2_with fail
  refine (HW.out _ HG1.out).mono ?_
  rintro e w2 ⟨rfl, hs⟩
  have HG2 := hide' (HG1.out.keep hs)
  have HS2 := hide' (HS1.out.trans hs)
  clear hs HG1 HS1 HW
  go_wp2_with fail
  refine (HB.out _ HG2.out).mono ?_
  rintro e w3 ⟨rfl, hs⟩
  have HS3 := hide' (HS2.out.trans hs)
  clear hs
  go_wp2
  go_ret
  exact ⟨rfl, HS3.out⟩

theorem atF_blank (w h : Nat) (x y : Int) : atF w h (fun _ => Cl.zero) x y = Cl.zero := by
  unfold atF
  split <;> rfl

theorem atF_zero {f : Nat → Cl} {w h : Nat} (hf : ∀ X Y : Nat, X < w → Y < h → f (Y * w + X) = Cl.zero) (x y : Int) : atF w h f x y = Cl.zero := by
  cases hi : insB w h x y
  · unfold atF
    rw [hi]
    rfl
  · obtain ⟨X, Y, rfl, rfl, hX, hY⟩ := ins_true hi
    rw [atF_nat f hX hY, hf X Y hX hY]

set_option maxRecDepth 100000 in
theorem news_great (a b x y : Int) (c : Cl) (w : World) (h : 600 < a ∨ (a ≤ 600 ∧ 600 < b)) : Calls Try.prog 4 #[.int .i64 a, .int .i64 b, .int .i64 x, .int .i64 y, .agg #[.int .i32 c.r, .int .i64 c.fg, .int .i64 c.bg, .int .i64 c.fl]] w (LawTrue w) := by
  have HS := hide' ((Stay.refl (fun _ => False) w).alloc (.cells #[.int .i32 c.r, .int .i64 c.fg, .int .i64 c.bg, .int .i64 c.fl] 35))
  have HAW := hide' awake7
  rcases h with h | ⟨h1, h2⟩
  all_goals
    go_enter Try.func4, Try.ntmps4
    go_wp2_with fail
    refine (HAW.out _).mono ?_
    rintro e w9 ⟨rfl, hs⟩
    have HE := hide' (HS.out.trans hs)
    clear hs
    go_wp2
    go_ret
    exact ⟨by simp, HE.out⟩

set_option maxRecDepth 100000 in
theorem news_none (a b x y : Int) (c : Cl) (w : World) (h1 : a ≤ 600) (h2 : b ≤ 600) (h : (sizeB a && sizeB b) = false) : Calls Try.prog 4 #[.int .i64 a, .int .i64 b, .int .i64 x, .int .i64 y, .agg #[.int .i32 c.r, .int .i64 c.fg, .int .i64 c.bg, .int .i64 c.fl]] w (LawTrue w) := by
  have HS := hide' ((Stay.refl (fun _ => False) w).alloc (.cells #[.int .i32 c.r, .int .i64 c.fg, .int .i64 c.bg, .int .i64 c.fl] 35))
  have HAW := hide' awake7
  have HR := hide' (right22 a b)
  rw [h] at HR
  have HN := hide' (fun w => new8_nil a b w h)
  clear h
  go_enter Try.func4, Try.ntmps4
  go_wp2_with fail
  refine (HR.out _).mono ?_
  rintro e w1 ⟨rfl, rfl⟩
  go_wp2_with fail
  refine (HN.out _).mono ?_
  rintro e w2 ⟨rfl, hs⟩
  have HS2 := hide' (HS.out.trans hs)
  clear hs
  go_wp2_with fail
  refine (HR.out _).mono ?_
  rintro e w3 ⟨rfl, rfl⟩
  go_wp2_with fail
  refine (HAW.out _).mono ?_
  rintro e w9 ⟨rfl, hs⟩
  have HE := hide' (HS2.out.trans hs)
  clear hs
  go_wp2
  go_ret
  exact ⟨by simp, HE.out⟩

set_option maxRecDepth 100000 in
theorem news_big (a b : Nat) (x y : Int) (c : Cl) (w : World) (a2 : a ≤ 512) (b2 : b ≤ 512) (h : (sizeB a && sizeB b) = true) (hp : 4000 < a * b) : Calls Try.prog 4 #[.int .i64 (a : Nat), .int .i64 (b : Nat), .int .i64 x, .int .i64 y, .agg #[.int .i32 c.r, .int .i64 c.fg, .int .i64 c.bg, .int .i64 c.fl]] w (LawTrue w) := by
  have HS := hide' ((Stay.refl (fun _ => False) w).alloc (.cells #[.int .i32 c.r, .int .i64 c.fg, .int .i64 c.bg, .int .i64 c.fl] 35))
  have HAW := hide' awake7
  have HR := hide' (right22 a b)
  rw [h] at HR
  have hm : a * b ≤ 512 * 512 := Nat.mul_le_mul a2 b2
  obtain ⟨n, hn⟩ : ∃ n, n = a * b := ⟨_, rfl⟩
  have m1 : IntKind.i64.wrap ((a : Int) * (b : Int)) = (n : Nat) := by rw [IntKind.wrap_i64, ← Int.natCast_mul, ← hn]; omega
  have m2 : (4000 : Int) < (n : Nat) := by omega
  have m3 : (a : Int) ≤ 512 := by omega
  have m4 : (b : Int) ≤ 512 := by omega
  clear h hp hm hn
  go_enter Try.func4, Try.ntmps4
  go_wp2_with fail
  refine (HR.out _).mono ?_
  rintro e w1 ⟨rfl, rfl⟩
  go_wp2_with fail
  refine (HAW.out _).mono ?_
  rintro e w9 ⟨rfl, hs⟩
  have HE := hide' (HS.out.trans hs)
  clear hs
  go_wp2
  go_ret
  exact ⟨by simp, HE.out⟩

end Go.Proofs.Ytmpmdlbhiogelaa
