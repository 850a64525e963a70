/-
  A rectangle of a grid is filled: walked. No conditions.
-/
import Derived.Test.YtmpmdlbhiogelaaD3
import Derived.Deep.DeepCutAuto
namespace Go.Proofs.Ytmpmdlbhiogelaa
open Go.RowKit

/-- While a rectangle is filled. -/
structure FIn (w : World) (G : Gr) (f : Nat → Cl) (x0 y0 a0 b0 : Nat) (c : Cl) (k j : Nat) (wr : World) : Prop where
  stay : Stay (fun b => b = G.bc) w wr
  box : Box wr w.heap.size ⟨x0, y0, a0, b0⟩
  cell : BoxC wr (w.heap.size + 1) c
  grid : ∃ g, GridAt wr G g ∧ Filled G.w G.h x0 y0 a0 c f g k j

theorem Box.stay {T : Nat → Prop} {W w1 : World} {b : Nat} {r : R} (h : Box W b r) (hs : Stay T W w1) (hn : ¬ T b) : Box w1 b r := by
  have hb : b < W.heap.size := World.block_lt_of_cell? _ _ h.c0
  have c : ∀ o, w1.cell? ⟨b, o, none⟩ = W.cell? ⟨b, o, none⟩ := fun o => hs.cell (p := ⟨b, o, none⟩) hb hn
  have f : ∀ o, w1.frozen? ⟨b, o, none⟩ = W.frozen? ⟨b, o, none⟩ := fun o => hs.frozen (p := ⟨b, o, none⟩) hb hn
  exact ⟨(c 0).trans h.c0, (c 1).trans h.c1, (c 2).trans h.c2, (c 3).trans h.c3, (f 0).trans h.f0, (f 1).trans h.f1, (f 2).trans h.f2, (f 3).trans h.f3⟩

theorem FIn.drew {w wr : World} {G : Gr} {f : Nat → Cl} {x0 y0 a0 b0 k j : Nat} {c : Cl} (h : FIn w G f x0 y0 a0 b0 c k j wr) : FIn w G f x0 y0 a0 b0 c k j wr.drew := by
  obtain ⟨h1, h2, h3, g, h4, h5⟩ := h
  exact ⟨h1.drew, h2.keep (Stay.refl _ _).drew, h3.keep (Stay.refl _ _).drew, g, h4.keep (Stay.refl _ _).drew, h5⟩

theorem FIn.next {w wr : World} {G : Gr} {f : Nat → Cl} {x0 y0 a0 b0 k j : Nat} {c : Cl} (h : FIn w G f x0 y0 a0 b0 c k j wr) (hj : a0 ≤ j) : FIn w G f x0 y0 a0 b0 c (k + 1) 0 wr := by
  obtain ⟨h1, h2, h3, g, h4, h5⟩ := h
  exact ⟨h1, h2, h3, g, h4, h5.next hj⟩

theorem FIn.one {w wr : World} {G : Gr} {f : Nat → Cl} {x0 y0 a0 b0 k j : Nat} {c : Cl} (h : FIn w G f x0 y0 a0 b0 c k j wr) (hb : G.bc < w.heap.size) (hx : x0 + a0 ≤ G.w) (hj : j < a0) :
    FIn w G f x0 y0 a0 b0 c k (j + 1) (wr.setCells G.bc ((y0 + k) * G.w * 4 + (x0 + j) * 4) c.parts) := by
  obtain ⟨h1, h2, h3, g, h4, h5⟩ := h
  have hs : Stay (fun k => k = G.bc) wr (wr.setCells G.bc ((y0 + k) * G.w * 4 + (x0 + j) * 4) c.parts) := (Stay.refl (fun k => k = G.bc) wr).setCells G.bc _ _ rfl
  refine ⟨h1.trans hs, h2.stay hs (by omega), h3.stay hs (by omega), _, ?_, h5.one hx hj⟩
  have := h4.put ((y0 + k) * G.w + (x0 + j)) c
  rwa [Nat.add_mul] at this

set_option maxHeartbeats 2000000 in
theorem fill14 (G : Gr) (f : Nat → Cl) (r : R) (c : Cl) (w : World) (hG : GridAt w G f) :
    Calls Try.prog 14 #[.pointer (some ⟨G.g, 0, none⟩), .agg #[.int .i64 r.x, .int .i64 r.y, .int .i64 r.w, .int .i64 r.h], .agg #[.int .i32 c.r, .int .i64 c.fg, .int .i64 c.bg, .int .i64 c.fl]] w (fun e w' => ∃ F, Turns (.int .i64 (areaI (bothR r (⟨0, 0, (G.w : Nat), (G.h : Nat)⟩ : R)))) G F w e w' ∧ Fills G.w G.h r c f F) := by
  have hs0 : Stay (fun _ => False) w ((w.alloc (.cells #[.int .i64 r.x, .int .i64 r.y, .int .i64 r.w, .int .i64 r.h] 31)).alloc (.cells #[.int .i32 c.r, .int .i64 c.fg, .int .i64 c.bg, .int .i64 c.fl] 35)) := ((Stay.refl _ _).alloc _).alloc _
  have hlt := hG.lt
  obtain ⟨x0, y0, a0, b0, hq, hx, hy, hm⟩ := both_whole r G.w G.h hG.w2 hG.h2
  have HM := hide' hm
  have HBO := hide' (fun w => both31 r (⟨0, 0, (G.w : Nat), (G.h : Nat)⟩ : R) w)
  rw [hq] at HBO
  have hA : areaI (bothR r (⟨0, 0, (G.w : Nat), (G.h : Nat)⟩ : R)) = ((a0 * b0 : Nat) : Int) := by rw [hq]; exact area_nat _ _ _ _ (by have := hG.w2; have := hG.h2; omega)
  rw [hA]
  have HAR := hide' (fun w => area32 ⟨x0, y0, a0, b0⟩ w)
  rw [← hq, hA, hq] at HAR
  let X : World → Prop := fun W => Stay (fun _ => False) w W ∧ GridAt W G f ∧ BoxC W (w.heap.size + 1) c
  have HX : Hid (X ((w.alloc (.cells #[.int .i64 r.x, .int .i64 r.y, .int .i64 r.w, .int .i64 r.h] 31)).alloc (.cells #[.int .i32 c.r, .int .i64 c.fg, .int .i64 c.bg, .int .i64 c.fl] 35))) := ⟨hs0, hG.keep hs0, BoxC.new c (by simp)⟩
  have HB := hide' ((Box.new (w := w) r rfl).alloc (.cells #[.int .i32 c.r, .int .i64 c.fg, .int .i64 c.bg, .int .i64 c.fl] 35))
  have HXK : Hid (∀ W W1, X W → Stay (fun _ => False) W W1 → X W1) := fun W W1 h hs => ⟨h.1.trans hs, h.2.1.keep hs, h.2.2.keep hs⟩
  have HXP : Hid (∀ W v0 v1 v2 v3, X W → X ((((W.setCell ⟨w.heap.size, 0, none⟩ v0).setCell ⟨w.heap.size, 1, none⟩ v1).setCell ⟨w.heap.size, 2, none⟩ v2).setCell ⟨w.heap.size, 3, none⟩ v3)) := fun W v0 v1 v2 v3 h =>
    have hp : Stay (fun k => k = w.heap.size) W _ := ((((Stay.refl (fun k => k = w.heap.size) W).setCell (p := ⟨w.heap.size, 0, none⟩) rfl v0).setCell (p := ⟨w.heap.size, 1, none⟩) rfl v1).setCell (p := ⟨w.heap.size, 2, none⟩) rfl v2).setCell (p := ⟨w.heap.size, 3, none⟩) rfl v3
    ⟨h.1.put (Nat.le_refl _) _ _ _ _, h.2.1.stay hp (by omega) (by omega) (by omega), h.2.2.stay hp (by omega)⟩
  have HXS : Hid (∀ W, X W → Box W w.heap.size ⟨x0, y0, a0, b0⟩ → FIn w G f x0 y0 a0 b0 c 0 0 W) := fun W h hb => ⟨stay_any h.1, hb, h.2.2, f, h.2.1, Filled.none _ _ _ _ _ _ _⟩
  have HWH : Hid (∀ W, X W → Calls Try.prog 28 #[.pointer (some ⟨G.g, 0, none⟩)] W (Gives (.agg #[.int .i64 (⟨0, 0, (G.w : Nat), (G.h : Nat)⟩ : R).x, .int .i64 (⟨0, 0, (G.w : Nat), (G.h : Nat)⟩ : R).y, .int .i64 (⟨0, 0, (G.w : Nat), (G.h : Nat)⟩ : R).w, .int .i64 (⟨0, 0, (G.w : Nat), (G.h : Nat)⟩ : R).h]) W)) := fun W h => whole28 G f W h.2.1
  have HBC := hide' hlt.2.2
  have HSZ := hide' (show G.w ≤ 512 ∧ G.h ≤ 512 ∧ G.g ≠ G.bc ∧ G.br ≠ G.bc from ⟨hG.w2, hG.h2, hG.ne1, hG.ne2⟩)
  have HLE := hide' (show x0 + a0 ≤ G.w ∧ y0 + b0 ≤ G.h from ⟨hx, hy⟩)
  have a512 : (a0 : Int) ≤ 512 := by have := hG.w2; omega
  have b512 : (b0 : Int) ≤ 512 := by have := hG.h2; omega
  clear_value X
  clear hs0 hlt hq hx hy hm hA hG
  go_enter Try.func14, Try.ntmps14
  go_upto_region 1 with fail
  obtain ⟨W, hW⟩ : ∃ W, W = ((w.alloc (.cells #[.int .i64 r.x, .int .i64 r.y, .int .i64 r.w, .int .i64 r.h] 31)).alloc (.cells #[.int .i32 c.r, .int .i64 c.fg, .int .i64 c.bg, .int .i64 c.fl] 35)) := ⟨_, rfl⟩
  rw [← hW] at HX HB
  rw [← hW]
  clear hW
  go_cut [] (fun wx => Hid (X wx ∧ Box wx w.heap.size ⟨x0, y0, a0, b0⟩))
  case first =>
    refine any_begin (fun _ => True) (by kernel_rfl) (fun K0 hK0 => ?_)
    have hs : Stay (fun _ => False) W W.drew := (Stay.refl _ _).drew
    have HX' := hide' (HXK.out _ _ HX.out hs)
    have HB' := hide' (HB.out.keep hs)
    clear HX HB hs
    have HX := HX'
    have HB := HB'
    clear HX' HB'
    obtain ⟨Wd, hWd⟩ : ∃ Wd, Wd = W.drew := ⟨_, rfl⟩
    rw [← hWd] at HX HB
    rw [← hWd]
    clear hWd
    obtain ⟨rc0, rc1, rc2, rc3, rf0, rf1, rf2, rf3⟩ := HB.out
    refine any_take (i := 1) hK0 (some 10) (.move (.tmp 0)) 24 _ (by kernel_rfl) (fun _ d _ _ _ h => by cases d <;> exact h) (by kernel_rfl) (by kernel_rfl) (fun w' hS' => by simp only [opr]; go_simp; try with_reducible rfl) trivial (fun K1 hK1 => ?_)
    clear hK0 K0
    try simp only [Act.put, List.setIfInBounds_toArray, List.set_cons_zero, List.set_cons_succ]
    refine any_pick (rs := [0, 2]) hK1 (by kernel_rfl) (fun K2 hK2 => ?_)
    clear hK1 K1
    intro i hi
    simp only [List.mem_cons, List.not_mem_nil, or_false] at hi
    rcases hi with rfl | rfl
    · refine op_plain (some 9) (.load 31 (.tmp 4)) 31 (by kernel_rfl) (by kernel_rfl) ?_
      go_wp2
      refine hK2 0 (by simp) _ _ trivial (any_more fun K3 hK3 => ?_)
      clear hK2 K2
      refine any_pick (rs := [2]) hK3 (by kernel_rfl) (fun K4 hK4 => ?_)
      clear hK3 K3
      intro i hi
      simp only [List.mem_cons, List.not_mem_nil, or_false] at hi
      rcases hi with rfl
      refine op_plain (some 11) (.call { callee := Callee.value (.func 28), args := #[.tmp 10], argTypes := #[24] }) 31 (by kernel_rfl) (by kernel_rfl) ?_
      go_wp2_with fail
      refine (HWH.out _ HX.out).mono ?_
      rintro e Wr2 ⟨rfl, hs⟩
      have HX' := hide' (HXK.out _ _ HX.out hs)
      have HB' := hide' (HB.out.keep hs)
      clear HX HB hs rc0 rc1 rc2 rc3 rf0 rf1 rf2 rf3
      have HX := HX'
      have HB := HB'
      clear HX' HB'
      obtain ⟨rc0, rc1, rc2, rc3, rf0, rf1, rf2, rf3⟩ := HB.out
      go_wp2
      refine hK4 2 (by simp) _ _ trivial (any_more fun K5 hK5 => ?_)
      clear hK4 K4
      refine any_pick (rs := [3]) hK5 (by kernel_rfl) (fun K6 hK6 => ?_)
      clear hK5 K5
      intro i hi
      simp only [List.mem_cons, List.not_mem_nil, or_false] at hi
      rcases hi with rfl
      refine op_plain (some 12) (.call { callee := Callee.value (.func 31), args := #[.tmp 9, .tmp 11], argTypes := #[31, 31] }) 31 (by kernel_rfl) (by kernel_rfl) ?_
      go_wp2_with fail
      refine (HBO.out _).mono ?_
      rintro e Wr3 ⟨rfl, hs⟩
      have HX' := hide' (HXK.out _ _ HX.out hs)
      have HB' := hide' (HB.out.keep hs)
      clear HX HB hs rc0 rc1 rc2 rc3 rf0 rf1 rf2 rf3
      have HX := HX'
      have HB := HB'
      clear HX' HB'
      obtain ⟨rc0, rc1, rc2, rc3, rf0, rf1, rf2, rf3⟩ := HB.out
      go_wp2
      refine hK6 3 (by simp) _ _ trivial (any_more fun K7 hK7 => ?_)
      clear hK6 K6
      refine any_pick (rs := [4]) hK7 (by kernel_rfl) (fun K8 hK8 => ?_)
      clear hK7 K7
      intro i hi
      simp only [List.mem_cons, List.not_mem_nil, or_false] at hi
      rcases hi with rfl
      refine op_plain none (.store 31 (.tmp 4) (.tmp 12)) 0 (by kernel_rfl) (by kernel_rfl) ?_
      go_wp2
      refine hK8 4 (by simp) _ _ trivial (any_more fun K9 hK9 => ?_)
      clear hK8 K8
      refine any_done hK9 (by kernel_rfl) ?_
      clear hK9 K9
      go_wp2_with fail
      go_meet
      exact ⟨HXP.out _ _ _ _ _ HX.out, HB.out.put ⟨x0, y0, a0, b0⟩⟩
    · refine op_plain (some 11) (.call { callee := Callee.value (.func 28), args := #[.tmp 10], argTypes := #[24] }) 31 (by kernel_rfl) (by kernel_rfl) ?_
      go_wp2_with fail
      refine (HWH.out _ HX.out).mono ?_
      rintro e Wr5 ⟨rfl, hs⟩
      have HX' := hide' (HXK.out _ _ HX.out hs)
      have HB' := hide' (HB.out.keep hs)
      clear HX HB hs rc0 rc1 rc2 rc3 rf0 rf1 rf2 rf3
      have HX := HX'
      have HB := HB'
      clear HX' HB'
      obtain ⟨rc0, rc1, rc2, rc3, rf0, rf1, rf2, rf3⟩ := HB.out
      go_wp2
      refine hK2 2 (by simp) _ _ trivial (any_more fun K3 hK3 => ?_)
      clear hK2 K2
      refine any_pick (rs := [0]) hK3 (by kernel_rfl) (fun K4 hK4 => ?_)
      clear hK3 K3
      intro i hi
      simp only [List.mem_cons, List.not_mem_nil, or_false] at hi
      rcases hi with rfl
      refine op_plain (some 9) (.load 31 (.tmp 4)) 31 (by kernel_rfl) (by kernel_rfl) ?_
      go_wp2
      refine hK4 0 (by simp) _ _ trivial (any_more fun K5 hK5 => ?_)
      clear hK4 K4
      refine any_pick (rs := [3]) hK5 (by kernel_rfl) (fun K6 hK6 => ?_)
      clear hK5 K5
      intro i hi
      simp only [List.mem_cons, List.not_mem_nil, or_false] at hi
      rcases hi with rfl
      refine op_plain (some 12) (.call { callee := Callee.value (.func 31), args := #[.tmp 9, .tmp 11], argTypes := #[31, 31] }) 31 (by kernel_rfl) (by kernel_rfl) ?_
      go_wp2_with fail
      refine (HBO.out _).mono ?_
      rintro e Wr7 ⟨rfl, hs⟩
      have HX' := hide' (HXK.out _ _ HX.out hs)
      have HB' := hide' (HB.out.keep hs)
      clear HX HB hs rc0 rc1 rc2 rc3 rf0 rf1 rf2 rf3
      have HX := HX'
      have HB := HB'
      clear HX' HB'
      obtain ⟨rc0, rc1, rc2, rc3, rf0, rf1, rf2, rf3⟩ := HB.out
      go_wp2
      refine hK6 3 (by simp) _ _ trivial (any_more fun K7 hK7 => ?_)
      clear hK6 K6
      refine any_pick (rs := [4]) hK7 (by kernel_rfl) (fun K8 hK8 => ?_)
      clear hK7 K7
      intro i hi
      simp only [List.mem_cons, List.not_mem_nil, or_false] at hi
      rcases hi with rfl
      refine op_plain none (.store 31 (.tmp 4) (.tmp 12)) 0 (by kernel_rfl) (by kernel_rfl) ?_
      go_wp2
      refine hK8 4 (by simp) _ _ trivial (any_more fun K9 hK9 => ?_)
      clear hK8 K8
      refine any_done hK9 (by kernel_rfl) ?_
      clear hK9 K9
      go_wp2_with fail
      go_meet
      exact ⟨HXP.out _ _ _ _ _ HX.out, HB.out.put ⟨x0, y0, a0, b0⟩⟩
  case rest =>
  have HI := hide' (HXS.out _ hcut.out.1 hcut.out.2)
  clear hcut HX HB HXK HXP HXS HBO HWH
  obtain ⟨rc0, rc1, rc2, rc3, rf0, rf1, rf2, rf3⟩ := HI.out.box
  go_wp2_with fail
  clear rc0 rc1 rc2 rc3 rf0 rf1 rf2 rf3
  go_loopg [15] b0 (fun g v wr => ∃ k : Nat, k ≤ b0 ∧ g = b0 - k ∧ v = .int .i64 (k : Int) ∧ Hid (FIn w G f x0 y0 a0 b0 c k 0 wr))
  case atStart => exact ⟨0, Nat.zero_le _, rfl, rfl, HI⟩
  case round =>
    obtain ⟨k, hk, rfl, rfl, HI⟩ := hrel
    obtain ⟨rc0, rc1, rc2, rc3, rf0, rf1, rf2, rf3⟩ := HI.out.box
    by_cases hkb : k < b0
    · have k1 : (k : Int) < (b0 : Nat) := by omega
      go_wp2_with fail
      clear rc0 rc1 rc2 rc3 rf0 rf1 rf2 rf3
      go_loopg [20] a0 (fun g v wr => ∃ j : Nat, j ≤ a0 ∧ g = a0 - j ∧ v = .int .i64 (j : Int) ∧ Hid (FIn w G f x0 y0 a0 b0 c k j wr))
      case atStart => exact ⟨0, Nat.zero_le _, rfl, rfl, HI⟩
      case round =>
        obtain ⟨j, hj, rfl, rfl, HI⟩ := hrel
        by_cases hja : j < a0
        · have j1 : (j : Int) < (a0 : Nat) := by omega
          have HI2 := hide' (HI.out.drew.one HBC.out HLE.out.1 hja)
          obtain ⟨gq, hgq, hgf⟩ := HI.out.grid
          have ct := hgq.top
          have cr := hgq.rows (y0 + k) (by have := HLE.out.2; omega)
          have HTH := hide' ((hgq.keep (Stay.refl _ _).drew).cells (X := x0 + j) (Y := y0 + k) (by have := HLE.out.1; omega) (by have := HLE.out.2; omega)).2
          have HBX := hide' HI.out.box
          have HCL := hide' HI.out.cell
          have HLE2 := hide' HLE.out
          have HSZ2 := hide' HSZ.out
          have HBC2 := hide' HBC.out
          clear hgf hgq gq HI
          obtain ⟨g, br, bc, a, b⟩ := G
          simp only at ct cr HTH HI2 HLE2 HSZ2 HBC2
          obtain ⟨o, ho⟩ : ∃ o, o = (y0 + k) * a * 4 := ⟨_, rfl⟩
          obtain ⟨cp, hcp⟩ : ∃ o, o = a * b - (y0 + k) * a := ⟨_, rfl⟩
          rw [← ho] at cr HTH HI2
          rw [← hcp] at cr
          obtain ⟨l1, l2⟩ := HLE2.out
          obtain ⟨l3, l4, hgn, hbn⟩ := HSZ2.out
          have i1 : IntKind.i64.wrap ((y0 : Int) + (k : Int)) = (y0 : Int) + k := by rw [IntKind.wrap_i64]; omega
          have i2 : IntKind.i64.wrap ((x0 : Int) + (j : Int)) = (x0 : Int) + j := by rw [IntKind.wrap_i64]; omega
          have i3 : (0 : Int) ≤ (y0 : Int) + k := by omega
          have i4 : (0 : Int) ≤ (x0 : Int) + j := by omega
          have i5 : (y0 : Int) + k < (b : Nat) := by omega
          have i6 : (x0 : Int) + j < (a : Nat) := by omega
          have i7 : ((y0 : Int) + k).toNat = y0 + k := by omega
          have i8 : ((x0 : Int) + j).toNat = x0 + j := by omega
          have HF : Hid (∀ w3, Stay (fun k => k = bc) wr w3 → w3.cell? ⟨g, 0, none⟩ = some (.slice (some ⟨br, 0, none⟩) b b) ∧ w3.cell? ⟨br, y0 + k, none⟩ = some (.slice (some ⟨bc, o, none⟩) a cp) ∧ BoxC w3 (w.heap.size + 1) c ∧ Box w3 w.heap.size ⟨x0, y0, a0, b0⟩) := fun w3 hs =>
            ⟨(hs.cell (World.block_lt_of_cell? _ _ ct) hgn).trans ct, (hs.cell (World.block_lt_of_cell? _ _ cr) hbn).trans cr, HCL.out.stay hs (by have := HBC2.out; omega), HBX.out.stay hs (by have := HBC2.out; omega)⟩
          clear ho hcp hgn hbn ct cr l1 l2 l3 l4
          go_upto_region 8 with fail
          have hS0 : Stay (fun k => k = bc) wr wr.drew := (Stay.refl _ _).drew
          have hS : (fun w' => Stay (fun k => k = bc) wr w' ∧ w'.cell? ⟨g, 0, none⟩ = some (.slice (some ⟨br, 0, none⟩) b b) ∧ w'.cell? ⟨br, y0 + k, none⟩ = some (.slice (some ⟨bc, o, none⟩) a cp) ∧ BoxC w' (w.heap.size + 1) c ∧ Box w' w.heap.size ⟨x0, y0, a0, b0⟩) wr.drew := ⟨hS0, HF.out _ hS0⟩
          refine wp_region_mix (fun w' => Stay (fun k => k = bc) wr w' ∧ w'.cell? ⟨g, 0, none⟩ = some (.slice (some ⟨br, 0, none⟩) b b) ∧ w'.cell? ⟨br, y0 + k, none⟩ = some (.slice (some ⟨bc, o, none⟩) a cp) ∧ BoxC w' (w.heap.size + 1) c ∧ Box w' w.heap.size ⟨x0, y0, a0, b0⟩) [(0, true), (1, true), (2, true), (3, true), (4, true), (5, true), (6, true), (7, true), (8, true), (9, true), (10, true), (11, true), (12, true), (13, true), (14, true), (15, true), (16, false)] (by kernel_rfl) (by kernel_rfl) (fun _ d _ _ _ h => by cases d <;> exact h) hS ?_
          refine mix_begin (fun K0 hK0 => ?_)
          refine mix_take hK0 (some 23) (.move (.tmp 0)) 24 _ (by kernel_rfl) (by kernel_rfl) (fun w' hS' => by (obtain ⟨_, s1, s2, s3, s4⟩ := hS'; obtain ⟨b0, b1, b2, b3, _⟩ := s3; obtain ⟨d0, d1, d2, d3, _⟩ := s4; simp only [opr]; go_simp; try with_reducible rfl)) (fun K1 hK1 => ?_)
          clear hK0 K0
          simp only [Act.put, List.setIfInBounds_toArray, List.set_cons_zero, List.set_cons_succ]
          refine mix_take hK1 (some 24) (.nilCheck (.tmp 23)) 0 _ (by kernel_rfl) (by kernel_rfl) (fun w' hS' => by (obtain ⟨_, s1, s2, s3, s4⟩ := hS'; obtain ⟨b0, b1, b2, b3, _⟩ := s3; obtain ⟨d0, d1, d2, d3, _⟩ := s4; simp only [opr]; go_simp; try with_reducible rfl)) (fun K2 hK2 => ?_)
          clear hK1 K1
          simp only [Act.put, List.setIfInBounds_toArray, List.set_cons_zero, List.set_cons_succ]
          refine mix_take hK2 (some 25) (.fieldAddr 59 (.tmp 24) 0) 0 _ (by kernel_rfl) (by kernel_rfl) (fun w' hS' => by (obtain ⟨_, s1, s2, s3, s4⟩ := hS'; obtain ⟨b0, b1, b2, b3, _⟩ := s3; obtain ⟨d0, d1, d2, d3, _⟩ := s4; simp only [opr]; go_simp; try with_reducible rfl)) (fun K3 hK3 => ?_)
          clear hK2 K2
          simp only [Act.put, List.setIfInBounds_toArray, List.set_cons_zero, List.set_cons_succ]
          refine mix_take hK3 (some 26) (.load 57 (.tmp 25)) 57 _ (by kernel_rfl) (by kernel_rfl) (fun w' hS' => by (obtain ⟨_, s1, s2, s3, s4⟩ := hS'; obtain ⟨b0, b1, b2, b3, _⟩ := s3; obtain ⟨d0, d1, d2, d3, _⟩ := s4; simp only [opr]; go_simp; try with_reducible rfl)) (fun K4 hK4 => ?_)
          clear hK3 K3
          simp only [Act.put, List.setIfInBounds_toArray, List.set_cons_zero, List.set_cons_succ]
          refine mix_take hK4 (some 27) (.fieldAddr 31 (.tmp 4) 1) 0 _ (by kernel_rfl) (by kernel_rfl) (fun w' hS' => by (obtain ⟨_, s1, s2, s3, s4⟩ := hS'; obtain ⟨b0, b1, b2, b3, _⟩ := s3; obtain ⟨d0, d1, d2, d3, _⟩ := s4; simp only [opr]; go_simp; try with_reducible rfl)) (fun K5 hK5 => ?_)
          clear hK4 K4
          simp only [Act.put, List.setIfInBounds_toArray, List.set_cons_zero, List.set_cons_succ]
          refine mix_take hK5 (some 28) (.load 3 (.tmp 27)) 3 _ (by kernel_rfl) (by kernel_rfl) (fun w' hS' => by (obtain ⟨_, s1, s2, s3, s4⟩ := hS'; obtain ⟨b0, b1, b2, b3, _⟩ := s3; obtain ⟨d0, d1, d2, d3, _⟩ := s4; simp only [opr]; go_simp; try with_reducible rfl)) (fun K6 hK6 => ?_)
          clear hK5 K5
          simp only [Act.put, List.setIfInBounds_toArray, List.set_cons_zero, List.set_cons_succ]
          refine mix_take hK6 (some 29) (.move (.tmp 7)) 3 _ (by kernel_rfl) (by kernel_rfl) (fun w' hS' => by (obtain ⟨_, s1, s2, s3, s4⟩ := hS'; obtain ⟨b0, b1, b2, b3, _⟩ := s3; obtain ⟨d0, d1, d2, d3, _⟩ := s4; simp only [opr]; go_simp; try with_reducible rfl)) (fun K7 hK7 => ?_)
          clear hK6 K6
          simp only [Act.put, List.setIfInBounds_toArray, List.set_cons_zero, List.set_cons_succ]
          refine mix_take hK7 (some 30) (.binOp BinOp.add 3 (.tmp 28) (.tmp 29) 3) 3 _ (by kernel_rfl) (by kernel_rfl) (fun w' hS' => by (obtain ⟨_, s1, s2, s3, s4⟩ := hS'; obtain ⟨b0, b1, b2, b3, _⟩ := s3; obtain ⟨d0, d1, d2, d3, _⟩ := s4; simp only [opr]; go_simp; try with_reducible rfl)) (fun K8 hK8 => ?_)
          clear hK7 K7
          simp only [Act.put, List.setIfInBounds_toArray, List.set_cons_zero, List.set_cons_succ]
          refine mix_take hK8 (some 31) (.indexAddr 57 (.tmp 26) (.tmp 30)) 0 _ (by kernel_rfl) (by kernel_rfl) (fun w' hS' => by (obtain ⟨_, s1, s2, s3, s4⟩ := hS'; obtain ⟨b0, b1, b2, b3, _⟩ := s3; obtain ⟨d0, d1, d2, d3, _⟩ := s4; simp only [opr]; go_simp; try with_reducible rfl)) (fun K9 hK9 => ?_)
          clear hK8 K8
          simp only [Act.put, List.setIfInBounds_toArray, List.set_cons_zero, List.set_cons_succ]
          refine mix_take hK9 (some 32) (.load 26 (.tmp 31)) 26 _ (by kernel_rfl) (by kernel_rfl) (fun w' hS' => by (obtain ⟨_, s1, s2, s3, s4⟩ := hS'; obtain ⟨b0, b1, b2, b3, _⟩ := s3; obtain ⟨d0, d1, d2, d3, _⟩ := s4; simp only [opr]; go_simp; try with_reducible rfl)) (fun K10 hK10 => ?_)
          clear hK9 K9
          simp only [Act.put, List.setIfInBounds_toArray, List.set_cons_zero, List.set_cons_succ]
          refine mix_take hK10 (some 33) (.fieldAddr 31 (.tmp 4) 0) 0 _ (by kernel_rfl) (by kernel_rfl) (fun w' hS' => by (obtain ⟨_, s1, s2, s3, s4⟩ := hS'; obtain ⟨b0, b1, b2, b3, _⟩ := s3; obtain ⟨d0, d1, d2, d3, _⟩ := s4; simp only [opr]; go_simp; try with_reducible rfl)) (fun K11 hK11 => ?_)
          clear hK10 K10
          simp only [Act.put, List.setIfInBounds_toArray, List.set_cons_zero, List.set_cons_succ]
          refine mix_take hK11 (some 34) (.load 3 (.tmp 33)) 3 _ (by kernel_rfl) (by kernel_rfl) (fun w' hS' => by (obtain ⟨_, s1, s2, s3, s4⟩ := hS'; obtain ⟨b0, b1, b2, b3, _⟩ := s3; obtain ⟨d0, d1, d2, d3, _⟩ := s4; simp only [opr]; go_simp; try with_reducible rfl)) (fun K12 hK12 => ?_)
          clear hK11 K11
          simp only [Act.put, List.setIfInBounds_toArray, List.set_cons_zero, List.set_cons_succ]
          refine mix_take hK12 (some 35) (.move (.tmp 8)) 3 _ (by kernel_rfl) (by kernel_rfl) (fun w' hS' => by (obtain ⟨_, s1, s2, s3, s4⟩ := hS'; obtain ⟨b0, b1, b2, b3, _⟩ := s3; obtain ⟨d0, d1, d2, d3, _⟩ := s4; simp only [opr]; go_simp; try with_reducible rfl)) (fun K13 hK13 => ?_)
          clear hK12 K12
          simp only [Act.put, List.setIfInBounds_toArray, List.set_cons_zero, List.set_cons_succ]
          refine mix_take hK13 (some 36) (.binOp BinOp.add 3 (.tmp 34) (.tmp 35) 3) 3 _ (by kernel_rfl) (by kernel_rfl) (fun w' hS' => by (obtain ⟨_, s1, s2, s3, s4⟩ := hS'; obtain ⟨b0, b1, b2, b3, _⟩ := s3; obtain ⟨d0, d1, d2, d3, _⟩ := s4; simp only [opr]; go_simp; try with_reducible rfl)) (fun K14 hK14 => ?_)
          clear hK13 K13
          simp only [Act.put, List.setIfInBounds_toArray, List.set_cons_zero, List.set_cons_succ]
          refine mix_take hK14 (some 37) (.load 35 (.tmp 5)) 35 _ (by kernel_rfl) (by kernel_rfl) (fun w' hS' => by (obtain ⟨_, s1, s2, s3, s4⟩ := hS'; obtain ⟨b0, b1, b2, b3, _⟩ := s3; obtain ⟨d0, d1, d2, d3, _⟩ := s4; simp only [opr]; go_simp; try with_reducible rfl)) (fun K15 hK15 => ?_)
          clear hK14 K14
          simp only [Act.put, List.setIfInBounds_toArray, List.set_cons_zero, List.set_cons_succ]
          refine mix_take hK15 (some 38) (.indexAddr 26 (.tmp 32) (.tmp 36)) 0 _ (by kernel_rfl) (by kernel_rfl) (fun w' hS' => by (obtain ⟨_, s1, s2, s3, s4⟩ := hS'; obtain ⟨b0, b1, b2, b3, _⟩ := s3; obtain ⟨d0, d1, d2, d3, _⟩ := s4; simp only [opr]; go_simp; try with_reducible rfl)) (fun K16 hK16 => ?_)
          clear hK15 K15
          simp only [Act.put, List.setIfInBounds_toArray, List.set_cons_zero, List.set_cons_succ]
          refine mix_chain hK16 (fun K16c hK16c => ?_)
          clear hK16 K16
          refine op_plain none (.store 35 (.tmp 38) (.tmp 37)) 0 (by kernel_rfl) (by kernel_rfl) ?_
          refine wpList_store_mid rfl 35 (.tmp 38) (.tmp 37) rfl bc (o + (x0 + j) * 4) #[.int .i32 c.r, .int .i64 c.fg, .int .i64 c.bg, .int .i64 c.fl] rfl rfl HTH.out (by kernel_rfl) (Cl.all_one _) ?_
          refine wpList_nil ?_
          have hSf : (fun w' => Stay (fun k => k = bc) wr w' ∧ w'.cell? ⟨g, 0, none⟩ = some (.slice (some ⟨br, 0, none⟩) b b) ∧ w'.cell? ⟨br, y0 + k, none⟩ = some (.slice (some ⟨bc, o, none⟩) a cp) ∧ BoxC w' (w.heap.size + 1) c ∧ Box w' w.heap.size ⟨x0, y0, a0, b0⟩) (wr.drew.setCells bc (o + (x0 + j) * 4) c.parts) := ⟨hS.1.setCells bc _ _ rfl, HF.out _ (hS.1.setCells bc _ _ rfl)⟩
          refine hK16c _ _ hSf (mix_begin fun K17 hK17 => ?_)
          clear hK16c K16c
          try simp only [Act.put]
          refine hK17 _ _ (mix_nil ?_)
          clear hK17 K17
          clear hSf hS hS0
          go_wp2
          go_roundg (a0 - (j + 1))
          case rel => exact ⟨j + 1, by omega, rfl, by go_num, HI2⟩
          case measure => omega
        · have j2 : ¬ (j : Int) < (a0 : Nat) := by omega
          have j3 : decide ((j : Int) < (a0 : Nat)) = false := by simp; omega
          have HI2 := hide' (HI.out.next (by omega))
          go_wp2
          go_roundg (b0 - (k + 1))
          case rel => exact ⟨k + 1, by omega, rfl, by go_num, HI2⟩
          case measure => omega
    · have hkb' : k = b0 := by omega
      subst hkb'
      have k3 : decide ((k : Int) < (k : Nat)) = false := by simp
      go_wp2_with fail
      refine (HAR.out _).mono ?_
      rintro e w9 ⟨rfl, hs⟩
      obtain ⟨F, hF1, hF2⟩ := HI.out.grid
      have HE : Hid (Stay (fun b => b = G.bc) w w9 ∧ GridAt w9 G F ∧ Fills G.w G.h r c f F) := ⟨HI.out.stay.trans (stay_any hs), hF1.keep hs, hF2.all HM.out⟩
      clear hs hF1 hF2
      go_wp2
      go_ret
      exact ⟨F, ⟨by simp, HE.out.1, HE.out.2.1⟩, HE.out.2.2⟩

end Go.Proofs.Ytmpmdlbhiogelaa
