/-
  A frame's calls, walked. No conditions.
-/
import Derived.Test.YtcealbdinbfegaaF1
namespace Go.Proofs.Ytcealbdinbfegaa
open Go.RowKit

/-- What a frame is behind its notes. -/
def TakeG (q : Fm) (f : Nat → Cl) (L : List Wr) (w : World) (e : Ending) (w' : World) : Prop := e = .returned q.v ∧ FAt w' (q.with (.slice none 0 0)) f [] ∧ Win w' 6 q.v L.length (wrs L) ∧ Stay (fun j => j = q.b) w w'

theorem take21 (q : Fm) (f : Nat → Cl) (L : List Wr) (w : World) (hq : FAt w q f L) : Calls Try.prog 21 #[.pointer (some ⟨q.b, 0, none⟩)] w (TakeG q f L w) := by
  have HT := hide' hq.took
  obtain ⟨na, nc, hv, _, _⟩ := hq.row.shape
  have HV := hide' hv
  obtain ⟨g0, g1, k0, k1⟩ := hq.box
  simp only at g0 g1
  rw [hv] at g1
  obtain ⟨n, hn⟩ : ∃ n, n = L.length := ⟨_, rfl⟩
  rw [← hn] at g1
  have HN := hide' hn
  clear hq hv hn
  go_enter Try.func21, Try.ntmps21
  go_wp2
  go_ret
  refine ⟨?_, HT.out⟩
  rw [HV.out, ← HN.out]
  rfl

theorem notes12 (q : Fm) (f : Nat → Cl) (L : List Wr) (w : World) (hq : FAt w q f L) : Calls Try.prog 12 #[.pointer (some ⟨q.b, 0, none⟩)] w (TakeG q f L w) := by
  have HT := hide' (take21 q f L w hq)
  clear hq
  go_enter Try.func12, Try.ntmps12
  go_wp2_with fail
  refine HT.out.mono ?_
  rintro e w1 ⟨rfl, h1, h2, h3⟩
  have H1 := hide' h1
  have H2 := hide' h2
  have H3 := hide' h3
  clear h1 h2 h3
  go_wp2
  go_ret
  exact ⟨rfl, H1.out, H2.out, H3.out⟩

theorem at13 (q : Fm) (f : Nat → Cl) (L : List Wr) (x y : Int) (w : World) (hq : FAt w q f L) (hx : I64 x) (hy : I64 y) : Calls Try.prog 13 #[.pointer (some ⟨q.b, 0, none⟩), .int .i64 x, .int .i64 y] w (Gives (.agg #[.int .i32 (atF q.G.w q.G.h f x y).r, .int .i64 (atF q.G.w q.G.h f x y).fg, .int .i64 (atF q.G.w q.G.h f x y).bg, .int .i64 (atF q.G.w q.G.h f x y).fl]) w) := by
  have hs0 : Stay (fun _ => False) w (w.alloc (.cells #[.int .i32 0, .int .i64 0, .int .i64 0, .int .i64 0] 34)) := (Stay.refl _ _).alloc _
  have HS := hide' hs0
  have HA := hide' (at18 q.G f x y (w.alloc (.cells #[.int .i32 0, .int .i64 0, .int .i64 0, .int .i64 0] 34)) (hq.grid.keep hs0) hx hy)
  have hq := hq.keep hs0
  obtain ⟨p, hp⟩ : ∃ p, p = atF q.G.w q.G.h f x y := ⟨_, rfl⟩
  rw [← hp] at HA
  rw [← hp]
  obtain ⟨g0, g1, k0, k1⟩ := hq.box
  simp only at g0 g1
  clear hs0 hq hx hy hp
  go_enter Try.func13, Try.ntmps13
  go_wp2_with fail
  refine HA.out.mono ?_
  rintro e w1 ⟨rfl, hs⟩
  have HS1 := hide' (HS.out.trans hs)
  have HBz := hide' (BoxC.keep (BoxC.new (w := w) Cl.zero rfl) hs)
  clear hs HS HA g0 g1 k0 k1
  obtain ⟨z0, z1, z2, z3, f0, f1, f2, f3⟩ := HBz.out
  go_wp2
  exact bodyPost_ret (results_BoxC rfl _ _ _ p rfl (HBz.out.put p)) rfl ⟨rfl, BoxC.stay_put HS1.out (by omega) _ _ _ _⟩

theorem size15 (q : Fm) (f : Nat → Cl) (L : List Wr) (w : World) (hq : FAt w q f L) : Calls Try.prog 15 #[.pointer (some ⟨q.b, 0, none⟩)] w (Gives (.tuple #[.int .i64 (q.G.w : Nat), .int .i64 (q.G.h : Nat)]) w) := by
  have HA := hide' (size22 q.G f w hq.grid)
  obtain ⟨g0, g1, k0, k1⟩ := hq.box
  simp only at g0 g1
  clear hq
  go_enter Try.func15, Try.ntmps15
  go_wp2_with fail
  refine HA.out.mono ?_
  rintro e w1 ⟨rfl, hs⟩
  have HS := hide' hs
  clear hs HA g0 g1 k0 k1
  go_wp2
  go_returns
  exact ⟨rfl, HS.out⟩

/-- A copy of a grid. -/
def CopyG (q : Fm) (f : Nat → Cl) (w : World) (e : Ending) (w' : World) : Prop := ∃ G : Gr, e = .returned (.pointer (some ⟨G.g, 0, none⟩)) ∧ Stay (fun _ => False) w w' ∧ GridAt w' G f ∧ G.w = q.G.w ∧ G.h = q.G.h ∧ G.above w.heap.size

theorem grid_cells {a b : Nat} {f g : Nat → Cl} (h : ∀ X Y : Nat, X < a → Y < b → f (Y * a + X) = g (Y * a + X)) : ∀ i, i < a * b → f i = g i := by
  intro i hi
  have ha : 0 < a := Nat.pos_of_ne_zero (fun e => by rw [e, Nat.zero_mul] at hi; omega)
  have h1 : i % a < a := Nat.mod_lt _ ha
  have h2 : i / a < b := (Nat.div_lt_iff_lt_mul ha).2 (by rw [Nat.mul_comm]; exact hi)
  have := h (i % a) (i / a) h1 h2
  rwa [Nat.mul_comm, Nat.div_add_mod] at this

theorem grid17 (q : Fm) (f : Nat → Cl) (L : List Wr) (w : World) (hq : FAt w q f L) : Calls Try.prog 17 #[.pointer (some ⟨q.b, 0, none⟩)] w (CopyG q f w) := by
  have HA := hide' (clone25 q.G f w hq.grid)
  obtain ⟨g0, g1, k0, k1⟩ := hq.box
  simp only at g0 g1
  clear hq
  go_enter Try.func17, Try.ntmps17
  go_wp2_with fail
  refine HA.out.mono ?_
  rintro e w1 ⟨f2, ⟨G, rfl, hs, hg, hw, hh, hab⟩, hf⟩
  have HS : Hid (Stay (fun _ => False) w w1 ∧ GridAt w1 G f ∧ G.w = q.G.w ∧ G.h = q.G.h ∧ G.above w.heap.size) := ⟨hs, hg.congr (fun i hi => grid_cells hf i (by rw [← hw, ← hh]; exact hi)), hw, hh, hab⟩
  clear hs hg hw hh hab hf HA g0 g1 k0 k1
  go_wp2
  go_ret
  exact ⟨G, rfl, HS.out⟩

set_option maxHeartbeats 1000000 in
theorem put9 (q : Fm) (f : Nat → Cl) (L : List Wr) (x y : Int) (c : Cl) (w : World) (hq : FAt w q f L) (hx : I64 x) (hy : I64 y) (hl : L.length ≤ 1000) : Calls Try.prog 9 #[.pointer (some ⟨q.b, 0, none⟩), .int .i64 x, .int .i64 y, .agg #[.int .i32 c.r, .int .i64 c.fg, .int .i64 c.bg, .int .i64 c.fl]] w (PutG (insB q.G.w q.G.h x y) q (setF q.G.w q.G.h f x y c) (noteL q.G.w q.G.h x y c L) w) := by
  obtain ⟨w0, hw0⟩ : ∃ W, W = (w.alloc (.cells #[.int .i32 c.r, .int .i64 c.fg, .int .i64 c.bg, .int .i64 c.fl] 34)) := ⟨_, rfl⟩
  obtain ⟨bb, hbb⟩ : ∃ b, b = w.heap.size := ⟨_, rfl⟩
  have hs0 : Stay (fun _ => False) w w0 := by rw [hw0]; exact (Stay.refl _ _).alloc _
  have HS0 := hide' (hs0.trans ((Stay.refl _ w0).drew))
  have HBF : Hid (¬ q.own bb) := hq.fresh (by omega)
  have hS : (fun w' => BoxC w' bb c) w0.drew := by
    have : BoxC w0 bb c := by rw [hw0]; exact BoxC.new c hbb.symm
    exact this.keep (Stay.refl _ _).drew
  have HP := hide' (put20 q f L x y c w0.drew (hq.keep (hs0.trans ((Stay.refl _ w0).drew))) hx hy hl)
  obtain ⟨cn, hc⟩ : ∃ k, k = insB q.G.w q.G.h x y := ⟨_, rfl⟩
  rw [← hc] at HP
  rw [← hc]
  obtain ⟨F, hF⟩ : ∃ F, F = setF q.G.w q.G.h f x y c := ⟨_, rfl⟩
  rw [← hF] at HP
  rw [← hF]
  obtain ⟨N, hN⟩ : ∃ F, F = noteL q.G.w q.G.h x y c L := ⟨_, rfl⟩
  rw [← hN] at HP
  rw [← hN]
  clear hs0 hq hx hy hl hc hF hN
  go_enter Try.func9, Try.ntmps9
  go_upto_region 1 with fail
  rw [← hw0, ← hbb]
  clear hw0 hbb
  refine wp_region_mix (fun w' => BoxC w' bb c) [(0, true), (1, true), (2, true), (3, true), (4, true), (5, true), (6, true), (7, true), (8, true), (9, false), (10, true), (11, true)] (by kernel_rfl) (by kernel_rfl) (fun _ d _ _ _ h => by cases d <;> exact h) hS ?_
  refine mix_begin (fun K0 hK0 => ?_)
  refine mix_take hK0 (some 9) (.move (.tmp 0)) 24 _ (by kernel_rfl) (by kernel_rfl) (fun w' hS' => by (obtain ⟨b0, b1, b2, b3, _⟩ := hS'; simp only [opr]; go_simp; try with_reducible rfl)) (fun K1 hK1 => ?_)
  clear hK0 K0
  simp only [Act.put, List.setIfInBounds_toArray, List.set_cons_zero, List.set_cons_succ]
  refine mix_take hK1 (some 10) (.binOp BinOp.neq 24 (.tmp 9) (.const (Value.pointer none)) 24) 4 _ (by kernel_rfl) (by kernel_rfl) (fun w' hS' => by (obtain ⟨b0, b1, b2, b3, _⟩ := hS'; simp only [opr]; go_simp; try with_reducible rfl)) (fun K2 hK2 => ?_)
  clear hK1 K1
  simp only [Act.put, List.setIfInBounds_toArray, List.set_cons_zero, List.set_cons_succ]
  refine mix_take hK2 (some 11) (.move (.tmp 10)) 4 _ (by kernel_rfl) (by kernel_rfl) (fun w' hS' => by (obtain ⟨b0, b1, b2, b3, _⟩ := hS'; simp only [opr]; go_simp; try with_reducible rfl)) (fun K3 hK3 => ?_)
  clear hK2 K2
  simp only [Act.put, List.setIfInBounds_toArray, List.set_cons_zero, List.set_cons_succ]
  refine mix_take hK3 (some 12) (.move (.tmp 0)) 24 _ (by kernel_rfl) (by kernel_rfl) (fun w' hS' => by (obtain ⟨b0, b1, b2, b3, _⟩ := hS'; simp only [opr]; go_simp; try with_reducible rfl)) (fun K4 hK4 => ?_)
  clear hK3 K3
  simp only [Act.put, List.setIfInBounds_toArray, List.set_cons_zero, List.set_cons_succ]
  refine mix_take hK4 (some 13) (.nilCheck (.tmp 12)) 0 _ (by kernel_rfl) (by kernel_rfl) (fun w' hS' => by (obtain ⟨b0, b1, b2, b3, _⟩ := hS'; simp only [opr]; go_simp; try with_reducible rfl)) (fun K5 hK5 => ?_)
  clear hK4 K4
  simp only [Act.put, List.setIfInBounds_toArray, List.set_cons_zero, List.set_cons_succ]
  refine mix_take hK5 (some 14) (.fieldAddr 53 (.tmp 13) 0) 0 _ (by kernel_rfl) (by kernel_rfl) (fun w' hS' => by (obtain ⟨b0, b1, b2, b3, _⟩ := hS'; simp only [opr]; go_simp; try with_reducible rfl)) (fun K6 hK6 => ?_)
  clear hK5 K5
  simp only [Act.put, List.setIfInBounds_toArray, List.set_cons_zero, List.set_cons_succ]
  refine mix_take hK6 (some 15) (.move (.tmp 1)) 3 _ (by kernel_rfl) (by kernel_rfl) (fun w' hS' => by (obtain ⟨b0, b1, b2, b3, _⟩ := hS'; simp only [opr]; go_simp; try with_reducible rfl)) (fun K7 hK7 => ?_)
  clear hK6 K6
  simp only [Act.put, List.setIfInBounds_toArray, List.set_cons_zero, List.set_cons_succ]
  refine mix_take hK7 (some 16) (.move (.tmp 2)) 3 _ (by kernel_rfl) (by kernel_rfl) (fun w' hS' => by (obtain ⟨b0, b1, b2, b3, _⟩ := hS'; simp only [opr]; go_simp; try with_reducible rfl)) (fun K8 hK8 => ?_)
  clear hK7 K7
  simp only [Act.put, List.setIfInBounds_toArray, List.set_cons_zero, List.set_cons_succ]
  refine mix_take hK8 (some 17) (.load 34 (.tmp 7)) 34 _ (by kernel_rfl) (by kernel_rfl) (fun w' hS' => by (obtain ⟨b0, b1, b2, b3, _⟩ := hS'; simp only [opr]; go_simp; try with_reducible rfl)) (fun K9 hK9 => ?_)
  clear hK8 K8
  simp only [Act.put, List.setIfInBounds_toArray, List.set_cons_zero, List.set_cons_succ]
  refine mix_call hK9 (some 18) 20 #[.tmp 14, .tmp 15, .tmp 16, .tmp 17] #[51, 3, 3, 34] 4 _ (by kernel_rfl) (by kernel_rfl) (enters Try.func20 (by kernel_rfl) (by kernel_rfl)) (by go_simp; try with_reducible rfl) (fun K10 hK10 => ?_)
  clear hK9 K9
  refine (HP.out).mono ?_
  rintro e wm1 ⟨v, rfl, hf1, hs1⟩
  have hS1 : _ := (show (fun w' => BoxC w' bb c) wm1 from hS.stay hs1.1 HBF.out)
  refine ⟨_, rfl, hS1, ?_⟩
  have HG1 := hide' hf1
  have HM1 := hide' hs1
  clear hf1
  clear hs1
  simp only [Act.put, List.setIfInBounds_toArray, List.set_cons_zero, List.set_cons_succ]
  refine mix_take hK10 (some 19) (.pick (.tmp 11) (.tmp 18) (.const (Value.bool false))) 4 _ (by kernel_rfl) (by kernel_rfl) (fun w' hS' => by (obtain ⟨b0, b1, b2, b3, _⟩ := hS'; simp only [opr]; go_simp; try with_reducible rfl)) (fun K11 hK11 => ?_)
  clear hK10 K10
  simp only [Act.put, List.setIfInBounds_toArray, List.set_cons_zero, List.set_cons_succ]
  refine mix_take hK11 (some 8) (.assign (.tmp 19)) 4 _ (by kernel_rfl) (by kernel_rfl) (fun w' hS' => by (obtain ⟨b0, b1, b2, b3, _⟩ := hS'; simp only [opr]; go_simp; try with_reducible rfl)) (fun K12 hK12 => ?_)
  clear hK11 K11
  simp only [Act.put, List.setIfInBounds_toArray, List.set_cons_zero, List.set_cons_succ]
  refine hK12 _ _ (mix_nil ?_)
  clear hK12 K12
  clear hS hS1
  go_wp2
  go_ret
  exact ⟨v, rfl, HG1.out, HM1.out.after (stay_any HS0.out)⟩

/-- A new frame: it is blank, and nothing is noted. -/
def NewF (a b : Nat) (w : World) (e : Ending) (w' : World) : Prop := ∃ q : Fm, e = .returned (.pointer (some ⟨q.b, 0, none⟩)) ∧ Stay (fun _ => False) w w' ∧ FAt w' q (fun _ => Cl.zero) [] ∧ q.G.w = a ∧ q.G.h = b ∧ ∀ j, q.own j → w.heap.size ≤ j

theorem new6 (a b : Nat) (w : World) (a1 : 1 ≤ a) (a2 : a ≤ 512) (b1 : 1 ≤ b) (b2 : b ≤ 512) : Calls Try.prog 6 #[.int .i64 (a : Nat), .int .i64 (b : Nat)] w (NewF a b w) := by
  have HN := hide' (new19 a b w a1 a2 b1 b2)
  clear a1 a2 b1 b2
  go_enter Try.func6, Try.ntmps6
  go_wp2_with fail
  refine HN.out.mono ?_
  rintro e w1 ⟨G, rfl, hs, hg, hw, hh, hab⟩
  have HS := hide' hs
  have HG := hide' hg
  have HW := hide' (show G.w = a ∧ G.h = b ∧ G.above w.heap.size from ⟨hw, hh, hab⟩)
  clear hs hg hw hh hab HN
  go_wp2
  go_ret
  refine ⟨⟨w1.heap.size, G, .slice none 0 0⟩, rfl, HS.out.alloc _, ⟨HG.out.keep ((Stay.refl _ _).alloc _), FBox.new ⟨.pointer (some ⟨G.g, 0, none⟩), .slice none 0 0⟩ rfl, Win.nil _ _, HG.out.off_new (Nat.le_refl _), fun j hj => by cases hj⟩, HW.out.1, HW.out.2.1, fun j hj => ?_⟩
  have h := HW.out.2.2
  rcases hj with rfl | (rfl | rfl | rfl) | hj
  · exact HS.out.size
  · exact h.1
  · exact h.2.1
  · exact h.2.2
  · cases hj

theorem new6_nil (x y : Int) (w : World) (h : (sizeB x && sizeB y) = false) : Calls Try.prog 6 #[.int .i64 x, .int .i64 y] w (Gives (.pointer none) w) := by
  have HN := hide' (new19_nil x y w h)
  clear h
  go_enter Try.func6, Try.ntmps6
  go_wp2_with fail
  refine HN.out.mono ?_
  rintro e w1 ⟨rfl, hs⟩
  have HS := hide' hs
  clear hs HN
  go_wp2
  go_ret
  exact ⟨rfl, HS.out⟩

end Go.Proofs.Ytcealbdinbfegaa
