/-
  A cell is put and noted, the notes are taken: walked. No conditions.
-/
import Derived.Test.YtcealbdinbfegaaF0
namespace Go.Proofs.Ytcealbdinbfegaa
open Go.RowKit

/-- The notes behind a write. -/
def noteL (a b : Nat) (x y : Int) (c : Cl) (L : List Wr) : List Wr := if insB a b x y = true then L ++ [Wr.of x y c] else L

/-- What a frame is behind a write. -/
def PutG (ok : Bool) (q : Fm) (f : Nat → Cl) (L : List Wr) (w : World) (e : Ending) (w' : World) : Prop := ∃ v, e = .returned (.bool ok) ∧ FAt w' (q.with v) f L ∧ Moved q (q.with v) w w'

set_option maxHeartbeats 4000000 in
theorem put20 (q : Fm) (f : Nat → Cl) (L : List Wr) (x y : Int) (c : Cl) (w : World) (hq : FAt w q f L) (hx : I64 x) (hy : I64 y) (hl : L.length ≤ 1000) : Calls Try.prog 20 #[.pointer (some ⟨q.b, 0, none⟩), .int .i64 x, .int .i64 y, .agg #[.int .i32 c.r, .int .i64 c.fg, .int .i64 c.bg, .int .i64 c.fl]] w (PutG (insB q.G.w q.G.h x y) q (setF q.G.w q.G.h f x y c) (noteL q.G.w q.G.h x y c L) w) := by
  obtain ⟨w0, hw0⟩ : ∃ W, W = (w.alloc (.cells #[.int .i32 c.r, .int .i64 c.fg, .int .i64 c.bg, .int .i64 c.fl] 34)) := ⟨_, rfl⟩
  obtain ⟨bb, hbb⟩ : ∃ b, b = w.heap.size := ⟨_, rfl⟩
  have hs0 : Stay (fun _ => False) w w0 := by rw [hw0]; exact (Stay.refl _ _).alloc _
  have HS0 := hide' hs0
  have HD0 := hide' (hq.keep hs0)
  have HD := hide' ((hq.keep hs0).keep (Stay.refl _ _).drew)
  have HBC0 : Hid (BoxC w0 bb c) := by rw [hw0]; exact BoxC.new c hbb.symm
  have HBF : Hid (¬ q.own bb) := hq.fresh (by omega)
  have HO : Hid (¬ q.b = q.G.bc ∧ ¬ bb = q.G.bc) := ⟨fun e => hq.off.2.2 e.symm, fun e => HBF.out (.inr (.inl (.inr (.inr e))))⟩
  have HST : Hid (∀ W, FAt W q f L → Calls Try.prog 29 #[.pointer (some ⟨q.G.g, 0, none⟩), .int .i64 x, .int .i64 y, .agg #[.int .i32 c.r, .int .i64 c.fg, .int .i64 c.bg, .int .i64 c.fl]] W (Turns (.bool (insB q.G.w q.G.h x y)) q.G (setF q.G.w q.G.h f x y c) W)) := fun W h => set29 q.G f x y c W h.grid hx hy
  have HNL : Hid ((Wr.of x y c).parts.length = 1 * 6) := rfl
  have HONE : Hid (∀ u ∈ (Wr.of x y c).parts, u.oneCell' = true) := by
    intro u hu
    exact wrs_cells [Wr.of x y c] u (by rw [wrs_one]; exact hu)
  have HNM : Hid (L.length + 1 ≤ 1000000) := by show L.length + 1 ≤ 1000000; omega
  have hS : (fun w' => Stay (fun j => j = q.G.bc) w0 w' ∧ FBox w' q.b ⟨.pointer (some ⟨q.G.g, 0, none⟩), q.v⟩ ∧ BoxC w' bb c) w0.drew := ⟨(Stay.refl _ _).drew, HD.out.box, HBC0.out.keep (Stay.refl _ _).drew⟩
  obtain ⟨cn, hc⟩ : ∃ k, k = insB q.G.w q.G.h x y := ⟨_, rfl⟩
  rw [← hc] at HST
  rw [← hc]
  have HC := hide' hc.symm
  obtain ⟨N, hN⟩ : ∃ N, N = noteL q.G.w q.G.h x y c L := ⟨_, rfl⟩
  rw [← hN]
  have HN := hide' hN
  obtain ⟨F, hF⟩ : ∃ F, F = setF q.G.w q.G.h f x y c := ⟨_, rfl⟩
  rw [← hF] at HST
  rw [← hF]
  have HFF := hide' hF
  have HPT : Hid (q.G.g = q.G.g) := rfl
  clear hs0 hq hx hy hl hc hF hN HBC0
  go_enter Try.func20, Try.ntmps20
  go_upto_region 1 with fail
  rw [← hw0, ← hbb]
  clear hw0 hbb
  cases cn
  · refine wp_region_mix (fun w' => Stay (fun j => j = q.G.bc) w0 w' ∧ FBox w' q.b ⟨.pointer (some ⟨q.G.g, 0, none⟩), q.v⟩ ∧ BoxC w' bb c) [(0, true), (1, true), (2, true), (3, true), (4, true), (5, true), (6, true), (7, false), (8, true)] (by kernel_rfl) (by kernel_rfl) (fun _ d _ _ _ h => by cases d <;> exact h) hS ?_
    refine mix_begin (fun K0 hK0 => ?_)
    refine mix_take hK0 (some 9) (.move (.tmp 0)) 64 _ (by kernel_rfl) (by kernel_rfl) (fun w' hS' => by (obtain ⟨_, s1, s2⟩ := hS'; obtain ⟨g0, g1, _, _⟩ := s1; obtain ⟨b0, b1, b2, b3, _⟩ := s2; simp only at g0 g1; simp only [opr]; go_simp; try with_reducible rfl)) (fun K1 hK1 => ?_)
    clear hK0 K0
    simp only [Act.put, List.setIfInBounds_toArray, List.set_cons_zero, List.set_cons_succ]
    refine mix_take hK1 (some 10) (.nilCheck (.tmp 9)) 0 _ (by kernel_rfl) (by kernel_rfl) (fun w' hS' => by (obtain ⟨_, s1, s2⟩ := hS'; obtain ⟨g0, g1, _, _⟩ := s1; obtain ⟨b0, b1, b2, b3, _⟩ := s2; simp only at g0 g1; simp only [opr]; go_simp; try with_reducible rfl)) (fun K2 hK2 => ?_)
    clear hK1 K1
    simp only [Act.put, List.setIfInBounds_toArray, List.set_cons_zero, List.set_cons_succ]
    refine mix_take hK2 (some 11) (.fieldAddr 51 (.tmp 10) 0) 0 _ (by kernel_rfl) (by kernel_rfl) (fun w' hS' => by (obtain ⟨_, s1, s2⟩ := hS'; obtain ⟨g0, g1, _, _⟩ := s1; obtain ⟨b0, b1, b2, b3, _⟩ := s2; simp only at g0 g1; simp only [opr]; go_simp; try with_reducible rfl)) (fun K3 hK3 => ?_)
    clear hK2 K2
    simp only [Act.put, List.setIfInBounds_toArray, List.set_cons_zero, List.set_cons_succ]
    refine mix_take hK3 (some 12) (.load 45 (.tmp 11)) 45 _ (by kernel_rfl) (by kernel_rfl) (fun w' hS' => by (obtain ⟨_, s1, s2⟩ := hS'; obtain ⟨g0, g1, _, _⟩ := s1; obtain ⟨b0, b1, b2, b3, _⟩ := s2; simp only at g0 g1; simp only [opr]; go_simp; try with_reducible rfl)) (fun K4 hK4 => ?_)
    clear hK3 K3
    simp only [Act.put, List.setIfInBounds_toArray, List.set_cons_zero, List.set_cons_succ]
    refine mix_take hK4 (some 13) (.move (.tmp 1)) 3 _ (by kernel_rfl) (by kernel_rfl) (fun w' hS' => by (obtain ⟨_, s1, s2⟩ := hS'; obtain ⟨g0, g1, _, _⟩ := s1; obtain ⟨b0, b1, b2, b3, _⟩ := s2; simp only at g0 g1; simp only [opr]; go_simp; try with_reducible rfl)) (fun K5 hK5 => ?_)
    clear hK4 K4
    simp only [Act.put, List.setIfInBounds_toArray, List.set_cons_zero, List.set_cons_succ]
    refine mix_take hK5 (some 14) (.move (.tmp 2)) 3 _ (by kernel_rfl) (by kernel_rfl) (fun w' hS' => by (obtain ⟨_, s1, s2⟩ := hS'; obtain ⟨g0, g1, _, _⟩ := s1; obtain ⟨b0, b1, b2, b3, _⟩ := s2; simp only at g0 g1; simp only [opr]; go_simp; try with_reducible rfl)) (fun K6 hK6 => ?_)
    clear hK5 K5
    simp only [Act.put, List.setIfInBounds_toArray, List.set_cons_zero, List.set_cons_succ]
    refine mix_take hK6 (some 15) (.load 34 (.tmp 7)) 34 _ (by kernel_rfl) (by kernel_rfl) (fun w' hS' => by (obtain ⟨_, s1, s2⟩ := hS'; obtain ⟨g0, g1, _, _⟩ := s1; obtain ⟨b0, b1, b2, b3, _⟩ := s2; simp only at g0 g1; simp only [opr]; go_simp; try with_reducible rfl)) (fun K7 hK7 => ?_)
    clear hK6 K6
    simp only [Act.put, List.setIfInBounds_toArray, List.set_cons_zero, List.set_cons_succ]
    refine mix_call hK7 (some 16) 29 #[.tmp 12, .tmp 13, .tmp 14, .tmp 15] #[45, 3, 3, 34] 4 _ (by kernel_rfl) (by kernel_rfl) (enters Try.func29 (by kernel_rfl) (by kernel_rfl)) (by go_simp; try with_reducible rfl) (fun K8 hK8 => ?_)
    clear hK7 K7
    refine ((HST.out _ HD.out)).mono ?_
    rintro e wm1 ⟨rfl, hs1, hg1⟩
    have hS1 : _ := (show (fun w' => Stay (fun j => j = q.G.bc) w0 w' ∧ FBox w' q.b ⟨.pointer (some ⟨q.G.g, 0, none⟩), q.v⟩ ∧ BoxC w' bb c) wm1 from ⟨hS.1.trans hs1, hS.2.1.stay hs1 (fun e => HO.out.1 e), hS.2.2.stay hs1 (fun e => HO.out.2 e)⟩)
    refine ⟨_, rfl, hS1, ?_⟩
    have HG1 := hide' hg1
    clear hg1
    clear hs1
    simp only [Act.put, List.setIfInBounds_toArray, List.set_cons_zero, List.set_cons_succ]
    refine mix_take hK8 (some 17) (.unOp UnOp.not 4 (.tmp 16)) 4 _ (by kernel_rfl) (by kernel_rfl) (fun w' hS' => by (obtain ⟨_, s1, s2⟩ := hS'; obtain ⟨g0, g1, _, _⟩ := s1; obtain ⟨b0, b1, b2, b3, _⟩ := s2; simp only at g0 g1; simp only [opr]; go_simp; try with_reducible rfl)) (fun K9 hK9 => ?_)
    clear hK8 K8
    simp only [Act.put, List.setIfInBounds_toArray, List.set_cons_zero, List.set_cons_succ]
    refine hK9 _ _ (mix_nil ?_)
    clear hK9 K9
    have HT := hide' hS1.1
    have HFX : Hid (FAt wm1 q F L) := HD0.out.turn HT.out HG1.out
    clear hS hS1
    go_wp2
    go_ret
    refine ⟨q.v, rfl, ?_, ?_⟩
    · rw [HN.out]
      unfold noteL
      rw [if_neg (by rw [HC.out]; decide)]
      exact HFX.out
    · exact Moved.turn (stay_any HS0.out |>.trans (HT.out.mono (fun j _ e => .inr (.inl (.inr (.inr e))))))
  · refine wp_region_mix (fun w' => Stay (fun j => j = q.G.bc) w0 w' ∧ FBox w' q.b ⟨.pointer (some ⟨q.G.g, 0, none⟩), q.v⟩ ∧ BoxC w' bb c) [(0, true), (1, true), (2, true), (3, true), (4, true), (5, true), (6, true), (7, false), (8, true)] (by kernel_rfl) (by kernel_rfl) (fun _ d _ _ _ h => by cases d <;> exact h) hS ?_
    refine mix_begin (fun K0 hK0 => ?_)
    refine mix_take hK0 (some 9) (.move (.tmp 0)) 64 _ (by kernel_rfl) (by kernel_rfl) (fun w' hS' => by (obtain ⟨_, s1, s2⟩ := hS'; obtain ⟨g0, g1, _, _⟩ := s1; obtain ⟨b0, b1, b2, b3, _⟩ := s2; simp only at g0 g1; simp only [opr]; go_simp; try with_reducible rfl)) (fun K1 hK1 => ?_)
    clear hK0 K0
    simp only [Act.put, List.setIfInBounds_toArray, List.set_cons_zero, List.set_cons_succ]
    refine mix_take hK1 (some 10) (.nilCheck (.tmp 9)) 0 _ (by kernel_rfl) (by kernel_rfl) (fun w' hS' => by (obtain ⟨_, s1, s2⟩ := hS'; obtain ⟨g0, g1, _, _⟩ := s1; obtain ⟨b0, b1, b2, b3, _⟩ := s2; simp only at g0 g1; simp only [opr]; go_simp; try with_reducible rfl)) (fun K2 hK2 => ?_)
    clear hK1 K1
    simp only [Act.put, List.setIfInBounds_toArray, List.set_cons_zero, List.set_cons_succ]
    refine mix_take hK2 (some 11) (.fieldAddr 51 (.tmp 10) 0) 0 _ (by kernel_rfl) (by kernel_rfl) (fun w' hS' => by (obtain ⟨_, s1, s2⟩ := hS'; obtain ⟨g0, g1, _, _⟩ := s1; obtain ⟨b0, b1, b2, b3, _⟩ := s2; simp only at g0 g1; simp only [opr]; go_simp; try with_reducible rfl)) (fun K3 hK3 => ?_)
    clear hK2 K2
    simp only [Act.put, List.setIfInBounds_toArray, List.set_cons_zero, List.set_cons_succ]
    refine mix_take hK3 (some 12) (.load 45 (.tmp 11)) 45 _ (by kernel_rfl) (by kernel_rfl) (fun w' hS' => by (obtain ⟨_, s1, s2⟩ := hS'; obtain ⟨g0, g1, _, _⟩ := s1; obtain ⟨b0, b1, b2, b3, _⟩ := s2; simp only at g0 g1; simp only [opr]; go_simp; try with_reducible rfl)) (fun K4 hK4 => ?_)
    clear hK3 K3
    simp only [Act.put, List.setIfInBounds_toArray, List.set_cons_zero, List.set_cons_succ]
    refine mix_take hK4 (some 13) (.move (.tmp 1)) 3 _ (by kernel_rfl) (by kernel_rfl) (fun w' hS' => by (obtain ⟨_, s1, s2⟩ := hS'; obtain ⟨g0, g1, _, _⟩ := s1; obtain ⟨b0, b1, b2, b3, _⟩ := s2; simp only at g0 g1; simp only [opr]; go_simp; try with_reducible rfl)) (fun K5 hK5 => ?_)
    clear hK4 K4
    simp only [Act.put, List.setIfInBounds_toArray, List.set_cons_zero, List.set_cons_succ]
    refine mix_take hK5 (some 14) (.move (.tmp 2)) 3 _ (by kernel_rfl) (by kernel_rfl) (fun w' hS' => by (obtain ⟨_, s1, s2⟩ := hS'; obtain ⟨g0, g1, _, _⟩ := s1; obtain ⟨b0, b1, b2, b3, _⟩ := s2; simp only at g0 g1; simp only [opr]; go_simp; try with_reducible rfl)) (fun K6 hK6 => ?_)
    clear hK5 K5
    simp only [Act.put, List.setIfInBounds_toArray, List.set_cons_zero, List.set_cons_succ]
    refine mix_take hK6 (some 15) (.load 34 (.tmp 7)) 34 _ (by kernel_rfl) (by kernel_rfl) (fun w' hS' => by (obtain ⟨_, s1, s2⟩ := hS'; obtain ⟨g0, g1, _, _⟩ := s1; obtain ⟨b0, b1, b2, b3, _⟩ := s2; simp only at g0 g1; simp only [opr]; go_simp; try with_reducible rfl)) (fun K7 hK7 => ?_)
    clear hK6 K6
    simp only [Act.put, List.setIfInBounds_toArray, List.set_cons_zero, List.set_cons_succ]
    refine mix_call hK7 (some 16) 29 #[.tmp 12, .tmp 13, .tmp 14, .tmp 15] #[45, 3, 3, 34] 4 _ (by kernel_rfl) (by kernel_rfl) (enters Try.func29 (by kernel_rfl) (by kernel_rfl)) (by go_simp; try with_reducible rfl) (fun K8 hK8 => ?_)
    clear hK7 K7
    refine ((HST.out _ HD.out)).mono ?_
    rintro e wm1 ⟨rfl, hs1, hg1⟩
    have hS1 : _ := (show (fun w' => Stay (fun j => j = q.G.bc) w0 w' ∧ FBox w' q.b ⟨.pointer (some ⟨q.G.g, 0, none⟩), q.v⟩ ∧ BoxC w' bb c) wm1 from ⟨hS.1.trans hs1, hS.2.1.stay hs1 (fun e => HO.out.1 e), hS.2.2.stay hs1 (fun e => HO.out.2 e)⟩)
    refine ⟨_, rfl, hS1, ?_⟩
    have HG1 := hide' hg1
    clear hg1
    clear hs1
    simp only [Act.put, List.setIfInBounds_toArray, List.set_cons_zero, List.set_cons_succ]
    refine mix_take hK8 (some 17) (.unOp UnOp.not 4 (.tmp 16)) 4 _ (by kernel_rfl) (by kernel_rfl) (fun w' hS' => by (obtain ⟨_, s1, s2⟩ := hS'; obtain ⟨g0, g1, _, _⟩ := s1; obtain ⟨b0, b1, b2, b3, _⟩ := s2; simp only at g0 g1; simp only [opr]; go_simp; try with_reducible rfl)) (fun K9 hK9 => ?_)
    clear hK8 K8
    simp only [Act.put, List.setIfInBounds_toArray, List.set_cons_zero, List.set_cons_succ]
    refine hK9 _ _ (mix_nil ?_)
    clear hK9 K9
    have HT : Hid (Stay q.own w wm1) := (stay_any HS0.out).trans (hS1.1.mono (fun j _ e => .inr (.inl (.inr (.inr e)))))
    have HBC1 := hide' hS1.2.2
    have HFA1 : Hid (FAt wm1 q F L) := HD0.out.turn hS1.1 HG1.out
    clear hS hS1 HG1 HD HD0 HS0 HO
    go_upto_region 3 with fail
    refine any_begin (fun w' => BoxC w' bb c) (by kernel_rfl) (fun K0 hK0 => ?_)
    obtain ⟨W2, hW2⟩ : ∃ W, W = wm1.drew := ⟨_, rfl⟩
    have hst : Stay (fun _ => False) wm1 W2 := by rw [hW2]; exact (Stay.refl _ _).drew
    have HFA := hide' (HFA1.out.keep hst)
    have HBC := hide' (HBC1.out.keep hst)
    have HST2 := hide' (HT.out.trans (stay_any hst))
    rw [← hW2]
    clear hW2 hst HFA1 HBC1 HT HST
    have HST := HST2
    clear HST2
    refine any_take (i := 0) hK0 (some 18) (.move (.tmp 0)) 64 _ (by kernel_rfl) (fun _ d _ _ _ h => by cases d <;> exact h) (by kernel_rfl) (by kernel_rfl) (fun w' hS' => by simp only [opr]; go_simp; try with_reducible rfl) HBC.out (fun K1 hK1 => ?_)
    clear hK0 K0
    try simp only [Act.put, List.setIfInBounds_toArray, List.set_cons_zero, List.set_cons_succ]
    refine any_take (i := 1) hK1 (some 19) (.move (.tmp 0)) 64 _ (by kernel_rfl) (fun _ d _ _ _ h => by cases d <;> exact h) (by kernel_rfl) (by kernel_rfl) (fun w' hS' => by simp only [opr]; go_simp; try with_reducible rfl) HBC.out (fun K2 hK2 => ?_)
    clear hK1 K1
    try simp only [Act.put, List.setIfInBounds_toArray, List.set_cons_zero, List.set_cons_succ]
    refine any_take (i := 2) hK2 (some 20) (.nilCheck (.tmp 19)) 0 _ (by kernel_rfl) (fun _ d _ _ _ h => by cases d <;> exact h) (by kernel_rfl) (by kernel_rfl) (fun w' hS' => by simp only [opr]; go_simp; try with_reducible rfl) HBC.out (fun K3 hK3 => ?_)
    clear hK2 K2
    try simp only [Act.put, List.setIfInBounds_toArray, List.set_cons_zero, List.set_cons_succ]
    refine any_take (i := 3) hK3 (some 21) (.fieldAddr 51 (.tmp 20) 1) 0 _ (by kernel_rfl) (fun _ d _ _ _ h => by cases d <;> exact h) (by kernel_rfl) (by kernel_rfl) (fun w' hS' => by simp only [opr]; go_simp; try with_reducible rfl) HBC.out (fun K4 hK4 => ?_)
    clear hK3 K3
    try simp only [Act.put, List.setIfInBounds_toArray, List.set_cons_zero, List.set_cons_succ]
    refine any_take (i := 5) hK4 (some 23) (.move (.tmp 1)) 3 _ (by kernel_rfl) (fun _ d _ _ _ h => by cases d <;> exact h) (by kernel_rfl) (by kernel_rfl) (fun w' hS' => by simp only [opr]; go_simp; try with_reducible rfl) HBC.out (fun K5 hK5 => ?_)
    clear hK4 K4
    try simp only [Act.put, List.setIfInBounds_toArray, List.set_cons_zero, List.set_cons_succ]
    refine any_take (i := 6) hK5 (some 24) (.move (.tmp 2)) 3 _ (by kernel_rfl) (fun _ d _ _ _ h => by cases d <;> exact h) (by kernel_rfl) (by kernel_rfl) (fun w' hS' => by simp only [opr]; go_simp; try with_reducible rfl) HBC.out (fun K6 hK6 => ?_)
    clear hK5 K5
    try simp only [Act.put, List.setIfInBounds_toArray, List.set_cons_zero, List.set_cons_succ]
    refine any_take (i := 7) hK6 (some 25) (.load 34 (.tmp 7)) 34 _ (by kernel_rfl) (fun _ d _ _ _ h => by cases d <;> exact h) (by kernel_rfl) (by kernel_rfl) (fun w' hS' => by (obtain ⟨b0, b1, b2, b3, _⟩ := hS'; simp only [opr]; go_simp; try with_reducible rfl)) HBC.out (fun K7 hK7 => ?_)
    clear hK6 K6
    try simp only [Act.put, List.setIfInBounds_toArray, List.set_cons_zero, List.set_cons_succ]
    refine any_take (i := 8) hK7 (some 26) (.build 36 #[(0, .tmp 23), (1, .tmp 24), (2, .tmp 25)]) 36 _ (by kernel_rfl) (fun _ d _ _ _ h => by cases d <;> exact h) (by kernel_rfl) (by kernel_rfl) (fun w' hS' => by simp only [opr]; go_simp; try with_reducible rfl) HBC.out (fun K8 hK8 => ?_)
    clear hK7 K7
    try simp only [Act.put, List.setIfInBounds_toArray, List.set_cons_zero, List.set_cons_succ]
    refine any_pick (rs := [4, 9]) hK8 (by kernel_rfl) (fun K9 hK9 => ?_)
    clear hK8 K8
    intro i hi
    simp only [List.mem_cons, List.not_mem_nil, or_false] at hi
    rcases hi with rfl | rfl
    · refine op_plain (some 22) (.load 22 (.tmp 21)) 22 (by kernel_rfl) (by kernel_rfl) ?_
      obtain ⟨g0, g1, k0, k1⟩ := HFA.out.box
      simp only at g0 g1
      go_wp2
      clear g0 g1 k0 k1
      refine hK9 4 (by simp) _ _ HBC.out (any_more fun K10 hK10 => ?_)
      clear hK9 K9
      refine any_pick (rs := [9]) hK10 (by kernel_rfl) (fun K11 hK11 => ?_)
      clear hK10 K10
      intro i hi
      simp only [List.mem_cons, List.not_mem_nil, or_false] at hi
      rcases hi with rfl
      refine op_plain (some 27) (.buildSlice 22 1 #[(0, .tmp 26)]) 22 (by kernel_rfl) (by kernel_rfl) ?_
      go_wp2
      have hst : Stay (fun _ => False) W2 (W2.alloc (.cells #[.int .i64 x, .int .i64 y, .int .i32 c.r, .int .i64 c.fg, .int .i64 c.bg, .int .i64 c.fl] 36)) := (Stay.refl _ _).alloc _
      have HFA' := hide' (HFA.out.keep hst)
      have HBC' := hide' (HBC.out.keep hst)
      have HST' := hide' (HST.out.trans (stay_any hst))
      have HSRC : Hid (∀ ad, (some ⟨W2.heap.size, 0, none⟩ : Option Addr) = some ad → ∀ j u, (Wr.of x y c).parts[j]? = some u → (W2.alloc (.cells #[.int .i64 x, .int .i64 y, .int .i32 c.r, .int .i64 c.fg, .int .i64 c.bg, .int .i64 c.fl] 36)).cell? (ad.add j) = some u) := by
        have hN := isRowS_new W2 #[.int .i64 x, .int .i64 y, .int .i32 c.r, .int .i64 c.fg, .int .i64 c.bg, .int .i64 c.fl] 36 6 1 rfl
        rintro ad e j u hu
        rcases hN with ⟨h, _⟩ | ⟨ad', cc, h, _, h3⟩
        · cases h
        · cases h
          cases e
          exact h3 j u hu
      clear hst
      clear HFA
      have HFA := HFA'
      clear HFA'
      clear HBC
      have HBC := HBC'
      clear HBC'
      clear HST
      have HST := HST'
      clear HST'
      obtain ⟨B2, hB⟩ : ∃ B, B = W2.heap.size := ⟨_, rfl⟩
      rw [← hB] at HSRC
      rw [← hB]
      clear hB
      obtain ⟨Wk1, hW⟩ : ∃ Wq, Wq = (W2.alloc (.cells #[.int .i64 x, .int .i64 y, .int .i32 c.r, .int .i64 c.fg, .int .i64 c.bg, .int .i64 c.fl] 36)) := ⟨_, rfl⟩
      rw [← hW] at HFA HBC HST HSRC
      rw [← hW]
      clear hW
      refine hK11 9 (by simp) _ _ HBC.out (any_more fun K12 hK12 => ?_)
      clear hK11 K11
      refine any_pick (rs := [10]) hK12 (by kernel_rfl) (fun K13 hK13 => ?_)
      clear hK12 K12
      intro i hi
      simp only [List.mem_cons, List.not_mem_nil, or_false] at hi
      rcases hi with rfl
      refine op_plain (some 28) (.call { callee := Callee.builtin Builtin.append, args := #[.tmp 22, .tmp 27], argTypes := #[22, 22] }) 22 (by kernel_rfl) (by kernel_rfl) ?_
      refine wpList_append_win rfl _ _ 22 rfl Try.underlying22 info36 rfl (by decide) (by decide) HFA.out.row rfl HNL.out HSRC.out (fun e => by cases e) HONE.out HNM.out rfl ?_
      intro vn Wk3 hwa hsa hba
      obtain ⟨na, nc, hvn, _, _⟩ := hwa.shape
      subst hvn
      refine wpList_nil ?_
      have HNT := hide' (HFA.out.note (Wr.of x y c) hwa hsa hba)
      have HBX := hide' (HFA.out.box.stay hsa (fun e => (HFA.out.vb _ e).1 rfl))
      have HBC' := hide' (HBC.out.stay hsa (fun e => HBF.out (.inr (.inr e))))
      clear hwa hsa hba HSRC
      clear HBC
      have HBC := HBC'
      clear HBC'
      have HMV := hide' (HNT.out.2.after HST.out)
      clear HST
      refine hK13 10 (by simp) _ _ HBC.out (any_more fun K14 hK14 => ?_)
      clear hK13 K13
      refine any_take (i := 11) hK14 (some 29) (.nilCheck (.tmp 18)) 0 _ (by kernel_rfl) (fun _ d _ _ _ h => by cases d <;> exact h) (by kernel_rfl) (by kernel_rfl) (fun w' hS' => by simp only [opr]; go_simp; try with_reducible rfl) HBC.out (fun K15 hK15 => ?_)
      clear hK14 K14
      try simp only [Act.put, List.setIfInBounds_toArray, List.set_cons_zero, List.set_cons_succ]
      refine any_take (i := 12) hK15 (some 30) (.fieldAddr 51 (.tmp 29) 1) 0 _ (by kernel_rfl) (fun _ d _ _ _ h => by cases d <;> exact h) (by kernel_rfl) (by kernel_rfl) (fun w' hS' => by simp only [opr]; go_simp; try with_reducible rfl) HBC.out (fun K16 hK16 => ?_)
      clear hK15 K15
      try simp only [Act.put, List.setIfInBounds_toArray, List.set_cons_zero, List.set_cons_succ]
      refine any_pick (rs := [13]) hK16 (by kernel_rfl) (fun K17 hK17 => ?_)
      clear hK16 K16
      intro i hi
      simp only [List.mem_cons, List.not_mem_nil, or_false] at hi
      rcases hi with rfl
      refine op_plain none (.store 22 (.tmp 30) (.tmp 28)) 0 (by kernel_rfl) (by kernel_rfl) ?_
      obtain ⟨g0, g1, k0, k1⟩ := HBX.out
      simp only at g0 g1
      go_wp2
      clear g0 g1 k0 k1
      have HNT' := hide' HNT.out.1
      have HBC' := hide' (HBC.out.stay ((Stay.refl (fun j => j = q.b) Wk3).setCell (p := ⟨q.b, 1, none⟩) rfl (.slice na (L.length + 1) nc)) (fun e => HBF.out (.inl e)))
      clear HNT HBX
      clear HBC
      have HBC := HBC'
      clear HBC'
      obtain ⟨Wk4, hW⟩ : ∃ Wq, Wq = (Wk3.setCell ⟨q.b, 1, none⟩ (.slice na (L.length + 1) nc)) := ⟨_, rfl⟩
      rw [← hW] at HNT' HBC HMV
      rw [← hW]
      clear hW
      refine hK17 13 (by simp) _ _ HBC.out (any_more fun K18 hK18 => ?_)
      clear hK17 K17
      refine any_done hK18 (by kernel_rfl) ?_
      clear hK18 K18
      go_wp2
      go_ret
      refine ⟨.slice na (L.length + 1) nc, rfl, ?_, HMV.out⟩
      rw [HN.out]
      unfold noteL
      rw [if_pos HC.out]
      exact HNT'.out
    · refine op_plain (some 27) (.buildSlice 22 1 #[(0, .tmp 26)]) 22 (by kernel_rfl) (by kernel_rfl) ?_
      go_wp2
      have hst : Stay (fun _ => False) W2 (W2.alloc (.cells #[.int .i64 x, .int .i64 y, .int .i32 c.r, .int .i64 c.fg, .int .i64 c.bg, .int .i64 c.fl] 36)) := (Stay.refl _ _).alloc _
      have HFA' := hide' (HFA.out.keep hst)
      have HBC' := hide' (HBC.out.keep hst)
      have HST' := hide' (HST.out.trans (stay_any hst))
      have HSRC : Hid (∀ ad, (some ⟨W2.heap.size, 0, none⟩ : Option Addr) = some ad → ∀ j u, (Wr.of x y c).parts[j]? = some u → (W2.alloc (.cells #[.int .i64 x, .int .i64 y, .int .i32 c.r, .int .i64 c.fg, .int .i64 c.bg, .int .i64 c.fl] 36)).cell? (ad.add j) = some u) := by
        have hN := isRowS_new W2 #[.int .i64 x, .int .i64 y, .int .i32 c.r, .int .i64 c.fg, .int .i64 c.bg, .int .i64 c.fl] 36 6 1 rfl
        rintro ad e j u hu
        rcases hN with ⟨h, _⟩ | ⟨ad', cc, h, _, h3⟩
        · cases h
        · cases h
          cases e
          exact h3 j u hu
      clear hst
      clear HFA
      have HFA := HFA'
      clear HFA'
      clear HBC
      have HBC := HBC'
      clear HBC'
      clear HST
      have HST := HST'
      clear HST'
      obtain ⟨B6, hB⟩ : ∃ B, B = W2.heap.size := ⟨_, rfl⟩
      rw [← hB] at HSRC
      rw [← hB]
      clear hB
      obtain ⟨Wk5, hW⟩ : ∃ Wq, Wq = (W2.alloc (.cells #[.int .i64 x, .int .i64 y, .int .i32 c.r, .int .i64 c.fg, .int .i64 c.bg, .int .i64 c.fl] 36)) := ⟨_, rfl⟩
      rw [← hW] at HFA HBC HST HSRC
      rw [← hW]
      clear hW
      refine hK9 9 (by simp) _ _ HBC.out (any_more fun K10 hK10 => ?_)
      clear hK9 K9
      refine any_pick (rs := [4]) hK10 (by kernel_rfl) (fun K11 hK11 => ?_)
      clear hK10 K10
      intro i hi
      simp only [List.mem_cons, List.not_mem_nil, or_false] at hi
      rcases hi with rfl
      refine op_plain (some 22) (.load 22 (.tmp 21)) 22 (by kernel_rfl) (by kernel_rfl) ?_
      obtain ⟨g0, g1, k0, k1⟩ := HFA.out.box
      simp only at g0 g1
      go_wp2
      clear g0 g1 k0 k1
      refine hK11 4 (by simp) _ _ HBC.out (any_more fun K12 hK12 => ?_)
      clear hK11 K11
      refine any_pick (rs := [10]) hK12 (by kernel_rfl) (fun K13 hK13 => ?_)
      clear hK12 K12
      intro i hi
      simp only [List.mem_cons, List.not_mem_nil, or_false] at hi
      rcases hi with rfl
      refine op_plain (some 28) (.call { callee := Callee.builtin Builtin.append, args := #[.tmp 22, .tmp 27], argTypes := #[22, 22] }) 22 (by kernel_rfl) (by kernel_rfl) ?_
      refine wpList_append_win rfl _ _ 22 rfl Try.underlying22 info36 rfl (by decide) (by decide) HFA.out.row rfl HNL.out HSRC.out (fun e => by cases e) HONE.out HNM.out rfl ?_
      intro vn Wk7 hwa hsa hba
      obtain ⟨na, nc, hvn, _, _⟩ := hwa.shape
      subst hvn
      refine wpList_nil ?_
      have HNT := hide' (HFA.out.note (Wr.of x y c) hwa hsa hba)
      have HBX := hide' (HFA.out.box.stay hsa (fun e => (HFA.out.vb _ e).1 rfl))
      have HBC' := hide' (HBC.out.stay hsa (fun e => HBF.out (.inr (.inr e))))
      clear hwa hsa hba HSRC
      clear HBC
      have HBC := HBC'
      clear HBC'
      have HMV := hide' (HNT.out.2.after HST.out)
      clear HST
      refine hK13 10 (by simp) _ _ HBC.out (any_more fun K14 hK14 => ?_)
      clear hK13 K13
      refine any_take (i := 11) hK14 (some 29) (.nilCheck (.tmp 18)) 0 _ (by kernel_rfl) (fun _ d _ _ _ h => by cases d <;> exact h) (by kernel_rfl) (by kernel_rfl) (fun w' hS' => by simp only [opr]; go_simp; try with_reducible rfl) HBC.out (fun K15 hK15 => ?_)
      clear hK14 K14
      try simp only [Act.put, List.setIfInBounds_toArray, List.set_cons_zero, List.set_cons_succ]
      refine any_take (i := 12) hK15 (some 30) (.fieldAddr 51 (.tmp 29) 1) 0 _ (by kernel_rfl) (fun _ d _ _ _ h => by cases d <;> exact h) (by kernel_rfl) (by kernel_rfl) (fun w' hS' => by simp only [opr]; go_simp; try with_reducible rfl) HBC.out (fun K16 hK16 => ?_)
      clear hK15 K15
      try simp only [Act.put, List.setIfInBounds_toArray, List.set_cons_zero, List.set_cons_succ]
      refine any_pick (rs := [13]) hK16 (by kernel_rfl) (fun K17 hK17 => ?_)
      clear hK16 K16
      intro i hi
      simp only [List.mem_cons, List.not_mem_nil, or_false] at hi
      rcases hi with rfl
      refine op_plain none (.store 22 (.tmp 30) (.tmp 28)) 0 (by kernel_rfl) (by kernel_rfl) ?_
      obtain ⟨g0, g1, k0, k1⟩ := HBX.out
      simp only at g0 g1
      go_wp2
      clear g0 g1 k0 k1
      have HNT' := hide' HNT.out.1
      have HBC' := hide' (HBC.out.stay ((Stay.refl (fun j => j = q.b) Wk7).setCell (p := ⟨q.b, 1, none⟩) rfl (.slice na (L.length + 1) nc)) (fun e => HBF.out (.inl e)))
      clear HNT HBX
      clear HBC
      have HBC := HBC'
      clear HBC'
      obtain ⟨Wk8, hW⟩ : ∃ Wq, Wq = (Wk7.setCell ⟨q.b, 1, none⟩ (.slice na (L.length + 1) nc)) := ⟨_, rfl⟩
      rw [← hW] at HNT' HBC HMV
      rw [← hW]
      clear hW
      refine hK17 13 (by simp) _ _ HBC.out (any_more fun K18 hK18 => ?_)
      clear hK17 K17
      refine any_done hK18 (by kernel_rfl) ?_
      clear hK18 K18
      go_wp2
      go_ret
      refine ⟨.slice na (L.length + 1) nc, rfl, ?_, HMV.out⟩
      rw [HN.out]
      unfold noteL
      rw [if_pos HC.out]
      exact HNT'.out

end Go.Proofs.Ytcealbdinbfegaa
