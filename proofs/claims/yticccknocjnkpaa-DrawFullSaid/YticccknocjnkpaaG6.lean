/-
  Frames in memory. No conditions.
  A cell is put and noted, the notes are taken: walked. No conditions.
  A frame's calls, walked. No conditions.
  A frame within a call. No conditions.
-/
import Derived.Test.YticccknocjnkpaaG1
import Derived.Test.YticccknocjnkpaaE4
namespace Go.Proofs.Yticccknocjnkpaa
open Go.RowKit

/-- Where a frame lies: its block, its grid, its notes. -/
structure Fm where
  b : Nat
  G : Gr
  v : Value

/-- With other notes. -/
def Fm.with (q : Fm) (v : Value) : Fm := ⟨q.b, q.G, v⟩

/-- The blocks that are a frame's. -/
def Fm.own (q : Fm) (j : Nat) : Prop := j = q.b ∨ (j = q.G.g ∨ j = q.G.br ∨ j = q.G.bc) ∨ q.v.ownBlock = some j

/-- A frame that lies in memory: its cells, and what is noted. -/
structure FAt (W : World) (q : Fm) (f : Nat → Cl) (L : List Wr) : Prop where
  grid : GridAt W q.G f
  box : FBox W q.b ⟨.pointer (some ⟨q.G.g, 0, none⟩), q.v⟩
  row : Win W 6 q.v L.length (wrs L)
  off : q.G.off q.b
  vb : ∀ j, q.v.ownBlock = some j → j ≠ q.b ∧ q.G.off j
  vn : L = [] → q.v = .slice none 0 0

variable {w W W1 wa : World} {q q2 : Fm} {f g : Nat → Cl} {L M : List Wr} {v : Value}

theorem FAt.lt (h : FAt W q f L) : ∀ j, q.own j → j < W.heap.size := by
  intro j hj
  have hg := h.grid.lt
  rcases hj with rfl | (rfl | rfl | rfl) | hj
  · exact h.box.lt
  · exact hg.1
  · exact hg.2.1
  · exact hg.2.2
  · exact h.row.lt j hj

theorem FAt.stay {T : Nat → Prop} (h : FAt W q f L) (hs : Stay T W W1) (hn : ∀ j, q.own j → ¬ T j) : FAt W1 q f L :=
  ⟨h.grid.stay hs (hn _ (.inr (.inl (.inl rfl)))) (hn _ (.inr (.inl (.inr (.inl rfl))))) (hn _ (.inr (.inl (.inr (.inr rfl))))), h.box.stay hs (hn _ (.inl rfl)), h.row.stay hs (fun j hj => hn j (.inr (.inr hj))), h.off, h.vb, h.vn⟩

theorem FAt.keep (h : FAt W q f L) (hs : Stay (fun _ => False) W W1) : FAt W1 q f L := h.stay hs (fun _ _ h => h)

theorem FAt.fresh (h : FAt W q f L) {j : Nat} (hj : W.heap.size ≤ j) : ¬ q.own j := fun h2 => by have := h.lt j h2; omega

theorem FAt.congr (h : FAt W q f L) (e : ∀ i, i < q.G.w * q.G.h → f i = g i) : FAt W q g L := ⟨h.grid.congr e, h.box, h.row, h.off, h.vb, h.vn⟩

/-- The grid's cells have turned. -/
theorem FAt.turn (h : FAt W q f L) (hs : Stay (fun k => k = q.G.bc) W W1) (hg : GridAt W1 q.G g) : FAt W1 q g L :=
  ⟨hg, h.box.stay hs (fun e => h.off.2.2 e.symm), h.row.stay hs (fun j hj e => (h.vb j hj).2.2.2 e.symm), h.off, h.vb, h.vn⟩

/-- What turned is the frame's; what is new of it is new. -/
def Moved (q q' : Fm) (w w' : World) : Prop := Stay q.own w w' ∧ ∀ j, q'.own j → q.own j ∨ w.heap.size ≤ j

theorem Moved.after (h : Moved q q2 W W1) (hs : Stay q.own w W) : Moved q q2 w W1 := ⟨hs.trans h.1, fun j hj => by
  rcases h.2 j hj with h1 | h1
  · exact .inl h1
  · exact .inr (Nat.le_trans hs.size h1)⟩

theorem Moved.turn (hs : Stay q.own w W) : Moved q q w W := ⟨hs, fun _ h => .inl h⟩

/-- One more write is noted. -/
theorem FAt.note (h : FAt W q f L) (p : Wr) (hw : Win wa 6 v (L.length + 1) (wrs L ++ p.parts)) (hs : Stay (fun j => q.v.ownBlock = some j) W wa) (hb : v.ownBlock = q.v.ownBlock ∨ v.ownBlock = some W.heap.size) :
    FAt (wa.setCell ⟨q.b, 1, none⟩ v) (q.with v) f (L ++ [p]) ∧ Moved q (q.with v) W (wa.setCell ⟨q.b, 1, none⟩ v) := by
  have hst : Stay (fun j => j = q.b) wa (wa.setCell ⟨q.b, 1, none⟩ v) := (Stay.refl (fun j => j = q.b) wa).setCell (p := ⟨q.b, 1, none⟩) rfl _
  have hv : ∀ j, v.ownBlock = some j → q.v.ownBlock = some j ∨ W.heap.size = j := fun j hj => by
    rcases hb with h1 | h1
    · exact .inl (by rw [← h1]; exact hj)
    · rw [hj] at h1
      cases h1
      exact .inr rfl
  have hvb : ∀ j, v.ownBlock = some j → j ≠ q.b ∧ q.G.off j := fun j hj => by
    rcases hv j hj with h1 | h1
    · exact h.vb j h1
    · have hg := h.grid.lt
      have hbl := h.box.lt
      exact ⟨by omega, by unfold Gr.off; omega⟩
  have hg : GridAt wa q.G f := h.grid.stay hs (fun e => (h.vb _ e).2.1 rfl) (fun e => (h.vb _ e).2.2.1 rfl) (fun e => (h.vb _ e).2.2.2 rfl)
  have hbx : FBox wa q.b ⟨.pointer (some ⟨q.G.g, 0, none⟩), q.v⟩ := h.box.stay hs (fun e => (h.vb _ e).1 rfl)
  refine ⟨⟨hg.apart hst h.off, hbx.put1 rfl, ?_, h.off, hvb, fun e => absurd e (by simp)⟩, ?_, fun j hj => ?_⟩
  · show Win _ 6 v (L ++ [p]).length (wrs (L ++ [p]))
    rw [wrs_append, wrs_one, List.length_append]
    exact hw.stay hst (fun j hj => (hvb j hj).1)
  · exact (hs.mono (fun j _ e => Or.inr (Or.inr e))).trans (hst.mono (fun j _ e => Or.inl e))
  · rcases hj with hj | hj | hj
    · exact .inl (.inl hj)
    · exact .inl (.inr (.inl hj))
    · rcases hv j hj with h1 | h1
      · exact .inl (.inr (.inr h1))
      · exact .inr (by omega)

/-- The notes are taken. -/
theorem FAt.took (h : FAt W q f L) : FAt (W.setCell ⟨q.b, 1, none⟩ (.slice none 0 0)) (q.with (.slice none 0 0)) f [] ∧ Win (W.setCell ⟨q.b, 1, none⟩ (.slice none 0 0)) 6 q.v L.length (wrs L) ∧ Stay (fun j => j = q.b) W (W.setCell ⟨q.b, 1, none⟩ (.slice none 0 0)) := by
  have hst : Stay (fun j => j = q.b) W (W.setCell ⟨q.b, 1, none⟩ (.slice none 0 0)) := (Stay.refl (fun j => j = q.b) W).setCell (p := ⟨q.b, 1, none⟩) rfl _
  exact ⟨⟨h.grid.apart hst h.off, h.box.put1 rfl, Win.nil _ _, h.off, (fun j hj => by cases hj), fun _ => rfl⟩, h.row.stay hst (fun j hj => (h.vb j hj).1), hst⟩

end Go.Proofs.Yticccknocjnkpaa

namespace Go.Proofs.Yticccknocjnkpaa
open Go.RowKit

/-- The notes behind a write. -/
def noteL (a b : Nat) (x y : Int) (c : Cl) (L : List Wr) : List Wr := if insB a b x y = true then L ++ [Wr.of x y c] else L

/-- What a frame is behind a write. -/
def PutG (ok : Bool) (q : Fm) (f : Nat → Cl) (L : List Wr) (w : World) (e : Ending) (w' : World) : Prop := ∃ v, e = .returned (.bool ok) ∧ FAt w' (q.with v) f L ∧ Moved q (q.with v) w w'

set_option maxHeartbeats 4000000 in
theorem put68 (q : Fm) (f : Nat → Cl) (L : List Wr) (x y : Int) (c : Cl) (w : World) (hq : FAt w q f L) (hx : I64 x) (hy : I64 y) (hl : L.length ≤ 900000) : Calls Try.prog 68 #[.pointer (some ⟨q.b, 0, none⟩), .int .i64 x, .int .i64 y, .agg #[.int .i32 c.r, .int .i64 c.fg, .int .i64 c.bg, .int .i64 c.fl]] w (PutG (insB q.G.w q.G.h x y) q (setF q.G.w q.G.h f x y c) (noteL q.G.w q.G.h x y c L) w) := by
  obtain ⟨w0, hw0⟩ : ∃ W, W = (w.alloc (.cells #[.int .i32 c.r, .int .i64 c.fg, .int .i64 c.bg, .int .i64 c.fl] 53)) := ⟨_, rfl⟩
  obtain ⟨bb, hbb⟩ : ∃ b, b = w.heap.size := ⟨_, rfl⟩
  have hs0 : Stay (fun _ => False) w w0 := by rw [hw0]; exact (Stay.refl _ _).alloc _
  have HS0 := hide' hs0
  have HD0 := hide' (hq.keep hs0)
  have HD := hide' ((hq.keep hs0).keep (Stay.refl _ _).drew)
  have HBC0 : Hid (BoxC w0 bb c) := by rw [hw0]; exact BoxC.new c hbb.symm
  have HBF : Hid (¬ q.own bb) := hq.fresh (by omega)
  have HO : Hid (¬ q.b = q.G.bc ∧ ¬ bb = q.G.bc) := ⟨fun e => hq.off.2.2 e.symm, fun e => HBF.out (.inr (.inl (.inr (.inr e))))⟩
  have HST : Hid (∀ W, FAt W q f L → Calls Try.prog 84 #[.pointer (some ⟨q.G.g, 0, none⟩), .int .i64 x, .int .i64 y, .agg #[.int .i32 c.r, .int .i64 c.fg, .int .i64 c.bg, .int .i64 c.fl]] W (Turns (.bool (insB q.G.w q.G.h x y)) q.G (setF q.G.w q.G.h f x y c) W)) := fun W h => set84 q.G f x y c W h.grid hx hy
  have HNL : Hid ((Wr.of x y c).parts.length = 1 * 6) := rfl
  have HONE : Hid (∀ u ∈ (Wr.of x y c).parts, u.oneCell' = true) := by
    intro u hu
    exact wrs_cells [Wr.of x y c] u (by rw [wrs_one]; exact hu)
  have HNM : Hid (L.length + 1 ≤ 1000000) := by show L.length + 1 ≤ 1000000; omega
  have hS : (fun w' => Stay (fun j => j = q.G.bc) w0 w' ∧ FBox w' q.b ⟨.pointer (some ⟨q.G.g, 0, none⟩), q.v⟩ ∧ BoxC w' bb c) w0.drew := ⟨(Stay.refl _ _).drew, HD.out.box, HBC0.out.keep (Stay.refl _ _).drew⟩
  obtain ⟨cn, hc⟩ : ∃ k, k = insB q.G.w q.G.h x y := ⟨_, rfl⟩
  rw [← hc] at HST
  rw [← hc]
  have HC := hide' hc.symm
  obtain ⟨N, hN⟩ : ∃ N, N = noteL q.G.w q.G.h x y c L := ⟨_, rfl⟩
  rw [← hN]
  have HN := hide' hN
  obtain ⟨F, hF⟩ : ∃ F, F = setF q.G.w q.G.h f x y c := ⟨_, rfl⟩
  rw [← hF] at HST
  rw [← hF]
  have HFF := hide' hF
  have HPT : Hid (q.G.g = q.G.g) := rfl
  clear hs0 hq hx hy hl hc hF hN HBC0
  go_enter Try.func68, Try.ntmps68
  go_upto_region 1 with fail
  rw [← hw0, ← hbb]
  clear hw0 hbb
  cases cn
  · refine wp_region_mix (fun w' => Stay (fun j => j = q.G.bc) w0 w' ∧ FBox w' q.b ⟨.pointer (some ⟨q.G.g, 0, none⟩), q.v⟩ ∧ BoxC w' bb c) [(0, true), (1, true), (2, true), (3, true), (4, true), (5, true), (6, true), (7, false), (8, true)] (by kernel_rfl) (by kernel_rfl) (fun _ d _ _ _ h => by cases d <;> exact h) hS ?_
    refine mix_begin (fun K0 hK0 => ?_)
    refine mix_take hK0 (some 9) (.move (.tmp 0)) 116 _ (by kernel_rfl) (by kernel_rfl) (fun w' hS' => by (obtain ⟨_, s1, s2⟩ := hS'; obtain ⟨g0, g1, _, _⟩ := s1; obtain ⟨b0, b1, b2, b3, _⟩ := s2; simp only at g0 g1; simp only [opr]; go_simp; try with_reducible rfl)) (fun K1 hK1 => ?_)
    clear hK0 K0
    simp only [Act.put, List.setIfInBounds_toArray, List.set_cons_zero, List.set_cons_succ]
    refine mix_take hK1 (some 10) (.nilCheck (.tmp 9)) 0 _ (by kernel_rfl) (by kernel_rfl) (fun w' hS' => by (obtain ⟨_, s1, s2⟩ := hS'; obtain ⟨g0, g1, _, _⟩ := s1; obtain ⟨b0, b1, b2, b3, _⟩ := s2; simp only at g0 g1; simp only [opr]; go_simp; try with_reducible rfl)) (fun K2 hK2 => ?_)
    clear hK1 K1
    simp only [Act.put, List.setIfInBounds_toArray, List.set_cons_zero, List.set_cons_succ]
    refine mix_take hK2 (some 11) (.fieldAddr 67 (.tmp 10) 0) 0 _ (by kernel_rfl) (by kernel_rfl) (fun w' hS' => by (obtain ⟨_, s1, s2⟩ := hS'; obtain ⟨g0, g1, _, _⟩ := s1; obtain ⟨b0, b1, b2, b3, _⟩ := s2; simp only at g0 g1; simp only [opr]; go_simp; try with_reducible rfl)) (fun K3 hK3 => ?_)
    clear hK2 K2
    simp only [Act.put, List.setIfInBounds_toArray, List.set_cons_zero, List.set_cons_succ]
    refine mix_take hK3 (some 12) (.load 47 (.tmp 11)) 47 _ (by kernel_rfl) (by kernel_rfl) (fun w' hS' => by (obtain ⟨_, s1, s2⟩ := hS'; obtain ⟨g0, g1, _, _⟩ := s1; obtain ⟨b0, b1, b2, b3, _⟩ := s2; simp only at g0 g1; simp only [opr]; go_simp; try with_reducible rfl)) (fun K4 hK4 => ?_)
    clear hK3 K3
    simp only [Act.put, List.setIfInBounds_toArray, List.set_cons_zero, List.set_cons_succ]
    refine mix_take hK4 (some 13) (.move (.tmp 1)) 3 _ (by kernel_rfl) (by kernel_rfl) (fun w' hS' => by (obtain ⟨_, s1, s2⟩ := hS'; obtain ⟨g0, g1, _, _⟩ := s1; obtain ⟨b0, b1, b2, b3, _⟩ := s2; simp only at g0 g1; simp only [opr]; go_simp; try with_reducible rfl)) (fun K5 hK5 => ?_)
    clear hK4 K4
    simp only [Act.put, List.setIfInBounds_toArray, List.set_cons_zero, List.set_cons_succ]
    refine mix_take hK5 (some 14) (.move (.tmp 2)) 3 _ (by kernel_rfl) (by kernel_rfl) (fun w' hS' => by (obtain ⟨_, s1, s2⟩ := hS'; obtain ⟨g0, g1, _, _⟩ := s1; obtain ⟨b0, b1, b2, b3, _⟩ := s2; simp only at g0 g1; simp only [opr]; go_simp; try with_reducible rfl)) (fun K6 hK6 => ?_)
    clear hK5 K5
    simp only [Act.put, List.setIfInBounds_toArray, List.set_cons_zero, List.set_cons_succ]
    refine mix_take hK6 (some 15) (.load 53 (.tmp 7)) 53 _ (by kernel_rfl) (by kernel_rfl) (fun w' hS' => by (obtain ⟨_, s1, s2⟩ := hS'; obtain ⟨g0, g1, _, _⟩ := s1; obtain ⟨b0, b1, b2, b3, _⟩ := s2; simp only at g0 g1; simp only [opr]; go_simp; try with_reducible rfl)) (fun K7 hK7 => ?_)
    clear hK6 K6
    simp only [Act.put, List.setIfInBounds_toArray, List.set_cons_zero, List.set_cons_succ]
    refine mix_call hK7 (some 16) 84 #[.tmp 12, .tmp 13, .tmp 14, .tmp 15] #[47, 3, 3, 53] 4 _ (by kernel_rfl) (by kernel_rfl) (enters Try.func84 (by kernel_rfl) (by kernel_rfl)) (by go_simp; try with_reducible rfl) (fun K8 hK8 => ?_)
    clear hK7 K7
    refine ((HST.out _ HD.out)).mono ?_
    rintro e wm1 ⟨rfl, hs1, hg1⟩
    have hS1 : _ := (show (fun w' => Stay (fun j => j = q.G.bc) w0 w' ∧ FBox w' q.b ⟨.pointer (some ⟨q.G.g, 0, none⟩), q.v⟩ ∧ BoxC w' bb c) wm1 from ⟨hS.1.trans hs1, hS.2.1.stay hs1 (fun e => HO.out.1 e), hS.2.2.stay hs1 (fun e => HO.out.2 e)⟩)
    refine ⟨_, rfl, hS1, ?_⟩
    have HG1 := hide' hg1
    clear hg1
    clear hs1
    simp only [Act.put, List.setIfInBounds_toArray, List.set_cons_zero, List.set_cons_succ]
    refine mix_take hK8 (some 17) (.unOp UnOp.not 4 (.tmp 16)) 4 _ (by kernel_rfl) (by kernel_rfl) (fun w' hS' => by (obtain ⟨_, s1, s2⟩ := hS'; obtain ⟨g0, g1, _, _⟩ := s1; obtain ⟨b0, b1, b2, b3, _⟩ := s2; simp only at g0 g1; simp only [opr]; go_simp; try with_reducible rfl)) (fun K9 hK9 => ?_)
    clear hK8 K8
    simp only [Act.put, List.setIfInBounds_toArray, List.set_cons_zero, List.set_cons_succ]
    refine hK9 _ _ (mix_nil ?_)
    clear hK9 K9
    have HT := hide' hS1.1
    have HFX : Hid (FAt wm1 q F L) := HD0.out.turn HT.out HG1.out
    clear hS hS1
    go_wp2
    go_ret
    refine ⟨q.v, rfl, ?_, ?_⟩
    · rw [HN.out]
      unfold noteL
      rw [if_neg (by rw [HC.out]; decide)]
      exact HFX.out
    · exact Moved.turn (stay_any HS0.out |>.trans (HT.out.mono (fun j _ e => .inr (.inl (.inr (.inr e))))))
  · refine wp_region_mix (fun w' => Stay (fun j => j = q.G.bc) w0 w' ∧ FBox w' q.b ⟨.pointer (some ⟨q.G.g, 0, none⟩), q.v⟩ ∧ BoxC w' bb c) [(0, true), (1, true), (2, true), (3, true), (4, true), (5, true), (6, true), (7, false), (8, true)] (by kernel_rfl) (by kernel_rfl) (fun _ d _ _ _ h => by cases d <;> exact h) hS ?_
    refine mix_begin (fun K0 hK0 => ?_)
    refine mix_take hK0 (some 9) (.move (.tmp 0)) 116 _ (by kernel_rfl) (by kernel_rfl) (fun w' hS' => by (obtain ⟨_, s1, s2⟩ := hS'; obtain ⟨g0, g1, _, _⟩ := s1; obtain ⟨b0, b1, b2, b3, _⟩ := s2; simp only at g0 g1; simp only [opr]; go_simp; try with_reducible rfl)) (fun K1 hK1 => ?_)
    clear hK0 K0
    simp only [Act.put, List.setIfInBounds_toArray, List.set_cons_zero, List.set_cons_succ]
    refine mix_take hK1 (some 10) (.nilCheck (.tmp 9)) 0 _ (by kernel_rfl) (by kernel_rfl) (fun w' hS' => by (obtain ⟨_, s1, s2⟩ := hS'; obtain ⟨g0, g1, _, _⟩ := s1; obtain ⟨b0, b1, b2, b3, _⟩ := s2; simp only at g0 g1; simp only [opr]; go_simp; try with_reducible rfl)) (fun K2 hK2 => ?_)
    clear hK1 K1
    simp only [Act.put, List.setIfInBounds_toArray, List.set_cons_zero, List.set_cons_succ]
    refine mix_take hK2 (some 11) (.fieldAddr 67 (.tmp 10) 0) 0 _ (by kernel_rfl) (by kernel_rfl) (fun w' hS' => by (obtain ⟨_, s1, s2⟩ := hS'; obtain ⟨g0, g1, _, _⟩ := s1; obtain ⟨b0, b1, b2, b3, _⟩ := s2; simp only at g0 g1; simp only [opr]; go_simp; try with_reducible rfl)) (fun K3 hK3 => ?_)
    clear hK2 K2
    simp only [Act.put, List.setIfInBounds_toArray, List.set_cons_zero, List.set_cons_succ]
    refine mix_take hK3 (some 12) (.load 47 (.tmp 11)) 47 _ (by kernel_rfl) (by kernel_rfl) (fun w' hS' => by (obtain ⟨_, s1, s2⟩ := hS'; obtain ⟨g0, g1, _, _⟩ := s1; obtain ⟨b0, b1, b2, b3, _⟩ := s2; simp only at g0 g1; simp only [opr]; go_simp; try with_reducible rfl)) (fun K4 hK4 => ?_)
    clear hK3 K3
    simp only [Act.put, List.setIfInBounds_toArray, List.set_cons_zero, List.set_cons_succ]
    refine mix_take hK4 (some 13) (.move (.tmp 1)) 3 _ (by kernel_rfl) (by kernel_rfl) (fun w' hS' => by (obtain ⟨_, s1, s2⟩ := hS'; obtain ⟨g0, g1, _, _⟩ := s1; obtain ⟨b0, b1, b2, b3, _⟩ := s2; simp only at g0 g1; simp only [opr]; go_simp; try with_reducible rfl)) (fun K5 hK5 => ?_)
    clear hK4 K4
    simp only [Act.put, List.setIfInBounds_toArray, List.set_cons_zero, List.set_cons_succ]
    refine mix_take hK5 (some 14) (.move (.tmp 2)) 3 _ (by kernel_rfl) (by kernel_rfl) (fun w' hS' => by (obtain ⟨_, s1, s2⟩ := hS'; obtain ⟨g0, g1, _, _⟩ := s1; obtain ⟨b0, b1, b2, b3, _⟩ := s2; simp only at g0 g1; simp only [opr]; go_simp; try with_reducible rfl)) (fun K6 hK6 => ?_)
    clear hK5 K5
    simp only [Act.put, List.setIfInBounds_toArray, List.set_cons_zero, List.set_cons_succ]
    refine mix_take hK6 (some 15) (.load 53 (.tmp 7)) 53 _ (by kernel_rfl) (by kernel_rfl) (fun w' hS' => by (obtain ⟨_, s1, s2⟩ := hS'; obtain ⟨g0, g1, _, _⟩ := s1; obtain ⟨b0, b1, b2, b3, _⟩ := s2; simp only at g0 g1; simp only [opr]; go_simp; try with_reducible rfl)) (fun K7 hK7 => ?_)
    clear hK6 K6
    simp only [Act.put, List.setIfInBounds_toArray, List.set_cons_zero, List.set_cons_succ]
    refine mix_call hK7 (some 16) 84 #[.tmp 12, .tmp 13, .tmp 14, .tmp 15] #[47, 3, 3, 53] 4 _ (by kernel_rfl) (by kernel_rfl) (enters Try.func84 (by kernel_rfl) (by kernel_rfl)) (by go_simp; try with_reducible rfl) (fun K8 hK8 => ?_)
    clear hK7 K7
    refine ((HST.out _ HD.out)).mono ?_
    rintro e wm1 ⟨rfl, hs1, hg1⟩
    have hS1 : _ := (show (fun w' => Stay (fun j => j = q.G.bc) w0 w' ∧ FBox w' q.b ⟨.pointer (some ⟨q.G.g, 0, none⟩), q.v⟩ ∧ BoxC w' bb c) wm1 from ⟨hS.1.trans hs1, hS.2.1.stay hs1 (fun e => HO.out.1 e), hS.2.2.stay hs1 (fun e => HO.out.2 e)⟩)
    refine ⟨_, rfl, hS1, ?_⟩
    have HG1 := hide' hg1
    clear hg1
    clear hs1
    simp only [Act.put, List.setIfInBounds_toArray, List.set_cons_zero, List.set_cons_succ]
    refine mix_take hK8 (some 17) (.unOp UnOp.not 4 (.tmp 16)) 4 _ (by kernel_rfl) (by kernel_rfl) (fun w' hS' => by (obtain ⟨_, s1, s2⟩ := hS'; obtain ⟨g0, g1, _, _⟩ := s1; obtain ⟨b0, b1, b2, b3, _⟩ := s2; simp only at g0 g1; simp only [opr]; go_simp; try with_reducible rfl)) (fun K9 hK9 => ?_)
    clear hK8 K8
    simp only [Act.put, List.setIfInBounds_toArray, List.set_cons_zero, List.set_cons_succ]
    refine hK9 _ _ (mix_nil ?_)
    clear hK9 K9
    have HT : Hid (Stay q.own w wm1) := (stay_any HS0.out).trans (hS1.1.mono (fun j _ e => .inr (.inl (.inr (.inr e)))))
    have HBC1 := hide' hS1.2.2
    have HFA1 : Hid (FAt wm1 q F L) := HD0.out.turn hS1.1 HG1.out
    clear hS hS1 HG1 HD HD0 HS0 HO
    go_upto_region 3 with fail
    refine any_begin (fun w' => BoxC w' bb c) (by kernel_rfl) (fun K0 hK0 => ?_)
    obtain ⟨W2, hW2⟩ : ∃ W, W = wm1.drew := ⟨_, rfl⟩
    have hst : Stay (fun _ => False) wm1 W2 := by rw [hW2]; exact (Stay.refl _ _).drew
    have HFA := hide' (HFA1.out.keep hst)
    have HBC := hide' (HBC1.out.keep hst)
    have HST2 := hide' (HT.out.trans (stay_any hst))
    rw [← hW2]
    clear hW2 hst HFA1 HBC1 HT HST
    have HST := HST2
    clear HST2
    refine any_take (i := 0) hK0 (some 18) (.move (.tmp 0)) 116 _ (by kernel_rfl) (fun _ d _ _ _ h => by cases d <;> exact h) (by kernel_rfl) (by kernel_rfl) (fun w' hS' => by simp only [opr]; go_simp; try with_reducible rfl) HBC.out (fun K1 hK1 => ?_)
    clear hK0 K0
    try simp only [Act.put, List.setIfInBounds_toArray, List.set_cons_zero, List.set_cons_succ]
    refine any_take (i := 1) hK1 (some 19) (.move (.tmp 0)) 116 _ (by kernel_rfl) (fun _ d _ _ _ h => by cases d <;> exact h) (by kernel_rfl) (by kernel_rfl) (fun w' hS' => by simp only [opr]; go_simp; try with_reducible rfl) HBC.out (fun K2 hK2 => ?_)
    clear hK1 K1
    try simp only [Act.put, List.setIfInBounds_toArray, List.set_cons_zero, List.set_cons_succ]
    refine any_take (i := 2) hK2 (some 20) (.nilCheck (.tmp 19)) 0 _ (by kernel_rfl) (fun _ d _ _ _ h => by cases d <;> exact h) (by kernel_rfl) (by kernel_rfl) (fun w' hS' => by simp only [opr]; go_simp; try with_reducible rfl) HBC.out (fun K3 hK3 => ?_)
    clear hK2 K2
    try simp only [Act.put, List.setIfInBounds_toArray, List.set_cons_zero, List.set_cons_succ]
    refine any_take (i := 3) hK3 (some 21) (.fieldAddr 67 (.tmp 20) 1) 0 _ (by kernel_rfl) (fun _ d _ _ _ h => by cases d <;> exact h) (by kernel_rfl) (by kernel_rfl) (fun w' hS' => by simp only [opr]; go_simp; try with_reducible rfl) HBC.out (fun K4 hK4 => ?_)
    clear hK3 K3
    try simp only [Act.put, List.setIfInBounds_toArray, List.set_cons_zero, List.set_cons_succ]
    refine any_take (i := 5) hK4 (some 23) (.move (.tmp 1)) 3 _ (by kernel_rfl) (fun _ d _ _ _ h => by cases d <;> exact h) (by kernel_rfl) (by kernel_rfl) (fun w' hS' => by simp only [opr]; go_simp; try with_reducible rfl) HBC.out (fun K5 hK5 => ?_)
    clear hK4 K4
    try simp only [Act.put, List.setIfInBounds_toArray, List.set_cons_zero, List.set_cons_succ]
    refine any_take (i := 6) hK5 (some 24) (.move (.tmp 2)) 3 _ (by kernel_rfl) (fun _ d _ _ _ h => by cases d <;> exact h) (by kernel_rfl) (by kernel_rfl) (fun w' hS' => by simp only [opr]; go_simp; try with_reducible rfl) HBC.out (fun K6 hK6 => ?_)
    clear hK5 K5
    try simp only [Act.put, List.setIfInBounds_toArray, List.set_cons_zero, List.set_cons_succ]
    refine any_take (i := 7) hK6 (some 25) (.load 53 (.tmp 7)) 53 _ (by kernel_rfl) (fun _ d _ _ _ h => by cases d <;> exact h) (by kernel_rfl) (by kernel_rfl) (fun w' hS' => by (obtain ⟨b0, b1, b2, b3, _⟩ := hS'; simp only [opr]; go_simp; try with_reducible rfl)) HBC.out (fun K7 hK7 => ?_)
    clear hK6 K6
    try simp only [Act.put, List.setIfInBounds_toArray, List.set_cons_zero, List.set_cons_succ]
    refine any_take (i := 8) hK7 (some 26) (.build 59 #[(0, .tmp 23), (1, .tmp 24), (2, .tmp 25)]) 59 _ (by kernel_rfl) (fun _ d _ _ _ h => by cases d <;> exact h) (by kernel_rfl) (by kernel_rfl) (fun w' hS' => by simp only [opr]; go_simp; try with_reducible rfl) HBC.out (fun K8 hK8 => ?_)
    clear hK7 K7
    try simp only [Act.put, List.setIfInBounds_toArray, List.set_cons_zero, List.set_cons_succ]
    refine any_pick (rs := [4, 9]) hK8 (by kernel_rfl) (fun K9 hK9 => ?_)
    clear hK8 K8
    intro i hi
    simp only [List.mem_cons, List.not_mem_nil, or_false] at hi
    rcases hi with rfl | rfl
    · refine op_plain (some 22) (.load 55 (.tmp 21)) 55 (by kernel_rfl) (by kernel_rfl) ?_
      obtain ⟨g0, g1, k0, k1⟩ := HFA.out.box
      simp only at g0 g1
      go_wp2
      clear g0 g1 k0 k1
      refine hK9 4 (by simp) _ _ HBC.out (any_more fun K10 hK10 => ?_)
      clear hK9 K9
      refine any_pick (rs := [9]) hK10 (by kernel_rfl) (fun K11 hK11 => ?_)
      clear hK10 K10
      intro i hi
      simp only [List.mem_cons, List.not_mem_nil, or_false] at hi
      rcases hi with rfl
      refine op_plain (some 27) (.buildSlice 55 1 #[(0, .tmp 26)]) 55 (by kernel_rfl) (by kernel_rfl) ?_
      go_wp2
      have hst : Stay (fun _ => False) W2 (W2.alloc (.cells #[.int .i64 x, .int .i64 y, .int .i32 c.r, .int .i64 c.fg, .int .i64 c.bg, .int .i64 c.fl] 59)) := (Stay.refl _ _).alloc _
      have HFA' := hide' (HFA.out.keep hst)
      have HBC' := hide' (HBC.out.keep hst)
      have HST' := hide' (HST.out.trans (stay_any hst))
      have HSRC : Hid (∀ ad, (some ⟨W2.heap.size, 0, none⟩ : Option Addr) = some ad → ∀ j u, (Wr.of x y c).parts[j]? = some u → (W2.alloc (.cells #[.int .i64 x, .int .i64 y, .int .i32 c.r, .int .i64 c.fg, .int .i64 c.bg, .int .i64 c.fl] 59)).cell? (ad.add j) = some u) := by
        have hN := isRowS_new W2 #[.int .i64 x, .int .i64 y, .int .i32 c.r, .int .i64 c.fg, .int .i64 c.bg, .int .i64 c.fl] 59 6 1 rfl
        rintro ad e j u hu
        rcases hN with ⟨h, _⟩ | ⟨ad', cc, h, _, h3⟩
        · cases h
        · cases h
          cases e
          exact h3 j u hu
      clear hst
      clear HFA
      have HFA := HFA'
      clear HFA'
      clear HBC
      have HBC := HBC'
      clear HBC'
      clear HST
      have HST := HST'
      clear HST'
      obtain ⟨B2, hB⟩ : ∃ B, B = W2.heap.size := ⟨_, rfl⟩
      rw [← hB] at HSRC
      rw [← hB]
      clear hB
      obtain ⟨Wk1, hW⟩ : ∃ Wq, Wq = (W2.alloc (.cells #[.int .i64 x, .int .i64 y, .int .i32 c.r, .int .i64 c.fg, .int .i64 c.bg, .int .i64 c.fl] 59)) := ⟨_, rfl⟩
      rw [← hW] at HFA HBC HST HSRC
      rw [← hW]
      clear hW
      refine hK11 9 (by simp) _ _ HBC.out (any_more fun K12 hK12 => ?_)
      clear hK11 K11
      refine any_pick (rs := [10]) hK12 (by kernel_rfl) (fun K13 hK13 => ?_)
      clear hK12 K12
      intro i hi
      simp only [List.mem_cons, List.not_mem_nil, or_false] at hi
      rcases hi with rfl
      refine op_plain (some 28) (.call { callee := Callee.builtin Builtin.append, args := #[.tmp 22, .tmp 27], argTypes := #[55, 55] }) 55 (by kernel_rfl) (by kernel_rfl) ?_
      refine wpList_append_win rfl _ _ 55 rfl Try.underlying55 info36 rfl (by decide) (by decide) HFA.out.row rfl HNL.out HSRC.out (fun e => by cases e) HONE.out HNM.out rfl ?_
      intro vn Wk3 hwa hsa hba
      obtain ⟨na, nc, hvn, _, _⟩ := hwa.shape
      subst hvn
      refine wpList_nil ?_
      have HNT := hide' (HFA.out.note (Wr.of x y c) hwa hsa hba)
      have HBX := hide' (HFA.out.box.stay hsa (fun e => (HFA.out.vb _ e).1 rfl))
      have HBC' := hide' (HBC.out.stay hsa (fun e => HBF.out (.inr (.inr e))))
      clear hwa hsa hba HSRC
      clear HBC
      have HBC := HBC'
      clear HBC'
      have HMV := hide' (HNT.out.2.after HST.out)
      clear HST
      refine hK13 10 (by simp) _ _ HBC.out (any_more fun K14 hK14 => ?_)
      clear hK13 K13
      refine any_take (i := 11) hK14 (some 29) (.nilCheck (.tmp 18)) 0 _ (by kernel_rfl) (fun _ d _ _ _ h => by cases d <;> exact h) (by kernel_rfl) (by kernel_rfl) (fun w' hS' => by simp only [opr]; go_simp; try with_reducible rfl) HBC.out (fun K15 hK15 => ?_)
      clear hK14 K14
      try simp only [Act.put, List.setIfInBounds_toArray, List.set_cons_zero, List.set_cons_succ]
      refine any_take (i := 12) hK15 (some 30) (.fieldAddr 67 (.tmp 29) 1) 0 _ (by kernel_rfl) (fun _ d _ _ _ h => by cases d <;> exact h) (by kernel_rfl) (by kernel_rfl) (fun w' hS' => by simp only [opr]; go_simp; try with_reducible rfl) HBC.out (fun K16 hK16 => ?_)
      clear hK15 K15
      try simp only [Act.put, List.setIfInBounds_toArray, List.set_cons_zero, List.set_cons_succ]
      refine any_pick (rs := [13]) hK16 (by kernel_rfl) (fun K17 hK17 => ?_)
      clear hK16 K16
      intro i hi
      simp only [List.mem_cons, List.not_mem_nil, or_false] at hi
      rcases hi with rfl
      refine op_plain none (.store 55 (.tmp 30) (.tmp 28)) 0 (by kernel_rfl) (by kernel_rfl) ?_
      obtain ⟨g0, g1, k0, k1⟩ := HBX.out
      simp only at g0 g1
      go_wp2
      clear g0 g1 k0 k1
      have HNT' := hide' HNT.out.1
      have HBC' := hide' (HBC.out.stay ((Stay.refl (fun j => j = q.b) Wk3).setCell (p := ⟨q.b, 1, none⟩) rfl (.slice na (L.length + 1) nc)) (fun e => HBF.out (.inl e)))
      clear HNT HBX
      clear HBC
      have HBC := HBC'
      clear HBC'
      obtain ⟨Wk4, hW⟩ : ∃ Wq, Wq = (Wk3.setCell ⟨q.b, 1, none⟩ (.slice na (L.length + 1) nc)) := ⟨_, rfl⟩
      rw [← hW] at HNT' HBC HMV
      rw [← hW]
      clear hW
      refine hK17 13 (by simp) _ _ HBC.out (any_more fun K18 hK18 => ?_)
      clear hK17 K17
      refine any_done hK18 (by kernel_rfl) ?_
      clear hK18 K18
      go_wp2
      go_ret
      refine ⟨.slice na (L.length + 1) nc, rfl, ?_, HMV.out⟩
      rw [HN.out]
      unfold noteL
      rw [if_pos HC.out]
      exact HNT'.out
    · refine op_plain (some 27) (.buildSlice 55 1 #[(0, .tmp 26)]) 55 (by kernel_rfl) (by kernel_rfl) ?_
      go_wp2
      have hst : Stay (fun _ => False) W2 (W2.alloc (.cells #[.int .i64 x, .int .i64 y, .int .i32 c.r, .int .i64 c.fg, .int .i64 c.bg, .int .i64 c.fl] 59)) := (Stay.refl _ _).alloc _
      have HFA' := hide' (HFA.out.keep hst)
      have HBC' := hide' (HBC.out.keep hst)
      have HST' := hide' (HST.out.trans (stay_any hst))
      have HSRC : Hid (∀ ad, (some ⟨W2.heap.size, 0, none⟩ : Option Addr) = some ad → ∀ j u, (Wr.of x y c).parts[j]? = some u → (W2.alloc (.cells #[.int .i64 x, .int .i64 y, .int .i32 c.r, .int .i64 c.fg, .int .i64 c.bg, .int .i64 c.fl] 59)).cell? (ad.add j) = some u) := by
        have hN := isRowS_new W2 #[.int .i64 x, .int .i64 y, .int .i32 c.r, .int .i64 c.fg, .int .i64 c.bg, .int .i64 c.fl] 59 6 1 rfl
        rintro ad e j u hu
        rcases hN with ⟨h, _⟩ | ⟨ad', cc, h, _, h3⟩
        · cases h
        · cases h
          cases e
          exact h3 j u hu
      clear hst
      clear HFA
      have HFA := HFA'
      clear HFA'
      clear HBC
      have HBC := HBC'
      clear HBC'
      clear HST
      have HST := HST'
      clear HST'
      obtain ⟨B6, hB⟩ : ∃ B, B = W2.heap.size := ⟨_, rfl⟩
      rw [← hB] at HSRC
      rw [← hB]
      clear hB
      obtain ⟨Wk5, hW⟩ : ∃ Wq, Wq = (W2.alloc (.cells #[.int .i64 x, .int .i64 y, .int .i32 c.r, .int .i64 c.fg, .int .i64 c.bg, .int .i64 c.fl] 59)) := ⟨_, rfl⟩
      rw [← hW] at HFA HBC HST HSRC
      rw [← hW]
      clear hW
      refine hK9 9 (by simp) _ _ HBC.out (any_more fun K10 hK10 => ?_)
      clear hK9 K9
      refine any_pick (rs := [4]) hK10 (by kernel_rfl) (fun K11 hK11 => ?_)
      clear hK10 K10
      intro i hi
      simp only [List.mem_cons, List.not_mem_nil, or_false] at hi
      rcases hi with rfl
      refine op_plain (some 22) (.load 55 (.tmp 21)) 55 (by kernel_rfl) (by kernel_rfl) ?_
      obtain ⟨g0, g1, k0, k1⟩ := HFA.out.box
      simp only at g0 g1
      go_wp2
      clear g0 g1 k0 k1
      refine hK11 4 (by simp) _ _ HBC.out (any_more fun K12 hK12 => ?_)
      clear hK11 K11
      refine any_pick (rs := [10]) hK12 (by kernel_rfl) (fun K13 hK13 => ?_)
      clear hK12 K12
      intro i hi
      simp only [List.mem_cons, List.not_mem_nil, or_false] at hi
      rcases hi with rfl
      refine op_plain (some 28) (.call { callee := Callee.builtin Builtin.append, args := #[.tmp 22, .tmp 27], argTypes := #[55, 55] }) 55 (by kernel_rfl) (by kernel_rfl) ?_
      refine wpList_append_win rfl _ _ 55 rfl Try.underlying55 info36 rfl (by decide) (by decide) HFA.out.row rfl HNL.out HSRC.out (fun e => by cases e) HONE.out HNM.out rfl ?_
      intro vn Wk7 hwa hsa hba
      obtain ⟨na, nc, hvn, _, _⟩ := hwa.shape
      subst hvn
      refine wpList_nil ?_
      have HNT := hide' (HFA.out.note (Wr.of x y c) hwa hsa hba)
      have HBX := hide' (HFA.out.box.stay hsa (fun e => (HFA.out.vb _ e).1 rfl))
      have HBC' := hide' (HBC.out.stay hsa (fun e => HBF.out (.inr (.inr e))))
      clear hwa hsa hba HSRC
      clear HBC
      have HBC := HBC'
      clear HBC'
      have HMV := hide' (HNT.out.2.after HST.out)
      clear HST
      refine hK13 10 (by simp) _ _ HBC.out (any_more fun K14 hK14 => ?_)
      clear hK13 K13
      refine any_take (i := 11) hK14 (some 29) (.nilCheck (.tmp 18)) 0 _ (by kernel_rfl) (fun _ d _ _ _ h => by cases d <;> exact h) (by kernel_rfl) (by kernel_rfl) (fun w' hS' => by simp only [opr]; go_simp; try with_reducible rfl) HBC.out (fun K15 hK15 => ?_)
      clear hK14 K14
      try simp only [Act.put, List.setIfInBounds_toArray, List.set_cons_zero, List.set_cons_succ]
      refine any_take (i := 12) hK15 (some 30) (.fieldAddr 67 (.tmp 29) 1) 0 _ (by kernel_rfl) (fun _ d _ _ _ h => by cases d <;> exact h) (by kernel_rfl) (by kernel_rfl) (fun w' hS' => by simp only [opr]; go_simp; try with_reducible rfl) HBC.out (fun K16 hK16 => ?_)
      clear hK15 K15
      try simp only [Act.put, List.setIfInBounds_toArray, List.set_cons_zero, List.set_cons_succ]
      refine any_pick (rs := [13]) hK16 (by kernel_rfl) (fun K17 hK17 => ?_)
      clear hK16 K16
      intro i hi
      simp only [List.mem_cons, List.not_mem_nil, or_false] at hi
      rcases hi with rfl
      refine op_plain none (.store 55 (.tmp 30) (.tmp 28)) 0 (by kernel_rfl) (by kernel_rfl) ?_
      obtain ⟨g0, g1, k0, k1⟩ := HBX.out
      simp only at g0 g1
      go_wp2
      clear g0 g1 k0 k1
      have HNT' := hide' HNT.out.1
      have HBC' := hide' (HBC.out.stay ((Stay.refl (fun j => j = q.b) Wk7).setCell (p := ⟨q.b, 1, none⟩) rfl (.slice na (L.length + 1) nc)) (fun e => HBF.out (.inl e)))
      clear HNT HBX
      clear HBC
      have HBC := HBC'
      clear HBC'
      obtain ⟨Wk8, hW⟩ : ∃ Wq, Wq = (Wk7.setCell ⟨q.b, 1, none⟩ (.slice na (L.length + 1) nc)) := ⟨_, rfl⟩
      rw [← hW] at HNT' HBC HMV
      rw [← hW]
      clear hW
      refine hK17 13 (by simp) _ _ HBC.out (any_more fun K18 hK18 => ?_)
      clear hK17 K17
      refine any_done hK18 (by kernel_rfl) ?_
      clear hK18 K18
      go_wp2
      go_ret
      refine ⟨.slice na (L.length + 1) nc, rfl, ?_, HMV.out⟩
      rw [HN.out]
      unfold noteL
      rw [if_pos HC.out]
      exact HNT'.out

end Go.Proofs.Yticccknocjnkpaa

namespace Go.Proofs.Yticccknocjnkpaa
open Go.RowKit

/-- What a frame is behind its notes. -/
def TakeG (q : Fm) (f : Nat → Cl) (L : List Wr) (w : World) (e : Ending) (w' : World) : Prop := e = .returned q.v ∧ FAt w' (q.with (.slice none 0 0)) f [] ∧ Win w' 6 q.v L.length (wrs L) ∧ Stay (fun j => j = q.b) w w'

theorem take46 (q : Fm) (f : Nat → Cl) (L : List Wr) (w : World) (hq : FAt w q f L) : Calls Try.prog 46 #[.pointer (some ⟨q.b, 0, none⟩)] w (TakeG q f L w) := by
  have HT := hide' hq.took
  obtain ⟨na, nc, hv, _, _⟩ := hq.row.shape
  have HV := hide' hv
  obtain ⟨g0, g1, k0, k1⟩ := hq.box
  simp only at g0 g1
  rw [hv] at g1
  obtain ⟨n, hn⟩ : ∃ n, n = L.length := ⟨_, rfl⟩
  rw [← hn] at g1
  have HN := hide' hn
  clear hq hv hn
  go_enter Try.func46, Try.ntmps46
  go_wp2
  go_ret
  refine ⟨?_, HT.out⟩
  rw [HV.out, ← HN.out]
  rfl

theorem notes18 (q : Fm) (f : Nat → Cl) (L : List Wr) (w : World) (hq : FAt w q f L) : Calls Try.prog 18 #[.pointer (some ⟨q.b, 0, none⟩)] w (TakeG q f L w) := by
  have HT := hide' (take46 q f L w hq)
  clear hq
  go_enter Try.func18, Try.ntmps18
  go_wp2_with fail
  refine HT.out.mono ?_
  rintro e w1 ⟨rfl, h1, h2, h3⟩
  have H1 := hide' h1
  have H2 := hide' h2
  have H3 := hide' h3
  clear h1 h2 h3
  go_wp2
  go_ret
  exact ⟨rfl, H1.out, H2.out, H3.out⟩

theorem at23 (q : Fm) (f : Nat → Cl) (L : List Wr) (x y : Int) (w : World) (hq : FAt w q f L) (hx : I64 x) (hy : I64 y) : Calls Try.prog 23 #[.pointer (some ⟨q.b, 0, none⟩), .int .i64 x, .int .i64 y] w (Gives (.agg #[.int .i32 (atF q.G.w q.G.h f x y).r, .int .i64 (atF q.G.w q.G.h f x y).fg, .int .i64 (atF q.G.w q.G.h f x y).bg, .int .i64 (atF q.G.w q.G.h f x y).fl]) w) := by
  have hs0 : Stay (fun _ => False) w (w.alloc (.cells #[.int .i32 0, .int .i64 0, .int .i64 0, .int .i64 0] 53)) := (Stay.refl _ _).alloc _
  have HS := hide' hs0
  have HA := hide' (at51 q.G f x y (w.alloc (.cells #[.int .i32 0, .int .i64 0, .int .i64 0, .int .i64 0] 53)) (hq.grid.keep hs0) hx hy)
  have hq := hq.keep hs0
  obtain ⟨p, hp⟩ : ∃ p, p = atF q.G.w q.G.h f x y := ⟨_, rfl⟩
  rw [← hp] at HA
  rw [← hp]
  obtain ⟨g0, g1, k0, k1⟩ := hq.box
  simp only at g0 g1
  clear hs0 hq hx hy hp
  go_enter Try.func23, Try.ntmps23
  go_wp2_with fail
  refine HA.out.mono ?_
  rintro e w1 ⟨rfl, hs⟩
  have HS1 := hide' (HS.out.trans hs)
  have HBz := hide' (BoxC.keep (BoxC.new (w := w) Cl.zero rfl) hs)
  clear hs HS HA g0 g1 k0 k1
  obtain ⟨z0, z1, z2, z3, f0, f1, f2, f3⟩ := HBz.out
  go_wp2
  exact bodyPost_ret (results_BoxC rfl _ _ _ p rfl (HBz.out.put p)) rfl ⟨rfl, BoxC.stay_put HS1.out (by omega) _ _ _ _⟩

/-- A copy of a grid. -/
def CopyG (q : Fm) (f : Nat → Cl) (w : World) (e : Ending) (w' : World) : Prop := ∃ G : Gr, e = .returned (.pointer (some ⟨G.g, 0, none⟩)) ∧ Stay (fun _ => False) w w' ∧ GridAt w' G f ∧ G.w = q.G.w ∧ G.h = q.G.h ∧ G.above w.heap.size

theorem grid_cells {a b : Nat} {f g : Nat → Cl} (h : ∀ X Y : Nat, X < a → Y < b → f (Y * a + X) = g (Y * a + X)) : ∀ i, i < a * b → f i = g i := by
  intro i hi
  have ha : 0 < a := Nat.pos_of_ne_zero (fun e => by rw [e, Nat.zero_mul] at hi; omega)
  have h1 : i % a < a := Nat.mod_lt _ ha
  have h2 : i / a < b := (Nat.div_lt_iff_lt_mul ha).2 (by rw [Nat.mul_comm]; exact hi)
  have := h (i % a) (i / a) h1 h2
  rwa [Nat.mul_comm, Nat.div_add_mod] at this

theorem grid15 (q : Fm) (f : Nat → Cl) (L : List Wr) (w : World) (hq : FAt w q f L) : Calls Try.prog 15 #[.pointer (some ⟨q.b, 0, none⟩)] w (CopyG q f w) := by
  have HA := hide' (clone39 q.G f w hq.grid)
  obtain ⟨g0, g1, k0, k1⟩ := hq.box
  simp only at g0 g1
  clear hq
  go_enter Try.func15, Try.ntmps15
  go_wp2_with fail
  refine HA.out.mono ?_
  rintro e w1 ⟨f2, ⟨G, rfl, hs, hg, hw, hh, hab⟩, hf⟩
  have HS : Hid (Stay (fun _ => False) w w1 ∧ GridAt w1 G f ∧ G.w = q.G.w ∧ G.h = q.G.h ∧ G.above w.heap.size) := ⟨hs, hg.congr (fun i hi => grid_cells hf i (by rw [← hw, ← hh]; exact hi)), hw, hh, hab⟩
  clear hs hg hw hh hab hf HA g0 g1 k0 k1
  go_wp2
  go_ret
  exact ⟨G, rfl, HS.out⟩

set_option maxHeartbeats 1000000 in
theorem put43 (q : Fm) (f : Nat → Cl) (L : List Wr) (x y : Int) (c : Cl) (w : World) (hq : FAt w q f L) (hx : I64 x) (hy : I64 y) (hl : L.length ≤ 900000) : Calls Try.prog 43 #[.pointer (some ⟨q.b, 0, none⟩), .int .i64 x, .int .i64 y, .agg #[.int .i32 c.r, .int .i64 c.fg, .int .i64 c.bg, .int .i64 c.fl]] w (PutG (insB q.G.w q.G.h x y) q (setF q.G.w q.G.h f x y c) (noteL q.G.w q.G.h x y c L) w) := by
  obtain ⟨w0, hw0⟩ : ∃ W, W = (w.alloc (.cells #[.int .i32 c.r, .int .i64 c.fg, .int .i64 c.bg, .int .i64 c.fl] 53)) := ⟨_, rfl⟩
  obtain ⟨bb, hbb⟩ : ∃ b, b = w.heap.size := ⟨_, rfl⟩
  have hs0 : Stay (fun _ => False) w w0 := by rw [hw0]; exact (Stay.refl _ _).alloc _
  have HS0 := hide' (hs0.trans ((Stay.refl _ w0).drew))
  have HBF : Hid (¬ q.own bb) := hq.fresh (by omega)
  have hS : (fun w' => BoxC w' bb c) w0.drew := by
    have : BoxC w0 bb c := by rw [hw0]; exact BoxC.new c hbb.symm
    exact this.keep (Stay.refl _ _).drew
  have HP := hide' (put68 q f L x y c w0.drew (hq.keep (hs0.trans ((Stay.refl _ w0).drew))) hx hy hl)
  obtain ⟨cn, hc⟩ : ∃ k, k = insB q.G.w q.G.h x y := ⟨_, rfl⟩
  rw [← hc] at HP
  rw [← hc]
  obtain ⟨F, hF⟩ : ∃ F, F = setF q.G.w q.G.h f x y c := ⟨_, rfl⟩
  rw [← hF] at HP
  rw [← hF]
  obtain ⟨N, hN⟩ : ∃ F, F = noteL q.G.w q.G.h x y c L := ⟨_, rfl⟩
  rw [← hN] at HP
  rw [← hN]
  clear hs0 hq hx hy hl hc hF hN
  go_enter Try.func43, Try.ntmps43
  go_upto_region 1 with fail
  rw [← hw0, ← hbb]
  clear hw0 hbb
  refine wp_region_mix (fun w' => BoxC w' bb c) [(0, true), (1, true), (2, true), (3, true), (4, true), (5, true), (6, true), (7, true), (8, true), (9, false), (10, true), (11, true)] (by kernel_rfl) (by kernel_rfl) (fun _ d _ _ _ h => by cases d <;> exact h) hS ?_
  refine mix_begin (fun K0 hK0 => ?_)
  refine mix_take hK0 (some 9) (.move (.tmp 0)) 26 _ (by kernel_rfl) (by kernel_rfl) (fun w' hS' => by (obtain ⟨b0, b1, b2, b3, _⟩ := hS'; simp only [opr]; go_simp; try with_reducible rfl)) (fun K1 hK1 => ?_)
  clear hK0 K0
  simp only [Act.put, List.setIfInBounds_toArray, List.set_cons_zero, List.set_cons_succ]
  refine mix_take hK1 (some 10) (.binOp BinOp.neq 26 (.tmp 9) (.const (Value.pointer none)) 26) 4 _ (by kernel_rfl) (by kernel_rfl) (fun w' hS' => by (obtain ⟨b0, b1, b2, b3, _⟩ := hS'; simp only [opr]; go_simp; try with_reducible rfl)) (fun K2 hK2 => ?_)
  clear hK1 K1
  simp only [Act.put, List.setIfInBounds_toArray, List.set_cons_zero, List.set_cons_succ]
  refine mix_take hK2 (some 11) (.move (.tmp 10)) 4 _ (by kernel_rfl) (by kernel_rfl) (fun w' hS' => by (obtain ⟨b0, b1, b2, b3, _⟩ := hS'; simp only [opr]; go_simp; try with_reducible rfl)) (fun K3 hK3 => ?_)
  clear hK2 K2
  simp only [Act.put, List.setIfInBounds_toArray, List.set_cons_zero, List.set_cons_succ]
  refine mix_take hK3 (some 12) (.move (.tmp 0)) 26 _ (by kernel_rfl) (by kernel_rfl) (fun w' hS' => by (obtain ⟨b0, b1, b2, b3, _⟩ := hS'; simp only [opr]; go_simp; try with_reducible rfl)) (fun K4 hK4 => ?_)
  clear hK3 K3
  simp only [Act.put, List.setIfInBounds_toArray, List.set_cons_zero, List.set_cons_succ]
  refine mix_take hK4 (some 13) (.nilCheck (.tmp 12)) 0 _ (by kernel_rfl) (by kernel_rfl) (fun w' hS' => by (obtain ⟨b0, b1, b2, b3, _⟩ := hS'; simp only [opr]; go_simp; try with_reducible rfl)) (fun K5 hK5 => ?_)
  clear hK4 K4
  simp only [Act.put, List.setIfInBounds_toArray, List.set_cons_zero, List.set_cons_succ]
  refine mix_take hK5 (some 14) (.fieldAddr 69 (.tmp 13) 0) 0 _ (by kernel_rfl) (by kernel_rfl) (fun w' hS' => by (obtain ⟨b0, b1, b2, b3, _⟩ := hS'; simp only [opr]; go_simp; try with_reducible rfl)) (fun K6 hK6 => ?_)
  clear hK5 K5
  simp only [Act.put, List.setIfInBounds_toArray, List.set_cons_zero, List.set_cons_succ]
  refine mix_take hK6 (some 15) (.move (.tmp 1)) 3 _ (by kernel_rfl) (by kernel_rfl) (fun w' hS' => by (obtain ⟨b0, b1, b2, b3, _⟩ := hS'; simp only [opr]; go_simp; try with_reducible rfl)) (fun K7 hK7 => ?_)
  clear hK6 K6
  simp only [Act.put, List.setIfInBounds_toArray, List.set_cons_zero, List.set_cons_succ]
  refine mix_take hK7 (some 16) (.move (.tmp 2)) 3 _ (by kernel_rfl) (by kernel_rfl) (fun w' hS' => by (obtain ⟨b0, b1, b2, b3, _⟩ := hS'; simp only [opr]; go_simp; try with_reducible rfl)) (fun K8 hK8 => ?_)
  clear hK7 K7
  simp only [Act.put, List.setIfInBounds_toArray, List.set_cons_zero, List.set_cons_succ]
  refine mix_take hK8 (some 17) (.load 53 (.tmp 7)) 53 _ (by kernel_rfl) (by kernel_rfl) (fun w' hS' => by (obtain ⟨b0, b1, b2, b3, _⟩ := hS'; simp only [opr]; go_simp; try with_reducible rfl)) (fun K9 hK9 => ?_)
  clear hK8 K8
  simp only [Act.put, List.setIfInBounds_toArray, List.set_cons_zero, List.set_cons_succ]
  refine mix_call hK9 (some 18) 68 #[.tmp 14, .tmp 15, .tmp 16, .tmp 17] #[67, 3, 3, 53] 4 _ (by kernel_rfl) (by kernel_rfl) (enters Try.func68 (by kernel_rfl) (by kernel_rfl)) (by go_simp; try with_reducible rfl) (fun K10 hK10 => ?_)
  clear hK9 K9
  refine (HP.out).mono ?_
  rintro e wm1 ⟨v, rfl, hf1, hs1⟩
  have hS1 : _ := (show (fun w' => BoxC w' bb c) wm1 from hS.stay hs1.1 HBF.out)
  refine ⟨_, rfl, hS1, ?_⟩
  have HG1 := hide' hf1
  have HM1 := hide' hs1
  clear hf1
  clear hs1
  simp only [Act.put, List.setIfInBounds_toArray, List.set_cons_zero, List.set_cons_succ]
  refine mix_take hK10 (some 19) (.pick (.tmp 11) (.tmp 18) (.const (Value.bool false))) 4 _ (by kernel_rfl) (by kernel_rfl) (fun w' hS' => by (obtain ⟨b0, b1, b2, b3, _⟩ := hS'; simp only [opr]; go_simp; try with_reducible rfl)) (fun K11 hK11 => ?_)
  clear hK10 K10
  simp only [Act.put, List.setIfInBounds_toArray, List.set_cons_zero, List.set_cons_succ]
  refine mix_take hK11 (some 8) (.assign (.tmp 19)) 4 _ (by kernel_rfl) (by kernel_rfl) (fun w' hS' => by (obtain ⟨b0, b1, b2, b3, _⟩ := hS'; simp only [opr]; go_simp; try with_reducible rfl)) (fun K12 hK12 => ?_)
  clear hK11 K11
  simp only [Act.put, List.setIfInBounds_toArray, List.set_cons_zero, List.set_cons_succ]
  refine hK12 _ _ (mix_nil ?_)
  clear hK12 K12
  clear hS hS1
  go_wp2
  go_ret
  exact ⟨v, rfl, HG1.out, HM1.out.after (stay_any HS0.out)⟩

/-- A new frame: it is blank, and nothing is noted. -/
def NewF (a b : Nat) (w : World) (e : Ending) (w' : World) : Prop := ∃ q : Fm, e = .returned (.pointer (some ⟨q.b, 0, none⟩)) ∧ Stay (fun _ => False) w w' ∧ FAt w' q (fun _ => Cl.zero) [] ∧ q.G.w = a ∧ q.G.h = b ∧ ∀ j, q.own j → w.heap.size ≤ j

theorem new8 (a b : Nat) (w : World) (a1 : 1 ≤ a) (a2 : a ≤ 512) (b1 : 1 ≤ b) (b2 : b ≤ 512) : Calls Try.prog 8 #[.int .i64 (a : Nat), .int .i64 (b : Nat)] w (NewF a b w) := by
  have HN := hide' (new24 a b w a1 a2 b1 b2)
  clear a1 a2 b1 b2
  go_enter Try.func8, Try.ntmps8
  go_wp2_with fail
  refine HN.out.mono ?_
  rintro e w1 ⟨G, rfl, hs, hg, hw, hh, hab⟩
  have HS := hide' hs
  have HG := hide' hg
  have HW := hide' (show G.w = a ∧ G.h = b ∧ G.above w.heap.size from ⟨hw, hh, hab⟩)
  clear hs hg hw hh hab HN
  go_wp2
  go_ret
  refine ⟨⟨w1.heap.size, G, .slice none 0 0⟩, rfl, HS.out.alloc _, ⟨HG.out.keep ((Stay.refl _ _).alloc _), FBox.new ⟨.pointer (some ⟨G.g, 0, none⟩), .slice none 0 0⟩ rfl, Win.nil _ _, HG.out.off_new (Nat.le_refl _), (fun j hj => by cases hj), fun _ => rfl⟩, HW.out.1, HW.out.2.1, fun j hj => ?_⟩
  have h := HW.out.2.2
  rcases hj with rfl | (rfl | rfl | rfl) | hj
  · exact HS.out.size
  · exact h.1
  · exact h.2.1
  · exact h.2.2
  · cases hj

theorem new8_nil (x y : Int) (w : World) (h : (sizeB x && sizeB y) = false) : Calls Try.prog 8 #[.int .i64 x, .int .i64 y] w (Gives (.pointer none) w) := by
  have HN := hide' (new24_nil x y w h)
  clear h
  go_enter Try.func8, Try.ntmps8
  go_wp2_with fail
  refine HN.out.mono ?_
  rintro e w1 ⟨rfl, hs⟩
  have HS := hide' hs
  clear hs HN
  go_wp2
  go_ret
  exact ⟨rfl, HS.out⟩

end Go.Proofs.Yticccknocjnkpaa

namespace Go.Proofs.Yticccknocjnkpaa
open Go.RowKit

/-- A frame that was made behind a world. -/
structure FIn (w0 w : World) (b a h : Nat) (q : Fm) (f : Nat → Cl) (L : List Wr) : Prop where
  stay : Stay (fun _ => False) w0 w
  at' : FAt w q f L
  new : ∀ j, q.own j → w0.heap.size ≤ j
  eb : q.b = b
  ew : q.G.w = a
  eh : q.G.h = h

theorem Stay.trans3 {T : Nat → Prop} {w w1 w2 : World} (h : Stay (fun _ => False) w w1) (k : Stay T w1 w2) (e : ∀ j, T j → w.heap.size ≤ j) : Stay (fun _ => False) w w2 :=
  h.trans2 k (fun j hj t => by have := e j t; omega)

variable {w0 w w1 : World} {b a h n : Nat} {q q' : Fm} {f f' : Nat → Cl} {L L' : List Wr}

theorem FIn.keep (i : FIn w0 w b a h q f L) (hs : Stay (fun _ => False) w w1) : FIn w0 w1 b a h q f L := ⟨i.stay.trans hs, i.at'.keep hs, i.new, i.eb, i.ew, i.eh⟩

theorem FIn.other {T : Nat → Prop} (i : FIn w0 w b a h q f L) (hs : Stay T w w1) (hT : ∀ j, T j → w0.heap.size ≤ j ∧ ¬ q.own j) : FIn w0 w1 b a h q f L :=
  ⟨i.stay.trans3 hs (fun j e => (hT j e).1), i.at'.stay hs (fun j hj e => (hT j e).2 hj), i.new, i.eb, i.ew, i.eh⟩

theorem FIn.moved (i : FIn w0 w b a h q f L) (hm : Moved q q' w w1) (ha : FAt w1 q' f' L') (e1 : q'.b = b) (e2 : q'.G.w = a) (e3 : q'.G.h = h) : FIn w0 w1 b a h q' f' L' :=
  ⟨i.stay.trans3 hm.1 i.new, ha, fun j hj => by
    rcases hm.2 j hj with h1 | h1
    · exact i.new j h1
    · exact Nat.le_trans i.stay.size h1, e1, e2, e3⟩

theorem new_in (h0 : Stay (fun _ => False) w0 w) (a1 : 1 ≤ a) (a2 : a ≤ 512) (b1 : 1 ≤ h) (b2 : h ≤ 512) : Calls Try.prog 8 #[.int .i64 (a : Nat), .int .i64 (h : Nat)] w fun e w' => ∃ q : Fm, e = .returned (.pointer (some ⟨q.b, 0, none⟩)) ∧ FIn w0 w' q.b a h q (fun _ => Cl.zero) [] ∧ Stay (fun _ => False) w w' := by
  refine (new8 a h w a1 a2 b1 b2).mono ?_
  rintro e w' ⟨q, he, hs, hq, hw, hh, hn⟩
  exact ⟨q, he, ⟨h0.trans hs, hq, fun j hj => Nat.le_trans h0.size (hn j hj), rfl, hw, hh⟩, hs⟩

theorem put_in (x y : Int) (c : Cl) (ok : Bool) (i : FIn w0 w b a h q f L) (hok : insB a h x y = ok) (hx : I64 x) (hy : I64 y) (hl : L.length ≤ 900000) : Calls Try.prog 43 #[.pointer (some ⟨b, 0, none⟩), .int .i64 x, .int .i64 y, .agg #[.int .i32 c.r, .int .i64 c.fg, .int .i64 c.bg, .int .i64 c.fl]] w fun e w' => ∃ q' : Fm, e = .returned (.bool ok) ∧ FIn w0 w' b a h q' (setF a h f x y c) (if ok then L ++ [Wr.of x y c] else L) ∧ Moved q q' w w' := by
  obtain ⟨e1, e2, e3⟩ : q.b = b ∧ q.G.w = a ∧ q.G.h = h := ⟨i.eb, i.ew, i.eh⟩
  subst e1 e2 e3 hok
  refine (put43 q f L x y c w i.at' hx hy hl).mono ?_
  rintro e w' ⟨v, he, hf, hm⟩
  refine ⟨_, he, i.moved hm ?_ rfl rfl rfl, hm⟩
  unfold noteL at hf
  exact hf

theorem take_in (i : FIn w0 w b a h q f L) (hn : L.length = n) : Calls Try.prog 18 #[.pointer (some ⟨b, 0, none⟩)] w fun e w' => ∃ (q' : Fm) (ad : Option Addr) (cap : Nat), e = .returned (.slice ad n cap) ∧ FIn w0 w' b a h q' f [] ∧ Win w' 6 (.slice ad n cap) n (wrs L) ∧ Moved q q' w w' ∧ ∀ j, (Value.slice ad n cap).ownBlock = some j → w0.heap.size ≤ j ∧ ¬ q'.own j := by
  obtain ⟨e1, e2, e3⟩ : q.b = b ∧ q.G.w = a ∧ q.G.h = h := ⟨i.eb, i.ew, i.eh⟩
  subst e1 e2 e3 hn
  obtain ⟨ad, cap, hv, _, _⟩ := i.at'.row.shape
  refine (notes18 q f L w i.at').mono ?_
  rintro e w' ⟨he, hf, hw, hs⟩
  have hm : Moved q (q.with (.slice none 0 0)) w w' := ⟨hs.mono (fun j _ e => .inl e), fun j hj => .inl (by
    rcases hj with hj | hj | hj
    · exact .inl hj
    · exact .inr (.inl hj)
    · cases hj)⟩
  refine ⟨_, ad, cap, by rw [he, hv], i.moved hm hf rfl rfl rfl, by rw [← hv]; exact hw, hm, fun j hj => ?_⟩
  rw [← hv] at hj
  refine ⟨i.new j (.inr (.inr hj)), fun h2 => ?_⟩
  have hb := i.at'.vb j hj
  rcases h2 with h2 | (h2 | h2 | h2) | h2
  · exact hb.1 h2
  · exact hb.2.1 h2.symm
  · exact hb.2.2.1 h2.symm
  · exact hb.2.2.2 h2.symm
  · cases h2

theorem at_in (x y : Int) (p : Cl) (i : FIn w0 w b a h q f L) (hp : atF a h f x y = p) (hx : I64 x) (hy : I64 y) : Calls Try.prog 23 #[.pointer (some ⟨b, 0, none⟩), .int .i64 x, .int .i64 y] w (Gives (.agg #[.int .i32 p.r, .int .i64 p.fg, .int .i64 p.bg, .int .i64 p.fl]) w) := by
  obtain ⟨e1, e2, e3⟩ : q.b = b ∧ q.G.w = a ∧ q.G.h = h := ⟨i.eb, i.ew, i.eh⟩
  subst e1 e2 e3 hp
  exact at23 q f L x y w i.at' hx hy

/-- A grid by itself that shows cells. -/
def CopyIn (a h : Nat) (f : Nat → Cl) (w : World) (e : Ending) (w' : World) : Prop := ∃ G : Gr, e = .returned (.pointer (some ⟨G.g, 0, none⟩)) ∧ Stay (fun _ => False) w w' ∧ GridAt w' G f ∧ G.w = a ∧ G.h = h ∧ G.above w.heap.size

theorem grid_in (i : FIn w0 w b a h q f L) : Calls Try.prog 15 #[.pointer (some ⟨b, 0, none⟩)] w (CopyIn a h f w) := by
  obtain ⟨e1, e2, e3⟩ : q.b = b ∧ q.G.w = a ∧ q.G.h = h := ⟨i.eb, i.ew, i.eh⟩
  subst e1 e2 e3
  exact grid15 q f L w i.at'

end Go.Proofs.Yticccknocjnkpaa
