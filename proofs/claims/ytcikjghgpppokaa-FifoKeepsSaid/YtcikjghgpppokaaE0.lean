/-
  A number is brought into a queue: walked. No conditions.
-/
import Derived.Test.YtcikjghgpppokaaD1
namespace Go.Proofs.Ytcikjghgpppokaa
open Go.RowKit

/-- How many numbers take room. -/
def Qu.cnt (q : Qu) : Nat := if 0 < q.p then q.n - 1 else q.n

/-- Is a number taken in? -/
def Qu.okB (q : Qu) (x : Int) : Bool := decide (q.cnt < q.r) || (decide (x = q.k) && decide (q.p = 0))

/-- What a queue is behind a number that was brought. -/
def PutOf (q : Qu) (L : List Int) (x : Int) (w : World) (e : Ending) (w' : World) : Prop := ∃ (q' : Qu) (L' : List Int), e = .returned (.bool (q.okB x)) ∧ QAt w' q' L' ∧ (q'.b = q.b ∧ q'.r = q.r ∧ q'.k = q.k) ∧ Stay q.own w w' ∧ (∀ j, q'.own j → q.own j ∨ w.heap.size ≤ j) ∧
  ((q.okB x = true ∧ L' = L ++ [x] ∧ q'.n = q.n + 1 ∧ q'.z = q.z ∧ q'.p = if q.cnt < q.r then q.p else q.n + 1) ∨ (q.okB x = false ∧ L' = L ∧ q'.n = q.n ∧ q'.z = q.z + 1 ∧ q'.p = q.p))

theorem Stay.trans2 {S T : Nat → Prop} {w w1 w2 : World} (h : Stay S w w1) (k : Stay T w1 w2) (e : ∀ j, j < w.heap.size → T j → S j) : Stay S w w2 :=
  ⟨k.os.trans h.os, k.tape.trans h.tape, k.output.trans h.output, Nat.le_trans h.size k.size, fun i hi hs => (k.block i (Nat.lt_of_lt_of_le hi h.size) (fun t => hs (e i hi t))).trans (h.block i hi hs)⟩

theorem mod_two {a c : Nat} (h : a < 2 * c) : a % c = if a < c then a else a - c := by
  by_cases h1 : a < c
  · rw [if_pos h1, Nat.mod_eq_of_lt h1]
  · rw [if_neg h1, Nat.mod_eq_sub_mod (by omega), Nat.mod_eq_of_lt (by omega)]

/-- The queue with a number more. -/
theorem QAt.more {w w1 : World} {q : Qu} {L : List Int} {x : Int} {rb p : Nat} (h : QAt w q L) (hv : q.v = .slice (some ⟨rb, 0, none⟩) q.c q.c) (hn : q.n < q.c) (_hs : Stay (fun j => j = q.b ∨ j = rb) w w1) (hb : QBox w1 q.b ⟨q.v, (q.f : Nat), ((q.n + 1 : Nat) : Nat), (q.r : Nat), q.k, (p : Nat), (q.z : Nat)⟩)
    (hr : ∀ g : Nat → Int, w.rowIs rb 3 q.c (fun i => .int .i64 (g i)) → w1.rowIs rb 3 q.c (fun i => if i = (q.f + q.n) % q.c then .int .i64 x else .int .i64 (g i))) (hp : p ≤ q.n + 1) (hm : q.n + 1 ≤ q.r ∨ (0 < p ∧ q.n + 1 = q.r + 1)) :
    QAt w1 ⟨q.b, q.v, q.c, q.f, q.n + 1, q.r, q.k, p, q.z⟩ (L ++ [x]) := by
  obtain ⟨g, hg, he⟩ := h.ring
  have hf : q.f < q.c := by rcases h.f1 with h1 | h1 <;> omega
  rcases hg with ⟨e, _⟩ | ⟨rb', e, hne, hc, hrow⟩
  · rw [hv] at e; cases e
  · rw [hv] at e
    cases e
    refine ⟨hb, ⟨fun i => if i = (q.f + q.n) % q.c then x else g i, .inr ⟨rb, hv, hne, hc, (hr g hrow).congr (fun i _ => ?_)⟩, fun i hi => ?_⟩, by simp [h.len], .inl hf, hn, h.c1, h.r1, h.r2, hp, hm, h.z1⟩
    · by_cases hi : i = (q.f + q.n) % q.c
      · simp only [if_pos hi]
      · simp only [if_neg hi]
    · have hi' : i < q.n + 1 := hi
      show (if (q.f + i) % q.c = (q.f + q.n) % q.c then x else g ((q.f + i) % q.c)) = _
      by_cases hin : i = q.n
      · subst hin
        rw [if_pos rfl, List.getD_eq_getElem?_getD, List.getElem?_append_right (by rw [h.len]; exact Nat.le_refl _), h.len, Nat.sub_self]
        rfl
      · rw [if_neg, he i (by omega), List.getD_eq_getElem?_getD, List.getD_eq_getElem?_getD, List.getElem?_append_left (by rw [h.len]; omega)]
        rw [mod_two (by omega), mod_two (by omega)]
        split <;> split <;> omega

theorem put7_c (q : Qu) (L : List Int) (x : Int) (w : World) (hq : QAt w q L) (hz : q.z < 1000000) (hc : ¬ q.cnt < q.r) (hx : ¬ x = q.k) : Calls Try.prog 7 #[.pointer (some ⟨q.b, 0, none⟩), .int .i64 x] w (PutOf q L x w) := by
  have h1 := hq.n1
  have h2 := hq.c1
  have h3 := hq.r2
  have h4 := hq.m1
  have h5 := hq.p1
  have HOK : Hid (q.okB x = false) := by unfold Qu.okB; rw [decide_eq_false hc, decide_eq_false hx]; rfl
  obtain ⟨m, hm⟩ : ∃ m, m = q.cnt := ⟨_, rfl⟩
  have HCN := hide' (fun w h => counted12 q m w h h5 hm (by omega))
  have hr0 := hm
  have d1 : decide (q.r ≤ m) = true := by simp; omega
  have d2 : ((q.r : Nat) : Int) ≤ (m : Nat) := by omega
  have HQ := hide' hq
  obtain ⟨z, hz1⟩ : ∃ z, z = q.z + 1 := ⟨_, rfl⟩
  have e6 : IntKind.i64.wrap ((q.z : Int) + 1) = (z : Nat) := by rw [IntKind.wrap_i64]; omega
  have HZ := hide' hz1
  have HZL := hide' hz
  have hS : (fun w' => Stay (fun _ => False) w w' ∧ QBox w' q.b q.bx) w.drew := ⟨(Stay.refl _ _).drew, hq.box.keep (Stay.refl _ _).drew⟩
  clear hr0 hm hz1 hz hq h1 h2 h3 h4 h5 hc
  go_enter Try.func7, Try.ntmps7
  go_upto_region 3 with fail
  refine wp_region_mix (fun w' => Stay (fun _ => False) w w' ∧ QBox w' q.b q.bx) [(0, true), (2, true), (3, true), (4, true), (5, true), (1, false), (6, true), (7, true)] (by kernel_rfl) (by kernel_rfl) (fun _ d _ _ _ h => by cases d <;> exact h) hS ?_
  refine mix_begin (fun K0 hK0 => ?_)
  refine mix_take hK0 (some 8) (.move (.tmp 0)) 24 _ (by kernel_rfl) (by kernel_rfl) (fun w' hS' => by (obtain ⟨_, sb⟩ := hS'; obtain ⟨b0, b1, b2, b3, b4, b5, b6, f0, f1, f2, f3, f4, f5, f6⟩ := sb; simp only [Qu.bx] at b0 b1 b2 b3 b4 b5 b6; simp only [opr]; go_simp; try with_reducible rfl)) (fun K1 hK1 => ?_)
  clear hK0 K0
  simp only [Act.put, List.setIfInBounds_toArray, List.set_cons_zero, List.set_cons_succ]
  refine mix_take hK1 (some 10) (.move (.tmp 0)) 24 _ (by kernel_rfl) (by kernel_rfl) (fun w' hS' => by (obtain ⟨_, sb⟩ := hS'; obtain ⟨b0, b1, b2, b3, b4, b5, b6, f0, f1, f2, f3, f4, f5, f6⟩ := sb; simp only [Qu.bx] at b0 b1 b2 b3 b4 b5 b6; simp only [opr]; go_simp; try with_reducible rfl)) (fun K2 hK2 => ?_)
  clear hK1 K1
  simp only [Act.put, List.setIfInBounds_toArray, List.set_cons_zero, List.set_cons_succ]
  refine mix_take hK2 (some 11) (.nilCheck (.tmp 10)) 0 _ (by kernel_rfl) (by kernel_rfl) (fun w' hS' => by (obtain ⟨_, sb⟩ := hS'; obtain ⟨b0, b1, b2, b3, b4, b5, b6, f0, f1, f2, f3, f4, f5, f6⟩ := sb; simp only [Qu.bx] at b0 b1 b2 b3 b4 b5 b6; simp only [opr]; go_simp; try with_reducible rfl)) (fun K3 hK3 => ?_)
  clear hK2 K2
  simp only [Act.put, List.setIfInBounds_toArray, List.set_cons_zero, List.set_cons_succ]
  refine mix_take hK3 (some 12) (.fieldAddr 36 (.tmp 11) 3) 0 _ (by kernel_rfl) (by kernel_rfl) (fun w' hS' => by (obtain ⟨_, sb⟩ := hS'; obtain ⟨b0, b1, b2, b3, b4, b5, b6, f0, f1, f2, f3, f4, f5, f6⟩ := sb; simp only [Qu.bx] at b0 b1 b2 b3 b4 b5 b6; simp only [opr]; go_simp; try with_reducible rfl)) (fun K4 hK4 => ?_)
  clear hK3 K3
  simp only [Act.put, List.setIfInBounds_toArray, List.set_cons_zero, List.set_cons_succ]
  refine mix_take hK4 (some 13) (.load 3 (.tmp 12)) 3 _ (by kernel_rfl) (by kernel_rfl) (fun w' hS' => by (obtain ⟨_, sb⟩ := hS'; obtain ⟨b0, b1, b2, b3, b4, b5, b6, f0, f1, f2, f3, f4, f5, f6⟩ := sb; simp only [Qu.bx] at b0 b1 b2 b3 b4 b5 b6; simp only [opr]; go_simp; try with_reducible rfl)) (fun K5 hK5 => ?_)
  clear hK4 K4
  simp only [Act.put, List.setIfInBounds_toArray, List.set_cons_zero, List.set_cons_succ]
  refine mix_call hK5 (some 9) 12 #[.tmp 8] #[24] 3 _ (by kernel_rfl) (by kernel_rfl) (enters Try.func12 (by kernel_rfl) (by kernel_rfl)) (by go_simp; try with_reducible rfl) (fun K6 hK6 => ?_)
  clear hK5 K5
  refine (HCN.out _ hS.2).mono ?_
  rintro e wm1 ⟨rfl, hs1⟩
  have hS1 : _ := (show (fun w' => Stay (fun _ => False) w w' ∧ QBox w' q.b q.bx) wm1 from ⟨hS.1.trans hs1, hS.2.keep hs1⟩)
  refine ⟨_, rfl, hS1, ?_⟩
  clear hs1
  simp only [Act.put, List.setIfInBounds_toArray, List.set_cons_zero, List.set_cons_succ]
  refine mix_take hK6 (some 14) (.binOp BinOp.geq 3 (.tmp 9) (.tmp 13) 3) 4 _ (by kernel_rfl) (by kernel_rfl) (fun w' hS' => by (obtain ⟨_, sb⟩ := hS'; obtain ⟨b0, b1, b2, b3, b4, b5, b6, f0, f1, f2, f3, f4, f5, f6⟩ := sb; simp only [Qu.bx] at b0 b1 b2 b3 b4 b5 b6; simp only [opr]; go_simp; try with_reducible rfl)) (fun K7 hK7 => ?_)
  clear hK6 K6
  simp only [Act.put, List.setIfInBounds_toArray, List.set_cons_zero, List.set_cons_succ]
  refine mix_take hK7 (some 5) (.assign (.tmp 14)) 4 _ (by kernel_rfl) (by kernel_rfl) (fun w' hS' => by (obtain ⟨_, sb⟩ := hS'; obtain ⟨b0, b1, b2, b3, b4, b5, b6, f0, f1, f2, f3, f4, f5, f6⟩ := sb; simp only [Qu.bx] at b0 b1 b2 b3 b4 b5 b6; simp only [opr]; go_simp; try with_reducible rfl)) (fun K8 hK8 => ?_)
  clear hK7 K7
  simp only [Act.put, List.setIfInBounds_toArray, List.set_cons_zero, List.set_cons_succ]
  refine hK8 _ _ (mix_nil ?_)
  clear hK8 K8
  have HS1 := hide' hS1
  clear hS1 hS HCN
  obtain ⟨b0, b1, b2, b3, b4, b5, b6, f0, f1, f2, f3, f4, f5, f6⟩ := HS1.out.2
  simp only [Qu.bx] at b0 b1 b2 b3 b4 b5 b6
  go_wp2
  go_returns
  generalize hW : World.setCell _ _ _ = W
  have hb := HS1.out.2.put6 (x := (z : Nat)) (q := ⟨q.v, (q.f : Nat), (q.n : Nat), (q.r : Nat), q.k, (q.p : Nat), (z : Nat)⟩) rfl
  rw [hW] at hb
  have hst : Stay (fun j => j = q.b) wm1 W := by rw [← hW]; exact (Stay.refl (fun j => j = q.b) wm1).setCell (p := ⟨q.b, 6, none⟩) rfl _
  have h2 := HQ.out.keep HS1.out.1
  obtain ⟨g, hg, he⟩ := h2.ring
  have hzz := HZ.out
  have hzl := HZL.out
  exact ⟨⟨q.b, q.v, q.c, q.f, q.n, q.r, q.k, q.p, z⟩, L, by rw [HOK.out]; rfl, ⟨hb, ⟨g, hg.stay hst hg.ne, he⟩, h2.len, h2.f1, h2.n1, h2.c1, h2.r1, h2.r2, h2.p1, h2.m1, by show z ≤ 1000000; omega⟩, ⟨rfl, rfl, rfl⟩, (HS1.out.1.mono (fun _ _ h => h.elim)).trans2 hst (fun j _ e => .inl e), fun j h => .inl h, .inr ⟨HOK.out, rfl, rfl, hzz, rfl⟩⟩

theorem put7_d (q : Qu) (L : List Int) (x : Int) (w : World) (hq : QAt w q L) (hz : q.z < 1000000) (hc : ¬ q.cnt < q.r) (hx : x = q.k) (hp : 0 < q.p) : Calls Try.prog 7 #[.pointer (some ⟨q.b, 0, none⟩), .int .i64 x] w (PutOf q L x w) := by
  have h1 := hq.n1
  have h2 := hq.c1
  have h3 := hq.r2
  have h4 := hq.m1
  have h5 := hq.p1
  have HOK : Hid (q.okB x = false) := by show q.okB x = false; unfold Qu.okB; rw [decide_eq_false hc, decide_eq_false (show ¬ q.p = 0 by omega)]; simp
  obtain ⟨m, hm⟩ : ∃ m, m = q.cnt := ⟨_, rfl⟩
  have HCN := hide' (fun w h => counted12 q m w h h5 hm (by omega))
  have hr0 := hm
  have d1 : decide (q.r ≤ m) = true := by simp; omega
  have d2 : ((q.r : Nat) : Int) ≤ (m : Nat) := by omega
  have i4 : (0 : Int) < (q.p : Nat) := by omega
  have d4 : decide (0 < q.p) = true := by simp; omega
  subst hx
  have HQ := hide' hq
  obtain ⟨z, hz1⟩ : ∃ z, z = q.z + 1 := ⟨_, rfl⟩
  have e6 : IntKind.i64.wrap ((q.z : Int) + 1) = (z : Nat) := by rw [IntKind.wrap_i64]; omega
  have HZ := hide' hz1
  have HZL := hide' hz
  have hS : (fun w' => Stay (fun _ => False) w w' ∧ QBox w' q.b q.bx) w.drew := ⟨(Stay.refl _ _).drew, hq.box.keep (Stay.refl _ _).drew⟩
  clear hr0 hm hz1 hz hq h1 h2 h3 h4 h5 hc hp
  go_enter Try.func7, Try.ntmps7
  go_upto_region 3 with fail
  refine wp_region_mix (fun w' => Stay (fun _ => False) w w' ∧ QBox w' q.b q.bx) [(0, true), (2, true), (3, true), (4, true), (5, true), (1, false), (6, true), (7, true)] (by kernel_rfl) (by kernel_rfl) (fun _ d _ _ _ h => by cases d <;> exact h) hS ?_
  refine mix_begin (fun K0 hK0 => ?_)
  refine mix_take hK0 (some 8) (.move (.tmp 0)) 24 _ (by kernel_rfl) (by kernel_rfl) (fun w' hS' => by (obtain ⟨_, sb⟩ := hS'; obtain ⟨b0, b1, b2, b3, b4, b5, b6, f0, f1, f2, f3, f4, f5, f6⟩ := sb; simp only [Qu.bx] at b0 b1 b2 b3 b4 b5 b6; simp only [opr]; go_simp; try with_reducible rfl)) (fun K1 hK1 => ?_)
  clear hK0 K0
  simp only [Act.put, List.setIfInBounds_toArray, List.set_cons_zero, List.set_cons_succ]
  refine mix_take hK1 (some 10) (.move (.tmp 0)) 24 _ (by kernel_rfl) (by kernel_rfl) (fun w' hS' => by (obtain ⟨_, sb⟩ := hS'; obtain ⟨b0, b1, b2, b3, b4, b5, b6, f0, f1, f2, f3, f4, f5, f6⟩ := sb; simp only [Qu.bx] at b0 b1 b2 b3 b4 b5 b6; simp only [opr]; go_simp; try with_reducible rfl)) (fun K2 hK2 => ?_)
  clear hK1 K1
  simp only [Act.put, List.setIfInBounds_toArray, List.set_cons_zero, List.set_cons_succ]
  refine mix_take hK2 (some 11) (.nilCheck (.tmp 10)) 0 _ (by kernel_rfl) (by kernel_rfl) (fun w' hS' => by (obtain ⟨_, sb⟩ := hS'; obtain ⟨b0, b1, b2, b3, b4, b5, b6, f0, f1, f2, f3, f4, f5, f6⟩ := sb; simp only [Qu.bx] at b0 b1 b2 b3 b4 b5 b6; simp only [opr]; go_simp; try with_reducible rfl)) (fun K3 hK3 => ?_)
  clear hK2 K2
  simp only [Act.put, List.setIfInBounds_toArray, List.set_cons_zero, List.set_cons_succ]
  refine mix_take hK3 (some 12) (.fieldAddr 36 (.tmp 11) 3) 0 _ (by kernel_rfl) (by kernel_rfl) (fun w' hS' => by (obtain ⟨_, sb⟩ := hS'; obtain ⟨b0, b1, b2, b3, b4, b5, b6, f0, f1, f2, f3, f4, f5, f6⟩ := sb; simp only [Qu.bx] at b0 b1 b2 b3 b4 b5 b6; simp only [opr]; go_simp; try with_reducible rfl)) (fun K4 hK4 => ?_)
  clear hK3 K3
  simp only [Act.put, List.setIfInBounds_toArray, List.set_cons_zero, List.set_cons_succ]
  refine mix_take hK4 (some 13) (.load 3 (.tmp 12)) 3 _ (by kernel_rfl) (by kernel_rfl) (fun w' hS' => by (obtain ⟨_, sb⟩ := hS'; obtain ⟨b0, b1, b2, b3, b4, b5, b6, f0, f1, f2, f3, f4, f5, f6⟩ := sb; simp only [Qu.bx] at b0 b1 b2 b3 b4 b5 b6; simp only [opr]; go_simp; try with_reducible rfl)) (fun K5 hK5 => ?_)
  clear hK4 K4
  simp only [Act.put, List.setIfInBounds_toArray, List.set_cons_zero, List.set_cons_succ]
  refine mix_call hK5 (some 9) 12 #[.tmp 8] #[24] 3 _ (by kernel_rfl) (by kernel_rfl) (enters Try.func12 (by kernel_rfl) (by kernel_rfl)) (by go_simp; try with_reducible rfl) (fun K6 hK6 => ?_)
  clear hK5 K5
  refine (HCN.out _ hS.2).mono ?_
  rintro e wm1 ⟨rfl, hs1⟩
  have hS1 : _ := (show (fun w' => Stay (fun _ => False) w w' ∧ QBox w' q.b q.bx) wm1 from ⟨hS.1.trans hs1, hS.2.keep hs1⟩)
  refine ⟨_, rfl, hS1, ?_⟩
  clear hs1
  simp only [Act.put, List.setIfInBounds_toArray, List.set_cons_zero, List.set_cons_succ]
  refine mix_take hK6 (some 14) (.binOp BinOp.geq 3 (.tmp 9) (.tmp 13) 3) 4 _ (by kernel_rfl) (by kernel_rfl) (fun w' hS' => by (obtain ⟨_, sb⟩ := hS'; obtain ⟨b0, b1, b2, b3, b4, b5, b6, f0, f1, f2, f3, f4, f5, f6⟩ := sb; simp only [Qu.bx] at b0 b1 b2 b3 b4 b5 b6; simp only [opr]; go_simp; try with_reducible rfl)) (fun K7 hK7 => ?_)
  clear hK6 K6
  simp only [Act.put, List.setIfInBounds_toArray, List.set_cons_zero, List.set_cons_succ]
  refine mix_take hK7 (some 5) (.assign (.tmp 14)) 4 _ (by kernel_rfl) (by kernel_rfl) (fun w' hS' => by (obtain ⟨_, sb⟩ := hS'; obtain ⟨b0, b1, b2, b3, b4, b5, b6, f0, f1, f2, f3, f4, f5, f6⟩ := sb; simp only [Qu.bx] at b0 b1 b2 b3 b4 b5 b6; simp only [opr]; go_simp; try with_reducible rfl)) (fun K8 hK8 => ?_)
  clear hK7 K7
  simp only [Act.put, List.setIfInBounds_toArray, List.set_cons_zero, List.set_cons_succ]
  refine hK8 _ _ (mix_nil ?_)
  clear hK8 K8
  have HS1 := hide' hS1
  clear hS1 hS HCN
  obtain ⟨b0, b1, b2, b3, b4, b5, b6, f0, f1, f2, f3, f4, f5, f6⟩ := HS1.out.2
  simp only [Qu.bx] at b0 b1 b2 b3 b4 b5 b6
  go_wp2
  go_returns
  generalize hW : World.setCell _ _ _ = W
  have hb := HS1.out.2.put6 (x := (z : Nat)) (q := ⟨q.v, (q.f : Nat), (q.n : Nat), (q.r : Nat), q.k, (q.p : Nat), (z : Nat)⟩) rfl
  rw [hW] at hb
  have hst : Stay (fun j => j = q.b) wm1 W := by rw [← hW]; exact (Stay.refl (fun j => j = q.b) wm1).setCell (p := ⟨q.b, 6, none⟩) rfl _
  have h2 := HQ.out.keep HS1.out.1
  obtain ⟨g, hg, he⟩ := h2.ring
  have hzz := HZ.out
  have hzl := HZL.out
  exact ⟨⟨q.b, q.v, q.c, q.f, q.n, q.r, q.k, q.p, z⟩, L, by rw [HOK.out]; rfl, ⟨hb, ⟨g, hg.stay hst hg.ne, he⟩, h2.len, h2.f1, h2.n1, h2.c1, h2.r1, h2.r2, h2.p1, h2.m1, by show z ≤ 1000000; omega⟩, ⟨rfl, rfl, rfl⟩, (HS1.out.1.mono (fun _ _ h => h.elim)).trans2 hst (fun j _ e => .inl e), fun j h => .inl h, .inr ⟨HOK.out, rfl, rfl, hzz, rfl⟩⟩

theorem put7_a (q : Qu) (L : List Int) (x : Int) (w : World) (hq : QAt w q L) (_hz : q.z < 1000000) (hc : q.cnt < q.r) : Calls Try.prog 7 #[.pointer (some ⟨q.b, 0, none⟩), .int .i64 x] w (PutOf q L x w) := by
  have h1 := hq.n1
  have h2 := hq.c1
  have h3 := hq.r2
  have h4 := hq.m1
  have h5 := hq.p1
  have HOK : Hid (q.okB x = true) := by unfold Qu.okB; rw [decide_eq_true hc]; rfl
  obtain ⟨m, hm⟩ : ∃ m, m = q.cnt := ⟨_, rfl⟩
  have HCN := hide' (fun w h => counted12 q m w h h5 hm (by omega))
  have HC : Hid (q.cnt < q.r) := hc
  have HNR0 : Hid (q.n ≤ q.r ∧ (q.n + 1 ≤ q.r ∨ (0 < q.p ∧ q.n + 1 = q.r + 1))) := by
    have hc' := hc
    unfold Qu.cnt at hc'
    by_cases hp : 0 < q.p
    · rw [if_pos hp] at hc'; exact ⟨by omega, by omega⟩
    · rw [if_neg hp] at hc'; exact ⟨by omega, by omega⟩
  have hr0 := hm
  have d1 : decide (q.r ≤ m) = false := by simp; omega
  have d2 : ¬ ((q.r : Nat) : Int) ≤ (m : Nat) := by omega
  have HQ := hide' hq
  have hS : (fun w' => Stay (fun _ => False) w w' ∧ QBox w' q.b q.bx) w.drew := ⟨(Stay.refl _ _).drew, hq.box.keep (Stay.refl _ _).drew⟩
  clear hr0 hm _hz hq h1 h2 h3 h4 h5 hc
  go_enter Try.func7, Try.ntmps7
  go_upto_region 3 with fail
  refine wp_region_mix (fun w' => Stay (fun _ => False) w w' ∧ QBox w' q.b q.bx) [(0, true), (2, true), (3, true), (4, true), (5, true), (1, false), (6, true), (7, true)] (by kernel_rfl) (by kernel_rfl) (fun _ d _ _ _ h => by cases d <;> exact h) hS ?_
  refine mix_begin (fun K0 hK0 => ?_)
  refine mix_take hK0 (some 8) (.move (.tmp 0)) 24 _ (by kernel_rfl) (by kernel_rfl) (fun w' hS' => by (obtain ⟨_, sb⟩ := hS'; obtain ⟨b0, b1, b2, b3, b4, b5, b6, f0, f1, f2, f3, f4, f5, f6⟩ := sb; simp only [Qu.bx] at b0 b1 b2 b3 b4 b5 b6; simp only [opr]; go_simp; try with_reducible rfl)) (fun K1 hK1 => ?_)
  clear hK0 K0
  simp only [Act.put, List.setIfInBounds_toArray, List.set_cons_zero, List.set_cons_succ]
  refine mix_take hK1 (some 10) (.move (.tmp 0)) 24 _ (by kernel_rfl) (by kernel_rfl) (fun w' hS' => by (obtain ⟨_, sb⟩ := hS'; obtain ⟨b0, b1, b2, b3, b4, b5, b6, f0, f1, f2, f3, f4, f5, f6⟩ := sb; simp only [Qu.bx] at b0 b1 b2 b3 b4 b5 b6; simp only [opr]; go_simp; try with_reducible rfl)) (fun K2 hK2 => ?_)
  clear hK1 K1
  simp only [Act.put, List.setIfInBounds_toArray, List.set_cons_zero, List.set_cons_succ]
  refine mix_take hK2 (some 11) (.nilCheck (.tmp 10)) 0 _ (by kernel_rfl) (by kernel_rfl) (fun w' hS' => by (obtain ⟨_, sb⟩ := hS'; obtain ⟨b0, b1, b2, b3, b4, b5, b6, f0, f1, f2, f3, f4, f5, f6⟩ := sb; simp only [Qu.bx] at b0 b1 b2 b3 b4 b5 b6; simp only [opr]; go_simp; try with_reducible rfl)) (fun K3 hK3 => ?_)
  clear hK2 K2
  simp only [Act.put, List.setIfInBounds_toArray, List.set_cons_zero, List.set_cons_succ]
  refine mix_take hK3 (some 12) (.fieldAddr 36 (.tmp 11) 3) 0 _ (by kernel_rfl) (by kernel_rfl) (fun w' hS' => by (obtain ⟨_, sb⟩ := hS'; obtain ⟨b0, b1, b2, b3, b4, b5, b6, f0, f1, f2, f3, f4, f5, f6⟩ := sb; simp only [Qu.bx] at b0 b1 b2 b3 b4 b5 b6; simp only [opr]; go_simp; try with_reducible rfl)) (fun K4 hK4 => ?_)
  clear hK3 K3
  simp only [Act.put, List.setIfInBounds_toArray, List.set_cons_zero, List.set_cons_succ]
  refine mix_take hK4 (some 13) (.load 3 (.tmp 12)) 3 _ (by kernel_rfl) (by kernel_rfl) (fun w' hS' => by (obtain ⟨_, sb⟩ := hS'; obtain ⟨b0, b1, b2, b3, b4, b5, b6, f0, f1, f2, f3, f4, f5, f6⟩ := sb; simp only [Qu.bx] at b0 b1 b2 b3 b4 b5 b6; simp only [opr]; go_simp; try with_reducible rfl)) (fun K5 hK5 => ?_)
  clear hK4 K4
  simp only [Act.put, List.setIfInBounds_toArray, List.set_cons_zero, List.set_cons_succ]
  refine mix_call hK5 (some 9) 12 #[.tmp 8] #[24] 3 _ (by kernel_rfl) (by kernel_rfl) (enters Try.func12 (by kernel_rfl) (by kernel_rfl)) (by go_simp; try with_reducible rfl) (fun K6 hK6 => ?_)
  clear hK5 K5
  refine (HCN.out _ hS.2).mono ?_
  rintro e wm1 ⟨rfl, hs1⟩
  have hS1 : _ := (show (fun w' => Stay (fun _ => False) w w' ∧ QBox w' q.b q.bx) wm1 from ⟨hS.1.trans hs1, hS.2.keep hs1⟩)
  refine ⟨_, rfl, hS1, ?_⟩
  clear hs1
  simp only [Act.put, List.setIfInBounds_toArray, List.set_cons_zero, List.set_cons_succ]
  refine mix_take hK6 (some 14) (.binOp BinOp.geq 3 (.tmp 9) (.tmp 13) 3) 4 _ (by kernel_rfl) (by kernel_rfl) (fun w' hS' => by (obtain ⟨_, sb⟩ := hS'; obtain ⟨b0, b1, b2, b3, b4, b5, b6, f0, f1, f2, f3, f4, f5, f6⟩ := sb; simp only [Qu.bx] at b0 b1 b2 b3 b4 b5 b6; simp only [opr]; go_simp; try with_reducible rfl)) (fun K7 hK7 => ?_)
  clear hK6 K6
  simp only [Act.put, List.setIfInBounds_toArray, List.set_cons_zero, List.set_cons_succ]
  refine mix_take hK7 (some 5) (.assign (.tmp 14)) 4 _ (by kernel_rfl) (by kernel_rfl) (fun w' hS' => by (obtain ⟨_, sb⟩ := hS'; obtain ⟨b0, b1, b2, b3, b4, b5, b6, f0, f1, f2, f3, f4, f5, f6⟩ := sb; simp only [Qu.bx] at b0 b1 b2 b3 b4 b5 b6; simp only [opr]; go_simp; try with_reducible rfl)) (fun K8 hK8 => ?_)
  clear hK7 K7
  simp only [Act.put, List.setIfInBounds_toArray, List.set_cons_zero, List.set_cons_succ]
  refine hK8 _ _ (mix_nil ?_)
  clear hK8 K8
  have HS1 := hide' hS1
  clear hS1 hS HCN
  obtain ⟨b0, b1, b2, b3, b4, b5, b6, f0, f1, f2, f3, f4, f5, f6⟩ := HS1.out.2
  simp only [Qu.bx] at b0 b1 b2 b3 b4 b5 b6
  have HG := hide' (grow13 q L wm1 (HQ.out.keep HS1.out.1) HNR0.out.1)
  go_wp2_with fail
  refine (HG.out).mono ?_
  clear HG b0 b1 b2 b3 b4 b5 b6 f0 f1 f2 f3 f4 f5 f6
  rintro e w2 ⟨q1, rfl, hq1, ⟨k1, k2, k3, k4, k5, k6⟩, hlt, hst, hown⟩
  obtain ⟨gq, hgq, hge⟩ := hq1.ring
  obtain ⟨rb, hv, hnb, hrow⟩ : ∃ rb, q1.v = .slice (some ⟨rb, 0, none⟩) q1.c q1.c ∧ rb ≠ q1.b ∧ w2.rowIs rb 3 q1.c (fun i => .int .i64 (gq i)) := by
    rcases hgq with ⟨_, h⟩ | ⟨rb, h1, h2, _, h3⟩
    · omega
    · exact ⟨rb, h1, h2, h3⟩
  have hcc : 0 < q1.c := by omega
  have hc1 := hq1.c1
  have hr2 := hq1.r2
  have hf1 : q1.f ≤ 65537 := by rcases hq1.f1 with h | h <;> omega
  have HB2 := hide' hq1.box
  have HQ1 := hide' hq1
  have HKK : Hid (q1.b = q.b ∧ q1.n = q.n ∧ q1.r = q.r ∧ q1.k = q.k ∧ q1.p = q.p ∧ q1.z = q.z) := ⟨k1, k2, k3, k4, k5, k6⟩
  have HLT := hide' hlt
  have HST2 := hide' ((HS1.out.1.mono (T := q.own) (fun _ _ h => h.elim)).trans2 hst (fun j _ e => .inl e))
  have HOWN : Hid (∀ j, q1.own j → q.own j ∨ w.heap.size ≤ j) := fun j hj => (hown j hj).imp id (fun h => Nat.le_trans HS1.out.1.size h)
  have hbb := hq1.box
  obtain ⟨b0, b1, b2, b3, b4, b5, b6, f0, f1, f2, f3, f4, f5, f6⟩ := hbb
  simp only [Qu.bx] at b0 b1 b2 b3 b4 b5 b6
  obtain ⟨m1, hm1⟩ : ∃ m, m = q1.n + 1 := ⟨_, rfl⟩
  have e7 : IntKind.i64.wrap ((q1.n : Int) + 1) = (m1 : Nat) := by rw [IntKind.wrap_i64]; omega
  have e8 : IntKind.i64.wrap ((m1 : Int) - 1) = (q1.n : Nat) := by rw [IntKind.wrap_i64]; omega
  obtain ⟨t, ht⟩ : ∃ t, t = (q1.f + q1.n) % q1.c := ⟨_, rfl⟩
  have HT := hide' ht
  have HTC : Hid (t < q1.c) := by rw [ht]; exact Nat.mod_lt _ hcc
  obtain ⟨q2, hq2⟩ : ∃ q2 : Qu, q2 = ⟨q1.b, q1.v, q1.c, q1.f, q1.n + 1, q1.r, q1.k, q1.p, q1.z⟩ := ⟨_, rfl⟩
  have HV2 : Hid (q2.v = .slice (some ⟨rb, 0, none⟩) q1.c q1.c) := by rw [hq2]; exact hv
  have HN2 : Hid (((q2.n : Nat) : Int) = (m1 : Nat)) := by show ((q2.n : Nat) : Int) = (m1 : Nat); rw [hq2, hm1]
  have HAT : Hid (∀ w, QBox w q.b q2.bx → Calls Try.prog 14 #[.pointer (some ⟨q.b, 0, none⟩), .int .i64 (q1.n : Nat)] w (Gives (.int .i64 (t : Nat)) w)) := fun w h => by
    have := at14 q2 q1.n t q1.c (some ⟨rb, 0, none⟩) w (by rw [hq2] at h ⊢; rw [k1]; exact h) (by rw [hq2]; exact hv) (by rw [hq2]; exact hcc) (by rw [hq2]; show q1.c ≤ 65537; omega) (by rw [hq2]; exact hf1) (by omega) (by rw [hq2]; exact ht)
    rw [hq2] at this
    rw [← k1]
    exact this
  have HQ2 := hide' hq2
  have HM1 := hide' hm1
  have HVV := hide' hv
  have HNB : Hid (¬ rb = q.b) := by rw [← k1]; exact hnb
  have HNR : Hid (rb ≠ q.b) := HNB.out
  have HRG0 : Hid (∃ g : Nat → Int, w2.rowIs rb 3 q1.c (fun i => .int .i64 (g i))) := ⟨gq, hrow⟩
  have t1 : (t : Int) < (q1.c : Nat) := by have := HTC.out; omega
  rw [k1] at b0 b1 b2 b3 b4 b5 b6 f0 f1 f2 f3 f4 f5 f6 HB2
  clear hge hq1 hv hnb hrow hcc hc1 hr2 hf1 hst hown hlt hm1 ht hq2 hgq k1 k2 k3 k4 k5 k6 gq
  go_upto_region 9 with fail
  generalize hW2 : World.setCell _ _ _ = W2
  have HB3 : Hid (QBox W2 q.b q2.bx) := by
    have h := HB2.out.put2 (x := (m1 : Nat)) (q := q2.bx) (by rw [HQ2.out]; unfold Qu.bx; rw [HM1.out])
    rw [hW2] at h
    exact h
  have HST3 : Hid (Stay (fun j => j = q.b) w2 W2) := by rw [← hW2]; exact (Stay.refl (fun j => j = q.b) w2).setCell (p := ⟨q.b, 2, none⟩) rfl _
  have HRD : Hid (∀ g : Nat → Int, w2.rowIs rb 3 q1.c (fun i => .int .i64 (g i)) → W2.drew.rowIs rb 3 q1.c (fun i => .int .i64 (g i))) := fun g h => (HST3.out.row h HNB.out).drew
  have HRG := HRG0
  have HSD : Hid (Stay (fun j => j = q.b) w2 W2.drew) := HST3.out.drew
  clear hW2 HB2 b0 b1 b2 b3 b4 b5 b6 f0 f1 f2 f3 f4 f5 f6 HRG0
  have hS : (fun w' => Stay (fun j => j = rb) W2 w' ∧ QBox w' q.b q2.bx) W2.drew := ⟨(Stay.refl _ _).drew, HB3.out.keep (Stay.refl _ _).drew⟩
  refine wp_region_mix (fun w' => Stay (fun j => j = rb) W2 w' ∧ QBox w' q.b q2.bx) [(0, true), (1, true), (2, true), (3, true), (4, true), (5, true), (6, true), (7, true), (8, true), (9, true), (11, true), (10, false), (12, true), (13, false)] (by kernel_rfl) (by kernel_rfl) (fun _ d _ _ _ h => by cases d <;> exact h) hS ?_
  refine mix_begin (fun K0 hK0 => ?_)
  refine mix_take hK0 (some 47) (.move (.tmp 0)) 24 _ (by kernel_rfl) (by kernel_rfl) (fun w' hS' => by (obtain ⟨_, sb⟩ := hS'; obtain ⟨b0, b1, b2, b3, b4, b5, b6, f0, f1, f2, f3, f4, f5, f6⟩ := sb; simp only [Qu.bx] at b0 b1 b2 b3 b4 b5 b6; rw [HV2.out] at b0; rw [HN2.out] at b2; simp only [opr]; go_simp; try with_reducible rfl)) (fun K1 hK1 => ?_)
  clear hK0 K0
  simp only [Act.put, List.setIfInBounds_toArray, List.set_cons_zero, List.set_cons_succ]
  refine mix_take hK1 (some 48) (.nilCheck (.tmp 47)) 0 _ (by kernel_rfl) (by kernel_rfl) (fun w' hS' => by (obtain ⟨_, sb⟩ := hS'; obtain ⟨b0, b1, b2, b3, b4, b5, b6, f0, f1, f2, f3, f4, f5, f6⟩ := sb; simp only [Qu.bx] at b0 b1 b2 b3 b4 b5 b6; rw [HV2.out] at b0; rw [HN2.out] at b2; simp only [opr]; go_simp; try with_reducible rfl)) (fun K2 hK2 => ?_)
  clear hK1 K1
  simp only [Act.put, List.setIfInBounds_toArray, List.set_cons_zero, List.set_cons_succ]
  refine mix_take hK2 (some 49) (.fieldAddr 36 (.tmp 48) 0) 0 _ (by kernel_rfl) (by kernel_rfl) (fun w' hS' => by (obtain ⟨_, sb⟩ := hS'; obtain ⟨b0, b1, b2, b3, b4, b5, b6, f0, f1, f2, f3, f4, f5, f6⟩ := sb; simp only [Qu.bx] at b0 b1 b2 b3 b4 b5 b6; rw [HV2.out] at b0; rw [HN2.out] at b2; simp only [opr]; go_simp; try with_reducible rfl)) (fun K3 hK3 => ?_)
  clear hK2 K2
  simp only [Act.put, List.setIfInBounds_toArray, List.set_cons_zero, List.set_cons_succ]
  refine mix_take hK3 (some 50) (.load 22 (.tmp 49)) 22 _ (by kernel_rfl) (by kernel_rfl) (fun w' hS' => by (obtain ⟨_, sb⟩ := hS'; obtain ⟨b0, b1, b2, b3, b4, b5, b6, f0, f1, f2, f3, f4, f5, f6⟩ := sb; simp only [Qu.bx] at b0 b1 b2 b3 b4 b5 b6; rw [HV2.out] at b0; rw [HN2.out] at b2; simp only [opr]; go_simp; try with_reducible rfl)) (fun K4 hK4 => ?_)
  clear hK3 K3
  simp only [Act.put, List.setIfInBounds_toArray, List.set_cons_zero, List.set_cons_succ]
  refine mix_take hK4 (some 51) (.move (.tmp 0)) 24 _ (by kernel_rfl) (by kernel_rfl) (fun w' hS' => by (obtain ⟨_, sb⟩ := hS'; obtain ⟨b0, b1, b2, b3, b4, b5, b6, f0, f1, f2, f3, f4, f5, f6⟩ := sb; simp only [Qu.bx] at b0 b1 b2 b3 b4 b5 b6; rw [HV2.out] at b0; rw [HN2.out] at b2; simp only [opr]; go_simp; try with_reducible rfl)) (fun K5 hK5 => ?_)
  clear hK4 K4
  simp only [Act.put, List.setIfInBounds_toArray, List.set_cons_zero, List.set_cons_succ]
  refine mix_take hK5 (some 52) (.move (.tmp 0)) 24 _ (by kernel_rfl) (by kernel_rfl) (fun w' hS' => by (obtain ⟨_, sb⟩ := hS'; obtain ⟨b0, b1, b2, b3, b4, b5, b6, f0, f1, f2, f3, f4, f5, f6⟩ := sb; simp only [Qu.bx] at b0 b1 b2 b3 b4 b5 b6; rw [HV2.out] at b0; rw [HN2.out] at b2; simp only [opr]; go_simp; try with_reducible rfl)) (fun K6 hK6 => ?_)
  clear hK5 K5
  simp only [Act.put, List.setIfInBounds_toArray, List.set_cons_zero, List.set_cons_succ]
  refine mix_take hK6 (some 53) (.nilCheck (.tmp 52)) 0 _ (by kernel_rfl) (by kernel_rfl) (fun w' hS' => by (obtain ⟨_, sb⟩ := hS'; obtain ⟨b0, b1, b2, b3, b4, b5, b6, f0, f1, f2, f3, f4, f5, f6⟩ := sb; simp only [Qu.bx] at b0 b1 b2 b3 b4 b5 b6; rw [HV2.out] at b0; rw [HN2.out] at b2; simp only [opr]; go_simp; try with_reducible rfl)) (fun K7 hK7 => ?_)
  clear hK6 K6
  simp only [Act.put, List.setIfInBounds_toArray, List.set_cons_zero, List.set_cons_succ]
  refine mix_take hK7 (some 54) (.fieldAddr 36 (.tmp 53) 2) 0 _ (by kernel_rfl) (by kernel_rfl) (fun w' hS' => by (obtain ⟨_, sb⟩ := hS'; obtain ⟨b0, b1, b2, b3, b4, b5, b6, f0, f1, f2, f3, f4, f5, f6⟩ := sb; simp only [Qu.bx] at b0 b1 b2 b3 b4 b5 b6; rw [HV2.out] at b0; rw [HN2.out] at b2; simp only [opr]; go_simp; try with_reducible rfl)) (fun K8 hK8 => ?_)
  clear hK7 K7
  simp only [Act.put, List.setIfInBounds_toArray, List.set_cons_zero, List.set_cons_succ]
  refine mix_take hK8 (some 55) (.load 3 (.tmp 54)) 3 _ (by kernel_rfl) (by kernel_rfl) (fun w' hS' => by (obtain ⟨_, sb⟩ := hS'; obtain ⟨b0, b1, b2, b3, b4, b5, b6, f0, f1, f2, f3, f4, f5, f6⟩ := sb; simp only [Qu.bx] at b0 b1 b2 b3 b4 b5 b6; rw [HV2.out] at b0; rw [HN2.out] at b2; simp only [opr]; go_simp; try with_reducible rfl)) (fun K9 hK9 => ?_)
  clear hK8 K8
  simp only [Act.put, List.setIfInBounds_toArray, List.set_cons_zero, List.set_cons_succ]
  refine mix_take hK9 (some 56) (.binOp BinOp.sub 3 (.tmp 55) (.const (Value.int IntKind.i64 1)) 3) 3 _ (by kernel_rfl) (by kernel_rfl) (fun w' hS' => by (obtain ⟨_, sb⟩ := hS'; obtain ⟨b0, b1, b2, b3, b4, b5, b6, f0, f1, f2, f3, f4, f5, f6⟩ := sb; simp only [Qu.bx] at b0 b1 b2 b3 b4 b5 b6; rw [HV2.out] at b0; rw [HN2.out] at b2; simp only [opr]; go_simp; try with_reducible rfl)) (fun K10 hK10 => ?_)
  clear hK9 K9
  simp only [Act.put, List.setIfInBounds_toArray, List.set_cons_zero, List.set_cons_succ]
  refine mix_take hK10 (some 58) (.move (.tmp 1)) 3 _ (by kernel_rfl) (by kernel_rfl) (fun w' hS' => by (obtain ⟨_, sb⟩ := hS'; obtain ⟨b0, b1, b2, b3, b4, b5, b6, f0, f1, f2, f3, f4, f5, f6⟩ := sb; simp only [Qu.bx] at b0 b1 b2 b3 b4 b5 b6; rw [HV2.out] at b0; rw [HN2.out] at b2; simp only [opr]; go_simp; try with_reducible rfl)) (fun K11 hK11 => ?_)
  clear hK10 K10
  simp only [Act.put, List.setIfInBounds_toArray, List.set_cons_zero, List.set_cons_succ]
  refine mix_call hK11 (some 57) 14 #[.tmp 51, .tmp 56] #[24, 3] 3 _ (by kernel_rfl) (by kernel_rfl) (enters Try.func14 (by kernel_rfl) (by kernel_rfl)) (by go_simp; try with_reducible rfl) (fun K12 hK12 => ?_)
  clear hK11 K11
  refine (HAT.out _ hS.2).mono ?_
  rintro e wn1 ⟨rfl, ht1⟩
  have hT1 : _ := (show (fun w' => Stay (fun j => j = rb) W2 w' ∧ QBox w' q.b q2.bx) wn1 from ⟨hS.1.trans (ht1.mono (fun _ _ h => h.elim)), hS.2.keep ht1⟩)
  refine ⟨_, rfl, hT1, ?_⟩
  have HR1 := hide' (fun g h => ht1.row (HRD.out g h) (fun h => h))
  have HST1 := hide' (HSD.out.trans (ht1.mono (fun _ _ h => h.elim)))
  clear ht1
  simp only [Act.put, List.setIfInBounds_toArray, List.set_cons_zero, List.set_cons_succ]
  refine mix_take hK12 (some 59) (.indexAddr 22 (.tmp 50) (.tmp 57)) 0 _ (by kernel_rfl) (by kernel_rfl) (fun w' hS' => by (obtain ⟨_, sb⟩ := hS'; obtain ⟨b0, b1, b2, b3, b4, b5, b6, f0, f1, f2, f3, f4, f5, f6⟩ := sb; simp only [Qu.bx] at b0 b1 b2 b3 b4 b5 b6; rw [HV2.out] at b0; rw [HN2.out] at b2; simp only [opr]; go_simp; try with_reducible rfl)) (fun K13 hK13 => ?_)
  clear hK12 K12
  simp only [Act.put, List.setIfInBounds_toArray, List.set_cons_zero, List.set_cons_succ]
  refine mix_chain hK13 (fun K13c hK13c => ?_)
  clear hK13 K13
  refine op_plain none (.store 3 (.tmp 59) (.tmp 58)) 0 (by kernel_rfl) (by kernel_rfl) ?_
  obtain ⟨gq, hgq⟩ := HRG.out
  have hce := (HR1.out gq hgq).cell HTC.out
  have hfr := (HR1.out gq hgq).frozen t
  go_wp2
  have hSf : (fun w' => Stay (fun j => j = rb) W2 w' ∧ QBox w' q.b q2.bx) (wn1.setCell ⟨rb, t, none⟩ (.int .i64 x)) := ⟨hT1.1.setCell (p := ⟨rb, t, none⟩) rfl _, hT1.2.other HNR.out⟩
  refine hK13c _ _ hSf (mix_begin fun K14 hK14 => ?_)
  clear hK13c K13c
  try simp only [Act.put, List.setIfInBounds_toArray, List.set_cons_zero, List.set_cons_succ]
  refine hK14 _ _ (mix_nil ?_)
  clear hK14 K14
  obtain ⟨W4, hW4⟩ : ∃ W, W = wn1.setCell ⟨rb, t, none⟩ (.int .i64 x) := ⟨_, rfl⟩
  rw [← hW4] at hSf
  try rw [← hW4]
  have HR4 : Hid (∀ g : Nat → Int, w2.rowIs rb 3 q1.c (fun i => .int .i64 (g i)) → W4.rowIs rb 3 q1.c (fun i => if i = t then .int .i64 x else .int .i64 (g i))) := fun g h => by rw [hW4]; exact (HR1.out g h).set t _
  have HB4 := hide' hSf.2
  have HST4 : Hid (Stay (fun j => j = q.b ∨ j = rb) w2 W4) := by
    rw [hW4]
    exact (HST1.out.mono (fun _ _ h => .inl h)).setCell (p := ⟨rb, t, none⟩) (.inr rfl) _
  have HRO : Hid (q.own rb ∨ w.heap.size ≤ rb) := HOWN.out rb (.inr (by rw [HVV.out]; rfl))
  clear hSf hT1 hS hW4 HR1 HST1 HSD HRD HB3 HST3 hgq hce hfr HAT
  obtain ⟨b0, b1, b2, b3, b4, b5, b6, f0, f1, f2, f3, f4, f5, f6⟩ := HB4.out
  simp only [Qu.bx] at b0 b1 b2 b3 b4 b5 b6
  rw [HN2.out] at b2
  go_wp2
  go_returns
  have hb4 := HB4.out
  have hst := HST4.out
  have hrr := HR4.out
  obtain ⟨k1, k2, k3, k4, k5, k6⟩ := HKK.out
  have hm1 := HM1.out
  have hnr := HNR0.out
  rw [HQ2.out] at hb4
  rw [HT.out] at hrr
  have hmore := HQ1.out.more (x := x) (p := q1.p) HVV.out HLT.out (by rw [k1]; exact hst) (by rw [k1]; exact hb4) hrr (by have := HQ1.out.p1; omega) (by rw [k2, k3, k5]; exact hnr.2)
  have hfin : Stay q.own w W4 := HST2.out.trans2 hst (fun j hj e => by
    rcases e with rfl | rfl
    · exact .inl rfl
    · exact HRO.out.resolve_right (by omega))
  exact ⟨_, _, by rw [HOK.out]; rfl, hmore, ⟨k1, k3, k4⟩, hfin, fun j hj => HOWN.out j hj, .inl ⟨HOK.out, rfl, by show q1.n + 1 = q.n + 1; rw [k2], k6, by rw [if_pos HC.out]; exact k5⟩⟩

theorem put7_b (q : Qu) (L : List Int) (x : Int) (w : World) (hq : QAt w q L) (_hz : q.z < 1000000) (hc : ¬ q.cnt < q.r) (hx : x = q.k) (hp : q.p = 0) : Calls Try.prog 7 #[.pointer (some ⟨q.b, 0, none⟩), .int .i64 x] w (PutOf q L x w) := by
  have h1 := hq.n1
  have h2 := hq.c1
  have h3 := hq.r2
  have h4 := hq.m1
  have h5 := hq.p1
  have HOK : Hid (q.okB x = true) := by show q.okB x = true; unfold Qu.okB; rw [decide_eq_true hx, decide_eq_true hp]; simp
  obtain ⟨m, hm⟩ : ∃ m, m = q.cnt := ⟨_, rfl⟩
  have HCN := hide' (fun w h => counted12 q m w h h5 hm (by omega))
  have HC : Hid (¬ q.cnt < q.r) := hc
  have HNR0 : Hid (q.n ≤ q.r ∧ (q.n + 1 ≤ q.r ∨ (0 < q.n + 1 ∧ q.n + 1 = q.r + 1))) := by
    have hc' := hc
    unfold Qu.cnt at hc'
    rw [if_neg (by omega)] at hc'
    exact ⟨by omega, .inr ⟨by omega, by omega⟩⟩
  have hr0 := hm
  have d1 : decide (q.r ≤ m) = true := by simp; omega
  have d2 : ((q.r : Nat) : Int) ≤ (m : Nat) := by omega
  have i4 : ¬ (0 : Int) < (q.p : Nat) := by omega
  have d4 : decide (0 < q.p) = false := by simp; omega
  subst hx
  have HQ := hide' hq
  have hS : (fun w' => Stay (fun _ => False) w w' ∧ QBox w' q.b q.bx) w.drew := ⟨(Stay.refl _ _).drew, hq.box.keep (Stay.refl _ _).drew⟩
  clear hr0 hm _hz hq h1 h2 h3 h4 h5 hc hp
  go_enter Try.func7, Try.ntmps7
  go_upto_region 3 with fail
  refine wp_region_mix (fun w' => Stay (fun _ => False) w w' ∧ QBox w' q.b q.bx) [(0, true), (2, true), (3, true), (4, true), (5, true), (1, false), (6, true), (7, true)] (by kernel_rfl) (by kernel_rfl) (fun _ d _ _ _ h => by cases d <;> exact h) hS ?_
  refine mix_begin (fun K0 hK0 => ?_)
  refine mix_take hK0 (some 8) (.move (.tmp 0)) 24 _ (by kernel_rfl) (by kernel_rfl) (fun w' hS' => by (obtain ⟨_, sb⟩ := hS'; obtain ⟨b0, b1, b2, b3, b4, b5, b6, f0, f1, f2, f3, f4, f5, f6⟩ := sb; simp only [Qu.bx] at b0 b1 b2 b3 b4 b5 b6; simp only [opr]; go_simp; try with_reducible rfl)) (fun K1 hK1 => ?_)
  clear hK0 K0
  simp only [Act.put, List.setIfInBounds_toArray, List.set_cons_zero, List.set_cons_succ]
  refine mix_take hK1 (some 10) (.move (.tmp 0)) 24 _ (by kernel_rfl) (by kernel_rfl) (fun w' hS' => by (obtain ⟨_, sb⟩ := hS'; obtain ⟨b0, b1, b2, b3, b4, b5, b6, f0, f1, f2, f3, f4, f5, f6⟩ := sb; simp only [Qu.bx] at b0 b1 b2 b3 b4 b5 b6; simp only [opr]; go_simp; try with_reducible rfl)) (fun K2 hK2 => ?_)
  clear hK1 K1
  simp only [Act.put, List.setIfInBounds_toArray, List.set_cons_zero, List.set_cons_succ]
  refine mix_take hK2 (some 11) (.nilCheck (.tmp 10)) 0 _ (by kernel_rfl) (by kernel_rfl) (fun w' hS' => by (obtain ⟨_, sb⟩ := hS'; obtain ⟨b0, b1, b2, b3, b4, b5, b6, f0, f1, f2, f3, f4, f5, f6⟩ := sb; simp only [Qu.bx] at b0 b1 b2 b3 b4 b5 b6; simp only [opr]; go_simp; try with_reducible rfl)) (fun K3 hK3 => ?_)
  clear hK2 K2
  simp only [Act.put, List.setIfInBounds_toArray, List.set_cons_zero, List.set_cons_succ]
  refine mix_take hK3 (some 12) (.fieldAddr 36 (.tmp 11) 3) 0 _ (by kernel_rfl) (by kernel_rfl) (fun w' hS' => by (obtain ⟨_, sb⟩ := hS'; obtain ⟨b0, b1, b2, b3, b4, b5, b6, f0, f1, f2, f3, f4, f5, f6⟩ := sb; simp only [Qu.bx] at b0 b1 b2 b3 b4 b5 b6; simp only [opr]; go_simp; try with_reducible rfl)) (fun K4 hK4 => ?_)
  clear hK3 K3
  simp only [Act.put, List.setIfInBounds_toArray, List.set_cons_zero, List.set_cons_succ]
  refine mix_take hK4 (some 13) (.load 3 (.tmp 12)) 3 _ (by kernel_rfl) (by kernel_rfl) (fun w' hS' => by (obtain ⟨_, sb⟩ := hS'; obtain ⟨b0, b1, b2, b3, b4, b5, b6, f0, f1, f2, f3, f4, f5, f6⟩ := sb; simp only [Qu.bx] at b0 b1 b2 b3 b4 b5 b6; simp only [opr]; go_simp; try with_reducible rfl)) (fun K5 hK5 => ?_)
  clear hK4 K4
  simp only [Act.put, List.setIfInBounds_toArray, List.set_cons_zero, List.set_cons_succ]
  refine mix_call hK5 (some 9) 12 #[.tmp 8] #[24] 3 _ (by kernel_rfl) (by kernel_rfl) (enters Try.func12 (by kernel_rfl) (by kernel_rfl)) (by go_simp; try with_reducible rfl) (fun K6 hK6 => ?_)
  clear hK5 K5
  refine (HCN.out _ hS.2).mono ?_
  rintro e wm1 ⟨rfl, hs1⟩
  have hS1 : _ := (show (fun w' => Stay (fun _ => False) w w' ∧ QBox w' q.b q.bx) wm1 from ⟨hS.1.trans hs1, hS.2.keep hs1⟩)
  refine ⟨_, rfl, hS1, ?_⟩
  clear hs1
  simp only [Act.put, List.setIfInBounds_toArray, List.set_cons_zero, List.set_cons_succ]
  refine mix_take hK6 (some 14) (.binOp BinOp.geq 3 (.tmp 9) (.tmp 13) 3) 4 _ (by kernel_rfl) (by kernel_rfl) (fun w' hS' => by (obtain ⟨_, sb⟩ := hS'; obtain ⟨b0, b1, b2, b3, b4, b5, b6, f0, f1, f2, f3, f4, f5, f6⟩ := sb; simp only [Qu.bx] at b0 b1 b2 b3 b4 b5 b6; simp only [opr]; go_simp; try with_reducible rfl)) (fun K7 hK7 => ?_)
  clear hK6 K6
  simp only [Act.put, List.setIfInBounds_toArray, List.set_cons_zero, List.set_cons_succ]
  refine mix_take hK7 (some 5) (.assign (.tmp 14)) 4 _ (by kernel_rfl) (by kernel_rfl) (fun w' hS' => by (obtain ⟨_, sb⟩ := hS'; obtain ⟨b0, b1, b2, b3, b4, b5, b6, f0, f1, f2, f3, f4, f5, f6⟩ := sb; simp only [Qu.bx] at b0 b1 b2 b3 b4 b5 b6; simp only [opr]; go_simp; try with_reducible rfl)) (fun K8 hK8 => ?_)
  clear hK7 K7
  simp only [Act.put, List.setIfInBounds_toArray, List.set_cons_zero, List.set_cons_succ]
  refine hK8 _ _ (mix_nil ?_)
  clear hK8 K8
  have HS1 := hide' hS1
  clear hS1 hS HCN
  obtain ⟨b0, b1, b2, b3, b4, b5, b6, f0, f1, f2, f3, f4, f5, f6⟩ := HS1.out.2
  simp only [Qu.bx] at b0 b1 b2 b3 b4 b5 b6
  have HG := hide' (grow13 q L wm1 (HQ.out.keep HS1.out.1) HNR0.out.1)
  go_wp2_with fail
  refine (HG.out).mono ?_
  clear HG b0 b1 b2 b3 b4 b5 b6 f0 f1 f2 f3 f4 f5 f6
  rintro e w2 ⟨q1, rfl, hq1, ⟨k1, k2, k3, k4, k5, k6⟩, hlt, hst, hown⟩
  obtain ⟨gq, hgq, hge⟩ := hq1.ring
  obtain ⟨rb, hv, hnb, hrow⟩ : ∃ rb, q1.v = .slice (some ⟨rb, 0, none⟩) q1.c q1.c ∧ rb ≠ q1.b ∧ w2.rowIs rb 3 q1.c (fun i => .int .i64 (gq i)) := by
    rcases hgq with ⟨_, h⟩ | ⟨rb, h1, h2, _, h3⟩
    · omega
    · exact ⟨rb, h1, h2, h3⟩
  have hcc : 0 < q1.c := by omega
  have hc1 := hq1.c1
  have hr2 := hq1.r2
  have hf1 : q1.f ≤ 65537 := by rcases hq1.f1 with h | h <;> omega
  have HB2 := hide' hq1.box
  have HQ1 := hide' hq1
  have HKK : Hid (q1.b = q.b ∧ q1.n = q.n ∧ q1.r = q.r ∧ q1.k = q.k ∧ q1.p = q.p ∧ q1.z = q.z) := ⟨k1, k2, k3, k4, k5, k6⟩
  have HLT := hide' hlt
  have HST2 := hide' ((HS1.out.1.mono (T := q.own) (fun _ _ h => h.elim)).trans2 hst (fun j _ e => .inl e))
  have HOWN : Hid (∀ j, q1.own j → q.own j ∨ w.heap.size ≤ j) := fun j hj => (hown j hj).imp id (fun h => Nat.le_trans HS1.out.1.size h)
  have hbb := hq1.box
  obtain ⟨b0, b1, b2, b3, b4, b5, b6, f0, f1, f2, f3, f4, f5, f6⟩ := hbb
  simp only [Qu.bx] at b0 b1 b2 b3 b4 b5 b6
  obtain ⟨m1, hm1⟩ : ∃ m, m = q1.n + 1 := ⟨_, rfl⟩
  have e7 : IntKind.i64.wrap ((q1.n : Int) + 1) = (m1 : Nat) := by rw [IntKind.wrap_i64]; omega
  have e8 : IntKind.i64.wrap ((m1 : Int) - 1) = (q1.n : Nat) := by rw [IntKind.wrap_i64]; omega
  obtain ⟨t, ht⟩ : ∃ t, t = (q1.f + q1.n) % q1.c := ⟨_, rfl⟩
  have HT := hide' ht
  have HTC : Hid (t < q1.c) := by rw [ht]; exact Nat.mod_lt _ hcc
  obtain ⟨q2, hq2⟩ : ∃ q2 : Qu, q2 = ⟨q1.b, q1.v, q1.c, q1.f, q1.n + 1, q1.r, q1.k, q1.p, q1.z⟩ := ⟨_, rfl⟩
  have HV2 : Hid (q2.v = .slice (some ⟨rb, 0, none⟩) q1.c q1.c) := by rw [hq2]; exact hv
  have HN2 : Hid (((q2.n : Nat) : Int) = (m1 : Nat)) := by show ((q2.n : Nat) : Int) = (m1 : Nat); rw [hq2, hm1]
  have HAT : Hid (∀ w, QBox w q.b q2.bx → Calls Try.prog 14 #[.pointer (some ⟨q.b, 0, none⟩), .int .i64 (q1.n : Nat)] w (Gives (.int .i64 (t : Nat)) w)) := fun w h => by
    have := at14 q2 q1.n t q1.c (some ⟨rb, 0, none⟩) w (by rw [hq2] at h ⊢; rw [k1]; exact h) (by rw [hq2]; exact hv) (by rw [hq2]; exact hcc) (by rw [hq2]; show q1.c ≤ 65537; omega) (by rw [hq2]; exact hf1) (by omega) (by rw [hq2]; exact ht)
    rw [hq2] at this
    rw [← k1]
    exact this
  have HQ2 := hide' hq2
  have HM1 := hide' hm1
  have HVV := hide' hv
  have HNB : Hid (¬ rb = q.b) := by rw [← k1]; exact hnb
  have HNR : Hid (rb ≠ q.b) := HNB.out
  have HRG0 : Hid (∃ g : Nat → Int, w2.rowIs rb 3 q1.c (fun i => .int .i64 (g i))) := ⟨gq, hrow⟩
  have t1 : (t : Int) < (q1.c : Nat) := by have := HTC.out; omega
  rw [k1] at b0 b1 b2 b3 b4 b5 b6 f0 f1 f2 f3 f4 f5 f6 HB2
  clear hge hq1 hv hnb hrow hcc hc1 hr2 hf1 hst hown hlt hm1 ht hq2 hgq k1 k2 k3 k4 k5 k6 gq
  go_upto_region 9 with fail
  generalize hW2 : World.setCell _ _ _ = W2
  have HB3 : Hid (QBox W2 q.b q2.bx) := by
    have h := HB2.out.put2 (x := (m1 : Nat)) (q := q2.bx) (by rw [HQ2.out]; unfold Qu.bx; rw [HM1.out])
    rw [hW2] at h
    exact h
  have HST3 : Hid (Stay (fun j => j = q.b) w2 W2) := by rw [← hW2]; exact (Stay.refl (fun j => j = q.b) w2).setCell (p := ⟨q.b, 2, none⟩) rfl _
  have HRD : Hid (∀ g : Nat → Int, w2.rowIs rb 3 q1.c (fun i => .int .i64 (g i)) → W2.drew.rowIs rb 3 q1.c (fun i => .int .i64 (g i))) := fun g h => (HST3.out.row h HNB.out).drew
  have HRG := HRG0
  have HSD : Hid (Stay (fun j => j = q.b) w2 W2.drew) := HST3.out.drew
  clear hW2 HB2 b0 b1 b2 b3 b4 b5 b6 f0 f1 f2 f3 f4 f5 f6 HRG0
  have hS : (fun w' => Stay (fun j => j = rb) W2 w' ∧ QBox w' q.b q2.bx) W2.drew := ⟨(Stay.refl _ _).drew, HB3.out.keep (Stay.refl _ _).drew⟩
  refine wp_region_mix (fun w' => Stay (fun j => j = rb) W2 w' ∧ QBox w' q.b q2.bx) [(0, true), (1, true), (2, true), (3, true), (4, true), (5, true), (6, true), (7, true), (8, true), (9, true), (11, true), (10, false), (12, true), (13, false)] (by kernel_rfl) (by kernel_rfl) (fun _ d _ _ _ h => by cases d <;> exact h) hS ?_
  refine mix_begin (fun K0 hK0 => ?_)
  refine mix_take hK0 (some 47) (.move (.tmp 0)) 24 _ (by kernel_rfl) (by kernel_rfl) (fun w' hS' => by (obtain ⟨_, sb⟩ := hS'; obtain ⟨b0, b1, b2, b3, b4, b5, b6, f0, f1, f2, f3, f4, f5, f6⟩ := sb; simp only [Qu.bx] at b0 b1 b2 b3 b4 b5 b6; rw [HV2.out] at b0; rw [HN2.out] at b2; simp only [opr]; go_simp; try with_reducible rfl)) (fun K1 hK1 => ?_)
  clear hK0 K0
  simp only [Act.put, List.setIfInBounds_toArray, List.set_cons_zero, List.set_cons_succ]
  refine mix_take hK1 (some 48) (.nilCheck (.tmp 47)) 0 _ (by kernel_rfl) (by kernel_rfl) (fun w' hS' => by (obtain ⟨_, sb⟩ := hS'; obtain ⟨b0, b1, b2, b3, b4, b5, b6, f0, f1, f2, f3, f4, f5, f6⟩ := sb; simp only [Qu.bx] at b0 b1 b2 b3 b4 b5 b6; rw [HV2.out] at b0; rw [HN2.out] at b2; simp only [opr]; go_simp; try with_reducible rfl)) (fun K2 hK2 => ?_)
  clear hK1 K1
  simp only [Act.put, List.setIfInBounds_toArray, List.set_cons_zero, List.set_cons_succ]
  refine mix_take hK2 (some 49) (.fieldAddr 36 (.tmp 48) 0) 0 _ (by kernel_rfl) (by kernel_rfl) (fun w' hS' => by (obtain ⟨_, sb⟩ := hS'; obtain ⟨b0, b1, b2, b3, b4, b5, b6, f0, f1, f2, f3, f4, f5, f6⟩ := sb; simp only [Qu.bx] at b0 b1 b2 b3 b4 b5 b6; rw [HV2.out] at b0; rw [HN2.out] at b2; simp only [opr]; go_simp; try with_reducible rfl)) (fun K3 hK3 => ?_)
  clear hK2 K2
  simp only [Act.put, List.setIfInBounds_toArray, List.set_cons_zero, List.set_cons_succ]
  refine mix_take hK3 (some 50) (.load 22 (.tmp 49)) 22 _ (by kernel_rfl) (by kernel_rfl) (fun w' hS' => by (obtain ⟨_, sb⟩ := hS'; obtain ⟨b0, b1, b2, b3, b4, b5, b6, f0, f1, f2, f3, f4, f5, f6⟩ := sb; simp only [Qu.bx] at b0 b1 b2 b3 b4 b5 b6; rw [HV2.out] at b0; rw [HN2.out] at b2; simp only [opr]; go_simp; try with_reducible rfl)) (fun K4 hK4 => ?_)
  clear hK3 K3
  simp only [Act.put, List.setIfInBounds_toArray, List.set_cons_zero, List.set_cons_succ]
  refine mix_take hK4 (some 51) (.move (.tmp 0)) 24 _ (by kernel_rfl) (by kernel_rfl) (fun w' hS' => by (obtain ⟨_, sb⟩ := hS'; obtain ⟨b0, b1, b2, b3, b4, b5, b6, f0, f1, f2, f3, f4, f5, f6⟩ := sb; simp only [Qu.bx] at b0 b1 b2 b3 b4 b5 b6; rw [HV2.out] at b0; rw [HN2.out] at b2; simp only [opr]; go_simp; try with_reducible rfl)) (fun K5 hK5 => ?_)
  clear hK4 K4
  simp only [Act.put, List.setIfInBounds_toArray, List.set_cons_zero, List.set_cons_succ]
  refine mix_take hK5 (some 52) (.move (.tmp 0)) 24 _ (by kernel_rfl) (by kernel_rfl) (fun w' hS' => by (obtain ⟨_, sb⟩ := hS'; obtain ⟨b0, b1, b2, b3, b4, b5, b6, f0, f1, f2, f3, f4, f5, f6⟩ := sb; simp only [Qu.bx] at b0 b1 b2 b3 b4 b5 b6; rw [HV2.out] at b0; rw [HN2.out] at b2; simp only [opr]; go_simp; try with_reducible rfl)) (fun K6 hK6 => ?_)
  clear hK5 K5
  simp only [Act.put, List.setIfInBounds_toArray, List.set_cons_zero, List.set_cons_succ]
  refine mix_take hK6 (some 53) (.nilCheck (.tmp 52)) 0 _ (by kernel_rfl) (by kernel_rfl) (fun w' hS' => by (obtain ⟨_, sb⟩ := hS'; obtain ⟨b0, b1, b2, b3, b4, b5, b6, f0, f1, f2, f3, f4, f5, f6⟩ := sb; simp only [Qu.bx] at b0 b1 b2 b3 b4 b5 b6; rw [HV2.out] at b0; rw [HN2.out] at b2; simp only [opr]; go_simp; try with_reducible rfl)) (fun K7 hK7 => ?_)
  clear hK6 K6
  simp only [Act.put, List.setIfInBounds_toArray, List.set_cons_zero, List.set_cons_succ]
  refine mix_take hK7 (some 54) (.fieldAddr 36 (.tmp 53) 2) 0 _ (by kernel_rfl) (by kernel_rfl) (fun w' hS' => by (obtain ⟨_, sb⟩ := hS'; obtain ⟨b0, b1, b2, b3, b4, b5, b6, f0, f1, f2, f3, f4, f5, f6⟩ := sb; simp only [Qu.bx] at b0 b1 b2 b3 b4 b5 b6; rw [HV2.out] at b0; rw [HN2.out] at b2; simp only [opr]; go_simp; try with_reducible rfl)) (fun K8 hK8 => ?_)
  clear hK7 K7
  simp only [Act.put, List.setIfInBounds_toArray, List.set_cons_zero, List.set_cons_succ]
  refine mix_take hK8 (some 55) (.load 3 (.tmp 54)) 3 _ (by kernel_rfl) (by kernel_rfl) (fun w' hS' => by (obtain ⟨_, sb⟩ := hS'; obtain ⟨b0, b1, b2, b3, b4, b5, b6, f0, f1, f2, f3, f4, f5, f6⟩ := sb; simp only [Qu.bx] at b0 b1 b2 b3 b4 b5 b6; rw [HV2.out] at b0; rw [HN2.out] at b2; simp only [opr]; go_simp; try with_reducible rfl)) (fun K9 hK9 => ?_)
  clear hK8 K8
  simp only [Act.put, List.setIfInBounds_toArray, List.set_cons_zero, List.set_cons_succ]
  refine mix_take hK9 (some 56) (.binOp BinOp.sub 3 (.tmp 55) (.const (Value.int IntKind.i64 1)) 3) 3 _ (by kernel_rfl) (by kernel_rfl) (fun w' hS' => by (obtain ⟨_, sb⟩ := hS'; obtain ⟨b0, b1, b2, b3, b4, b5, b6, f0, f1, f2, f3, f4, f5, f6⟩ := sb; simp only [Qu.bx] at b0 b1 b2 b3 b4 b5 b6; rw [HV2.out] at b0; rw [HN2.out] at b2; simp only [opr]; go_simp; try with_reducible rfl)) (fun K10 hK10 => ?_)
  clear hK9 K9
  simp only [Act.put, List.setIfInBounds_toArray, List.set_cons_zero, List.set_cons_succ]
  refine mix_take hK10 (some 58) (.move (.tmp 1)) 3 _ (by kernel_rfl) (by kernel_rfl) (fun w' hS' => by (obtain ⟨_, sb⟩ := hS'; obtain ⟨b0, b1, b2, b3, b4, b5, b6, f0, f1, f2, f3, f4, f5, f6⟩ := sb; simp only [Qu.bx] at b0 b1 b2 b3 b4 b5 b6; rw [HV2.out] at b0; rw [HN2.out] at b2; simp only [opr]; go_simp; try with_reducible rfl)) (fun K11 hK11 => ?_)
  clear hK10 K10
  simp only [Act.put, List.setIfInBounds_toArray, List.set_cons_zero, List.set_cons_succ]
  refine mix_call hK11 (some 57) 14 #[.tmp 51, .tmp 56] #[24, 3] 3 _ (by kernel_rfl) (by kernel_rfl) (enters Try.func14 (by kernel_rfl) (by kernel_rfl)) (by go_simp; try with_reducible rfl) (fun K12 hK12 => ?_)
  clear hK11 K11
  refine (HAT.out _ hS.2).mono ?_
  rintro e wn1 ⟨rfl, ht1⟩
  have hT1 : _ := (show (fun w' => Stay (fun j => j = rb) W2 w' ∧ QBox w' q.b q2.bx) wn1 from ⟨hS.1.trans (ht1.mono (fun _ _ h => h.elim)), hS.2.keep ht1⟩)
  refine ⟨_, rfl, hT1, ?_⟩
  have HR1 := hide' (fun g h => ht1.row (HRD.out g h) (fun h => h))
  have HST1 := hide' (HSD.out.trans (ht1.mono (fun _ _ h => h.elim)))
  clear ht1
  simp only [Act.put, List.setIfInBounds_toArray, List.set_cons_zero, List.set_cons_succ]
  refine mix_take hK12 (some 59) (.indexAddr 22 (.tmp 50) (.tmp 57)) 0 _ (by kernel_rfl) (by kernel_rfl) (fun w' hS' => by (obtain ⟨_, sb⟩ := hS'; obtain ⟨b0, b1, b2, b3, b4, b5, b6, f0, f1, f2, f3, f4, f5, f6⟩ := sb; simp only [Qu.bx] at b0 b1 b2 b3 b4 b5 b6; rw [HV2.out] at b0; rw [HN2.out] at b2; simp only [opr]; go_simp; try with_reducible rfl)) (fun K13 hK13 => ?_)
  clear hK12 K12
  simp only [Act.put, List.setIfInBounds_toArray, List.set_cons_zero, List.set_cons_succ]
  refine mix_chain hK13 (fun K13c hK13c => ?_)
  clear hK13 K13
  refine op_plain none (.store 3 (.tmp 59) (.tmp 58)) 0 (by kernel_rfl) (by kernel_rfl) ?_
  obtain ⟨gq, hgq⟩ := HRG.out
  have hce := (HR1.out gq hgq).cell HTC.out
  have hfr := (HR1.out gq hgq).frozen t
  go_wp2
  have hSf : (fun w' => Stay (fun j => j = rb) W2 w' ∧ QBox w' q.b q2.bx) (wn1.setCell ⟨rb, t, none⟩ (.int .i64 q.k)) := ⟨hT1.1.setCell (p := ⟨rb, t, none⟩) rfl _, hT1.2.other HNR.out⟩
  refine hK13c _ _ hSf (mix_begin fun K14 hK14 => ?_)
  clear hK13c K13c
  try simp only [Act.put, List.setIfInBounds_toArray, List.set_cons_zero, List.set_cons_succ]
  refine hK14 _ _ (mix_nil ?_)
  clear hK14 K14
  obtain ⟨W4, hW4⟩ : ∃ W, W = wn1.setCell ⟨rb, t, none⟩ (.int .i64 q.k) := ⟨_, rfl⟩
  rw [← hW4] at hSf
  try rw [← hW4]
  have HR4 : Hid (∀ g : Nat → Int, w2.rowIs rb 3 q1.c (fun i => .int .i64 (g i)) → W4.rowIs rb 3 q1.c (fun i => if i = t then .int .i64 q.k else .int .i64 (g i))) := fun g h => by rw [hW4]; exact (HR1.out g h).set t _
  have HB4 := hide' hSf.2
  have HST4 : Hid (Stay (fun j => j = q.b ∨ j = rb) w2 W4) := by
    rw [hW4]
    exact (HST1.out.mono (fun _ _ h => .inl h)).setCell (p := ⟨rb, t, none⟩) (.inr rfl) _
  have HRO : Hid (q.own rb ∨ w.heap.size ≤ rb) := HOWN.out rb (.inr (by rw [HVV.out]; rfl))
  clear hSf hT1 hS hW4 HR1 HST1 HSD HRD HB3 HST3 hgq hce hfr HAT
  obtain ⟨b0, b1, b2, b3, b4, b5, b6, f0, f1, f2, f3, f4, f5, f6⟩ := HB4.out
  simp only [Qu.bx] at b0 b1 b2 b3 b4 b5 b6
  rw [HN2.out] at b2
  go_wp2
  go_returns
  generalize hW5 : World.setCell _ _ _ = W5
  have hb5 := HB4.out.put5 (x := (m1 : Nat)) (q := ⟨q2.v, (q2.f : Nat), (q2.n : Nat), (q2.r : Nat), q2.k, (m1 : Nat), (q2.z : Nat)⟩) rfl
  rw [hW5] at hb5
  have hst5 : Stay (fun j => j = q.b) W4 W5 := by rw [← hW5]; exact (Stay.refl (fun j => j = q.b) W4).setCell (p := ⟨q.b, 5, none⟩) rfl _
  have hst := HST4.out.trans2 hst5 (fun j _ e => .inl e)
  have hrr : ∀ g : Nat → Int, w2.rowIs rb 3 q1.c (fun i => .int .i64 (g i)) → W5.rowIs rb 3 q1.c (fun i => if i = t then .int .i64 q.k else .int .i64 (g i)) := fun g h => hst5.row (HR4.out g h) HNB.out
  obtain ⟨k1, k2, k3, k4, k5, k6⟩ := HKK.out
  have hm1 := HM1.out
  have hnr := HNR0.out
  rw [HQ2.out] at hb5
  rw [HT.out] at hrr
  have hmore := HQ1.out.more (x := q.k) (p := m1) HVV.out HLT.out (by rw [k1]; exact hst) (by rw [k1]; exact hb5) hrr (by omega) (by rw [k2, k3]; rw [HM1.out, k2]; exact hnr.2)
  have hfin : Stay q.own w W5 := HST2.out.trans2 hst (fun j hj e => by
    rcases e with rfl | rfl
    · exact .inl rfl
    · exact HRO.out.resolve_right (by omega))
  exact ⟨_, _, by rw [HOK.out]; rfl, hmore, ⟨k1, k3, k4⟩, hfin, fun j hj => HOWN.out j hj, .inl ⟨HOK.out, rfl, by show q1.n + 1 = q.n + 1; rw [k2], k6, by rw [if_neg HC.out, ← k2]; exact hm1⟩⟩

theorem put7 (q : Qu) (L : List Int) (x : Int) (w : World) (hq : QAt w q L) (hz : q.z < 1000000) : Calls Try.prog 7 #[.pointer (some ⟨q.b, 0, none⟩), .int .i64 x] w (PutOf q L x w) := by
  by_cases hc : q.cnt < q.r
  · exact put7_a q L x w hq hz hc
  · by_cases hx : x = q.k
    · by_cases hp : q.p = 0
      · exact put7_b q L x w hq hz hc hx hp
      · exact put7_d q L x w hq hz hc hx (by omega)
    · exact put7_c q L x w hq hz hc hx

end Go.Proofs.Ytcikjghgpppokaa
