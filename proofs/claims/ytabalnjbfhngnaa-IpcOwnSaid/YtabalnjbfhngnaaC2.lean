/-
  The first message is taken: walked. No conditions.
-/
import Derived.Test.YtabalnjbfhngnaaC1
namespace Go.Proofs.Ytabalnjbfhngnaa
open Go.RowKit

theorem results_m_bool {fn : Func} {p t : Tmp} (h : fn.results = #[.cell p 28, .tmp t]) (tmps : Array Value) (w : World) (g : Nat) (r : Mr) (n : Bool) (hp : tmps.getD p undef = .pointer (some ⟨g, 0, none⟩)) (ht : tmps.getD t undef = .bool n) (hb : MBox w g r) :
    (results fn tmps).run Try.prog w = .ok (.tuple #[.agg #[.int .i64 r.f, r.v], .bool n]) w := by
  have hp' : tmps[p]?.getD undef = .pointer (some ⟨g, 0, none⟩) := by simpa using hp
  have ht' : tmps[t]?.getD undef = .bool n := by simpa using ht
  simp [results, h, hp', ht', asAddr, run_loadVar_cells w g 0 28 _ _ hb.cells Try.underlying28 rfl (by kernel_rfl)]

theorem there_new (w : World) (x y : Value) : (w.alloc (.cells #[x, y] 28)).there w.heap.size 0 2 := fun j hj => by
  match j, hj with
  | 0, _ => constructor <;> simp
  | 1, _ => constructor <;> simp

set_option maxRecDepth 100000 in
theorem take9_none (q : Rg) (w : World) (hq : RAt w q []) : Calls Try.prog 9 #[.pointer (some ⟨q.b, 0, none⟩)] w (Gives (.tuple #[.agg #[.int .i64 0, .slice none 0 0], .bool false]) w) := by
  have h0 : q.n = 0 := hq.len.symm
  obtain ⟨B, hB⟩ : ∃ B, B = w.heap.size := ⟨_, rfl⟩
  obtain ⟨W, hW⟩ : ∃ W, W = w.alloc (.cells #[.int .i64 0, .slice none 0 0] 28) := ⟨_, rfl⟩
  have HBW : Hid (B = w.heap.size ∧ W = w.alloc (.cells #[.int .i64 0, .slice none 0 0] 28)) := ⟨hB, hW⟩
  have HM : Hid (MBox W B ⟨0, .slice none 0 0⟩) := by rw [hW]; exact MBox.new ⟨0, .slice none 0 0⟩ hB.symm
  have HS : Hid (Stay (fun _ => False) w W) := by rw [hW]; exact (Stay.refl _ _).alloc _
  have HL := hide' (len13 q W (hq.box.keep HS.out))
  rw [h0] at HL
  clear hB hW hq h0
  go_enter Try.func9, Try.ntmps9
  go_upto_region 1 with fail
  obtain ⟨hB, hW⟩ := HBW.out
  rw [← hW, ← hB]
  clear hB hW
  go_wp2_with fail
  refine HL.out.mono ?_
  rintro e w1 ⟨rfl, hs⟩
  have HS1 := hide' (HS.out.trans hs)
  have HM1 := hide' (HM.out.keep hs)
  clear hs HL
  obtain ⟨c0, c1, g0, g1⟩ := HM1.out
  simp only at c0 c1
  go_wp2
  exact bodyPost_ret (results_m_bool rfl _ _ B ⟨0, .slice none 0 0⟩ false rfl rfl (HM1.out.put ⟨0, .slice none 0 0⟩)) rfl ⟨rfl, MBox.stay_put HS1.out (by rw [HBW.out.1]; exact Nat.le_refl _) _ _⟩

/-- What a ring is behind a message that was taken. -/
def Took (q : Rg) (x : Int) (l : List Int) (L : List (Int × List Int)) (w : World) (e : Ending) (w' : World) : Prop := ∃ a k c, e = .returned (.tuple #[.agg #[.int .i64 x, .slice a k c], .bool true]) ∧ RAt w' q.took L ∧ Holds w' (.slice a k c) l ∧ Stay (fun j => j = q.b ∨ j = q.rb) w w' ∧ ∀ j, (Value.slice a k c).ownBlock = some j → q.own j ∧ ¬ q.took.own j

set_option maxRecDepth 100000 in
theorem take9 (q : Rg) (x : Int) (l : List Int) (L : List (Int × List Int)) (w : World) (hq : RAt w q ((x, l) :: L)) : Calls Try.prog 9 #[.pointer (some ⟨q.b, 0, none⟩)] w (Took q x l L w) := by
  have hl := hq.len
  rw [List.length_cons] at hl
  have h1 := hq.n1
  have h2 := hq.c2
  have h3 := hq.f1
  have h4 := hq.frm 0 (by omega)
  have h5 := hq.byt 0 (by omega)
  have hap := hq.took_apart
  rw [Rg.has_first h3] at h4 h5 hap
  rw [List.getD_cons_zero] at h4 h5
  obtain ⟨va, vk, vc, hv⟩ : ∃ a k c, (q.F q.f).2 = .slice a k c := by
    obtain ⟨a, c, h, _⟩ := ownsRow_shape h5
    exact ⟨a, _, c, h⟩
  rw [hv] at h5 hap
  have hpl := hq.pl.two h3
  rw [hv, h4] at hpl
  simp only at hpl h5
  have HPL := hide' hpl
  have HH := hide' h5
  have HAP := hide' hap
  have HF1 := hide' h3
  have HQ := hide' hq
  have HNE : Hid (¬ q.b = q.rb) := fun e => hq.ne e.symm
  have HLT : Hid (q.b < w.heap.size ∧ q.rb < w.heap.size) := ⟨hq.lt _ (.inl rfl), hq.lt _ (.inr (.inl rfl))⟩
  have i0 : ¬ ((q.n : Nat) : Int) = 0 := by omega
  have i1 : (q.f : Int) < (q.c : Nat) := by omega
  obtain ⟨t, ht⟩ : ∃ t, t = (q.f + 1) % q.c := ⟨_, rfl⟩
  have HAT : Hid (∀ w', RBox w' q.b q.bx → Calls Try.prog 14 #[.pointer (some ⟨q.b, 0, none⟩), .int .i64 1] w' (Gives (.int .i64 (t : Nat)) w')) := fun w' h => at14 q 1 t w' h (by omega) h2 (by omega) (by omega) ht
  have HT := hide' ht
  obtain ⟨m, hm⟩ : ∃ m, m = q.n - 1 := ⟨_, rfl⟩
  have e7 : IntKind.i64.wrap ((q.n : Int) - 1) = (m : Nat) := by rw [IntKind.wrap_i64]; omega
  have HM1 := hide' hm
  obtain ⟨B, hB⟩ : ∃ B, B = w.heap.size := ⟨_, rfl⟩
  obtain ⟨W, hW⟩ : ∃ W, W = w.alloc (.cells #[.int .i64 0, .slice none 0 0] 28) := ⟨_, rfl⟩
  have HBW : Hid (B = w.heap.size ∧ W = w.alloc (.cells #[.int .i64 0, .slice none 0 0] 28)) := ⟨hB, hW⟩
  have HM : Hid (MBox W B ⟨0, .slice none 0 0⟩) := by rw [hW]; exact MBox.new ⟨0, .slice none 0 0⟩ hB.symm
  have HS : Hid (Stay (fun _ => False) w W) := by rw [hW]; exact (Stay.refl _ _).alloc _
  have HL := hide' (len13 q W (hq.box.keep HS.out))
  clear hB hW hq ht hm hv h1 h2 h3 h4 h5 hap hpl hl
  go_enter Try.func9, Try.ntmps9
  go_upto_region 1 with fail
  obtain ⟨hB, hW⟩ := HBW.out
  rw [← hW, ← hB]
  clear hB hW
  go_wp2_with fail
  refine HL.out.mono ?_
  rintro e w1 ⟨rfl, hs⟩
  have HS1 := hide' (HS.out.trans hs)
  have HM1' := hide' (HM.out.keep hs)
  have HB1 := hide' (HQ.out.box.keep HS1.out)
  have HE1 : Hid (w1.cell? ⟨q.rb, q.f * 2, none⟩ = some (.int .i64 x) ∧ w1.cell? ⟨q.rb, q.f * 2 + 1, none⟩ = some (.slice va vk vc)) := ⟨keep_cell HS1.out HPL.out.1, keep_cell HS1.out HPL.out.2⟩
  have HB4 : Hid (w.heap.size ≤ w1.heap.size) := HS1.out.size
  clear hs HL HM HPL
  go_upto_region 3 with fail
  have hS : (fun w' => Stay (fun _ => False) w1 w') w1.drew := (Stay.refl _ _).drew
  refine wp_region_mix (fun w' => Stay (fun _ => False) w1 w') [(0, true), (1, true), (2, true), (3, true), (4, true), (5, true), (6, true), (7, true), (8, true), (9, true), (10, false), (11, false)] (by kernel_rfl) (by kernel_rfl) (fun _ d _ _ _ h => by cases d <;> exact h) hS ?_
  refine mix_begin (fun K0 hK0 => ?_)
  refine mix_take hK0 (some 9) (.move (.tmp 0)) 24 _ (by kernel_rfl) (by kernel_rfl) (fun w' hS' => by (have sb := HB1.out.keep hS'; obtain ⟨b0, b1, b2, f0, f1, f2⟩ := sb; simp only [Rg.bx] at b0 b1 b2; simp only [opr]; go_simp; try with_reducible rfl)) (fun K1 hK1 => ?_)
  clear hK0 K0
  simp only [Act.put, List.setIfInBounds_toArray, List.set_cons_zero, List.set_cons_succ]
  refine mix_take hK1 (some 10) (.nilCheck (.tmp 9)) 0 _ (by kernel_rfl) (by kernel_rfl) (fun w' hS' => by (have sb := HB1.out.keep hS'; obtain ⟨b0, b1, b2, f0, f1, f2⟩ := sb; simp only [Rg.bx] at b0 b1 b2; simp only [opr]; go_simp; try with_reducible rfl)) (fun K2 hK2 => ?_)
  clear hK1 K1
  simp only [Act.put, List.setIfInBounds_toArray, List.set_cons_zero, List.set_cons_succ]
  refine mix_take hK2 (some 11) (.fieldAddr 42 (.tmp 10) 0) 0 _ (by kernel_rfl) (by kernel_rfl) (fun w' hS' => by (have sb := HB1.out.keep hS'; obtain ⟨b0, b1, b2, f0, f1, f2⟩ := sb; simp only [Rg.bx] at b0 b1 b2; simp only [opr]; go_simp; try with_reducible rfl)) (fun K3 hK3 => ?_)
  clear hK2 K2
  simp only [Act.put, List.setIfInBounds_toArray, List.set_cons_zero, List.set_cons_succ]
  refine mix_take hK3 (some 12) (.load 22 (.tmp 11)) 22 _ (by kernel_rfl) (by kernel_rfl) (fun w' hS' => by (have sb := HB1.out.keep hS'; obtain ⟨b0, b1, b2, f0, f1, f2⟩ := sb; simp only [Rg.bx] at b0 b1 b2; simp only [opr]; go_simp; try with_reducible rfl)) (fun K4 hK4 => ?_)
  clear hK3 K3
  simp only [Act.put, List.setIfInBounds_toArray, List.set_cons_zero, List.set_cons_succ]
  refine mix_take hK4 (some 13) (.move (.tmp 0)) 24 _ (by kernel_rfl) (by kernel_rfl) (fun w' hS' => by (have sb := HB1.out.keep hS'; obtain ⟨b0, b1, b2, f0, f1, f2⟩ := sb; simp only [Rg.bx] at b0 b1 b2; simp only [opr]; go_simp; try with_reducible rfl)) (fun K5 hK5 => ?_)
  clear hK4 K4
  simp only [Act.put, List.setIfInBounds_toArray, List.set_cons_zero, List.set_cons_succ]
  refine mix_take hK5 (some 14) (.nilCheck (.tmp 13)) 0 _ (by kernel_rfl) (by kernel_rfl) (fun w' hS' => by (have sb := HB1.out.keep hS'; obtain ⟨b0, b1, b2, f0, f1, f2⟩ := sb; simp only [Rg.bx] at b0 b1 b2; simp only [opr]; go_simp; try with_reducible rfl)) (fun K6 hK6 => ?_)
  clear hK5 K5
  simp only [Act.put, List.setIfInBounds_toArray, List.set_cons_zero, List.set_cons_succ]
  refine mix_take hK6 (some 15) (.fieldAddr 42 (.tmp 14) 1) 0 _ (by kernel_rfl) (by kernel_rfl) (fun w' hS' => by (have sb := HB1.out.keep hS'; obtain ⟨b0, b1, b2, f0, f1, f2⟩ := sb; simp only [Rg.bx] at b0 b1 b2; simp only [opr]; go_simp; try with_reducible rfl)) (fun K7 hK7 => ?_)
  clear hK6 K6
  simp only [Act.put, List.setIfInBounds_toArray, List.set_cons_zero, List.set_cons_succ]
  refine mix_take hK7 (some 16) (.load 3 (.tmp 15)) 3 _ (by kernel_rfl) (by kernel_rfl) (fun w' hS' => by (have sb := HB1.out.keep hS'; obtain ⟨b0, b1, b2, f0, f1, f2⟩ := sb; simp only [Rg.bx] at b0 b1 b2; simp only [opr]; go_simp; try with_reducible rfl)) (fun K8 hK8 => ?_)
  clear hK7 K7
  simp only [Act.put, List.setIfInBounds_toArray, List.set_cons_zero, List.set_cons_succ]
  refine mix_take hK8 (some 17) (.indexAddr 22 (.tmp 12) (.tmp 16)) 0 _ (by kernel_rfl) (by kernel_rfl) (fun w' hS' => by (have sb := HB1.out.keep hS'; obtain ⟨b0, b1, b2, f0, f1, f2⟩ := sb; simp only [Rg.bx] at b0 b1 b2; simp only [opr]; go_simp; try with_reducible rfl)) (fun K9 hK9 => ?_)
  clear hK8 K8
  simp only [Act.put, List.setIfInBounds_toArray, List.set_cons_zero, List.set_cons_succ]
  refine mix_take hK9 (some 18) (.load 28 (.tmp 17)) 28 _ (by kernel_rfl) (by kernel_rfl) (fun w' hS' => by exact run_load_MBoxAt (o := q.f * 2) (r := ⟨x, .slice va vk vc⟩) rfl rfl ⟨keep_cell hS' HE1.out.1, keep_cell hS' HE1.out.2⟩) (fun K10 hK10 => ?_)
  clear hK9 K9
  simp only [Act.put, List.setIfInBounds_toArray, List.set_cons_zero, List.set_cons_succ]
  refine mix_chain hK10 (fun K10c hK10c => ?_)
  clear hK10 K10
  refine op_plain (some 4) (.alloc 28) 0 (by kernel_rfl) (by kernel_rfl) ?_
  go_wp2
  obtain ⟨w2, hw2⟩ : ∃ W, W = (w1.alloc (.cells #[.int .i64 0, .slice none 0 0] 28)).drew := ⟨_, rfl⟩
  have HW2 := hide' hw2
  have HTN : Hid (w2.there w1.heap.size 0 2) := by rw [hw2]; exact there_new w1 _ _
  rw [← hw2]
  clear hw2
  have hSa : (fun w' => Stay (fun _ => False) w1 w') w2 := by rw [HW2.out]; exact ((Stay.refl _ _).alloc _).drew
  refine hK10c _ _ hSa (mix_begin fun K11 hK11 => ?_)
  clear hK10c K10c
  try simp only [Act.put, List.setIfInBounds_toArray, List.set_cons_zero, List.set_cons_succ]
  refine mix_chain hK11 (fun K11c hK11c => ?_)
  clear hK11 K11
  refine op_plain none (.store 28 (.tmp 4) (.tmp 18)) 0 (by kernel_rfl) (by kernel_rfl) ?_
  refine wpList_store_mid rfl 28 (.tmp 4) (.tmp 18) rfl w1.heap.size 0 #[.int .i64 x, .slice va vk vc] rfl rfl HTN.out (by kernel_rfl) (by simp [Value.oneCell']) ?_
  refine wpList_nil ?_
  obtain ⟨w3, hw3⟩ : ∃ W, W = w2.setCells w1.heap.size 0 (#[.int .i64 x, .slice va vk vc] : Array Value).toList := ⟨_, rfl⟩
  have HW3 := hide' hw3
  rw [← hw3]
  clear hw3
  have hSb : (fun w' => Stay (fun _ => False) w1 w') w3 := by rw [HW3.out]; exact MBox.stay_put hSa (Nat.le_refl _) _ _
  refine hK11c _ _ hSb (mix_begin fun K12 hK12 => ?_)
  clear hK11c K11c
  try simp only [Act.put]
  refine hK12 _ _ (mix_nil ?_)
  clear hK12 K12
  have HS3 := hide' hSb
  have HX3 : Hid (MBox w3 w1.heap.size ⟨x, .slice va vk vc⟩) := by
    rw [HW3.out]
    have h : MBox w2 w1.heap.size ⟨0, .slice none 0 0⟩ := by rw [HW2.out]; exact (MBox.new (w := w1) ⟨0, .slice none 0 0⟩ rfl).keep (Stay.refl _ _).drew
    exact h.put ⟨x, .slice va vk vc⟩
  have HM3 := hide' (HM1'.out.keep hSb)
  have HB3 := hide' (HB1.out.keep hSb)
  obtain ⟨B4, hB4⟩ : ∃ B4, B4 = w1.heap.size := ⟨_, rfl⟩
  have HBB : Hid (B4 = w1.heap.size) := hB4
  rw [← hB4] at HX3 HB4
  try rw [← hB4]
  have HTH : Hid (w3.drew.there q.rb (q.f * 2) 2) := (HQ.out.pl.stay (HS1.out.trans HS3.out).drew (fun h => h)).there HF1.out
  clear hB4 hS hSa hSb HTN
  go_upto_region 4 with fail
  have hT : (fun w' => Stay (fun j => j = q.rb) w3 w' ∧ RBox w' q.b q.bx) w3.drew := ⟨(Stay.refl _ _).drew, HB3.out.keep (Stay.refl _ _).drew⟩
  refine wp_region_mix (fun w' => Stay (fun j => j = q.rb) w3 w' ∧ RBox w' q.b q.bx) [(0, true), (1, true), (2, true), (3, true), (4, true), (5, true), (6, true), (7, true), (8, true), (9, true), (10, false)] (by kernel_rfl) (by kernel_rfl) (fun _ d _ _ _ h => by cases d <;> exact h) hT ?_
  refine mix_begin (fun K0 hK0 => ?_)
  refine mix_take hK0 (some 19) (.move (.tmp 0)) 24 _ (by kernel_rfl) (by kernel_rfl) (fun w' hS' => by (obtain ⟨_, sb⟩ := hS'; obtain ⟨b0, b1, b2, f0, f1, f2⟩ := sb; simp only [Rg.bx] at b0 b1 b2; simp only [opr]; go_simp; try with_reducible rfl)) (fun K1 hK1 => ?_)
  clear hK0 K0
  simp only [Act.put, List.setIfInBounds_toArray, List.set_cons_zero, List.set_cons_succ]
  refine mix_take hK1 (some 20) (.nilCheck (.tmp 19)) 0 _ (by kernel_rfl) (by kernel_rfl) (fun w' hS' => by (obtain ⟨_, sb⟩ := hS'; obtain ⟨b0, b1, b2, f0, f1, f2⟩ := sb; simp only [Rg.bx] at b0 b1 b2; simp only [opr]; go_simp; try with_reducible rfl)) (fun K2 hK2 => ?_)
  clear hK1 K1
  simp only [Act.put, List.setIfInBounds_toArray, List.set_cons_zero, List.set_cons_succ]
  refine mix_take hK2 (some 21) (.fieldAddr 42 (.tmp 20) 0) 0 _ (by kernel_rfl) (by kernel_rfl) (fun w' hS' => by (obtain ⟨_, sb⟩ := hS'; obtain ⟨b0, b1, b2, f0, f1, f2⟩ := sb; simp only [Rg.bx] at b0 b1 b2; simp only [opr]; go_simp; try with_reducible rfl)) (fun K3 hK3 => ?_)
  clear hK2 K2
  simp only [Act.put, List.setIfInBounds_toArray, List.set_cons_zero, List.set_cons_succ]
  refine mix_take hK3 (some 22) (.load 22 (.tmp 21)) 22 _ (by kernel_rfl) (by kernel_rfl) (fun w' hS' => by (obtain ⟨_, sb⟩ := hS'; obtain ⟨b0, b1, b2, f0, f1, f2⟩ := sb; simp only [Rg.bx] at b0 b1 b2; simp only [opr]; go_simp; try with_reducible rfl)) (fun K4 hK4 => ?_)
  clear hK3 K3
  simp only [Act.put, List.setIfInBounds_toArray, List.set_cons_zero, List.set_cons_succ]
  refine mix_take hK4 (some 23) (.move (.tmp 0)) 24 _ (by kernel_rfl) (by kernel_rfl) (fun w' hS' => by (obtain ⟨_, sb⟩ := hS'; obtain ⟨b0, b1, b2, f0, f1, f2⟩ := sb; simp only [Rg.bx] at b0 b1 b2; simp only [opr]; go_simp; try with_reducible rfl)) (fun K5 hK5 => ?_)
  clear hK4 K4
  simp only [Act.put, List.setIfInBounds_toArray, List.set_cons_zero, List.set_cons_succ]
  refine mix_take hK5 (some 24) (.nilCheck (.tmp 23)) 0 _ (by kernel_rfl) (by kernel_rfl) (fun w' hS' => by (obtain ⟨_, sb⟩ := hS'; obtain ⟨b0, b1, b2, f0, f1, f2⟩ := sb; simp only [Rg.bx] at b0 b1 b2; simp only [opr]; go_simp; try with_reducible rfl)) (fun K6 hK6 => ?_)
  clear hK5 K5
  simp only [Act.put, List.setIfInBounds_toArray, List.set_cons_zero, List.set_cons_succ]
  refine mix_take hK6 (some 25) (.fieldAddr 42 (.tmp 24) 1) 0 _ (by kernel_rfl) (by kernel_rfl) (fun w' hS' => by (obtain ⟨_, sb⟩ := hS'; obtain ⟨b0, b1, b2, f0, f1, f2⟩ := sb; simp only [Rg.bx] at b0 b1 b2; simp only [opr]; go_simp; try with_reducible rfl)) (fun K7 hK7 => ?_)
  clear hK6 K6
  simp only [Act.put, List.setIfInBounds_toArray, List.set_cons_zero, List.set_cons_succ]
  refine mix_take hK7 (some 26) (.load 3 (.tmp 25)) 3 _ (by kernel_rfl) (by kernel_rfl) (fun w' hS' => by (obtain ⟨_, sb⟩ := hS'; obtain ⟨b0, b1, b2, f0, f1, f2⟩ := sb; simp only [Rg.bx] at b0 b1 b2; simp only [opr]; go_simp; try with_reducible rfl)) (fun K8 hK8 => ?_)
  clear hK7 K7
  simp only [Act.put, List.setIfInBounds_toArray, List.set_cons_zero, List.set_cons_succ]
  refine mix_take hK8 (some 27) (.build 28 #[]) 28 _ (by kernel_rfl) (by kernel_rfl) (fun w' hS' => by (obtain ⟨_, sb⟩ := hS'; obtain ⟨b0, b1, b2, f0, f1, f2⟩ := sb; simp only [Rg.bx] at b0 b1 b2; simp only [opr]; go_simp; try with_reducible rfl)) (fun K9 hK9 => ?_)
  clear hK8 K8
  simp only [Act.put, List.setIfInBounds_toArray, List.set_cons_zero, List.set_cons_succ]
  refine mix_take hK9 (some 28) (.indexAddr 22 (.tmp 22) (.tmp 26)) 0 _ (by kernel_rfl) (by kernel_rfl) (fun w' hS' => by (obtain ⟨_, sb⟩ := hS'; obtain ⟨b0, b1, b2, f0, f1, f2⟩ := sb; simp only [Rg.bx] at b0 b1 b2; simp only [opr]; go_simp; try with_reducible rfl)) (fun K10 hK10 => ?_)
  clear hK9 K9
  simp only [Act.put, List.setIfInBounds_toArray, List.set_cons_zero, List.set_cons_succ]
  refine mix_chain hK10 (fun K10c hK10c => ?_)
  clear hK10 K10
  refine op_plain none (.store 28 (.tmp 28) (.tmp 27)) 0 (by kernel_rfl) (by kernel_rfl) ?_
  refine wpList_store_mid rfl 28 (.tmp 28) (.tmp 27) rfl q.rb (q.f * 2) #[.int .i64 0, .slice none 0 0] rfl rfl HTH.out (by kernel_rfl) (by simp [Value.oneCell']) ?_
  refine wpList_nil ?_
  obtain ⟨w4, hw4⟩ : ∃ W, W = w3.drew.setCells q.rb (q.f * 2) (#[.int .i64 0, .slice none 0 0] : Array Value).toList := ⟨_, rfl⟩
  have HW4 := hide' hw4
  rw [← hw4]
  clear hw4
  have hSc : (fun w' => Stay (fun j => j = q.rb) w3 w' ∧ RBox w' q.b q.bx) w4 := by rw [HW4.out]; exact ⟨(Stay.refl (fun j => j = q.rb) w3).drew.setCells q.rb _ _ rfl, hT.2.stay (T := fun j => j = q.rb) ((Stay.refl _ _).setCells q.rb _ _ rfl) HNE.out⟩
  refine hK10c _ _ hSc (mix_begin fun K11 hK11 => ?_)
  clear hK10c K10c
  try simp only [Act.put]
  refine hK11 _ _ (mix_nil ?_)
  clear hK11 K11
  have HS4 := hide' hSc.1
  have HR4 := hide' hSc.2
  have HN1 : Hid (¬ B4 = q.rb ∧ ¬ B = q.rb ∧ ¬ B4 = q.b ∧ ¬ B = q.b ∧ ¬ B = B4 ∧ w.heap.size ≤ B ∧ w.heap.size ≤ B4) := by
    have h1 := HLT.out
    have h2 := HBW.out.1
    have h3 := HM1'.out.lt
    have h4 := HBB.out
    have h5 := HB4.out
    show _ ∧ _
    omega
  have HX4 := hide' (HX3.out.stay HS4.out HN1.out.1)
  have HM4 := hide' (HM3.out.stay HS4.out HN1.out.2.1)
  have HP4 : Hid (Places w4 q.rb q.c (fun i => if i = q.f then (0, .slice none 0 0) else q.F i)) := by rw [HW4.out]; exact (HQ.out.pl.stay (HS1.out.trans HS3.out).drew (fun h => h)).put HF1.out (0, .slice none 0 0)
  have HST4 : Hid (Stay (fun j => j = q.rb) w w4) := ((HS1.out.trans HS3.out).mono (fun _ _ h => h.elim)).trans HS4.out
  clear hSc hT HS4 HX3 HM3 HB3 HTH
  go_wp2_with fail
  refine (HAT.out _ HR4.out).mono ?_
  rintro e w5 ⟨rfl, hs⟩
  have HR5 := hide' (HR4.out.keep hs)
  have HX5 := hide' (HX4.out.keep hs)
  have HM5 := hide' (HM4.out.keep hs)
  have HP5 := hide' (HP4.out.stay hs (fun h => h))
  have HST5 : Hid (Stay (fun j => j = q.rb) w w5) := HST4.out.trans (hs.mono (fun _ _ h => h.elim))
  clear hs HAT HR4 HX4 HM4 HP4 HST4
  obtain ⟨b0, b1, b2, f0, f1, f2⟩ := HR5.out
  simp only [Rg.bx] at b0 b1 b2
  go_upto_region 7 with fail
  obtain ⟨w6, hw6⟩ : ∃ W, W = (w5.setCell ⟨q.b, 1, none⟩ (.int .i64 (t : Nat))).setCell ⟨q.b, 2, none⟩ (.int .i64 (m : Nat)) := ⟨_, rfl⟩
  rw [← hw6]
  clear b0 b1 b2 f0 f1 f2
  have HR6 : Hid (RBox w6 q.b ⟨.slice (some ⟨q.rb, 0, none⟩) q.c q.c, (t : Nat), (m : Nat)⟩) := by
    rw [hw6]
    exact (HR5.out.put1 (x := (t : Nat)) (q := ⟨.slice (some ⟨q.rb, 0, none⟩) q.c q.c, (t : Nat), (q.n : Nat)⟩) rfl).put2 rfl
  have HT6 : Hid (Stay (fun j => j = q.b) w5 w6) := by rw [hw6]; exact ((Stay.refl (fun j => j = q.b) w5).setCell (p := ⟨q.b, 1, none⟩) rfl _).setCell (p := ⟨q.b, 2, none⟩) rfl _
  have HX6 := hide' (HX5.out.stay HT6.out HN1.out.2.2.1)
  have HM6 := hide' (HM5.out.stay HT6.out HN1.out.2.2.2.1)
  have HP6 := hide' (HP5.out.stay HT6.out HQ.out.ne)
  have HST6 : Hid (Stay (fun j => j = q.b ∨ j = q.rb) w w6) := (HST5.out.mono (fun _ _ h => .inr h)).trans2 HT6.out (fun j _ e => .inl e)
  clear hw6 HR5 HX5 HM5 HP5 HST5 HT6
  obtain ⟨c0, c1, _, _⟩ := HX6.out
  obtain ⟨d0, d1, g0, g1⟩ := HM6.out
  simp only at c0 c1 d0 d1
  go_wp2
  obtain ⟨w7, hw7⟩ : ∃ W, W = (w6.setCell ⟨B, 0, none⟩ (.int .i64 x)).setCell ⟨B, 1, none⟩ (.slice va vk vc) := ⟨_, rfl⟩
  have hst7 : Stay (fun j => j = B) w6 w7 := by rw [hw7]; exact ((Stay.refl (fun j => j = B) w6).setCell (p := ⟨B, 0, none⟩) rfl _).setCell (p := ⟨B, 1, none⟩) rfl _
  have hm7 : MBox w7 B ⟨x, .slice va vk vc⟩ := by rw [hw7]; exact HM6.out.put ⟨x, .slice va vk vc⟩
  have hst : Stay (fun j => j = q.b ∨ j = q.rb) w w7 := HST6.out.trans2 hst7 (fun j hj e => by have := HN1.out.2.2.2.2.2.1; omega)
  have hr7 : RBox w7 q.b q.took.bx := by
    have h := HR6.out.stay hst7 (fun e => HN1.out.2.2.2.1 e.symm)
    rw [HT.out, HM1.out] at h
    exact h
  have hp7 : Places w7 q.rb q.c q.took.F := HP6.out.stay hst7 (fun e => HN1.out.2.1 e.symm)
  have hh7 : Holds w7 (.slice va vk vc) l := HH.out.stay hst (fun j hj e => by
    have h := HAP.out j hj
    rcases e with e | e
    · exact h.2 (.inl e)
    · exact h.2 (.inr (.inl e)))
  rw [← hw7]
  exact bodyPost_ret (results_m_bool rfl _ _ B ⟨x, .slice va vk vc⟩ true rfl rfl hm7) rfl ⟨va, vk, vc, rfl, HQ.out.took hst hr7 hp7, hh7, hst, HAP.out⟩

end Go.Proofs.Ytabalnjbfhngnaa
