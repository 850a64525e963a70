/-
  What is done with a line: walked. No conditions.
-/
import Derived.Test.YtffdkkbinkonbaaC1
import Derived.Test.YtffdkkbinkonbaaC3
namespace Go.Proofs.Ytffdkkbinkonbaa
open Go.RowKit

theorem results_i_bool {fn : Func} {p t : Tmp} (h : fn.results = #[.cell p 36, .tmp t]) (tmps : Array Value) (w : World) (g : Nat) (r : Ir) (n : Bool) (hp : tmps.getD p undef = .pointer (some ⟨g, 0, none⟩)) (ht : tmps.getD t undef = .bool n) (hb : IBox w g r) :
    (results fn tmps).run Try.prog w = .ok (.tuple #[.agg #[.int .u8 r.b, .int .i64 r.f], .bool n]) w := by
  have hp' : tmps[p]?.getD undef = .pointer (some ⟨g, 0, none⟩) := by simpa using hp
  have ht' : tmps[t]?.getD undef = .bool n := by simpa using ht
  simp [results, h, hp', ht', asAddr, run_loadVar_cells w g 0 36 _ _ hb.cells Try.underlying36 rfl (by kernel_rfl)]

set_option maxRecDepth 100000 in
theorem send11 (q : Ln) (L : List (Int × Int)) (M : List Int) (sa : Option Addr) (m cap k : Nat) (K : List Int) (w : World) (hq : LAt w q L M) (hs : Src w sa m (bys K)) (hm : K.length = m) (hmc : m ≤ cap) (hm1 : m ≤ 200000) (hk : k = min m (q.r - M.length)) : Calls Try.prog 11 #[.pointer (some ⟨q.b, 0, none⟩), .slice sa m cap] w (Wrote q k L (M ++ K.take k) w) := by
  have HP := hide' (put17 q L M sa m cap k K w hq hs hm hmc hm1 hk)
  clear hq hs hm hmc hm1 hk
  go_enter Try.func11, Try.ntmps11
  go_wp2_with fail
  refine HP.out.mono ?_
  rintro e w' ⟨v, u, rfl, hl, hs, ho⟩
  have HR : Hid (LAt w' (q.with v u) L (M ++ K.take k) ∧ Stay q.own w w' ∧ ∀ j, (q.with v u).own j → q.own j ∨ w.heap.size ≤ j) := ⟨hl, hs, ho⟩
  clear hl hs ho HP
  go_wp2
  go_returns
  exact ⟨v, u, rfl, HR.out.1, HR.out.2.1, HR.out.2.2⟩

set_option maxRecDepth 100000 in
theorem sent13 (q : Ln) (L : List (Int × Int)) (M : List Int) (n : Int) (k : Nat) (w : World) (hq : LAt w q L M) (hk : (k : Int) = min (max n 0) (M.length : Nat)) : Calls Try.prog 13 #[.pointer (some ⟨q.b, 0, none⟩), .int .i64 n] w (TookB q k L M w) := by
  have HP := hide' (take18 q L M n k w hq hk)
  clear hq hk
  go_enter Try.func13, Try.ntmps13
  go_wp2_with fail
  refine HP.out.mono ?_
  rintro e w' ⟨t, v, rfl, ht, hl, hs, ho⟩
  have HR : Hid (w'.ownsRow w.heap.size 5 1 t k (bys (M.take k)) ∧ LAt w' (q.with q.v v) L (M.drop k) ∧ Stay (fun j => j = q.b) w w' ∧ ∀ j, v.ownBlock = some j → q.u.ownBlock = some j) := ⟨ht, hl, hs, ho⟩
  clear ht hl hs ho HP
  go_wp2
  go_returns
  exact ⟨t, v, rfl, HR.out.1, HR.out.2.1, HR.out.2.2.1, HR.out.2.2.2⟩

set_option maxRecDepth 100000 in
theorem waits14 (q : Ln) (L : List (Int × Int)) (M : List Int) (w : World) (hq : LAt w q L M) : Calls Try.prog 14 #[.pointer (some ⟨q.b, 0, none⟩)] w (Gives (.tuple #[.int .i64 (L.length : Nat), .int .i64 (M.length : Nat)]) w) := by
  obtain ⟨ra, rc, hv, _, _⟩ := hq.inn.shape
  obtain ⟨sa, sc, hu, _, _⟩ := hq.snt.shape
  obtain ⟨ln, hln⟩ : ∃ n, n = L.length := ⟨_, rfl⟩
  obtain ⟨mn, hmn⟩ : ∃ n, n = M.length := ⟨_, rfl⟩
  rw [← hln] at hv
  rw [← hmn] at hu
  rw [← hln, ← hmn]
  have HV := hide' hv
  have HU := hide' hu
  have hS : (fun w' => Stay (fun _ => False) w w' ∧ LBox w' q.b q.bx) w.drew := ⟨(Stay.refl _ _).drew, hq.box.keep (Stay.refl _ _).drew⟩
  clear hv hu hq hln hmn
  go_enter Try.func14, Try.ntmps14
  go_upto_region 3 with fail
  refine wp_region_mix (fun w' => Stay (fun _ => False) w w' ∧ LBox w' q.b q.bx) [(0, true), (1, true), (2, true), (3, true), (4, true), (5, true), (6, true), (7, true), (8, true), (9, true), (10, true), (11, true), (12, true), (13, true), (14, true), (15, true)] (by kernel_rfl) (by kernel_rfl) (fun _ d _ _ _ h => by cases d <;> exact h) hS ?_
  refine mix_begin (fun K0 hK0 => ?_)
  refine mix_take hK0 (some 6) (.move (.tmp 0)) 24 _ (by kernel_rfl) (by kernel_rfl) (fun w' hS' => by (obtain ⟨_, sb⟩ := hS'; obtain ⟨b0, b1, b2, b3, b4, f0, f1, f2, f3, f4⟩ := sb; simp only [Ln.bx] at b0 b1 b2 b3 b4; rw [HV.out] at b1; rw [HU.out] at b3; simp only [opr]; go_simp; try with_reducible rfl)) (fun K1 hK1 => ?_)
  clear hK0 K0
  simp only [Act.put, List.setIfInBounds_toArray, List.set_cons_zero, List.set_cons_succ]
  refine mix_take hK1 (some 7) (.nilCheck (.tmp 6)) 0 _ (by kernel_rfl) (by kernel_rfl) (fun w' hS' => by (obtain ⟨_, sb⟩ := hS'; obtain ⟨b0, b1, b2, b3, b4, f0, f1, f2, f3, f4⟩ := sb; simp only [Ln.bx] at b0 b1 b2 b3 b4; rw [HV.out] at b1; rw [HU.out] at b3; simp only [opr]; go_simp; try with_reducible rfl)) (fun K2 hK2 => ?_)
  clear hK1 K1
  simp only [Act.put, List.setIfInBounds_toArray, List.set_cons_zero, List.set_cons_succ]
  refine mix_take hK2 (some 8) (.fieldAddr 57 (.tmp 7) 0) 0 _ (by kernel_rfl) (by kernel_rfl) (fun w' hS' => by (obtain ⟨_, sb⟩ := hS'; obtain ⟨b0, b1, b2, b3, b4, f0, f1, f2, f3, f4⟩ := sb; simp only [Ln.bx] at b0 b1 b2 b3 b4; rw [HV.out] at b1; rw [HU.out] at b3; simp only [opr]; go_simp; try with_reducible rfl)) (fun K3 hK3 => ?_)
  clear hK2 K2
  simp only [Act.put, List.setIfInBounds_toArray, List.set_cons_zero, List.set_cons_succ]
  refine mix_take hK3 (some 9) (.fieldAddr 51 (.tmp 8) 0) 0 _ (by kernel_rfl) (by kernel_rfl) (fun w' hS' => by (obtain ⟨_, sb⟩ := hS'; obtain ⟨b0, b1, b2, b3, b4, f0, f1, f2, f3, f4⟩ := sb; simp only [Ln.bx] at b0 b1 b2 b3 b4; rw [HV.out] at b1; rw [HU.out] at b3; simp only [opr]; go_simp; try with_reducible rfl)) (fun K4 hK4 => ?_)
  clear hK3 K3
  simp only [Act.put, List.setIfInBounds_toArray, List.set_cons_zero, List.set_cons_succ]
  refine mix_take hK4 (some 10) (.fieldAddr 49 (.tmp 9) 1) 0 _ (by kernel_rfl) (by kernel_rfl) (fun w' hS' => by (obtain ⟨_, sb⟩ := hS'; obtain ⟨b0, b1, b2, b3, b4, f0, f1, f2, f3, f4⟩ := sb; simp only [Ln.bx] at b0 b1 b2 b3 b4; rw [HV.out] at b1; rw [HU.out] at b3; simp only [opr]; go_simp; try with_reducible rfl)) (fun K5 hK5 => ?_)
  clear hK4 K4
  simp only [Act.put, List.setIfInBounds_toArray, List.set_cons_zero, List.set_cons_succ]
  refine mix_take hK5 (some 11) (.load 26 (.tmp 10)) 26 _ (by kernel_rfl) (by kernel_rfl) (fun w' hS' => by (obtain ⟨_, sb⟩ := hS'; obtain ⟨b0, b1, b2, b3, b4, f0, f1, f2, f3, f4⟩ := sb; simp only [Ln.bx] at b0 b1 b2 b3 b4; rw [HV.out] at b1; rw [HU.out] at b3; simp only [opr]; go_simp; try with_reducible rfl)) (fun K6 hK6 => ?_)
  clear hK5 K5
  simp only [Act.put, List.setIfInBounds_toArray, List.set_cons_zero, List.set_cons_succ]
  refine mix_take hK6 (some 12) (.call { callee := Callee.builtin Builtin.len, args := #[.tmp 11], argTypes := #[26] }) 3 _ (by kernel_rfl) (by kernel_rfl) (fun w' hS' => by (obtain ⟨_, sb⟩ := hS'; obtain ⟨b0, b1, b2, b3, b4, f0, f1, f2, f3, f4⟩ := sb; simp only [Ln.bx] at b0 b1 b2 b3 b4; rw [HV.out] at b1; rw [HU.out] at b3; simp only [opr]; go_simp; try with_reducible rfl)) (fun K7 hK7 => ?_)
  clear hK6 K6
  simp only [Act.put, List.setIfInBounds_toArray, List.set_cons_zero, List.set_cons_succ]
  refine mix_take hK7 (some 13) (.move (.tmp 0)) 24 _ (by kernel_rfl) (by kernel_rfl) (fun w' hS' => by (obtain ⟨_, sb⟩ := hS'; obtain ⟨b0, b1, b2, b3, b4, f0, f1, f2, f3, f4⟩ := sb; simp only [Ln.bx] at b0 b1 b2 b3 b4; rw [HV.out] at b1; rw [HU.out] at b3; simp only [opr]; go_simp; try with_reducible rfl)) (fun K8 hK8 => ?_)
  clear hK7 K7
  simp only [Act.put, List.setIfInBounds_toArray, List.set_cons_zero, List.set_cons_succ]
  refine mix_take hK8 (some 14) (.nilCheck (.tmp 13)) 0 _ (by kernel_rfl) (by kernel_rfl) (fun w' hS' => by (obtain ⟨_, sb⟩ := hS'; obtain ⟨b0, b1, b2, b3, b4, f0, f1, f2, f3, f4⟩ := sb; simp only [Ln.bx] at b0 b1 b2 b3 b4; rw [HV.out] at b1; rw [HU.out] at b3; simp only [opr]; go_simp; try with_reducible rfl)) (fun K9 hK9 => ?_)
  clear hK8 K8
  simp only [Act.put, List.setIfInBounds_toArray, List.set_cons_zero, List.set_cons_succ]
  refine mix_take hK9 (some 15) (.fieldAddr 57 (.tmp 14) 1) 0 _ (by kernel_rfl) (by kernel_rfl) (fun w' hS' => by (obtain ⟨_, sb⟩ := hS'; obtain ⟨b0, b1, b2, b3, b4, f0, f1, f2, f3, f4⟩ := sb; simp only [Ln.bx] at b0 b1 b2 b3 b4; rw [HV.out] at b1; rw [HU.out] at b3; simp only [opr]; go_simp; try with_reducible rfl)) (fun K10 hK10 => ?_)
  clear hK9 K9
  simp only [Act.put, List.setIfInBounds_toArray, List.set_cons_zero, List.set_cons_succ]
  refine mix_take hK10 (some 16) (.fieldAddr 55 (.tmp 15) 0) 0 _ (by kernel_rfl) (by kernel_rfl) (fun w' hS' => by (obtain ⟨_, sb⟩ := hS'; obtain ⟨b0, b1, b2, b3, b4, f0, f1, f2, f3, f4⟩ := sb; simp only [Ln.bx] at b0 b1 b2 b3 b4; rw [HV.out] at b1; rw [HU.out] at b3; simp only [opr]; go_simp; try with_reducible rfl)) (fun K11 hK11 => ?_)
  clear hK10 K10
  simp only [Act.put, List.setIfInBounds_toArray, List.set_cons_zero, List.set_cons_succ]
  refine mix_take hK11 (some 17) (.fieldAddr 53 (.tmp 16) 1) 0 _ (by kernel_rfl) (by kernel_rfl) (fun w' hS' => by (obtain ⟨_, sb⟩ := hS'; obtain ⟨b0, b1, b2, b3, b4, f0, f1, f2, f3, f4⟩ := sb; simp only [Ln.bx] at b0 b1 b2 b3 b4; rw [HV.out] at b1; rw [HU.out] at b3; simp only [opr]; go_simp; try with_reducible rfl)) (fun K12 hK12 => ?_)
  clear hK11 K11
  simp only [Act.put, List.setIfInBounds_toArray, List.set_cons_zero, List.set_cons_succ]
  refine mix_take hK12 (some 18) (.load 27 (.tmp 17)) 27 _ (by kernel_rfl) (by kernel_rfl) (fun w' hS' => by (obtain ⟨_, sb⟩ := hS'; obtain ⟨b0, b1, b2, b3, b4, f0, f1, f2, f3, f4⟩ := sb; simp only [Ln.bx] at b0 b1 b2 b3 b4; rw [HV.out] at b1; rw [HU.out] at b3; simp only [opr]; go_simp; try with_reducible rfl)) (fun K13 hK13 => ?_)
  clear hK12 K12
  simp only [Act.put, List.setIfInBounds_toArray, List.set_cons_zero, List.set_cons_succ]
  refine mix_take hK13 (some 19) (.call { callee := Callee.builtin Builtin.len, args := #[.tmp 18], argTypes := #[27] }) 3 _ (by kernel_rfl) (by kernel_rfl) (fun w' hS' => by (obtain ⟨_, sb⟩ := hS'; obtain ⟨b0, b1, b2, b3, b4, f0, f1, f2, f3, f4⟩ := sb; simp only [Ln.bx] at b0 b1 b2 b3 b4; rw [HV.out] at b1; rw [HU.out] at b3; simp only [opr]; go_simp; try with_reducible rfl)) (fun K14 hK14 => ?_)
  clear hK13 K13
  simp only [Act.put, List.setIfInBounds_toArray, List.set_cons_zero, List.set_cons_succ]
  refine mix_take hK14 (some 2) (.assign (.tmp 12)) 3 _ (by kernel_rfl) (by kernel_rfl) (fun w' hS' => by (obtain ⟨_, sb⟩ := hS'; obtain ⟨b0, b1, b2, b3, b4, f0, f1, f2, f3, f4⟩ := sb; simp only [Ln.bx] at b0 b1 b2 b3 b4; rw [HV.out] at b1; rw [HU.out] at b3; simp only [opr]; go_simp; try with_reducible rfl)) (fun K15 hK15 => ?_)
  clear hK14 K14
  simp only [Act.put, List.setIfInBounds_toArray, List.set_cons_zero, List.set_cons_succ]
  refine mix_take hK15 (some 3) (.assign (.tmp 19)) 3 _ (by kernel_rfl) (by kernel_rfl) (fun w' hS' => by (obtain ⟨_, sb⟩ := hS'; obtain ⟨b0, b1, b2, b3, b4, f0, f1, f2, f3, f4⟩ := sb; simp only [Ln.bx] at b0 b1 b2 b3 b4; rw [HV.out] at b1; rw [HU.out] at b3; simp only [opr]; go_simp; try with_reducible rfl)) (fun K16 hK16 => ?_)
  clear hK15 K15
  simp only [Act.put, List.setIfInBounds_toArray, List.set_cons_zero, List.set_cons_succ]
  refine hK16 _ _ (mix_nil ?_)
  clear hK16 K16
  go_wp2
  go_returns
  exact ⟨rfl, hS.1⟩

/-- What a line is behind an item that was read. -/
def Rd (q : Ln) (v : Value) (L : List (Int × Int)) (M : List Int) (w : World) (e : Ending) (w' : World) : Prop := ∃ v', e = .returned v ∧ LAt w' (q.with v' q.u) L M ∧ Stay (fun j => j = q.b) w w' ∧ ∀ j, v'.ownBlock = some j → q.v.ownBlock = some j

set_option maxRecDepth 100000 in
theorem read10_no (q : Ln) (M : List Int) (w : World) (hq : LAt w q [] M) : Calls Try.prog 10 #[.pointer (some ⟨q.b, 0, none⟩)] w (Rd q (.tuple #[.agg #[.int .u8 0, .int .i64 0], .bool false]) [] M w) := by
  have HT := hide' (fun w h => take16 q [] M 1 0 w h (by decide))
  have HQ := hide' hq
  have HI0 : Hid (IBox (w.alloc (.cells #[.int .u8 0, .int .i64 0] 36)) w.heap.size ⟨0, 0⟩) := IBox.new ⟨0, 0⟩ rfl
  have HS0 : Hid (Stay (fun _ => False) w (w.alloc (.cells #[.int .u8 0, .int .i64 0] 36))) := (Stay.refl _ _).alloc _
  have HBL : Hid (∀ j, q.own j → j < w.heap.size) := hq.lt
  clear hq
  obtain ⟨B, hB⟩ : ∃ B, B = w.heap.size := ⟨_, rfl⟩
  go_enter Try.func10, Try.ntmps10
  go_upto_region 3 with fail
  obtain ⟨W, hW⟩ : ∃ W, W = w.alloc (.cells #[.int .u8 0, .int .i64 0] 36) := ⟨_, rfl⟩
  rw [← hW] at HI0 HS0
  rw [← hW]
  have HQ2 := hide' (HQ.out.keep HS0.out)
  have HQB : Hid (¬ B = q.b) := fun e => by have := HBL.out q.b (.inl rfl); omega
  rw [← hB] at HI0
  try rw [← hB]
  have HBN : Hid (w.heap.size = B) := hB.symm
  clear hW hB
  go_wp2_with fail
  refine (HT.out W HQ2.out).mono ?_
  rintro e w2 ⟨t, v, rfl, ht, hl, hs, ho⟩
  have HL := hide' hl
  have HS := hide' hs
  have HO := hide' ho
  have HI2 := hide' (HI0.out.stay hs HQB.out)
  clear hl hs ho HT HQ2 HI0
  obtain ⟨ta, tc, rfl⟩ : ∃ ta tc, t = .slice ta 0 tc := by
    rcases ht.2 with ⟨h, _⟩ | ⟨g, cap, cur, h, _⟩
    · exact ⟨none, 0, h⟩
    · exact ⟨_, cap, h⟩
  clear ht
  obtain ⟨i0, i1, j0, j1⟩ := HI2.out
  go_wp2
  have hown : ∀ j, (q.with v q.u).own j → j < w.heap.size := fun j hj => by
    rcases hj with hj | hj | hj
    · exact HBL.out j (.inl hj)
    · exact HBL.out j (.inr (.inl (HO.out j hj)))
    · exact HBL.out j (.inr (.inr hj))
  have hset : Stay (fun j => j = B) w2 _ := ((Stay.refl (fun j => j = B) w2).setCell (p := ⟨B, 0, none⟩) rfl (.int .u8 (Ir.b ⟨0, 0⟩))).setCell (p := ⟨B, 1, none⟩) rfl (.int .i64 (Ir.f ⟨0, 0⟩))
  have hb := HBN.out
  exact bodyPost_ret (results_i_bool rfl _ _ B ⟨0, 0⟩ false rfl rfl (HI2.out.put ⟨0, 0⟩)) rfl ⟨v, rfl, HL.out.stay hset (fun j hj e => by have := hown j hj; omega), IBox.stay_put ((HS0.out.mono (T := fun j => j = q.b) (fun _ _ h => h.elim)).trans HS.out) (by omega) _ _, HO.out⟩

set_option maxRecDepth 100000 in
theorem read10 (q : Ln) (x f : Int) (L : List (Int × Int)) (M : List Int) (w : World) (hq : LAt w q ((x, f) :: L) M) : Calls Try.prog 10 #[.pointer (some ⟨q.b, 0, none⟩)] w (Rd q (.tuple #[.agg #[.int .u8 x, .int .i64 f], .bool true]) L M w) := by
  have HT := hide' (fun w h => take16 q ((x, f) :: L) M 1 1 w h (by rw [List.length_cons]; omega))
  have HQ := hide' hq
  have HI0 : Hid (IBox (w.alloc (.cells #[.int .u8 0, .int .i64 0] 36)) w.heap.size ⟨0, 0⟩) := IBox.new ⟨0, 0⟩ rfl
  have HS0 : Hid (Stay (fun _ => False) w (w.alloc (.cells #[.int .u8 0, .int .i64 0] 36))) := (Stay.refl _ _).alloc _
  have HBL : Hid (∀ j, q.own j → j < w.heap.size) := hq.lt
  clear hq
  obtain ⟨B, hB⟩ : ∃ B, B = w.heap.size := ⟨_, rfl⟩
  go_enter Try.func10, Try.ntmps10
  go_upto_region 3 with fail
  obtain ⟨W, hW⟩ : ∃ W, W = w.alloc (.cells #[.int .u8 0, .int .i64 0] 36) := ⟨_, rfl⟩
  rw [← hW] at HI0 HS0
  rw [← hW]
  have HQ2 := hide' (HQ.out.keep HS0.out)
  have HQB : Hid (¬ B = q.b) := fun e => by have := HBL.out q.b (.inl rfl); omega
  rw [← hB] at HI0
  try rw [← hB]
  have HBN : Hid (w.heap.size = B) := hB.symm
  clear hW hB
  go_wp2_with fail
  refine (HT.out W HQ2.out).mono ?_
  rintro e w2 ⟨t, v, rfl, ht, hl, hs, ho⟩
  have HL := hide' hl
  have HS := hide' hs
  have HO := hide' ho
  have HI2 := hide' (HI0.out.stay hs HQB.out)
  clear hl hs ho HT HQ2 HI0
  obtain ⟨g, tc, rfl⟩ : ∃ g tc, t = .slice (some ⟨g, 0, none⟩) 1 tc := by
    rcases ht.2 with ⟨_, h⟩ | ⟨g, cap, cur, h, _⟩
    · exact absurd h (by decide)
    · exact ⟨g, cap, h⟩
  have hc0 := ht.cells (g := g) rfl 0 (.int .u8 x) rfl
  have hc1 := ht.cells (g := g) rfl 1 (.int .i64 f) rfl
  rw [addr_add] at hc0 hc1
  simp only [Nat.zero_add] at hc0 hc1
  clear ht
  obtain ⟨i0, i1, j0, j1⟩ := HI2.out
  go_wp2
  have hown : ∀ j, (q.with v q.u).own j → j < w.heap.size := fun j hj => by
    rcases hj with hj | hj | hj
    · exact HBL.out j (.inl hj)
    · exact HBL.out j (.inr (.inl (HO.out j hj)))
    · exact HBL.out j (.inr (.inr hj))
  have hset : Stay (fun j => j = B) w2 _ := ((Stay.refl (fun j => j = B) w2).setCell (p := ⟨B, 0, none⟩) rfl (.int .u8 (Ir.b ⟨x, f⟩))).setCell (p := ⟨B, 1, none⟩) rfl (.int .i64 (Ir.f ⟨x, f⟩))
  have hb := HBN.out
  exact bodyPost_ret (results_i_bool rfl _ _ B ⟨x, f⟩ true rfl rfl (HI2.out.put ⟨x, f⟩)) rfl ⟨v, rfl, HL.out.stay hset (fun j hj e => by have := hown j hj; omega), IBox.stay_put ((HS0.out.mono (T := fun j => j = q.b) (fun _ _ h => h.elim)).trans HS.out) (by omega) _ _, HO.out⟩

end Go.Proofs.Ytffdkkbinkonbaa
