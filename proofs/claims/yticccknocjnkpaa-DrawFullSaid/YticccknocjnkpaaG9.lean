/-
  The document of rectangles: far, Right, In: walked. No conditions.
  A view of a window: how far, where on the screen, whose. No conditions.
  A view of a window: whose a cell is. No conditions.
-/
import Derived.Test.YticccknocjnkpaaX6
import Derived.Test.YticccknocjnkpaaG2
import Derived.Deep.MidRow
namespace Go.Proofs.Yticccknocjnkpaa
open Go.RowKit

def farB (n : Int) : Bool := decide (n < -1073741824) || decide (1073741824 < n)

theorem far71 (n : Int) (w : World) : Calls Try.prog 71 #[.int .i64 n] w fun e w' => e = .returned (.bool (farB n)) ∧ w = w' := by
  unfold farB
  go_enter Try.func71, Try.ntmps71
  go_wp2
  all_goals
    go_ret
    exact ⟨by simp [*] <;> omega, rfl⟩

theorem refRight48 (r : R) (w : World) : Calls Try.prog 48 #[.agg #[.int .i64 r.x, .int .i64 r.y, .int .i64 r.w, .int .i64 r.h]] w (Gives (.bool (rightB r)) w) := by
  have HS := hide' ((Stay.refl (fun _ => False) w).alloc (.cells #[.int .i64 r.x, .int .i64 r.y, .int .i64 r.w, .int .i64 r.h] 41))
  have HN := hide' (fun n => (show nearB n = !farB n by unfold nearB farB; rw [Bool.eq_iff_iff]; simp))
  go_enter Try.func48, Try.ntmps48
  go_wp2_with (go_at_call 71; refine (far71 _ _).mono ?_; rintro e w' ⟨rfl, rfl⟩)
  all_goals
    go_ret
    exact ⟨ret_bool (by unfold rightB; simp [HN.out, *] <;> omega), HS.out⟩

theorem row79 (n f s : Int) (w : World) (hn : -4611686018427387904 ≤ n ∧ n ≤ 4611686018427387904) (hf : -4611686018427387903 ≤ f ∧ f ≤ 4611686018427387903) :
    Calls Try.prog 79 #[.int .i64 n, .int .i64 f, .int .i64 s] w fun e w' => e = .returned (.bool (decide (1 ≤ s) && decide (f ≤ n) && decide (n - f < s))) ∧ w = w' := by
  obtain ⟨n1, n2⟩ := hn
  obtain ⟨f1, f2⟩ := hf
  go_enter Try.func79, Try.ntmps79
  go_wp2
  all_goals
    go_ret
    exact ⟨ret_bool (by rw [Bool.eq_iff_iff]; simp [*] <;> omega), rfl⟩

/-- A number that is far from an int's ends. -/
def Mid (n : Int) : Prop := -2305843009213693952 ≤ n ∧ n ≤ 2305843009213693952

theorem refIn58 (r : R) (x y : Int) (w : World) (hr : rightB r = true) (hx : Mid x) (hy : Mid y) :
    Calls Try.prog 58 #[.agg #[.int .i64 r.x, .int .i64 r.y, .int .i64 r.w, .int .i64 r.h], .int .i64 x, .int .i64 y] w (Gives (.bool (inB r x y)) w) := by
  have HS := hide' ((Stay.refl (fun _ => False) w).alloc (.cells #[.int .i64 r.x, .int .i64 r.y, .int .i64 r.w, .int .i64 r.h] 41))
  obtain ⟨⟨p1, p2⟩, ⟨p3, p4⟩, ⟨p5, p6⟩, p7, p8⟩ := right_bd hr
  obtain ⟨x1, x2⟩ := hx
  obtain ⟨y1, y2⟩ := hy
  have HX := hide' (fun w => row79 x r.x r.w w (by omega) (by omega))
  have HY := hide' (fun w => row79 y r.y r.h w (by omega) (by omega))
  have HQ : Hid (inB r x y = ((decide (1 ≤ r.w) && decide (r.x ≤ x) && decide (x - r.x < r.w)) && (decide (1 ≤ r.h) && decide (r.y ≤ y) && decide (y - r.y < r.h)))) := by
    show _ = _
    unfold inB
    rw [Bool.eq_iff_iff]
    simp
    omega
  obtain ⟨cx, hcx⟩ : ∃ c, c = (decide (1 ≤ r.w) && decide (r.x ≤ x) && decide (x - r.x < r.w)) := ⟨_, rfl⟩
  obtain ⟨cy, hcy⟩ : ∃ c, c = (decide (1 ≤ r.h) && decide (r.y ≤ y) && decide (y - r.y < r.h)) := ⟨_, rfl⟩
  rw [← hcx, ← hcy] at HQ
  rw [← hcx] at HX
  rw [← hcy] at HY
  clear hcx hcy p1 p2 p3 p4 p5 p6 p7 p8 x1 x2 y1 y2 hr
  cases cx
  · go_enter Try.func58, Try.ntmps58
    go_wp2_with fail
    refine (HX.out _).mono ?_
    rintro e w' ⟨rfl, rfl⟩
    go_wp2
    go_ret
    exact ⟨ret_bool (by rw [HQ.out]; rfl), HS.out⟩
  · go_enter Try.func58, Try.ntmps58
    go_wp2_with fail
    refine (HX.out _).mono ?_
    rintro e w' ⟨rfl, rfl⟩
    go_wp2_with fail
    refine (HY.out _).mono ?_
    rintro e w' ⟨rfl, rfl⟩
    go_wp2
    go_ret
    exact ⟨ret_bool (by rw [HQ.out]; rfl), HS.out⟩

end Go.Proofs.Yticccknocjnkpaa

namespace Go.Proofs.Yticccknocjnkpaa
open Go.RowKit

theorem near_far (n : Int) : nearB n = !farB n := by
  unfold nearB farB
  rw [Bool.eq_iff_iff]
  simp

theorem near44 (x y : Int) (w : World) : Calls Try.prog 44 #[.int .i64 x, .int .i64 y] w (Gives (.bool (!farB x && !farB y)) w) := by
  have HR := hide' (fun W => right67 ⟨x, y, 0, 0⟩ W)
  have e : rightB ⟨x, y, 0, 0⟩ = (!farB x && !farB y) := by
    rw [← near_far, ← near_far]
    unfold rightB
    have h0 : nearB 0 = true := rfl
    simp only [h0, Bool.and_true, Int.le_refl, decide_true]
  rw [e] at HR
  clear e
  simp only at HR
  obtain ⟨b, hb⟩ : ∃ b, b = (!farB x && !farB y) := ⟨_, rfl⟩
  rw [← hb] at HR ⊢
  clear hb
  go_enter Try.func44, Try.ntmps44
  go_wp2_with fail
  refine (HR.out _).mono ?_
  rintro _ w1 ⟨rfl, hs⟩
  have HS := hide' hs
  clear hs HR
  go_wp2
  go_ret
  exact ⟨rfl, HS.out⟩

/-- Where a rectangle of a window is on the screen. -/
def scrR (p : Wn) (r : R) : R := if rightB r = true then ⟨r.x + p.x, r.y + p.y, r.w, r.h⟩ else ⟨0, 0, 0, 0⟩

set_option maxHeartbeats 1000000 in
theorem onScreen42 (s : Value) (p : Wn) (r : R) (w : World) (hp : OkP p) :
    Calls Try.prog 42 #[.agg #[s, .int .i64 p.id, .int .i64 p.env, .int .i64 p.x, .int .i64 p.y, .int .i64 p.w, .int .i64 p.h, .bool p.hid, .int .i64 p.x, .int .i64 p.y, .int .i64 p.w, .int .i64 p.h], .agg #[.int .i64 r.x, .int .i64 r.y, .int .i64 r.w, .int .i64 r.h]] w (Gives (.agg #[.int .i64 (scrR p r).x, .int .i64 (scrR p r).y, .int .i64 (scrR p r).w, .int .i64 (scrR p r).h]) w) := by
  obtain ⟨W0, hW0⟩ : ∃ W, W = ((w.alloc (.cells #[s, .int .i64 p.id, .int .i64 p.env, .int .i64 p.x, .int .i64 p.y, .int .i64 p.w, .int .i64 p.h, .bool p.hid, .int .i64 p.x, .int .i64 p.y, .int .i64 p.w, .int .i64 p.h] 92)).alloc (.cells #[.int .i64 r.x, .int .i64 r.y, .int .i64 r.w, .int .i64 r.h] 41)).alloc (.cells #[.int .i64 0, .int .i64 0, .int .i64 0, .int .i64 0] 41) := ⟨_, rfl⟩
  obtain ⟨bv, hbv⟩ : ∃ b, b = w.heap.size := ⟨_, rfl⟩
  obtain ⟨br, hbr⟩ : ∃ b, b = bv + 1 := ⟨_, rfl⟩
  obtain ⟨bz, hbz⟩ : ∃ b, b = br + 1 := ⟨_, rfl⟩
  have hst0 : Stay (fun _ => False) w W0 := by rw [hW0]; exact (((Stay.refl _ _).alloc _).alloc _).alloc _
  have HBV := hide' (show VBox W0 bv ⟨s, p.id, p.env, p.x, p.y, p.w, p.h, p.hid, p.x, p.y, p.w, p.h⟩ by rw [hW0]; exact ((VBox.new ⟨s, p.id, p.env, p.x, p.y, p.w, p.h, p.hid, p.x, p.y, p.w, p.h⟩ hbv.symm).alloc _).alloc _)
  have HBR := hide' (show Box W0 br r by rw [hW0]; exact (Box.new r (by rw [hbr, hbv]; simp)).alloc _)
  have HBZ := hide' (show Box W0 bz ⟨0, 0, 0, 0⟩ by rw [hW0]; exact Box.new ⟨0, 0, 0, 0⟩ (by rw [hbz, hbr, hbv]; simp))
  have HST := hide' hst0
  have HNW := hide' (show w.heap.size ≤ bv ∧ w.heap.size ≤ br ∧ w.heap.size ≤ bz ∧ bv ≠ br ∧ bv ≠ bz ∧ br ≠ bz by omega)
  have HR := hide' (fun W => right67 r W)
  have hpb : 0 ≤ p.x ∧ p.x ≤ 512 ∧ 0 ≤ p.y ∧ p.y ≤ 512 := by unfold OkP at hp; omega
  obtain ⟨c, hc⟩ : ∃ c, c = rightB r := ⟨_, rfl⟩
  have HQ : Hid (scrR p r = if c = true then ⟨r.x + p.x, r.y + p.y, r.w, r.h⟩ else ⟨0, 0, 0, 0⟩) := hide' (by unfold scrR; rw [hc])
  have HC : Hid (c = true → -1073741824 ≤ r.x ∧ r.x ≤ 1073741824 ∧ -1073741824 ≤ r.y ∧ r.y ≤ 1073741824) := hide' (fun h => by
    have := right_bd (hc.symm.trans h)
    omega)
  obtain ⟨z, hz⟩ : ∃ z, z = scrR p r := ⟨_, rfl⟩
  rw [← hz] at HQ ⊢
  rw [← hc] at HR
  obtain ⟨r0, r1, r2, r3, _⟩ := HBR.out
  clear hst0 hp hc hz
  go_enter Try.func42, Try.ntmps42
  go_upto_region 1 with fail
  rw [← hW0, ← hbv]
  rw [← hbr]
  rw [← hbz]
  clear hW0 hbv hbr hbz
  go_wp2_with fail
  refine (HR.out _).mono ?_
  rintro _ w1 ⟨rfl, hs⟩
  have HBV1 := hide' (HBV.out.keep hs)
  have HBR1 := hide' (HBR.out.keep hs)
  have HBZ1 := hide' (HBZ.out.keep hs)
  have HS1 := hide' (HST.out.trans hs)
  obtain ⟨z0, z1, z2, z3, y0, y1, y2, y3⟩ := HBZ1.out
  clear r0 r1 r2 r3 hs HBV HBR HBZ HST HR
  cases c
  · have hq : z = ⟨0, 0, 0, 0⟩ := by have h := HQ.out; rwa [if_neg (by decide)] at h
    subst hq
    simp only
    clear HQ HC
    go_wp2
    refine bodyPost_ret (results_box rfl _ _ _ ⟨0, 0, 0, 0⟩ rfl (HBZ1.out.put ⟨0, 0, 0, 0⟩)) rfl ⟨rfl, ?_⟩
    exact HS1.out.put HNW.out.2.2.1 _ _ _ _
  · have hq : z = ⟨r.x + p.x, r.y + p.y, r.w, r.h⟩ := by have h := HQ.out; rwa [if_pos rfl] at h
    subst hq
    simp only
    have hc := HC.out rfl
    have hwx : IntKind.i64.wrap (r.x + p.x) = r.x + p.x := by rw [IntKind.wrap_i64]; omega
    have hwy : IntKind.i64.wrap (r.y + p.y) = r.y + p.y := by rw [IntKind.wrap_i64]; omega
    obtain ⟨v0, v1, v2, v3, v4, v5, v6, v7, v8, v9, va, vb, _⟩ := HBV1.out
    simp only at v0 v1 v2 v3 v4 v5 v6 v7 v8 v9 va vb
    obtain ⟨r0, r1, r2, r3, k0, k1, k2, k3⟩ := HBR1.out
    have hn := HNW.out
    clear HQ HC
    go_wp2
    have hb := boxR_stay HBZ1.out (((Stay.refl (fun j => j = br) w1).setCell (p := ⟨br, 0, none⟩) rfl (.int .i64 (r.x + p.x))).setCell (p := ⟨br, 1, none⟩) rfl (.int .i64 (r.y + p.y))) (fun e => hn.2.2.2.2.2 e.symm)
    refine bodyPost_ret (results_box rfl _ _ _ ⟨r.x + p.x, r.y + p.y, r.w, r.h⟩ rfl (hb.put ⟨r.x + p.x, r.y + p.y, r.w, r.h⟩)) rfl ⟨rfl, ?_⟩
    exact (((HS1.out.setNew hn.2.1 _).setNew hn.2.1 _).put hn.2.2.1 _ _ _ _)

end Go.Proofs.Yticccknocjnkpaa

namespace Go.Proofs.Yticccknocjnkpaa
open Go.RowKit

set_option maxHeartbeats 2000000 in
theorem owns45 (q : Sm) (sw sh m : Int) (L : List Wn) (p : Wn) (x y : Int) (z : Bool) (hz : z = (inB ⟨p.x, p.y, p.w, p.h⟩ x y && (ownerL L x y == p.id))) (w : World) (h : SAt w q sw sh m L) (hok : ∀ p ∈ L, OkP p) (hp : OkP p) (hx : I64 x) (hy : I64 y) :
    Calls Try.prog 45 #[.agg #[.pointer (some ⟨q.b, 0, none⟩), .int .i64 p.id, .int .i64 p.env, .int .i64 p.x, .int .i64 p.y, .int .i64 p.w, .int .i64 p.h, .bool p.hid, .int .i64 p.x, .int .i64 p.y, .int .i64 p.w, .int .i64 p.h], .int .i64 x, .int .i64 y] w (Gives (.bool z) w) := by
  obtain ⟨W0, hW0⟩ : ∃ W, W = w.alloc (.cells #[.pointer (some ⟨q.b, 0, none⟩), .int .i64 p.id, .int .i64 p.env, .int .i64 p.x, .int .i64 p.y, .int .i64 p.w, .int .i64 p.h, .bool p.hid, .int .i64 p.x, .int .i64 p.y, .int .i64 p.w, .int .i64 p.h] 92) := ⟨_, rfl⟩
  obtain ⟨bs, hbs⟩ : ∃ b, b = w.heap.size := ⟨_, rfl⟩
  have hst0 : Stay (fun _ => False) w W0 := by rw [hW0]; exact (Stay.refl _ _).alloc _
  have HST := hide' hst0
  have HBX := hide' (show VBox W0 bs ⟨.pointer (some ⟨q.b, 0, none⟩), p.id, p.env, p.x, p.y, p.w, p.h, p.hid, p.x, p.y, p.w, p.h⟩ by rw [hW0]; exact VBox.new ⟨.pointer (some ⟨q.b, 0, none⟩), p.id, p.env, p.x, p.y, p.w, p.h, p.hid, p.x, p.y, p.w, p.h⟩ hbs.symm)
  have hp0 : OkP p := hp
  unfold OkP at hp0
  obtain ⟨b0, hb0⟩ : ∃ b, b = inB ⟨p.x, p.y, p.w, p.h⟩ x y := ⟨_, rfl⟩
  have HIN := hide' (fun W => in47 ⟨p.x, p.y, p.w, p.h⟩ x y W (by unfold I64; simp only; omega) (by unfold I64; simp only; omega) (by unfold I64; simp only; omega) (by unfold I64; simp only; omega) hx hy)
  rw [← hb0] at HIN
  simp only at HIN
  obtain ⟨ow, how⟩ : ∃ o, o = ownerL L x y := ⟨_, rfl⟩
  have HZ : Hid (z = (b0 && (ow == p.id))) := hide' (by rw [hz, ← hb0, ← how])
  have HOW : Hid (∀ W, Stay (fun _ => False) W0 W → Calls Try.prog 19 #[.pointer (some ⟨q.b, 0, none⟩), .int .i64 x, .int .i64 y] W (Gives (.int .i64 ow) W)) := hide' (fun W hs => by
    rw [how]
    exact owner19 q sw sh m L x y W (h.keep (hst0.trans hs)) hok hx hy)
  have hS : (fun w' => Stay (fun _ => False) W0 w') W0.drew := (Stay.refl _ _).drew
  clear hz h hok hp hst0 hb0 how hx hy
  go_enter Try.func45, Try.ntmps45
  go_upto_region 1 with fail
  rw [← hW0, ← hbs]
  clear hW0 hbs
  cases b0
  · have e : z = false := by rw [HZ.out]; rfl
    subst e
    clear HZ
    refine wp_region_mix (fun w' => Stay (fun _ => False) W0 w') [(0, true), (1, true), (2, true), (3, true), (4, false), (5, true), (6, true), (7, true), (8, true), (9, true), (11, true), (12, true), (13, true), (10, false), (14, true), (15, true), (16, true)] (by kernel_rfl) (by kernel_rfl) (fun _ d _ _ _ h => by cases d <;> exact h) hS ?_
    refine mix_begin (fun K0 hK0 => ?_)
    refine mix_take hK0 (some 7) (.fieldAddr 92 (.tmp 3) 2) 0 _ (by kernel_rfl) (by kernel_rfl) (fun w' hS' => by (obtain ⟨n0, n1, n2, n3, n4, n5, n6, n7, n8, n9, na, nb, _⟩ := HBX.out.keep hS'; simp only at n0 n1 n2 n3 n4 n5 n6 n7 n8 n9 na nb; simp only [opr]; go_simp; try with_reducible rfl)) (fun K1 hK1 => ?_)
    clear hK0 K0
    simp only [Act.put, List.setIfInBounds_toArray, List.set_cons_zero, List.set_cons_succ]
    refine mix_take hK1 (some 8) (.load 41 (.tmp 7)) 41 _ (by kernel_rfl) (by kernel_rfl) (fun w' hS' => by (obtain ⟨n0, n1, n2, n3, n4, n5, n6, n7, n8, n9, na, nb, _⟩ := HBX.out.keep hS'; simp only at n0 n1 n2 n3 n4 n5 n6 n7 n8 n9 na nb; simp only [opr]; go_simp; try with_reducible rfl)) (fun K2 hK2 => ?_)
    clear hK1 K1
    simp only [Act.put, List.setIfInBounds_toArray, List.set_cons_zero, List.set_cons_succ]
    refine mix_take hK2 (some 9) (.move (.tmp 1)) 3 _ (by kernel_rfl) (by kernel_rfl) (fun w' hS' => by (obtain ⟨n0, n1, n2, n3, n4, n5, n6, n7, n8, n9, na, nb, _⟩ := HBX.out.keep hS'; simp only at n0 n1 n2 n3 n4 n5 n6 n7 n8 n9 na nb; simp only [opr]; go_simp; try with_reducible rfl)) (fun K3 hK3 => ?_)
    clear hK2 K2
    simp only [Act.put, List.setIfInBounds_toArray, List.set_cons_zero, List.set_cons_succ]
    refine mix_take hK3 (some 10) (.move (.tmp 2)) 3 _ (by kernel_rfl) (by kernel_rfl) (fun w' hS' => by (obtain ⟨n0, n1, n2, n3, n4, n5, n6, n7, n8, n9, na, nb, _⟩ := HBX.out.keep hS'; simp only at n0 n1 n2 n3 n4 n5 n6 n7 n8 n9 na nb; simp only [opr]; go_simp; try with_reducible rfl)) (fun K4 hK4 => ?_)
    clear hK3 K3
    simp only [Act.put, List.setIfInBounds_toArray, List.set_cons_zero, List.set_cons_succ]
    refine mix_call hK4 (some 11) 47 #[.tmp 8, .tmp 9, .tmp 10] #[41, 3, 3] 4 _ (by kernel_rfl) (by kernel_rfl) (enters Try.func47 (by kernel_rfl) (by kernel_rfl)) (by go_simp; try with_reducible rfl) (fun K5 hK5 => ?_)
    clear hK4 K4
    refine ((HIN.out _)).mono ?_
    rintro e wm1 ⟨rfl, hs1⟩
    have hS1 : _ := (hS.trans hs1)
    refine ⟨_, rfl, hS1, ?_⟩
    clear hs1
    simp only [Act.put, List.setIfInBounds_toArray, List.set_cons_zero, List.set_cons_succ]
    refine mix_take hK5 (some 12) (.move (.tmp 11)) 4 _ (by kernel_rfl) (by kernel_rfl) (fun w' hS' => by (obtain ⟨n0, n1, n2, n3, n4, n5, n6, n7, n8, n9, na, nb, _⟩ := HBX.out.keep hS'; simp only at n0 n1 n2 n3 n4 n5 n6 n7 n8 n9 na nb; simp only [opr]; go_simp; try with_reducible rfl)) (fun K6 hK6 => ?_)
    clear hK5 K5
    simp only [Act.put, List.setIfInBounds_toArray, List.set_cons_zero, List.set_cons_succ]
    refine mix_skip hK6 (some 13) (by kernel_rfl) (by kernel_rfl) hS1 (fun K7 hK7 => ?_)
    clear hK6 K6
    simp only [Act.put, List.setIfInBounds_toArray, List.set_cons_zero, List.set_cons_succ]
    refine mix_skip hK7 (some 14) (by kernel_rfl) (by kernel_rfl) hS1 (fun K8 hK8 => ?_)
    clear hK7 K7
    simp only [Act.put, List.setIfInBounds_toArray, List.set_cons_zero, List.set_cons_succ]
    refine mix_skip hK8 (some 15) (by kernel_rfl) (by kernel_rfl) hS1 (fun K9 hK9 => ?_)
    clear hK8 K8
    simp only [Act.put, List.setIfInBounds_toArray, List.set_cons_zero, List.set_cons_succ]
    refine mix_skip hK9 (some 16) (by kernel_rfl) (by kernel_rfl) hS1 (fun K10 hK10 => ?_)
    clear hK9 K9
    simp only [Act.put, List.setIfInBounds_toArray, List.set_cons_zero, List.set_cons_succ]
    refine mix_skip hK10 (some 18) (by kernel_rfl) (by kernel_rfl) hS1 (fun K11 hK11 => ?_)
    clear hK10 K10
    simp only [Act.put, List.setIfInBounds_toArray, List.set_cons_zero, List.set_cons_succ]
    refine mix_skip hK11 (some 19) (by kernel_rfl) (by kernel_rfl) hS1 (fun K12 hK12 => ?_)
    clear hK11 K11
    simp only [Act.put, List.setIfInBounds_toArray, List.set_cons_zero, List.set_cons_succ]
    refine mix_skip hK12 (some 20) (by kernel_rfl) (by kernel_rfl) hS1 (fun K13 hK13 => ?_)
    clear hK12 K12
    simp only [Act.put, List.setIfInBounds_toArray, List.set_cons_zero, List.set_cons_succ]
    refine mix_skip hK13 (some 17) (by kernel_rfl) (by kernel_rfl) hS1 (fun K14 hK14 => ?_)
    clear hK13 K13
    simp only [Act.put, List.setIfInBounds_toArray, List.set_cons_zero, List.set_cons_succ]
    refine mix_skip hK14 (some 21) (by kernel_rfl) (by kernel_rfl) hS1 (fun K15 hK15 => ?_)
    clear hK14 K14
    simp only [Act.put, List.setIfInBounds_toArray, List.set_cons_zero, List.set_cons_succ]
    refine mix_take hK15 (some 22) (.pick (.tmp 12) (.tmp 21) (.const (Value.bool false))) 4 _ (by kernel_rfl) (by kernel_rfl) (fun w' hS' => by (obtain ⟨n0, n1, n2, n3, n4, n5, n6, n7, n8, n9, na, nb, _⟩ := HBX.out.keep hS'; simp only at n0 n1 n2 n3 n4 n5 n6 n7 n8 n9 na nb; simp only [opr]; go_simp; try with_reducible rfl)) (fun K16 hK16 => ?_)
    clear hK15 K15
    simp only [Act.put, List.setIfInBounds_toArray, List.set_cons_zero, List.set_cons_succ]
    refine mix_take hK16 (some 6) (.assign (.tmp 22)) 4 _ (by kernel_rfl) (by kernel_rfl) (fun w' hS' => by (obtain ⟨n0, n1, n2, n3, n4, n5, n6, n7, n8, n9, na, nb, _⟩ := HBX.out.keep hS'; simp only at n0 n1 n2 n3 n4 n5 n6 n7 n8 n9 na nb; simp only [opr]; go_simp; try with_reducible rfl)) (fun K17 hK17 => ?_)
    clear hK16 K16
    simp only [Act.put, List.setIfInBounds_toArray, List.set_cons_zero, List.set_cons_succ]
    refine hK17 _ _ (mix_nil ?_)
    clear hK17 K17
    have HSF := hide' hS1
    clear HIN HOW
    go_wp2
    go_ret
    exact ⟨rfl, HST.out.trans HSF.out⟩
  · by_cases ho : ow = p.id
    · have e : z = true := by rw [HZ.out, ho]; simp
      have hod : decide (ow = p.id) = true := decide_eq_true ho
      have hob : (ow == p.id) = true := hod
      subst e
      clear HZ ho
      refine wp_region_mix (fun w' => Stay (fun _ => False) W0 w') [(0, true), (1, true), (2, true), (3, true), (4, false), (5, true), (6, true), (7, true), (8, true), (9, true), (11, true), (12, true), (13, true), (10, false), (14, true), (15, true), (16, true)] (by kernel_rfl) (by kernel_rfl) (fun _ d _ _ _ h => by cases d <;> exact h) hS ?_
      refine mix_begin (fun K0 hK0 => ?_)
      refine mix_take hK0 (some 7) (.fieldAddr 92 (.tmp 3) 2) 0 _ (by kernel_rfl) (by kernel_rfl) (fun w' hS' => by (obtain ⟨n0, n1, n2, n3, n4, n5, n6, n7, n8, n9, na, nb, _⟩ := HBX.out.keep hS'; simp only at n0 n1 n2 n3 n4 n5 n6 n7 n8 n9 na nb; simp only [opr]; go_simp; try with_reducible rfl)) (fun K1 hK1 => ?_)
      clear hK0 K0
      simp only [Act.put, List.setIfInBounds_toArray, List.set_cons_zero, List.set_cons_succ]
      refine mix_take hK1 (some 8) (.load 41 (.tmp 7)) 41 _ (by kernel_rfl) (by kernel_rfl) (fun w' hS' => by (obtain ⟨n0, n1, n2, n3, n4, n5, n6, n7, n8, n9, na, nb, _⟩ := HBX.out.keep hS'; simp only at n0 n1 n2 n3 n4 n5 n6 n7 n8 n9 na nb; simp only [opr]; go_simp; try with_reducible rfl)) (fun K2 hK2 => ?_)
      clear hK1 K1
      simp only [Act.put, List.setIfInBounds_toArray, List.set_cons_zero, List.set_cons_succ]
      refine mix_take hK2 (some 9) (.move (.tmp 1)) 3 _ (by kernel_rfl) (by kernel_rfl) (fun w' hS' => by (obtain ⟨n0, n1, n2, n3, n4, n5, n6, n7, n8, n9, na, nb, _⟩ := HBX.out.keep hS'; simp only at n0 n1 n2 n3 n4 n5 n6 n7 n8 n9 na nb; simp only [opr]; go_simp; try with_reducible rfl)) (fun K3 hK3 => ?_)
      clear hK2 K2
      simp only [Act.put, List.setIfInBounds_toArray, List.set_cons_zero, List.set_cons_succ]
      refine mix_take hK3 (some 10) (.move (.tmp 2)) 3 _ (by kernel_rfl) (by kernel_rfl) (fun w' hS' => by (obtain ⟨n0, n1, n2, n3, n4, n5, n6, n7, n8, n9, na, nb, _⟩ := HBX.out.keep hS'; simp only at n0 n1 n2 n3 n4 n5 n6 n7 n8 n9 na nb; simp only [opr]; go_simp; try with_reducible rfl)) (fun K4 hK4 => ?_)
      clear hK3 K3
      simp only [Act.put, List.setIfInBounds_toArray, List.set_cons_zero, List.set_cons_succ]
      refine mix_call hK4 (some 11) 47 #[.tmp 8, .tmp 9, .tmp 10] #[41, 3, 3] 4 _ (by kernel_rfl) (by kernel_rfl) (enters Try.func47 (by kernel_rfl) (by kernel_rfl)) (by go_simp; try with_reducible rfl) (fun K5 hK5 => ?_)
      clear hK4 K4
      refine ((HIN.out _)).mono ?_
      rintro e wm1 ⟨rfl, hs1⟩
      have hS1 : _ := (hS.trans hs1)
      refine ⟨_, rfl, hS1, ?_⟩
      clear hs1
      simp only [Act.put, List.setIfInBounds_toArray, List.set_cons_zero, List.set_cons_succ]
      refine mix_take hK5 (some 12) (.move (.tmp 11)) 4 _ (by kernel_rfl) (by kernel_rfl) (fun w' hS' => by (obtain ⟨n0, n1, n2, n3, n4, n5, n6, n7, n8, n9, na, nb, _⟩ := HBX.out.keep hS'; simp only at n0 n1 n2 n3 n4 n5 n6 n7 n8 n9 na nb; simp only [opr]; go_simp; try with_reducible rfl)) (fun K6 hK6 => ?_)
      clear hK5 K5
      simp only [Act.put, List.setIfInBounds_toArray, List.set_cons_zero, List.set_cons_succ]
      refine mix_take hK6 (some 13) (.fieldAddr 92 (.tmp 3) 0) 0 _ (by kernel_rfl) (by kernel_rfl) (fun w' hS' => by (obtain ⟨n0, n1, n2, n3, n4, n5, n6, n7, n8, n9, na, nb, _⟩ := HBX.out.keep hS'; simp only at n0 n1 n2 n3 n4 n5 n6 n7 n8 n9 na nb; simp only [opr]; go_simp; try with_reducible rfl)) (fun K7 hK7 => ?_)
      clear hK6 K6
      simp only [Act.put, List.setIfInBounds_toArray, List.set_cons_zero, List.set_cons_succ]
      refine mix_take hK7 (some 14) (.load 28 (.tmp 13)) 28 _ (by kernel_rfl) (by kernel_rfl) (fun w' hS' => by (obtain ⟨n0, n1, n2, n3, n4, n5, n6, n7, n8, n9, na, nb, _⟩ := HBX.out.keep hS'; simp only at n0 n1 n2 n3 n4 n5 n6 n7 n8 n9 na nb; simp only [opr]; go_simp; try with_reducible rfl)) (fun K8 hK8 => ?_)
      clear hK7 K7
      simp only [Act.put, List.setIfInBounds_toArray, List.set_cons_zero, List.set_cons_succ]
      refine mix_take hK8 (some 15) (.move (.tmp 1)) 3 _ (by kernel_rfl) (by kernel_rfl) (fun w' hS' => by (obtain ⟨n0, n1, n2, n3, n4, n5, n6, n7, n8, n9, na, nb, _⟩ := HBX.out.keep hS'; simp only at n0 n1 n2 n3 n4 n5 n6 n7 n8 n9 na nb; simp only [opr]; go_simp; try with_reducible rfl)) (fun K9 hK9 => ?_)
      clear hK8 K8
      simp only [Act.put, List.setIfInBounds_toArray, List.set_cons_zero, List.set_cons_succ]
      refine mix_take hK9 (some 16) (.move (.tmp 2)) 3 _ (by kernel_rfl) (by kernel_rfl) (fun w' hS' => by (obtain ⟨n0, n1, n2, n3, n4, n5, n6, n7, n8, n9, na, nb, _⟩ := HBX.out.keep hS'; simp only at n0 n1 n2 n3 n4 n5 n6 n7 n8 n9 na nb; simp only [opr]; go_simp; try with_reducible rfl)) (fun K10 hK10 => ?_)
      clear hK9 K9
      simp only [Act.put, List.setIfInBounds_toArray, List.set_cons_zero, List.set_cons_succ]
      refine mix_take hK10 (some 18) (.fieldAddr 92 (.tmp 3) 1) 0 _ (by kernel_rfl) (by kernel_rfl) (fun w' hS' => by (obtain ⟨n0, n1, n2, n3, n4, n5, n6, n7, n8, n9, na, nb, _⟩ := HBX.out.keep hS'; simp only at n0 n1 n2 n3 n4 n5 n6 n7 n8 n9 na nb; simp only [opr]; go_simp; try with_reducible rfl)) (fun K11 hK11 => ?_)
      clear hK10 K10
      simp only [Act.put, List.setIfInBounds_toArray, List.set_cons_zero, List.set_cons_succ]
      refine mix_take hK11 (some 19) (.fieldAddr 78 (.tmp 18) 0) 0 _ (by kernel_rfl) (by kernel_rfl) (fun w' hS' => by (obtain ⟨n0, n1, n2, n3, n4, n5, n6, n7, n8, n9, na, nb, _⟩ := HBX.out.keep hS'; simp only at n0 n1 n2 n3 n4 n5 n6 n7 n8 n9 na nb; simp only [opr]; go_simp; try with_reducible rfl)) (fun K12 hK12 => ?_)
      clear hK11 K11
      simp only [Act.put, List.setIfInBounds_toArray, List.set_cons_zero, List.set_cons_succ]
      refine mix_take hK12 (some 20) (.load 3 (.tmp 19)) 3 _ (by kernel_rfl) (by kernel_rfl) (fun w' hS' => by (obtain ⟨n0, n1, n2, n3, n4, n5, n6, n7, n8, n9, na, nb, _⟩ := HBX.out.keep hS'; simp only at n0 n1 n2 n3 n4 n5 n6 n7 n8 n9 na nb; simp only [opr]; go_simp; try with_reducible rfl)) (fun K13 hK13 => ?_)
      clear hK12 K12
      simp only [Act.put, List.setIfInBounds_toArray, List.set_cons_zero, List.set_cons_succ]
      refine mix_call hK13 (some 17) 19 #[.tmp 14, .tmp 15, .tmp 16] #[28, 3, 3] 3 _ (by kernel_rfl) (by kernel_rfl) (enters Try.func19 (by kernel_rfl) (by kernel_rfl)) (by go_simp; try with_reducible rfl) (fun K14 hK14 => ?_)
      clear hK13 K13
      refine ((HOW.out _ hS1)).mono ?_
      rintro e wm2 ⟨rfl, hs2⟩
      have hS2 : _ := (hS1.trans hs2)
      refine ⟨_, rfl, hS2, ?_⟩
      clear hs2
      simp only [Act.put, List.setIfInBounds_toArray, List.set_cons_zero, List.set_cons_succ]
      refine mix_take hK14 (some 21) (.binOp BinOp.eql 3 (.tmp 17) (.tmp 20) 3) 4 _ (by kernel_rfl) (by kernel_rfl) (fun w' hS' => by (obtain ⟨n0, n1, n2, n3, n4, n5, n6, n7, n8, n9, na, nb, _⟩ := HBX.out.keep hS'; simp only at n0 n1 n2 n3 n4 n5 n6 n7 n8 n9 na nb; simp only [opr]; go_simp; first | rw [hod] | rw [hob] | skip; try with_reducible rfl)) (fun K15 hK15 => ?_)
      clear hK14 K14
      simp only [Act.put, List.setIfInBounds_toArray, List.set_cons_zero, List.set_cons_succ]
      refine mix_take hK15 (some 22) (.pick (.tmp 12) (.tmp 21) (.const (Value.bool false))) 4 _ (by kernel_rfl) (by kernel_rfl) (fun w' hS' => by (obtain ⟨n0, n1, n2, n3, n4, n5, n6, n7, n8, n9, na, nb, _⟩ := HBX.out.keep hS'; simp only at n0 n1 n2 n3 n4 n5 n6 n7 n8 n9 na nb; simp only [opr]; go_simp; try with_reducible rfl)) (fun K16 hK16 => ?_)
      clear hK15 K15
      simp only [Act.put, List.setIfInBounds_toArray, List.set_cons_zero, List.set_cons_succ]
      refine mix_take hK16 (some 6) (.assign (.tmp 22)) 4 _ (by kernel_rfl) (by kernel_rfl) (fun w' hS' => by (obtain ⟨n0, n1, n2, n3, n4, n5, n6, n7, n8, n9, na, nb, _⟩ := HBX.out.keep hS'; simp only at n0 n1 n2 n3 n4 n5 n6 n7 n8 n9 na nb; simp only [opr]; go_simp; try with_reducible rfl)) (fun K17 hK17 => ?_)
      clear hK16 K16
      simp only [Act.put, List.setIfInBounds_toArray, List.set_cons_zero, List.set_cons_succ]
      refine hK17 _ _ (mix_nil ?_)
      clear hK17 K17
      have HSF := hide' hS2
      clear HIN HOW
      go_wp2
      go_ret
      exact ⟨rfl, HST.out.trans HSF.out⟩
    · have hod : decide (ow = p.id) = false := decide_eq_false ho
      have hob : (ow == p.id) = false := hod
      have e : z = false := by rw [HZ.out, hob]; rfl
      subst e
      clear HZ ho
      refine wp_region_mix (fun w' => Stay (fun _ => False) W0 w') [(0, true), (1, true), (2, true), (3, true), (4, false), (5, true), (6, true), (7, true), (8, true), (9, true), (11, true), (12, true), (13, true), (10, false), (14, true), (15, true), (16, true)] (by kernel_rfl) (by kernel_rfl) (fun _ d _ _ _ h => by cases d <;> exact h) hS ?_
      refine mix_begin (fun K0 hK0 => ?_)
      refine mix_take hK0 (some 7) (.fieldAddr 92 (.tmp 3) 2) 0 _ (by kernel_rfl) (by kernel_rfl) (fun w' hS' => by (obtain ⟨n0, n1, n2, n3, n4, n5, n6, n7, n8, n9, na, nb, _⟩ := HBX.out.keep hS'; simp only at n0 n1 n2 n3 n4 n5 n6 n7 n8 n9 na nb; simp only [opr]; go_simp; try with_reducible rfl)) (fun K1 hK1 => ?_)
      clear hK0 K0
      simp only [Act.put, List.setIfInBounds_toArray, List.set_cons_zero, List.set_cons_succ]
      refine mix_take hK1 (some 8) (.load 41 (.tmp 7)) 41 _ (by kernel_rfl) (by kernel_rfl) (fun w' hS' => by (obtain ⟨n0, n1, n2, n3, n4, n5, n6, n7, n8, n9, na, nb, _⟩ := HBX.out.keep hS'; simp only at n0 n1 n2 n3 n4 n5 n6 n7 n8 n9 na nb; simp only [opr]; go_simp; try with_reducible rfl)) (fun K2 hK2 => ?_)
      clear hK1 K1
      simp only [Act.put, List.setIfInBounds_toArray, List.set_cons_zero, List.set_cons_succ]
      refine mix_take hK2 (some 9) (.move (.tmp 1)) 3 _ (by kernel_rfl) (by kernel_rfl) (fun w' hS' => by (obtain ⟨n0, n1, n2, n3, n4, n5, n6, n7, n8, n9, na, nb, _⟩ := HBX.out.keep hS'; simp only at n0 n1 n2 n3 n4 n5 n6 n7 n8 n9 na nb; simp only [opr]; go_simp; try with_reducible rfl)) (fun K3 hK3 => ?_)
      clear hK2 K2
      simp only [Act.put, List.setIfInBounds_toArray, List.set_cons_zero, List.set_cons_succ]
      refine mix_take hK3 (some 10) (.move (.tmp 2)) 3 _ (by kernel_rfl) (by kernel_rfl) (fun w' hS' => by (obtain ⟨n0, n1, n2, n3, n4, n5, n6, n7, n8, n9, na, nb, _⟩ := HBX.out.keep hS'; simp only at n0 n1 n2 n3 n4 n5 n6 n7 n8 n9 na nb; simp only [opr]; go_simp; try with_reducible rfl)) (fun K4 hK4 => ?_)
      clear hK3 K3
      simp only [Act.put, List.setIfInBounds_toArray, List.set_cons_zero, List.set_cons_succ]
      refine mix_call hK4 (some 11) 47 #[.tmp 8, .tmp 9, .tmp 10] #[41, 3, 3] 4 _ (by kernel_rfl) (by kernel_rfl) (enters Try.func47 (by kernel_rfl) (by kernel_rfl)) (by go_simp; try with_reducible rfl) (fun K5 hK5 => ?_)
      clear hK4 K4
      refine ((HIN.out _)).mono ?_
      rintro e wm1 ⟨rfl, hs1⟩
      have hS1 : _ := (hS.trans hs1)
      refine ⟨_, rfl, hS1, ?_⟩
      clear hs1
      simp only [Act.put, List.setIfInBounds_toArray, List.set_cons_zero, List.set_cons_succ]
      refine mix_take hK5 (some 12) (.move (.tmp 11)) 4 _ (by kernel_rfl) (by kernel_rfl) (fun w' hS' => by (obtain ⟨n0, n1, n2, n3, n4, n5, n6, n7, n8, n9, na, nb, _⟩ := HBX.out.keep hS'; simp only at n0 n1 n2 n3 n4 n5 n6 n7 n8 n9 na nb; simp only [opr]; go_simp; try with_reducible rfl)) (fun K6 hK6 => ?_)
      clear hK5 K5
      simp only [Act.put, List.setIfInBounds_toArray, List.set_cons_zero, List.set_cons_succ]
      refine mix_take hK6 (some 13) (.fieldAddr 92 (.tmp 3) 0) 0 _ (by kernel_rfl) (by kernel_rfl) (fun w' hS' => by (obtain ⟨n0, n1, n2, n3, n4, n5, n6, n7, n8, n9, na, nb, _⟩ := HBX.out.keep hS'; simp only at n0 n1 n2 n3 n4 n5 n6 n7 n8 n9 na nb; simp only [opr]; go_simp; try with_reducible rfl)) (fun K7 hK7 => ?_)
      clear hK6 K6
      simp only [Act.put, List.setIfInBounds_toArray, List.set_cons_zero, List.set_cons_succ]
      refine mix_take hK7 (some 14) (.load 28 (.tmp 13)) 28 _ (by kernel_rfl) (by kernel_rfl) (fun w' hS' => by (obtain ⟨n0, n1, n2, n3, n4, n5, n6, n7, n8, n9, na, nb, _⟩ := HBX.out.keep hS'; simp only at n0 n1 n2 n3 n4 n5 n6 n7 n8 n9 na nb; simp only [opr]; go_simp; try with_reducible rfl)) (fun K8 hK8 => ?_)
      clear hK7 K7
      simp only [Act.put, List.setIfInBounds_toArray, List.set_cons_zero, List.set_cons_succ]
      refine mix_take hK8 (some 15) (.move (.tmp 1)) 3 _ (by kernel_rfl) (by kernel_rfl) (fun w' hS' => by (obtain ⟨n0, n1, n2, n3, n4, n5, n6, n7, n8, n9, na, nb, _⟩ := HBX.out.keep hS'; simp only at n0 n1 n2 n3 n4 n5 n6 n7 n8 n9 na nb; simp only [opr]; go_simp; try with_reducible rfl)) (fun K9 hK9 => ?_)
      clear hK8 K8
      simp only [Act.put, List.setIfInBounds_toArray, List.set_cons_zero, List.set_cons_succ]
      refine mix_take hK9 (some 16) (.move (.tmp 2)) 3 _ (by kernel_rfl) (by kernel_rfl) (fun w' hS' => by (obtain ⟨n0, n1, n2, n3, n4, n5, n6, n7, n8, n9, na, nb, _⟩ := HBX.out.keep hS'; simp only at n0 n1 n2 n3 n4 n5 n6 n7 n8 n9 na nb; simp only [opr]; go_simp; try with_reducible rfl)) (fun K10 hK10 => ?_)
      clear hK9 K9
      simp only [Act.put, List.setIfInBounds_toArray, List.set_cons_zero, List.set_cons_succ]
      refine mix_take hK10 (some 18) (.fieldAddr 92 (.tmp 3) 1) 0 _ (by kernel_rfl) (by kernel_rfl) (fun w' hS' => by (obtain ⟨n0, n1, n2, n3, n4, n5, n6, n7, n8, n9, na, nb, _⟩ := HBX.out.keep hS'; simp only at n0 n1 n2 n3 n4 n5 n6 n7 n8 n9 na nb; simp only [opr]; go_simp; try with_reducible rfl)) (fun K11 hK11 => ?_)
      clear hK10 K10
      simp only [Act.put, List.setIfInBounds_toArray, List.set_cons_zero, List.set_cons_succ]
      refine mix_take hK11 (some 19) (.fieldAddr 78 (.tmp 18) 0) 0 _ (by kernel_rfl) (by kernel_rfl) (fun w' hS' => by (obtain ⟨n0, n1, n2, n3, n4, n5, n6, n7, n8, n9, na, nb, _⟩ := HBX.out.keep hS'; simp only at n0 n1 n2 n3 n4 n5 n6 n7 n8 n9 na nb; simp only [opr]; go_simp; try with_reducible rfl)) (fun K12 hK12 => ?_)
      clear hK11 K11
      simp only [Act.put, List.setIfInBounds_toArray, List.set_cons_zero, List.set_cons_succ]
      refine mix_take hK12 (some 20) (.load 3 (.tmp 19)) 3 _ (by kernel_rfl) (by kernel_rfl) (fun w' hS' => by (obtain ⟨n0, n1, n2, n3, n4, n5, n6, n7, n8, n9, na, nb, _⟩ := HBX.out.keep hS'; simp only at n0 n1 n2 n3 n4 n5 n6 n7 n8 n9 na nb; simp only [opr]; go_simp; try with_reducible rfl)) (fun K13 hK13 => ?_)
      clear hK12 K12
      simp only [Act.put, List.setIfInBounds_toArray, List.set_cons_zero, List.set_cons_succ]
      refine mix_call hK13 (some 17) 19 #[.tmp 14, .tmp 15, .tmp 16] #[28, 3, 3] 3 _ (by kernel_rfl) (by kernel_rfl) (enters Try.func19 (by kernel_rfl) (by kernel_rfl)) (by go_simp; try with_reducible rfl) (fun K14 hK14 => ?_)
      clear hK13 K13
      refine ((HOW.out _ hS1)).mono ?_
      rintro e wm2 ⟨rfl, hs2⟩
      have hS2 : _ := (hS1.trans hs2)
      refine ⟨_, rfl, hS2, ?_⟩
      clear hs2
      simp only [Act.put, List.setIfInBounds_toArray, List.set_cons_zero, List.set_cons_succ]
      refine mix_take hK14 (some 21) (.binOp BinOp.eql 3 (.tmp 17) (.tmp 20) 3) 4 _ (by kernel_rfl) (by kernel_rfl) (fun w' hS' => by (obtain ⟨n0, n1, n2, n3, n4, n5, n6, n7, n8, n9, na, nb, _⟩ := HBX.out.keep hS'; simp only at n0 n1 n2 n3 n4 n5 n6 n7 n8 n9 na nb; simp only [opr]; go_simp; first | rw [hod] | rw [hob] | skip; try with_reducible rfl)) (fun K15 hK15 => ?_)
      clear hK14 K14
      simp only [Act.put, List.setIfInBounds_toArray, List.set_cons_zero, List.set_cons_succ]
      refine mix_take hK15 (some 22) (.pick (.tmp 12) (.tmp 21) (.const (Value.bool false))) 4 _ (by kernel_rfl) (by kernel_rfl) (fun w' hS' => by (obtain ⟨n0, n1, n2, n3, n4, n5, n6, n7, n8, n9, na, nb, _⟩ := HBX.out.keep hS'; simp only at n0 n1 n2 n3 n4 n5 n6 n7 n8 n9 na nb; simp only [opr]; go_simp; try with_reducible rfl)) (fun K16 hK16 => ?_)
      clear hK15 K15
      simp only [Act.put, List.setIfInBounds_toArray, List.set_cons_zero, List.set_cons_succ]
      refine mix_take hK16 (some 6) (.assign (.tmp 22)) 4 _ (by kernel_rfl) (by kernel_rfl) (fun w' hS' => by (obtain ⟨n0, n1, n2, n3, n4, n5, n6, n7, n8, n9, na, nb, _⟩ := HBX.out.keep hS'; simp only at n0 n1 n2 n3 n4 n5 n6 n7 n8 n9 na nb; simp only [opr]; go_simp; try with_reducible rfl)) (fun K17 hK17 => ?_)
      clear hK16 K16
      simp only [Act.put, List.setIfInBounds_toArray, List.set_cons_zero, List.set_cons_succ]
      refine hK17 _ _ (mix_nil ?_)
      clear hK17 K17
      have HSF := hide' hS2
      clear HIN HOW
      go_wp2
      go_ret
      exact ⟨rfl, HST.out.trans HSF.out⟩

end Go.Proofs.Yticccknocjnkpaa
