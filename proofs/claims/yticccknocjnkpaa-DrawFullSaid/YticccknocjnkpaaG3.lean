/-
  The small functions of rect, walked. No conditions.
  The functions of rect that call others, walked. No conditions.
  Both of rect, walked. No conditions.
  In, Has, Area, Meets of rect and of the document, walked. No conditions.
  Area of rect, walked. No conditions.
-/
import Derived.Test.YticccknocjnkpaaG0
namespace Go.Proofs.Yticccknocjnkpaa
open Go.RowKit

def nearB (n : Int) : Bool := decide (-1073741824 ≤ n) && decide (n ≤ 1073741824)

/-- A rectangle's numbers. -/
structure R where
  x : Int
  y : Int
  w : Int
  h : Int

/-- Two rectangles are the same if their numbers are. -/
@[reducible] def R.dec (a b : R) : Decidable (a = b) := decidable_of_iff (a.x = b.x ∧ a.y = b.y ∧ a.w = b.w ∧ a.h = b.h) ⟨fun h => by
    obtain ⟨x, y, w, k⟩ := a
    obtain ⟨x', y', w', k'⟩ := b
    simp only at h
    obtain ⟨rfl, rfl, rfl, rfl⟩ := h
    rfl, fun h => by subst h; exact ⟨rfl, rfl, rfl, rfl⟩⟩

attribute [instance] R.dec

def R.val (r : R) : Value := .agg #[.int .i64 r.x, .int .i64 r.y, .int .i64 r.w, .int .i64 r.h]

def emptyB (r : R) : Bool := decide (r.w < 1) || decide (r.h < 1)

theorem near83 (n : Int) (w : World) : Calls Try.prog 83 #[.int .i64 n] w fun e w' => e = .returned (.bool (nearB n)) ∧ w = w' := by
  unfold nearB
  go_enter Try.func83, Try.ntmps83
  go_wp2
  all_goals
    go_ret
    exact ⟨by simp [*] <;> omega, rfl⟩

theorem empty69 (r : R) (w : World) : Calls Try.prog 69 #[.agg #[.int .i64 r.x, .int .i64 r.y, .int .i64 r.w, .int .i64 r.h]] w (Gives (.bool (emptyB r)) w) := by
  have HS := hide' ((Stay.refl (fun _ => False) w).alloc (.cells #[.int .i64 r.x, .int .i64 r.y, .int .i64 r.w, .int .i64 r.h] 41))
  unfold emptyB
  go_enter Try.func69, Try.ntmps69
  go_wp2
  all_goals
    go_ret
    exact ⟨by simp [*], HS.out⟩

def rightB (r : R) : Bool := nearB r.x && nearB r.y && nearB r.w && nearB r.h && decide (0 ≤ r.w) && decide (0 ≤ r.h)

theorem right67 (r : R) (w : World) : Calls Try.prog 67 #[.agg #[.int .i64 r.x, .int .i64 r.y, .int .i64 r.w, .int .i64 r.h]] w (Gives (.bool (rightB r)) w) := by
  have HS := hide' ((Stay.refl (fun _ => False) w).alloc (.cells #[.int .i64 r.x, .int .i64 r.y, .int .i64 r.w, .int .i64 r.h] 41))
  unfold rightB
  go_enter Try.func67, Try.ntmps67
  go_wp2_with (go_at_call 83; refine (near83 _ _).mono ?_; rintro e w' ⟨rfl, rfl⟩)
  all_goals
    go_ret
    exact ⟨by simp [*] <;> omega, HS.out⟩

end Go.Proofs.Yticccknocjnkpaa

namespace Go.Proofs.Yticccknocjnkpaa
open Go.RowKit

/-- A box that holds a rectangle. -/
structure Box (w : World) (b : Nat) (r : R) : Prop where
  c0 : w.cell? ⟨b, 0, none⟩ = some (.int .i64 r.x)
  c1 : w.cell? ⟨b, 1, none⟩ = some (.int .i64 r.y)
  c2 : w.cell? ⟨b, 2, none⟩ = some (.int .i64 r.w)
  c3 : w.cell? ⟨b, 3, none⟩ = some (.int .i64 r.h)
  f0 : w.frozen? ⟨b, 0, none⟩ = false
  f1 : w.frozen? ⟨b, 1, none⟩ = false
  f2 : w.frozen? ⟨b, 2, none⟩ = false
  f3 : w.frozen? ⟨b, 3, none⟩ = false

theorem Box.keep {W w1 : World} {b : Nat} {r : R} (h : Box W b r) (hs : Stay (fun _ => False) W w1) : Box w1 b r :=
  ⟨keep_cell hs h.c0, keep_cell hs h.c1, keep_cell hs h.c2, keep_cell hs h.c3, keep_frozen hs h.c0 h.f0, keep_frozen hs h.c1 h.f1, keep_frozen hs h.c2 h.f2, keep_frozen hs h.c3 h.f3⟩

theorem Box.alloc {w : World} {b : Nat} {r : R} (h : Box w b r) (o : Obj) : Box (w.alloc o) b r := h.keep ((Stay.refl _ _).alloc o)

theorem Box.new {w : World} {b : Nat} (r : R) (h : w.heap.size = b) : Box (w.alloc (.cells #[.int .i64 r.x, .int .i64 r.y, .int .i64 r.w, .int .i64 r.h] 41)) b r := by
  subst h
  constructor <;> simp

theorem right81 (a b : R) (w : World) : Calls Try.prog 81 #[.agg #[.int .i64 a.x, .int .i64 a.y, .int .i64 a.w, .int .i64 a.h], .agg #[.int .i64 b.x, .int .i64 b.y, .int .i64 b.w, .int .i64 b.h]] w
    (Gives (.bool (rightB a && rightB b)) w) := by
  have HS := hide' (((Stay.refl (fun _ => False) w).alloc (.cells #[.int .i64 a.x, .int .i64 a.y, .int .i64 a.w, .int .i64 a.h] 41)).alloc (.cells #[.int .i64 b.x, .int .i64 b.y, .int .i64 b.w, .int .i64 b.h] 41))
  go_enter Try.func81, Try.ntmps81
  go_wp2_with fail
  refine (right67 a _).mono ?_
  rintro e w1 ⟨rfl, hs⟩
  obtain ⟨c0, c1, c2, c3, _⟩ := (Box.new b (by simp) : Box _ (w.heap.size + 1) b).keep hs
  have HS1 := hide' (HS.out.trans hs)
  clear hs
  go_wp2_with (go_at_call 67; refine (right67 b _).mono ?_; rintro e w2 ⟨rfl, hs⟩; have HS2 := hide' (HS1.out.trans hs); clear hs)
  · go_ret
    exact ⟨ret_bool (by simp [*]), HS2.out⟩
  · go_ret
    exact ⟨ret_bool (by simp [*]), HS1.out⟩

def orNoneR (r : R) : R := if emptyB r then ⟨0, 0, 0, 0⟩ else r

theorem ret_rect {a b : R} (h : a = b) : Ending.returned (.agg #[.int .i64 a.x, .int .i64 a.y, .int .i64 a.w, .int .i64 a.h]) = .returned (.agg #[.int .i64 b.x, .int .i64 b.y, .int .i64 b.w, .int .i64 b.h]) := by rw [h]

theorem Box.cells {w : World} {b : Nat} {r : R} (h : Box w b r) : ∀ (j : Nat) (v : Value), [Value.int .i64 r.x, .int .i64 r.y, .int .i64 r.w, .int .i64 r.h][j]? = some v → w.cell? ⟨b, 0 + j, none⟩ = some v := by
  intro j v hj
  match j, hj with
  | 0, hj => cases hj; exact h.c0
  | 1, hj => cases hj; exact h.c1
  | 2, hj => cases hj; exact h.c2
  | 3, hj => cases hj; exact h.c3

theorem results_box {fn : Func} {p : Tmp} (h : fn.results = #[.cell p 41]) (tmps : Array Value) (w : World) (g : Nat) (r : R) (hp : tmps.getD p undef = .pointer (some ⟨g, 0, none⟩)) (hb : Box w g r) :
    (results fn tmps).run Try.prog w = .ok (.agg #[.int .i64 r.x, .int .i64 r.y, .int .i64 r.w, .int .i64 r.h]) w := results_cells h tmps w g 0 _ _ hp hb.cells Try.underlying41 rfl (by kernel_rfl)

/-- The world in which a box holds another rectangle. -/
theorem Box.put {w : World} {b : Nat} {r0 : R} (h : Box w b r0) (r : R) : Box ((((w.setCell ⟨b, 0, none⟩ (.int .i64 r.x)).setCell ⟨b, 1, none⟩ (.int .i64 r.y)).setCell ⟨b, 2, none⟩ (.int .i64 r.w)).setCell ⟨b, 3, none⟩ (.int .i64 r.h)) b r := by
  obtain ⟨h0, h1, h2, h3, k0, k1, k2, k3⟩ := h
  constructor <;> simp [go_sem, *]

theorem Stay.put {S : Nat → Prop} {w w1 : World} {b : Nat} (h : Stay S w w1) (hb : w.heap.size ≤ b) (v0 v1 v2 v3 : Value) : Stay S w ((((w1.setCell ⟨b, 0, none⟩ v0).setCell ⟨b, 1, none⟩ v1).setCell ⟨b, 2, none⟩ v2).setCell ⟨b, 3, none⟩ v3) :=
  (((h.setNew hb v0).setNew hb v1).setNew hb v2).setNew hb v3

theorem orNone82 (r : R) (w : World) : Calls Try.prog 82 #[.agg #[.int .i64 r.x, .int .i64 r.y, .int .i64 r.w, .int .i64 r.h]] w
    (Gives (.agg #[.int .i64 (orNoneR r).x, .int .i64 (orNoneR r).y, .int .i64 (orNoneR r).w, .int .i64 (orNoneR r).h]) w) := by
  have HS := hide' (((Stay.refl (fun _ => False) w).alloc (.cells #[.int .i64 r.x, .int .i64 r.y, .int .i64 r.w, .int .i64 r.h] 41)).alloc (.cells #[.int .i64 0, .int .i64 0, .int .i64 0, .int .i64 0] 41))
  obtain ⟨q, hq⟩ : ∃ q, q = orNoneR r := ⟨_, rfl⟩
  rw [← hq]
  unfold orNoneR at hq
  have HQ := hide' hq
  clear hq
  go_enter Try.func82, Try.ntmps82
  go_wp2_with fail
  refine (empty69 r _).mono ?_
  rintro e w1 ⟨rfl, hs⟩
  obtain ⟨c0, c1, c2, c3, _⟩ := ((Box.new r rfl).alloc _).keep hs
  have HB := hide' ((Box.new ⟨0, 0, 0, 0⟩ (by simp) : Box _ (w.heap.size + 1) ⟨0, 0, 0, 0⟩).keep hs)
  obtain ⟨d0, d1, d2, d3, f0, f1, f2, f3⟩ := HB.out
  have HS1 := hide' (HS.out.trans hs)
  clear hs
  go_wp2
  · have hq := HQ.out
    simp only [*, if_true] at hq
    exact bodyPost_ret (results_box rfl _ _ _ ⟨0, 0, 0, 0⟩ rfl (HB.out.put ⟨0, 0, 0, 0⟩)) rfl ⟨ret_rect (a := ⟨0, 0, 0, 0⟩) hq.symm, HS1.out.put (by simp) _ _ _ _⟩
  · have hq := HQ.out
    simp only [*] at hq
    exact bodyPost_ret (results_box rfl _ _ _ r rfl (HB.out.put r)) rfl ⟨ret_rect (a := r) hq.symm, HS1.out.put (by simp) _ _ _ _⟩

end Go.Proofs.Yticccknocjnkpaa

namespace Go.Proofs.Yticccknocjnkpaa
open Go.RowKit

theorem near_bd {n : Int} (h : nearB n = true) : -1073741824 ≤ n ∧ n ≤ 1073741824 := by unfold nearB at h; simpa using h

theorem right_bd {r : R} (h : rightB r = true) : (-1073741824 ≤ r.x ∧ r.x ≤ 1073741824) ∧ (-1073741824 ≤ r.y ∧ r.y ≤ 1073741824) ∧ (0 ≤ r.w ∧ r.w ≤ 1073741824) ∧ (0 ≤ r.h ∧ r.h ≤ 1073741824) := by
  unfold rightB at h
  simp only [Bool.and_eq_true, decide_eq_true_eq] at h
  obtain ⟨⟨⟨⟨⟨h1, h2⟩, h3⟩, h4⟩, h5⟩, h6⟩ := h
  have := near_bd h1
  have := near_bd h2
  have := near_bd h3
  have := near_bd h4
  omega

def interR (a b : R) : R := ⟨max a.x b.x, max a.y b.y, min (a.x + a.w) (b.x + b.w) - max a.x b.x, min (a.y + a.h) (b.y + b.h) - max a.y b.y⟩

def bothR (a b : R) : R := if (rightB a && rightB b) = true then orNoneR (interR a b) else ⟨0, 0, 0, 0⟩

theorem orNone82_at (r q : R) (h : q = orNoneR r) (w : World) : Calls Try.prog 82 #[.agg #[.int .i64 r.x, .int .i64 r.y, .int .i64 r.w, .int .i64 r.h]] w (Gives (.agg #[.int .i64 q.x, .int .i64 q.y, .int .i64 q.w, .int .i64 q.h]) w) := by
  rw [h]; exact orNone82 r w

set_option maxHeartbeats 1000000 in
theorem both65 (a b : R) (w : World) : Calls Try.prog 65 #[.agg #[.int .i64 a.x, .int .i64 a.y, .int .i64 a.w, .int .i64 a.h], .agg #[.int .i64 b.x, .int .i64 b.y, .int .i64 b.w, .int .i64 b.h]] w (Gives (.agg #[.int .i64 (bothR a b).x, .int .i64 (bothR a b).y, .int .i64 (bothR a b).w, .int .i64 (bothR a b).h]) w) := by
  have HS := hide' ((((Stay.refl (fun _ => False) w).alloc (.cells #[.int .i64 a.x, .int .i64 a.y, .int .i64 a.w, .int .i64 a.h] 41)).alloc (.cells #[.int .i64 b.x, .int .i64 b.y, .int .i64 b.w, .int .i64 b.h] 41)).alloc (.cells #[.int .i64 0, .int .i64 0, .int .i64 0, .int .i64 0] 41))
  obtain ⟨q, hq⟩ : ∃ q, q = bothR a b := ⟨_, rfl⟩
  rw [← hq]
  unfold bothR at hq
  have HQ := hide' hq
  clear hq
  have HR := hide' (right81 a b)
  have HD : Hid ((rightB a && rightB b) = true → rightB a = true ∧ rightB b = true) := fun h => by simpa using h
  obtain ⟨c, hc⟩ : ∃ c, c = (rightB a && rightB b) := ⟨_, rfl⟩
  rw [← hc] at HQ HR HD
  clear hc
  go_enter Try.func65, Try.ntmps65
  go_wp2_with fail
  refine (HR.out _).mono ?_
  rintro e w1 ⟨rfl, hs⟩
  have HBa := hide' (Box.keep (((Box.new a rfl).alloc _).alloc _) hs)
  obtain ⟨ac0, ac1, ac2, ac3, _⟩ := HBa.out
  have HBb := hide' (Box.keep ((Box.new b (by simp [World.size_alloc]) : Box _ (w.heap.size + 1) b).alloc _) hs)
  obtain ⟨bc0, bc1, bc2, bc3, _⟩ := HBb.out
  have HBz := hide' (Box.keep (Box.new ⟨0, 0, 0, 0⟩ (by simp [World.size_alloc]) : Box _ (w.heap.size + 1 + 1) ⟨0, 0, 0, 0⟩) hs)
  obtain ⟨zc0, zc1, zc2, zc3, zf0, zf1, zf2, zf3⟩ := HBz.out
  have HS1 := hide' (HS.out.trans hs)
  clear hs HS
  cases c
  · have hq := HQ.out
    rw [if_neg (by decide)] at hq
    go_wp2
    exact bodyPost_ret (results_box rfl _ _ _ ⟨0, 0, 0, 0⟩ rfl (HBz.out.put ⟨0, 0, 0, 0⟩)) rfl ⟨ret_rect (a := ⟨0, 0, 0, 0⟩) hq.symm, HS1.out.put (by omega) _ _ _ _⟩
  · have hq := HQ.out
    rw [if_pos rfl] at hq
    have hd := HD.out rfl
    have HA := right_bd hd.1
    have HB := right_bd hd.2
    obtain ⟨⟨p1, p2⟩, ⟨p3, p4⟩, ⟨p5, p6⟩, p7, p8⟩ := HA
    obtain ⟨⟨q1, q2⟩, ⟨q3, q4⟩, ⟨q5, q6⟩, q7, q8⟩ := HB
    clear hd HD HQ
    have HQ := hide' hq
    clear hq
    go_wp2_with fail
    go_quiet (fail)
    go_wp2_with fail
    go_quiet (fail)
    go_wp2_with fail
    refine (orNone82_at ⟨_, _, _, _⟩ q (HQ.out.trans (congrArg orNoneR (by simp only [interR]))) _).mono ?_
    rintro e w2 ⟨rfl, hs⟩
    have hs' := ((Stay.refl _ w1).drewN _).trans hs
    have HBz' := hide' (HBz.out.keep hs')
    clear HBz zc0 zc1 zc2 zc3 zf0 zf1 zf2 zf3
    have HBz := HBz'
    clear HBz'
    obtain ⟨zc0, zc1, zc2, zc3, zf0, zf1, zf2, zf3⟩ := HBz.out
    have HS2 := hide' (HS1.out.trans hs')
    clear hs hs'
    go_wp2
    exact bodyPost_ret (results_box rfl _ _ _ q rfl (HBz.out.put q)) rfl ⟨rfl, HS2.out.put (by omega) _ _ _ _⟩

end Go.Proofs.Yticccknocjnkpaa

namespace Go.Proofs.Yticccknocjnkpaa
open Go.RowKit

/-- A number that an int can be. -/
def I64 (n : Int) : Prop := -9223372036854775808 ≤ n ∧ n ≤ 9223372036854775807

def inB (r : R) (x y : Int) : Bool := decide (1 ≤ r.w) && decide (1 ≤ r.h) && decide (r.x ≤ x) && decide (x - r.x < r.w) && decide (r.y ≤ y) && decide (y - r.y < r.h)

theorem within70 (n f s : Int) (w : World) (hn : I64 n) (hf : I64 f) (hs : I64 s) (h1 : 1 ≤ s) : Calls Try.prog 70 #[.int .i64 n, .int .i64 f, .int .i64 s] w fun e w' => e = .returned (.bool (decide (f ≤ n) && decide (n - f < s))) ∧ w = w' := by
  obtain ⟨n1, n2⟩ := hn
  obtain ⟨f1, f2⟩ := hf
  obtain ⟨s1, s2⟩ := hs
  go_enter Try.func70, Try.ntmps70
  go_wp2
  all_goals
    go_ret
    exact ⟨ret_bool (by rw [Bool.eq_iff_iff]; simp [IntKind.wrap_u64, *] <;> omega), rfl⟩

theorem in47 (r : R) (x y : Int) (w : World) (h0 : I64 r.x) (h1 : I64 r.y) (h2 : I64 r.w) (h3 : I64 r.h) (hx : I64 x) (hy : I64 y) :
    Calls Try.prog 47 #[.agg #[.int .i64 r.x, .int .i64 r.y, .int .i64 r.w, .int .i64 r.h], .int .i64 x, .int .i64 y] w (Gives (.bool (inB r x y)) w) := by
  have HS := hide' ((Stay.refl (fun _ => False) w).alloc (.cells #[.int .i64 r.x, .int .i64 r.y, .int .i64 r.w, .int .i64 r.h] 41))
  have HE := hide' (empty69 r)
  have HI : Hid (emptyB r = false → 1 ≤ r.w ∧ 1 ≤ r.h) := by
    intro h
    unfold emptyB at h
    simp at h
    omega
  have HI' : Hid (emptyB r = true → inB r x y = false) := by
    intro h
    unfold emptyB at h
    unfold inB
    simp at h ⊢
    omega
  obtain ⟨c, hc⟩ : ∃ c, c = emptyB r := ⟨_, rfl⟩
  rw [← hc] at HE HI HI'
  clear hc
  cases c
  · obtain ⟨w1', h1'⟩ := HI.out rfl
    have HX := hide' (fun w => within70 x r.x r.w w hx h0 h2 w1')
    have HY := hide' (fun w => within70 y r.y r.h w hy h1 h3 h1')
    have HQ : Hid (inB r x y = ((decide (r.x ≤ x) && decide (x - r.x < r.w)) && (decide (r.y ≤ y) && decide (y - r.y < r.h)))) := by
      show _ = _
      unfold inB
      rw [Bool.eq_iff_iff]
      simp
      omega
    obtain ⟨cx, hcx⟩ : ∃ c, c = (decide (r.x ≤ x) && decide (x - r.x < r.w)) := ⟨_, rfl⟩
    obtain ⟨cy, hcy⟩ : ∃ c, c = (decide (r.y ≤ y) && decide (y - r.y < r.h)) := ⟨_, rfl⟩
    rw [← hcx, ← hcy] at HQ
    rw [← hcx] at HX
    rw [← hcy] at HY
    clear hcx hcy w1' h1' hx hy h0 h1 h2 h3 HI HI'
    go_enter Try.func47, Try.ntmps47
    go_wp2_with fail
    refine (HE.out _).mono ?_
    rintro e w1 ⟨rfl, hs⟩
    have HBr := hide' (Box.keep (Box.new r rfl) hs)
    obtain ⟨rc0, rc1, rc2, rc3, _⟩ := HBr.out
    have HS1 := hide' (HS.out.trans hs)
    clear hs HS
    cases cx
    · go_wp2_with fail
      refine (HX.out _).mono ?_
      rintro e w' ⟨rfl, rfl⟩
      go_wp2
      go_ret
      exact ⟨ret_bool (by rw [HQ.out]; rfl), HS1.out⟩
    · go_wp2_with fail
      refine (HX.out _).mono ?_
      rintro e w' ⟨rfl, rfl⟩
      go_wp2_with fail
      refine (HY.out _).mono ?_
      rintro e w' ⟨rfl, rfl⟩
      go_wp2
      go_ret
      exact ⟨ret_bool (by rw [HQ.out]; rfl), HS1.out⟩
  · have HQ := hide' (HI'.out rfl)
    clear HI HI' hx hy h0 h1 h2 h3
    go_enter Try.func47, Try.ntmps47
    go_wp2_with fail
    refine (HE.out _).mono ?_
    rintro e w1 ⟨rfl, hs⟩
    have HS1 := hide' (HS.out.trans hs)
    clear hs HS
    go_wp2
    go_ret
    exact ⟨ret_bool (by rw [HQ.out]), HS1.out⟩

end Go.Proofs.Yticccknocjnkpaa

namespace Go.Proofs.Yticccknocjnkpaa
open Go.RowKit

def areaI (r : R) : Int := if rightB r = true then r.w * r.h else 0

theorem area_bd {x y : Int} (h1 : 0 ≤ x) (h2 : x ≤ 1073741824) (h3 : 0 ≤ y) (h4 : y ≤ 1073741824) : 0 ≤ x * y ∧ x * y ≤ 1152921504606846976 := by
  refine ⟨Int.mul_nonneg h1 h3, ?_⟩
  have := Int.mul_le_mul h2 h4 h3 (by omega : (0 : Int) ≤ 1073741824)
  omega

theorem area86 (r : R) (w : World) : Calls Try.prog 86 #[.agg #[.int .i64 r.x, .int .i64 r.y, .int .i64 r.w, .int .i64 r.h]] w (Gives (.int .i64 (areaI r)) w) := by
  have HS := hide' ((Stay.refl (fun _ => False) w).alloc (.cells #[.int .i64 r.x, .int .i64 r.y, .int .i64 r.w, .int .i64 r.h] 41))
  have HR := hide' (right67 r)
  have HD := hide' (@right_bd r)
  unfold areaI
  obtain ⟨c, hc⟩ : ∃ c, c = rightB r := ⟨_, rfl⟩
  rw [← hc] at HR HD ⊢
  clear hc
  cases c
  · go_enter Try.func86, Try.ntmps86
    go_wp2_with fail
    refine (HR.out _).mono ?_
    rintro e w1 ⟨rfl, hs⟩
    have HS1 := hide' (HS.out.trans hs)
    clear hs
    go_wp2
    go_ret
    exact ⟨rfl, HS1.out⟩
  · obtain ⟨_, _, ⟨q5, q6⟩, q7, q8⟩ := HD.out rfl
    obtain ⟨m1, m2⟩ := area_bd q5 q6 q7 q8
    clear HD
    go_enter Try.func86, Try.ntmps86
    go_wp2_with fail
    refine (HR.out _).mono ?_
    rintro e w1 ⟨rfl, hs⟩
    have HBr := hide' (Box.keep (Box.new r rfl) hs)
    obtain ⟨rc0, rc1, rc2, rc3, _⟩ := HBr.out
    have HS1 := hide' (HS.out.trans hs)
    clear hs
    go_wp2
    go_ret
    exact ⟨by simp [go_sem], HS1.out⟩

end Go.Proofs.Yticccknocjnkpaa
