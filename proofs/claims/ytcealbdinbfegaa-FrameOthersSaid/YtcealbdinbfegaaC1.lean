/-
  The functions of rect that call others, walked. No conditions.
-/
import Derived.Test.YtcealbdinbfegaaC0
namespace Go.Proofs.Ytcealbdinbfegaa
open Go.RowKit

/-- A box that holds a rectangle. -/
structure Box (w : World) (b : Nat) (r : R) : Prop where
  c0 : w.cell? ⟨b, 0, none⟩ = some (.int .i64 r.x)
  c1 : w.cell? ⟨b, 1, none⟩ = some (.int .i64 r.y)
  c2 : w.cell? ⟨b, 2, none⟩ = some (.int .i64 r.w)
  c3 : w.cell? ⟨b, 3, none⟩ = some (.int .i64 r.h)
  f0 : w.frozen? ⟨b, 0, none⟩ = false
  f1 : w.frozen? ⟨b, 1, none⟩ = false
  f2 : w.frozen? ⟨b, 2, none⟩ = false
  f3 : w.frozen? ⟨b, 3, none⟩ = false

theorem Box.keep {W w1 : World} {b : Nat} {r : R} (h : Box W b r) (hs : Stay (fun _ => False) W w1) : Box w1 b r :=
  ⟨keep_cell hs h.c0, keep_cell hs h.c1, keep_cell hs h.c2, keep_cell hs h.c3, keep_frozen hs h.c0 h.f0, keep_frozen hs h.c1 h.f1, keep_frozen hs h.c2 h.f2, keep_frozen hs h.c3 h.f3⟩

theorem Box.alloc {w : World} {b : Nat} {r : R} (h : Box w b r) (o : Obj) : Box (w.alloc o) b r := h.keep ((Stay.refl _ _).alloc o)

theorem Box.new {w : World} {b : Nat} (r : R) (h : w.heap.size = b) : Box (w.alloc (.cells #[.int .i64 r.x, .int .i64 r.y, .int .i64 r.w, .int .i64 r.h] 58)) b r := by
  subst h
  constructor <;> simp

theorem right39 (a b : R) (w : World) : Calls Try.prog 39 #[.agg #[.int .i64 a.x, .int .i64 a.y, .int .i64 a.w, .int .i64 a.h], .agg #[.int .i64 b.x, .int .i64 b.y, .int .i64 b.w, .int .i64 b.h]] w
    (Gives (.bool (rightB a && rightB b)) w) := by
  have HS := hide' (((Stay.refl (fun _ => False) w).alloc (.cells #[.int .i64 a.x, .int .i64 a.y, .int .i64 a.w, .int .i64 a.h] 58)).alloc (.cells #[.int .i64 b.x, .int .i64 b.y, .int .i64 b.w, .int .i64 b.h] 58))
  go_enter Try.func39, Try.ntmps39
  go_wp2_with fail
  refine (right35 a _).mono ?_
  rintro e w1 ⟨rfl, hs⟩
  obtain ⟨c0, c1, c2, c3, _⟩ := (Box.new b (by simp) : Box _ (w.heap.size + 1) b).keep hs
  have HS1 := hide' (HS.out.trans hs)
  clear hs
  go_wp2_with (go_at_call 35; refine (right35 b _).mono ?_; rintro e w2 ⟨rfl, hs⟩; have HS2 := hide' (HS1.out.trans hs); clear hs)
  · go_ret
    exact ⟨ret_bool (by simp [*]), HS2.out⟩
  · go_ret
    exact ⟨ret_bool (by simp [*]), HS1.out⟩

def orNoneR (r : R) : R := if emptyB r then ⟨0, 0, 0, 0⟩ else r

theorem ret_rect {a b : R} (h : a = b) : Ending.returned (.agg #[.int .i64 a.x, .int .i64 a.y, .int .i64 a.w, .int .i64 a.h]) = .returned (.agg #[.int .i64 b.x, .int .i64 b.y, .int .i64 b.w, .int .i64 b.h]) := by rw [h]

theorem Box.cells {w : World} {b : Nat} {r : R} (h : Box w b r) : ∀ (j : Nat) (v : Value), [Value.int .i64 r.x, .int .i64 r.y, .int .i64 r.w, .int .i64 r.h][j]? = some v → w.cell? ⟨b, 0 + j, none⟩ = some v := by
  intro j v hj
  match j, hj with
  | 0, hj => cases hj; exact h.c0
  | 1, hj => cases hj; exact h.c1
  | 2, hj => cases hj; exact h.c2
  | 3, hj => cases hj; exact h.c3

theorem results_box {fn : Func} {p : Tmp} (h : fn.results = #[.cell p 58]) (tmps : Array Value) (w : World) (g : Nat) (r : R) (hp : tmps.getD p undef = .pointer (some ⟨g, 0, none⟩)) (hb : Box w g r) :
    (results fn tmps).run Try.prog w = .ok (.agg #[.int .i64 r.x, .int .i64 r.y, .int .i64 r.w, .int .i64 r.h]) w := results_cells h tmps w g 0 _ _ hp hb.cells Try.underlying58 rfl (by kernel_rfl)

/-- The world in which a box holds another rectangle. -/
theorem Box.put {w : World} {b : Nat} {r0 : R} (h : Box w b r0) (r : R) : Box ((((w.setCell ⟨b, 0, none⟩ (.int .i64 r.x)).setCell ⟨b, 1, none⟩ (.int .i64 r.y)).setCell ⟨b, 2, none⟩ (.int .i64 r.w)).setCell ⟨b, 3, none⟩ (.int .i64 r.h)) b r := by
  obtain ⟨h0, h1, h2, h3, k0, k1, k2, k3⟩ := h
  constructor <;> simp [go_sem, *]

theorem Stay.put {S : Nat → Prop} {w w1 : World} {b : Nat} (h : Stay S w w1) (hb : w.heap.size ≤ b) (v0 v1 v2 v3 : Value) : Stay S w ((((w1.setCell ⟨b, 0, none⟩ v0).setCell ⟨b, 1, none⟩ v1).setCell ⟨b, 2, none⟩ v2).setCell ⟨b, 3, none⟩ v3) :=
  (((h.setNew hb v0).setNew hb v1).setNew hb v2).setNew hb v3

theorem orNone40 (r : R) (w : World) : Calls Try.prog 40 #[.agg #[.int .i64 r.x, .int .i64 r.y, .int .i64 r.w, .int .i64 r.h]] w
    (Gives (.agg #[.int .i64 (orNoneR r).x, .int .i64 (orNoneR r).y, .int .i64 (orNoneR r).w, .int .i64 (orNoneR r).h]) w) := by
  have HS := hide' (((Stay.refl (fun _ => False) w).alloc (.cells #[.int .i64 r.x, .int .i64 r.y, .int .i64 r.w, .int .i64 r.h] 58)).alloc (.cells #[.int .i64 0, .int .i64 0, .int .i64 0, .int .i64 0] 58))
  obtain ⟨q, hq⟩ : ∃ q, q = orNoneR r := ⟨_, rfl⟩
  rw [← hq]
  unfold orNoneR at hq
  have HQ := hide' hq
  clear hq
  go_enter Try.func40, Try.ntmps40
  go_wp2_with fail
  refine (empty32 r _).mono ?_
  rintro e w1 ⟨rfl, hs⟩
  obtain ⟨c0, c1, c2, c3, _⟩ := ((Box.new r rfl).alloc _).keep hs
  have HB := hide' ((Box.new ⟨0, 0, 0, 0⟩ (by simp) : Box _ (w.heap.size + 1) ⟨0, 0, 0, 0⟩).keep hs)
  obtain ⟨d0, d1, d2, d3, f0, f1, f2, f3⟩ := HB.out
  have HS1 := hide' (HS.out.trans hs)
  clear hs
  go_wp2
  · have hq := HQ.out
    simp only [*, if_true] at hq
    exact bodyPost_ret (results_box rfl _ _ _ ⟨0, 0, 0, 0⟩ rfl (HB.out.put ⟨0, 0, 0, 0⟩)) rfl ⟨ret_rect (a := ⟨0, 0, 0, 0⟩) hq.symm, HS1.out.put (by simp) _ _ _ _⟩
  · have hq := HQ.out
    simp only [*] at hq
    exact bodyPost_ret (results_box rfl _ _ _ r rfl (HB.out.put r)) rfl ⟨ret_rect (a := r) hq.symm, HS1.out.put (by simp) _ _ _ _⟩

end Go.Proofs.Ytcealbdinbfegaa
