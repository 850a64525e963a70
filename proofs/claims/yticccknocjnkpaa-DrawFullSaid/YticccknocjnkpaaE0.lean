/-
  The document's grids: In, At, New, Right, walked. No conditions.
-/
import Derived.Test.YticccknocjnkpaaG5
namespace Go.Proofs.Yticccknocjnkpaa
open Go.RowKit

/-- Where the document's grid lies, and its size. -/
structure Rf where
  b : Nat
  w : Nat
  h : Nat
  n : Nat
  cap : Nat

/-- The document's grid, as a value. -/
def Rf.g3 (q : Rf) : G3 := ⟨q.w, q.h, .slice (some ⟨q.b, 0, none⟩) q.n q.cap⟩

/-- The document's grid in memory, and its cells. -/
structure RefAt (W : World) (q : Rf) (f : Nat → Cl) : Prop where
  pix : Pix W q.b q.n f
  n1 : q.n = q.w * q.h
  n2 : q.n ≤ q.cap
  n3 : q.cap ≤ maxLen
  w1 : 1 ≤ q.w
  w2 : q.w ≤ 512
  h1 : 1 ≤ q.h
  h2 : q.h ≤ 512

theorem RefAt.pos {W : World} {q : Rf} {f : Nat → Cl} (h : RefAt W q f) : 0 < q.n := by rw [h.n1]; exact Nat.mul_pos h.w1 h.h1

theorem RefAt.lt {W : World} {q : Rf} {f : Nat → Cl} (h : RefAt W q f) : q.b < W.heap.size := h.pix.lt h.pos

theorem RefAt.big {W : World} {q : Rf} {f : Nat → Cl} (h : RefAt W q f) : q.n ≤ 262144 := by rw [h.n1]; exact Nat.mul_le_mul h.w2 h.h2

theorem RefAt.stay {T : Nat → Prop} {W W1 : World} {q : Rf} {f : Nat → Cl} (h : RefAt W q f) (hs : Stay T W W1) (hn : ¬ T q.b) : RefAt W1 q f := ⟨h.pix.stay hs hn, h.n1, h.n2, h.n3, h.w1, h.w2, h.h1, h.h2⟩

theorem RefAt.keep {W W1 : World} {q : Rf} {f : Nat → Cl} (h : RefAt W q f) (hs : Stay (fun _ => False) W W1) : RefAt W1 q f := h.stay hs (fun h => h)

theorem RefAt.congr {W : World} {q : Rf} {f g : Nat → Cl} (h : RefAt W q f) (e : ∀ i, i < q.n → f i = g i) : RefAt W q g := ⟨h.pix.congr e, h.n1, h.n2, h.n3, h.w1, h.w2, h.h1, h.h2⟩

theorem RefAt.put {W : World} {q : Rf} {f : Nat → Cl} (h : RefAt W q f) (k : Nat) (c : Cl) : RefAt (W.setCells q.b (k * 4) c.parts) q (fun i => if i = k then c else f i) := ⟨h.pix.set k c, h.n1, h.n2, h.n3, h.w1, h.w2, h.h1, h.h2⟩

theorem RefAt.cells {W : World} {q : Rf} {f : Nat → Cl} (h : RefAt W q f) {X Y : Nat} (hx : X < q.w) (hy : Y < q.h) : CAt W q.b ((Y * q.w + X) * 4) (f (Y * q.w + X)) := h.pix _ (by rw [h.n1]; exact idx_lt hx hy)

theorem refIn78 (q : Rf) (x y : Int) (w : World) (h1 : 1 ≤ q.w) (h2 : 1 ≤ q.h) : Calls Try.prog 78 #[.agg #[.int .i64 q.g3.w, .int .i64 q.g3.h, q.g3.l], .int .i64 x, .int .i64 y] w (Gives (.bool (insB q.w q.h x y)) w) := by
  have HS := hide' ((Stay.refl (fun _ => False) w).alloc (.cells #[.int .i64 q.g3.w, .int .i64 q.g3.h, q.g3.l] 35))
  have HQ : Hid (insB q.w q.h x y = (decide (0 ≤ x) && decide (x < (q.w : Nat)) && decide (0 ≤ y) && decide (y < (q.h : Nat)))) := by
    show _ = _
    unfold insB inB
    rw [Bool.eq_iff_iff]
    simp
    omega
  obtain ⟨g, hg⟩ : ∃ g, g = q.g3 := ⟨_, rfl⟩
  have ew : (q.w : Int) = g.w := by rw [hg]; rfl
  have eh : (q.h : Int) = g.h := by rw [hg]; rfl
  rw [ew, eh] at HQ
  rw [← hg] at HS ⊢
  clear h1 h2 hg ew eh
  go_enter Try.func78, Try.ntmps78
  go_wp2
  all_goals
    go_ret
    exact ⟨ret_bool (by rw [HQ.out, Bool.eq_iff_iff]; simp [*] <;> omega), HS.out⟩

theorem refAt59 (q : Rf) (f : Nat → Cl) (x y : Int) (w : World) (hq : RefAt w q f) : Calls Try.prog 59 #[.agg #[.int .i64 q.g3.w, .int .i64 q.g3.h, q.g3.l], .int .i64 x, .int .i64 y] w (Gives (.agg #[.int .i32 (atF q.w q.h f x y).r, .int .i64 (atF q.w q.h f x y).fg, .int .i64 (atF q.w q.h f x y).bg, .int .i64 (atF q.w q.h f x y).fl]) w) := by
  have hs0 : Stay (fun _ => False) w ((w.alloc (.cells #[.int .i64 q.g3.w, .int .i64 q.g3.h, q.g3.l] 35)).alloc (.cells #[.int .i32 0, .int .i64 0, .int .i64 0, .int .i64 0] 53)) := ((Stay.refl _ _).alloc _).alloc _
  have HS := hide' hs0
  have HQ := hide' (hq.keep hs0)
  have HI := hide' (fun w => refIn78 q x y w hq.w1 hq.h1)
  obtain ⟨p, hp⟩ : ∃ p, p = atF q.w q.h f x y := ⟨_, rfl⟩
  rw [← hp]
  have HP := hide' hp
  obtain ⟨c, hc⟩ : ∃ c, c = insB q.w q.h x y := ⟨_, rfl⟩
  rw [← hc] at HI
  have HC := hide' hc
  clear hs0 hq hp hc
  go_enter Try.func59, Try.ntmps59
  go_wp2_with fail
  refine (HI.out _).mono ?_
  rintro e w1 ⟨rfl, hs⟩
  have HS1 := hide' (HS.out.trans hs)
  have HQ1 := hide' (HQ.out.keep hs)
  have HB1 := hide' (((BoxG.new (w := w) q.g3 rfl).alloc (.cells #[.int .i32 0, .int .i64 0, .int .i64 0, .int .i64 0] 53)).keep hs)
  have HBz := hide' ((BoxC.new (w := w.alloc (.cells #[.int .i64 q.g3.w, .int .i64 q.g3.h, q.g3.l] 35)) Cl.zero (by simp) : BoxC _ (w.heap.size + 1) Cl.zero).keep hs)
  clear hs HS HQ HI
  cases c
  · have hp : p = Cl.zero := by rw [HP.out]; unfold atF; rw [← HC.out]; rfl
    have HP2 := hide' hp
    clear hp HP
    obtain ⟨z0, z1, z2, z3, f0, f1, f2, f3⟩ := HBz.out
    go_wp2
    exact bodyPost_ret (results_BoxC rfl _ _ _ Cl.zero rfl (HBz.out.put Cl.zero)) rfl ⟨Cl.ret HP2.out.symm, BoxC.stay_put HS1.out (by omega) _ _ _ _⟩
  · obtain ⟨X, Y, rfl, rfl, hX, hY⟩ := ins_true HC.out.symm
    have hp : p = f (Y * q.w + X) := by rw [HP.out, atF_nat f hX hY]
    have HP2 := hide' hp
    obtain ⟨c0, c1, c2, c3⟩ := (HQ1.out.cells hX hY).four
    have hil := idx_lt hX hY
    rw [← HQ1.out.n1] at hil
    have hbig := HQ1.out.big
    have hw2 := HQ1.out.w2
    rw [← hp] at c0 c1 c2 c3
    obtain ⟨i, hi⟩ : ∃ i, i = Y * q.w + X := ⟨_, rfl⟩
    rw [← hi] at c0 c1 c2 c3 hil
    have hYw : Y * q.w ≤ i := by omega
    obtain ⟨lo, hlo⟩ : ∃ i, i = Y * q.w := ⟨_, rfl⟩
    have m1 : IntKind.i64.wrap ((Y : Int) * (q.w : Nat)) = (lo : Nat) := by rw [hlo, ← Int.natCast_mul, IntKind.wrap_i64, ← hlo]; omega
    have m2 : IntKind.i64.wrap ((lo : Int) + (X : Int)) = (i : Nat) := by rw [IntKind.wrap_i64]; omega
    have i1 : (i : Int) < (q.n : Nat) := by omega
    obtain ⟨b0, b1, b2, b3, b4, b5⟩ := HB1.out
    obtain ⟨z0, z1, z2, z3, f0, f1, f2, f3⟩ := HBz.out
    clear HP HC hp hil hbig hw2 hi hYw hlo hX hY
    obtain ⟨b, qw, qh, n, cap⟩ := q
    simp only [Rf.g3] at *
    go_wp2
    exact bodyPost_ret (results_BoxC rfl _ _ _ p rfl (HBz.out.put p)) rfl ⟨rfl, BoxC.stay_put HS1.out (by omega) _ _ _ _⟩

/-- A new grid of the document's. -/
def NewRef (a b : Nat) (f : Nat → Cl) (w : World) (e : Ending) (w' : World) : Prop := ∃ q : Rf, e = .returned (.agg #[.int .i64 q.g3.w, .int .i64 q.g3.h, q.g3.l]) ∧ Stay (fun _ => False) w w' ∧ RefAt w' q f ∧ q.w = a ∧ q.h = b ∧ w.heap.size ≤ q.b

theorem refNew11 (a b : Nat) (w : World) (a1 : 1 ≤ a) (a2 : a ≤ 512) (b1 : 1 ≤ b) (b2 : b ≤ 512) : Calls Try.prog 11 #[.int .i64 (a : Nat), .int .i64 (b : Nat)] w (NewRef a b (fun _ => Cl.zero) w) := by
  have hm : a * b ≤ 512 * 512 := Nat.mul_le_mul a2 b2
  have m1 : IntKind.i64.wrap ((a : Int) * (b : Int)) = (a : Int) * b := by rw [IntKind.wrap_i64, ← Int.natCast_mul]; omega
  obtain ⟨n, hn⟩ : ∃ n, n = a * b := ⟨_, rfl⟩
  have HN : Hid ((a : Int) * (b : Int) = (n : Nat) ∧ 32 * n ≤ 281474976710656 ∧ n ≤ 9223372036854775807) := ⟨by rw [hn]; simp, by omega, by omega⟩
  have HNN := hide' hn
  have HST := hide' ((Stay.refl (fun _ => False) w).alloc (.cells #[.int .i64 0, .int .i64 0, .slice none 0 0] 35))
  clear hn hm
  go_enter Try.func11, Try.ntmps11
  go_wp2_with (refine wpList_makeS _ rfl (.tmp 9) 33 rfl 53 (.agg #[.int .i32 0, .int .i64 0, .int .i64 0, .int .i64 0]) 4 32 Try.underlying33 (by kernel_rfl) (Cl.zero.parts.toArray) rfl n _ rfl HN.out.1 HN.out.2.1 HN.out.2.2 ?_)
  exact bodyPost_ret (results_BoxG rfl _ _ _ (Rf.g3 ⟨w.heap.size + 1, a, b, n, n⟩) rfl ((BoxG.new (w := w) (Rf.g3 ⟨w.heap.size + 1, a, b, n, n⟩) rfl).alloc _)) rfl ⟨⟨w.heap.size + 1, a, b, n, n⟩, rfl, ((Stay.refl (fun _ => False) w).alloc _).alloc _,
    ⟨by
      have h := Pix.made (w.alloc (.cells #[.int .i64 (a : Nat), .int .i64 (b : Nat), .slice (some ⟨w.heap.size + 1, 0, none⟩) n n] 35)) n HN.out.2.2
      rwa [show (w.alloc (.cells #[.int .i64 (a : Nat), .int .i64 (b : Nat), .slice (some ⟨w.heap.size + 1, 0, none⟩) n n] 35)).heap.size = w.heap.size + 1 by simp] at h, HNN.out, Nat.le_refl _, HN.out.2.2, a1, a2, b1, b2⟩, rfl, rfl, Nat.le_succ _⟩

end Go.Proofs.Yticccknocjnkpaa
