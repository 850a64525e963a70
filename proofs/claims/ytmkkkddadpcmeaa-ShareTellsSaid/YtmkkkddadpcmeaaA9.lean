/-
  The document's examples come out, in whatever world.
-/
import Derived.Test.YtmkkkddadpcmeaaA8
namespace Go.Proofs.Ytmkkkddadpcmeaa
open Go.RowKit

set_option maxHeartbeats 1000000 in
theorem sameints_true (f : Nat → Nat) (b1 o1 c1 b2 o2 c2 n : Nat) (w : World) (hn : n ≤ 64)
    (h1 : ∀ j, j < n → w.cell? ⟨b1, o1 + j, none⟩ = some (.int .i64 (f j : Int))) (h2 : ∀ j, j < n → w.cell? ⟨b2, o2 + j, none⟩ = some (.int .i64 (f j : Int))) :
    Calls Try.prog 16 #[.slice (some ⟨b1, o1, none⟩) n c1, .slice (some ⟨b2, o2, none⟩) n c2] w fun e w' => e = .returned (.bool true) ∧ Below w.heap.size w w' := by
  have H1 := hide' h1
  have H2 := hide' h2
  have hnz : (n : Int) ≤ 64 := by omega
  clear h1 h2 hn
  go_enter Try.func16, Try.ntmps16
  go_wp2_with fail
  go_loopg [5] n (fun g i wr => ∃ j : Nat, j ≤ n ∧ g = n - j ∧ i = .int .i64 (j : Int) ∧ ∃ q, wr = w.drewN q)
  case atStart => exact ⟨0, Nat.zero_le _, rfl, rfl, 0, rfl⟩
  case round =>
    obtain ⟨j, hj, rfl, rfl, q, rfl⟩ := hrel
    by_cases hlt : j < n
    · have a1 : w.cell? ⟨b1, o1 + j, none⟩ = some (.int .i64 (f j : Int)) := H1.out j hlt
      have a2 : w.cell? ⟨b2, o2 + j, none⟩ = some (.int .i64 (f j : Int)) := H2.out j hlt
      have jz : (j : Int) < n := by omega
      have j0 : (0 : Int) ≤ j := by omega
      go_wp2_with fail
      go_quiet (fail)
      go_wp2
      go_roundg (n - (j + 1))
      case measure => omega
      case rel => exact ⟨j + 1, by omega, rfl, by go_num, _, rfl⟩
    · have : j = n := by omega
      subst this
      go_wp2
      go_ret
      exact ⟨rfl, ⟨rfl, rfl, rfl, Nat.le_refl _, fun _ _ => rfl⟩⟩

def f1 (j : Nat) : Nat := if j = 0 then 4607182418800017408 else if j = 1 then 4611686018427387904 else 9221120237041090561
def f2 (j : Nat) : Nat := if j = 0 then 9218868437227405312 else 4617315517961601024

theorem fine1 : Fine 10 (tog f1 3) 3 := by
  constructor <;> decide +kernel
theorem fine2 : Fine 9 (tog f2 2) 2 := by
  constructor <;> decide +kernel

theorem Order.first {n : Nat} {R E : Nat → Nat} (h : Order n R E) : ∀ v, v < n → v ≠ E 0 → Prec (cfR R) (E 0) v := by
  intro v hv hne
  obtain ⟨k, h1, h2⟩ := (h.all v).2 hv
  subst h2
  have : k ≠ 0 := fun e => hne (by rw [e])
  exact h.chain 0 k (Nat.le_refl _) (by omega) h1

theorem share1 (E : Nat → Nat) (h : Order 3 (fun j => restF (quoF 10 (tog f1 3) 3 j)) E) (j : Nat) (hj : j < 3) : shareF 10 (tog f1 3) 3 E j = if j = 0 then 3 else if j = 1 then 7 else 0 := by
  have hl : leftAt 10 (fun i => whoF (quoF 10 (tog f1 3) 3 i)) 3 = 1 := by decide +kernel
  have ho : ∀ j, j < 3 → outAt 10 (fun i => whoF (quoF 10 (tog f1 3) 3 i)) j = if j = 0 then 3 else if j = 1 then 6 else 0 := by decide +kernel
  have hE : E 0 = 1 := by
    by_cases e : E 0 = 1
    · exact e
    · exfalso
      have h1 := h.first 1 (by omega) (fun h => e h.symm)
      have h2 : E 0 < 3 := (h.all _).1 ⟨0, by omega, rfl⟩
      have n1 : ¬ Prec (cfR fun j => restF (quoF 10 (tog f1 3) 3 j)) 0 1 := by unfold Prec; decide +kernel
      have n2 : ¬ Prec (cfR fun j => restF (quoF 10 (tog f1 3) 3 j)) 2 1 := by unfold Prec; decide +kernel
      have : E 0 = 0 ∨ E 0 = 2 := by omega
      rcases this with e | e
      · rw [e] at h1; exact n1 h1
      · rw [e] at h1; exact n2 h1
  unfold shareF
  rw [hl, ho j hj]
  simp only [turnsTo, Nat.zero_mod, hE]
  have : j = 0 ∨ j = 1 ∨ j = 2 := by omega
  rcases this with rfl | rfl | rfl <;> rfl

theorem share2 (E : Nat → Nat) (j : Nat) (hj : j < 2) : shareF 9 (tog f2 2) 2 E j = if j = 0 then 9 else 0 := by
  have hl : leftAt 9 (fun i => whoF (quoF 9 (tog f2 2) 2 i)) 2 = 0 := by decide +kernel
  have ho : ∀ j, j < 2 → outAt 9 (fun i => whoF (quoF 9 (tog f2 2) 2 i)) j = if j = 0 then 9 else 0 := by decide +kernel
  unfold shareF
  rw [hl, ho j hj]
  simp [turnsTo]

set_option maxHeartbeats 1000000 in
theorem awake_any (w : World) : Calls Try.prog 13 #[] w fun e w' => e = .returned (.bool true) ∧ Below w.heap.size w w' := by
  go_enter Try.func13, Try.ntmps13
  go_wp2_with (first | (go_at_call 25; refine (nan_any _).mono ?_; rintro e w' ⟨rfl, rfl⟩) | (go_at_call 26; first | (refine (inf_one _).mono ?_; rintro e w' ⟨rfl, rfl⟩) | (refine (inf_minus _).mono ?_; rintro e w' ⟨rfl, rfl⟩)))
  refine (shares_any f1 w.heap.size 0 3 10 3 (w.alloc (.cells #[.float .f64 4607182418800017408, .float .f64 4611686018427387904, .float .f64 9221120237041090561] 22)) (by omega) (by omega) (by omega) (sort_small 3 (by omega)) fine1 (fun j hj => ?_)).mono ?_
  · have : j = 0 ∨ j = 1 ∨ j = 2 := by omega
    rcases this with rfl | rfl | rfl <;> go_simp <;> rfl
  rintro e w1 ⟨B, E, hB, rfl, hO, hr, hb⟩
  have hr' : w1.rowIs B 3 3 (il fun j => if j = 0 then 3 else if j = 1 then 7 else 0) := hr.congr fun j hj => by simp only [il]; rw [share1 E hO j hj]
  have HR := hide' hr'
  have HB := hide' hb
  clear hO hr hb hB hr'
  go_wp2_with fail
  refine (sameints_true (fun j => if j = 0 then 3 else if j = 1 then 7 else 0) B 0 3 w1.heap.size 0 3 3 _ (by omega) (fun j hj => ?_) (fun j hj => ?_)).mono ?_
  · have := (HR.out.alloc (.cells #[.int .i64 3, .int .i64 7, .int .i64 0] 3)).cell hj
    simpa using this
  · have : j = 0 ∨ j = 1 ∨ j = 2 := by omega
    rcases this with rfl | rfl | rfl <;> go_simp
  rintro e w2 ⟨rfl, hb2⟩
  have HB2 := hide' hb2
  clear hb2
  go_wp2_with (first | (go_at_call 26; first | (refine (inf_one _).mono ?_; rintro e w' ⟨rfl, rfl⟩) | (refine (inf_minus _).mono ?_; rintro e w' ⟨rfl, rfl⟩)))
  refine (shares_any f2 w2.heap.size 0 2 9 2 (w2.alloc (.cells #[.float .f64 9218868437227405312, .float .f64 4617315517961601024] 22)) (by omega) (by omega) (by omega) (sort_small 2 (by omega)) fine2 (fun j hj => ?_)).mono ?_
  · have : j = 0 ∨ j = 1 := by omega
    rcases this with rfl | rfl <;> go_simp <;> rfl
  rintro e w3 ⟨B3, E3, hB3, rfl, hO3, hr3, hb3⟩
  have hr3' : w3.rowIs B3 3 2 (il fun j => if j = 0 then 9 else 0) := hr3.congr fun j hj => by simp only [il]; rw [share2 E3 j hj]
  have HR3 := hide' hr3'
  have HB3 := hide' hb3
  clear hO3 hr3 hb3 hB3 hr3'
  go_wp2_with fail
  refine (sameints_true (fun j => if j = 0 then 9 else 0) B3 0 2 w3.heap.size 0 2 2 _ (by omega) (fun j hj => ?_) (fun j hj => ?_)).mono ?_
  · have := (HR3.out.alloc (.cells #[.int .i64 9, .int .i64 0] 3)).cell hj
    simpa using this
  · have : j = 0 ∨ j = 1 := by omega
    rcases this with rfl | rfl <;> go_simp
  rintro e w4 ⟨rfl, hb4⟩
  have HB4 := hide' hb4
  clear hb4
  have hord : ordI 18442240474082181120 0 = -1 := by decide +kernel
  go_wp2_with (first | (go_at_call 26; first | (refine (inf_one _).mono ?_; rintro e w' ⟨rfl, rfl⟩) | (refine (inf_minus _).mono ?_; rintro e w' ⟨rfl, rfl⟩)) | (go_at_call 8; refine (order_any _ _ _).mono ?_; rintro e w' ⟨rfl, rfl⟩; rw [hord]))
  go_ret
  refine ⟨rfl, ?_⟩
  have a1 : Below w.heap.size w w1 := ((Below.refl _ _).alloc (Nat.le_refl _) _).trans (HB.out.mono (by simp))
  have a2 : Below w.heap.size w w2 := (a1.alloc a1.size _).trans (HB2.out.mono (by have := a1.size; simp; omega))
  have a3 : Below w.heap.size w w3 := (a2.alloc a2.size _).trans (HB3.out.mono (by have := a2.size; simp; omega))
  exact (a3.alloc a3.size _).trans (HB4.out.mono (by have := a3.size; simp; omega))

end Go.Proofs.Ytmkkkddadpcmeaa
