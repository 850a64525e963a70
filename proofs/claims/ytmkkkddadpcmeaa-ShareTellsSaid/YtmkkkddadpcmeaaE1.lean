/-
  The law of all shares comes out true: in whatever world, of weights whose words fit 64 bits.
-/
import Derived.Test.YtmkkkddadpcmeaaA9
import Derived.Test.YtmkkkddadpcmeaaG1
import Derived.Test.YtmkkkddadpcmeaaH3
namespace Go.Proofs.Ytmkkkddadpcmeaa
open Go.RowKit

def sumN (f : Nat → Nat) : Nat → Nat
  | 0 => 0
  | k + 1 => sumN f k + f k

theorem sumN_add (f g : Nat → Nat) (n : Nat) : sumN (fun j => f j + g j) n = sumN f n + sumN g n := by
  induction n with
  | zero => rfl
  | succ n ih => unfold sumN; rw [ih]; omega

theorem sum_out (N : Nat) (k : Nat → Nat) (n : Nat) : sumN (outAt N k) n + leftAt N k n = N := by
  induction n with
  | zero => unfold sumN leftAt; omega
  | succ n ih =>
    unfold sumN leftAt outAt
    unfold outAt at ih
    omega

theorem sum_one (v n : Nat) (h : v < n) : sumN (fun j => if v = j then 1 else 0) n = 1 := by
  have lo : ∀ k, k ≤ v → sumN (fun j => if v = j then 1 else 0) k = 0 := by
    intro k
    induction k with
    | zero => intro _; rfl
    | succ k ih => intro hk; unfold sumN; rw [ih (by omega), if_neg (by omega)]
  induction n with
  | zero => omega
  | succ n ih =>
    unfold sumN
    by_cases e : v = n
    · subst e; rw [lo v (Nat.le_refl _), if_pos rfl]
    · rw [ih (by omega), if_neg e]

theorem sum_turns (E : Nat → Nat) (n : Nat) (h0 : 0 < n) (hE : ∀ k, k < n → E k < n) (L : Nat) : sumN (fun j => turnsTo E n L j) n = L := by
  induction L with
  | zero =>
    have : ∀ k, sumN (fun j => turnsTo E n 0 j) k = 0 := by
      intro k
      induction k with
      | zero => rfl
      | succ k ih => unfold sumN; rw [ih]; rfl
    exact this n
  | succ L ih =>
    have : (fun j => turnsTo E n (L + 1) j) = fun j => turnsTo E n L j + if E (L % n) = j then 1 else 0 := rfl
    rw [this, sumN_add, ih, sum_one _ n (hE _ (Nat.mod_lt _ h0))]

/-- Shares are all cells together. -/
theorem sum_share (N : Nat) (T : Nat → Nat) (n : Nat) (E : Nat → Nat) (h0 : 0 < n) (hE : ∀ k, k < n → E k < n) : sumN (shareF N T n E) n = N := by
  have : shareF N T n E = fun j => outAt N (fun i => whoF (quoF N T n i)) j + turnsTo E n (leftAt N (fun i => whoF (quoF N T n i)) n) j := rfl
  rw [this, sumN_add, sum_turns E n h0 hE]
  exact sum_out _ _ _

theorem sumN_le (f : Nat → Nat) {j n : Nat} (h : j ≤ n) : sumN f j ≤ sumN f n := by
  induction n with
  | zero => have : j = 0 := by omega
            subst this; exact Nat.le_refl _
  | succ n ih =>
    by_cases e : j = n + 1
    · subst e; exact Nat.le_refl _
    · have := ih (by omega)
      show sumN f j ≤ sumN f n + f n
      omega

set_option maxHeartbeats 1000000 in
theorem all_short (v : Int) (a : Option Addr) (n cap : Nat) (w : World) (h : n = 0 ∨ 64 < n) (hn : (n : Int) ≤ 9223372036854775807) :
    Calls Try.prog 5 #[.int .u16 v, .slice a n cap] w fun e w' => e = .returned (.bool true) ∧ Below w.heap.size w w' := by
  rcases h with h | h
  · subst h
    go_enter Try.func5, Try.ntmps5
    go_wp2_with (go_at_call 13; refine (awake_any _).mono ?_; rintro e w' ⟨rfl, hb⟩)
    go_ret
    exact ⟨rfl, by assumption⟩
  · have h1 : ((n : Int) == 0) = false := by simp; omega
    have h2 : (64 : Int) < n := by omega
    go_enter Try.func5, Try.ntmps5
    go_wp2_with (go_at_call 13; refine (awake_any _).mono ?_; rintro e w' ⟨rfl, hb⟩)
    go_ret
    exact ⟨rfl, by assumption⟩

set_option maxHeartbeats 2000000 in
set_option maxRecDepth 100000 in
theorem all_any (f : Nat → Nat) (v : Int) (b off n cap : Nat) (w : World) (hv0 : 0 ≤ v) (hv : v < 65536) (h0 : 0 < n) (hn : n ≤ 64) (hf : ∀ j, f j < 18446744073709551616)
    (hc : ∀ j, j < n → w.cell? ⟨b, off + j, none⟩ = some (.float .f64 (f j))) :
    Calls Try.prog 5 #[.int .u16 v, .slice (some ⟨b, off, none⟩) n cap] w fun e w' => e = .returned (.bool true) ∧ Below w.heap.size w w' := by
  obtain ⟨N, hN⟩ : ∃ N : Nat, v % 513 = (N : Int) := ⟨(v % 513).toNat, by omega⟩
  have hS := shares_any f b off n N cap w hn h0 (by omega) (sort_any n hn) (fine_any f hf n N h0 hn (by omega)) hc
  have HS := hide' hS
  have hN5 : N ≤ 512 := by omega
  have hz : ((n : Int) == 0) = false := by simp; omega
  have hn64 : (n : Int) ≤ 64 := by omega
  have H0 := hide' h0
  clear hS hf hc
  go_enter Try.func5, Try.ntmps5
  go_wp2_with fail
  refine HS.out.mono ?_
  rintro e w1 ⟨B, E, hB, rfl, hO, hr, hb⟩
  have hsum := sum_share N (tog f n) n E H0.out (fun k hk => (hO.all _).1 ⟨k, hk, rfl⟩)
  obtain ⟨S, hS⟩ : ∃ S, S = shareF N (tog f n) n E := ⟨_, rfl⟩
  rw [← hS] at hsum hr
  have HR := hide' hr
  have HB := hide' hb
  have HSUM := hide' hsum
  clear hO hr hb hsum hS hB
  go_wp2_with fail
  go_loopg [7, 8] n (fun g vs vi wr => w1 = wr ∧ ∃ j : Nat, j ≤ n ∧ g = n - j ∧ vi = .int .i64 (j : Int) ∧ vs = .int .i64 (sumN S j : Int))
  case atStart => exact ⟨rfl, 0, Nat.zero_le _, rfl, rfl, rfl⟩
  case round =>
    obtain ⟨rfl, j, hj, rfl, rfl, rfl⟩ := hrel
    by_cases hlt : j < n
    · have hcell : w1.cell? ⟨B, j, none⟩ = some (.int .i64 (S j : Int)) := HR.out.cell hlt
      have hle : sumN S (j + 1) ≤ N := by rw [← HSUM.out]; exact sumN_le S hlt
      have hle2 : sumN S (j + 1) = sumN S j + S j := rfl
      have hS1 : ((S j : Nat) : Int) ≤ 512 := by omega
      have hS2 : ((sumN S j : Nat) : Int) ≤ 512 := by omega
      have hS3 : ((sumN S j : Nat) : Int) + ((S j : Nat) : Int) = ((sumN S (j + 1) : Nat) : Int) := by omega
      have hjz : (j : Int) < (n : Int) := by omega
      clear hle hle2
      go_wp2
      go_roundg (n - (j + 1))
      case measure => omega
      case rel => exact ⟨rfl, j + 1, by omega, rfl, by go_num, by first | rfl | go_num⟩
    · have : j = n := by omega
      subst this
      have hE : ((sumN S j : Nat) : Int) = (N : Int) := by rw [HSUM.out]
      go_wp2_with (go_at_call 13; refine (awake_any _).mono ?_; rintro e w' ⟨rfl, hb⟩)
      go_ret
      exact ⟨rfl, HB.out.trans (Below.mono (by assumption) HB.out.size)⟩

end Go.Proofs.Ytmkkkddadpcmeaa
