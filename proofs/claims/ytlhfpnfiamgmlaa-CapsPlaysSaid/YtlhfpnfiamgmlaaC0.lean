/-
  The document's slots: what they hold, how many are somebody's, whose a name is: walked. No conditions.
-/
import Derived.Test.YtlhfpnfiamgmlaaB2
import Derived.Test.YtlhfpnfiamgmlaaA3
namespace Go.Proofs.Ytlhfpnfiamgmlaa
open Go.RowKit

def I64 (n : Int) : Prop := -9223372036854775808 ≤ n ∧ n ≤ 9223372036854775807

/-- Slots that can be read. -/
def Rd (w : World) (g n : Nat) (f : Nat → Sl) : Prop := ∀ i, i < n → SBoxAt w g (i * 6) (f i)

theorem Rd.keep {w w1 : World} {g n : Nat} {f : Nat → Sl} (h : Rd w g n f) (hs : Stay (fun _ => False) w w1) : Rd w1 g n f := fun i hi => (h i hi).keep hs

theorem SAt.box {w : World} {b o : Nat} {c : Sl} (h : SAt w b o c) : SBoxAt w b o c := ⟨h.1 0 _ rfl, h.1 1 _ rfl, h.1 2 _ rfl, h.1 3 _ rfl, h.1 4 _ rfl, h.1 5 _ rfl⟩

theorem Tab.rd {w : World} {g n : Nat} {f : Nat → Sl} (h : Tab w g n f) : Rd w g n f := fun i hi => (h i hi).box

theorem SBoxAt.stay {T : Nat → Prop} {w w1 : World} {g o : Nat} {c : Sl} (h : SBoxAt w g o c) (hs : Stay T w w1) (hn : ¬ T g) : SBoxAt w1 g o c := by
  have hb : g < w.heap.size := World.block_lt_of_cell? _ _ h.c0
  have c' : ∀ o, w1.cell? ⟨g, o, none⟩ = w.cell? ⟨g, o, none⟩ := fun o => hs.cell (p := ⟨g, o, none⟩) hb hn
  exact ⟨(c' _).trans h.c0, (c' _).trans h.c1, (c' _).trans h.c2, (c' _).trans h.c3, (c' _).trans h.c4, (c' _).trans h.c5⟩

theorem Rd.stay {T : Nat → Prop} {w w1 : World} {g n : Nat} {f : Nat → Sl} (h : Rd w g n f) (hs : Stay T w w1) (hn : ¬ T g) : Rd w1 g n f := fun i hi => (h i hi).stay hs hn

theorem Rd.congr {w : World} {g n : Nat} {f f' : Nat → Sl} (h : Rd w g n f) (e : ∀ i, i < n → f i = f' i) : Rd w g n f' := fun i hi => by rw [← e i hi]; exact h i hi

/-- Has a number all bits of another one? -/
def hasB (x r : Int) : Bool := bits .and .i64 x r == r

theorem has33 (x r : Int) (w : World) : Calls Try.prog 33 #[.int .i64 x, .int .i64 r] w (Gives (.bool (hasB x r)) w) := by
  have HS := hide' (Stay.refl (fun _ => False) w)
  go_enter Try.func33, Try.ntmps33
  go_wp2
  go_ret
  exact ⟨rfl, HS.out⟩

/-- How many there are of a kind. -/
def cnt (p : Nat → Bool) : Nat → Nat
  | 0 => 0
  | n + 1 => cnt p n + if p n = true then 1 else 0

theorem cnt_le (p : Nat → Bool) : ∀ n, cnt p n ≤ n
  | 0 => Nat.le_refl _
  | n + 1 => by
    have := cnt_le p n
    show cnt p n + _ ≤ n + 1
    split <;> omega

theorem cnt_congr {p q : Nat → Bool} : ∀ {n : Nat}, (∀ i, i < n → p i = q i) → cnt p n = cnt q n
  | 0, _ => rfl
  | n + 1, h => by
    show cnt p n + (if p n = true then 1 else 0) = cnt q n + (if q n = true then 1 else 0)
    rw [cnt_congr (fun i hi => h i (by omega)), h n (by omega)]

theorem cnt_mono {p q : Nat → Bool} : ∀ {n : Nat}, (∀ i, i < n → p i = true → q i = true) → cnt p n ≤ cnt q n
  | 0, _ => Nat.le_refl _
  | n + 1, h => by
    have h1 := cnt_mono (p := p) (q := q) (n := n) (fun i hi => h i (by omega))
    have h2 := h n (by omega)
    show cnt p n + (if p n = true then 1 else 0) ≤ cnt q n + (if q n = true then 1 else 0)
    by_cases hp : p n = true
    · rw [if_pos hp, if_pos (h2 hp)]; omega
    · rw [if_neg hp]; omega

theorem cnt_lt {p q : Nat → Bool} : ∀ {n k : Nat}, (∀ i, i < n → p i = true → q i = true) → k < n → p k = false → q k = true → cnt p n < cnt q n
  | 0, k, _, hk, _, _ => absurd hk (Nat.not_lt_zero _)
  | n + 1, k, h, hk, h1, h2 => by
    show cnt p n + (if p n = true then 1 else 0) < cnt q n + (if q n = true then 1 else 0)
    by_cases hkn : k = n
    · subst hkn
      have := cnt_mono (p := p) (q := q) (n := k) (fun i hi => h i (by omega))
      rw [if_neg (by rw [h1]; decide), if_pos h2]
      omega
    · have h3 := cnt_lt (p := p) (q := q) (n := n) (k := k) (fun i hi => h i (by omega)) (by omega) h1 h2
      have h4 := h n (by omega)
      by_cases hp : p n = true
      · rw [if_pos hp, if_pos (h4 hp)]; omega
      · rw [if_neg hp]; omega

/-- Is a slot somebody's? -/
def isOf (f : Nat → Sl) (env : Int) (i : Nat) : Bool := decide (0 ≤ env) && ((f i).env == env)

theorem count24 (g n cap : Nat) (f : Nat → Sl) (env : Int) (w : World) (hr : Rd w g n f) (hn : n ≤ 4096) : Calls Try.prog 24 #[.slice (some ⟨g, 0, none⟩) n cap, .int .i64 env] w (Gives (.int .i64 (cnt (isOf f env) n : Nat)) w) := by
  have HR := hide' hr
  have HS := hide' (Stay.refl (fun _ => False) w)
  have HN := hide' hn
  have hnz : (n : Int) ≤ 4096 := by omega
  clear hr hn
  go_enter Try.func24, Try.ntmps24
  go_wp2
  go_loopg [5, 6] n (fun gg v5 v6 wr => ∃ k : Nat, k ≤ n ∧ gg = n - k ∧ v5 = .int .i64 (cnt (isOf f env) k : Nat) ∧ v6 = .int .i64 (k : Int) ∧ Hid (Stay (fun _ => False) w wr))
  case atStart => exact ⟨0, Nat.zero_le _, rfl, rfl, rfl, HS⟩
  case round =>
    clear HS
    obtain ⟨k, hk, rfl, rfl, rfl, HS⟩ := hrel
    by_cases hlt : k < n
    · have kn : (k : Int) < (n : Nat) := by omega
      obtain ⟨_, r1, _, _, _, _⟩ := (HR.out k hlt).keep HS.out
      obtain ⟨c, hc⟩ : ∃ c, c = cnt (isOf f env) k := ⟨_, rfl⟩
      obtain ⟨x, hx⟩ : ∃ x, x = (f k).env := ⟨_, rfl⟩
      have hc1 : c ≤ 4096 := by have := cnt_le (isOf f env) k; have := HN.out; omega
      rw [← hx] at r1
      rw [← hc]
      have HC := hide' hc
      have HX := hide' hx
      obtain ⟨bx, hbx⟩ : ∃ b, b = (x == env) := ⟨_, rfl⟩
      have hbx' := hbx.symm
      have HBX := hide' hbx
      clear hc hx hbx
      have c0 : (0 : Int) ≤ (c : Nat) := by omega
      have c1 : (c : Int) ≤ 4096 := by omega
      by_cases h0 : 0 ≤ env
      · have hof : Hid (isOf f env k = bx) := by
          show (decide (0 ≤ env) && ((f k).env == env)) = bx
          rw [decide_eq_true h0, ← HX.out, HBX.out, Bool.true_and]
        cases bx
        · have hcc : Hid (c = cnt (isOf f env) (k + 1)) := by
            show c = cnt (isOf f env) k + (if isOf f env k = true then 1 else 0)
            rw [hof.out, ← HC.out]
            rfl
          go_wp2
          go_roundg (n - (k + 1))
          case measure => omega
          case rel => exact ⟨k + 1, by omega, rfl, by rw [hcc.out], by go_num, HS⟩
        · have hcc : Hid (c + 1 = cnt (isOf f env) (k + 1)) := by
            show c + 1 = cnt (isOf f env) k + (if isOf f env k = true then 1 else 0)
            rw [hof.out, ← HC.out]
            rfl
          go_wp2
          go_roundg (n - (k + 1))
          case measure => omega
          case rel => exact ⟨k + 1, by omega, rfl, by rw [← hcc.out]; go_num, by go_num, HS⟩
      · have d0 : decide (0 ≤ env) = false := decide_eq_false h0
        have hcc : Hid (c = cnt (isOf f env) (k + 1)) := by
          show c = cnt (isOf f env) k + (if isOf f env k = true then 1 else 0)
          have : isOf f env k = false := by
            show (decide (0 ≤ env) && ((f k).env == env)) = false
            rw [decide_eq_false h0, Bool.false_and]
          rw [this, ← HC.out]
          rfl
        go_wp2
        go_roundg (n - (k + 1))
        case measure => omega
        case rel => exact ⟨k + 1, by omega, rfl, by rw [hcc.out], by go_num, HS⟩
    · have hkn : k = n := by omega
      subst hkn
      obtain ⟨c, hc⟩ : ∃ c, c = cnt (isOf f env) k := ⟨_, rfl⟩
      rw [← hc]
      have HC := hide' hc
      clear hc
      go_wp2
      go_ret
      exact ⟨by rw [← HC.out]; rfl, HS.out⟩

/-- What is wrong with a name: 0 nothing, 9 it is stale, 8 it may not. -/
def ownE (n : Nat) (f : Nat → Sl) (env sl gn r : Int) : Int := if 0 ≤ sl ∧ sl < n ∧ 0 ≤ (f sl.toNat).env ∧ (f sl.toNat).gen = gn then (if (f sl.toNat).env = env ∧ hasB (f sl.toNat).rights r = true then 0 else 8) else 9

set_option maxRecDepth 100000 in
theorem own32_neg (g n cap : Nat) (f : Nat → Sl) (env sl gn r : Int)  (w : World) (_hr : Rd w g n f) (h : sl < 0) : Calls Try.prog 32 #[.slice (some ⟨g, 0, none⟩) n cap, .int .i64 env, .agg #[.int .i64 sl, .int .i64 gn], .int .i64 r] w (Gives (.int .i64 9) w) := by
  obtain ⟨w0, hw0⟩ : ∃ W, W = w.alloc (.cells #[.int .i64 sl, .int .i64 gn] 30) := ⟨_, rfl⟩
  obtain ⟨bb, hbb⟩ : ∃ b, b = w.heap.size := ⟨_, rfl⟩
  have hs0 : Stay (fun _ => False) w w0 := by rw [hw0]; exact (Stay.refl _ _).alloc _
  have HS := hide' hs0
  obtain ⟨m0, m1, _, _⟩ : NBox w0 bb ⟨sl, gn⟩ := by rw [hw0]; exact NBox.new ⟨sl, gn⟩ hbb.symm
  simp only at m0 m1
  clear hs0 _hr
  go_enter Try.func32, Try.ntmps32
  go_upto_region 1 with fail
  rw [← hw0, ← hbb]
  clear hw0 hbb
  go_quiet (fail)
  go_wp2
  go_ret
  exact ⟨rfl, HS.out.drewN _⟩

set_option maxRecDepth 100000 in
theorem own32_far (g n cap : Nat) (f : Nat → Sl) (env sl gn r : Int)  (w : World) (_hr : Rd w g n f) (h : (n : Int) ≤ sl) : Calls Try.prog 32 #[.slice (some ⟨g, 0, none⟩) n cap, .int .i64 env, .agg #[.int .i64 sl, .int .i64 gn], .int .i64 r] w (Gives (.int .i64 9) w) := by
  obtain ⟨w0, hw0⟩ : ∃ W, W = w.alloc (.cells #[.int .i64 sl, .int .i64 gn] 30) := ⟨_, rfl⟩
  obtain ⟨bb, hbb⟩ : ∃ b, b = w.heap.size := ⟨_, rfl⟩
  have hs0 : Stay (fun _ => False) w w0 := by rw [hw0]; exact (Stay.refl _ _).alloc _
  have HS := hide' hs0
  obtain ⟨m0, m1, _, _⟩ : NBox w0 bb ⟨sl, gn⟩ := by rw [hw0]; exact NBox.new ⟨sl, gn⟩ hbb.symm
  simp only at m0 m1
  have h0 : 0 ≤ sl := by omega
  have h1 : ¬ sl < 0 := by omega
  have d1 : decide (sl < 0) = false := decide_eq_false h1
  clear hs0 _hr
  go_enter Try.func32, Try.ntmps32
  go_upto_region 1 with fail
  rw [← hw0, ← hbb]
  clear hw0 hbb
  go_quiet (fail)
  go_wp2
  go_ret
  exact ⟨rfl, HS.out.drewN _⟩

set_option maxRecDepth 100000 in
theorem own32_free (g n cap : Nat) (f : Nat → Sl) (env gn r : Int) (k : Nat) (p : Sl) (w : World) (hr : Rd w g n f) (hk : k < n) (hp : f k = p) (h : p.env < 0) : Calls Try.prog 32 #[.slice (some ⟨g, 0, none⟩) n cap, .int .i64 env, .agg #[.int .i64 (k : Nat), .int .i64 gn], .int .i64 r] w (Gives (.int .i64 9) w) := by
  obtain ⟨w0, hw0⟩ : ∃ W, W = w.alloc (.cells #[.int .i64 (k : Nat), .int .i64 gn] 30) := ⟨_, rfl⟩
  obtain ⟨bb, hbb⟩ : ∃ b, b = w.heap.size := ⟨_, rfl⟩
  have hs0 : Stay (fun _ => False) w w0 := by rw [hw0]; exact (Stay.refl _ _).alloc _
  have HS := hide' hs0
  obtain ⟨m0, m1, _, _⟩ : NBox w0 bb ⟨(k : Nat), gn⟩ := by rw [hw0]; exact NBox.new ⟨(k : Nat), gn⟩ hbb.symm
  simp only at m0 m1
  obtain ⟨r0, r1, _, _, r4, _⟩ := (hr k hk).keep hs0
  have kn : (k : Int) < (n : Nat) := by omega
  have k1 : ¬ (k : Int) < 0 := by omega
  have d1 : decide ((k : Int) < 0) = false := decide_eq_false k1
  have k2 : ¬ (n : Int) ≤ (k : Nat) := by omega
  have d2 : decide ((n : Int) ≤ (k : Nat)) = false := decide_eq_false k2
  rw [hp] at r0 r1 r4
  clear hp
  clear hs0 hr
  go_enter Try.func32, Try.ntmps32
  go_upto_region 1 with fail
  rw [← hw0, ← hbb]
  clear hw0 hbb
  go_quiet (fail)
  go_wp2
  go_ret
  exact ⟨rfl, HS.out.drewN _⟩

set_option maxRecDepth 100000 in
theorem own32_old (g n cap : Nat) (f : Nat → Sl) (env gn r : Int) (k : Nat) (p : Sl) (w : World) (hr : Rd w g n f) (hk : k < n) (hp : f k = p) (h : 0 ≤ p.env) (hg : (p.gen == gn) = false) : Calls Try.prog 32 #[.slice (some ⟨g, 0, none⟩) n cap, .int .i64 env, .agg #[.int .i64 (k : Nat), .int .i64 gn], .int .i64 r] w (Gives (.int .i64 9) w) := by
  obtain ⟨w0, hw0⟩ : ∃ W, W = w.alloc (.cells #[.int .i64 (k : Nat), .int .i64 gn] 30) := ⟨_, rfl⟩
  obtain ⟨bb, hbb⟩ : ∃ b, b = w.heap.size := ⟨_, rfl⟩
  have hs0 : Stay (fun _ => False) w w0 := by rw [hw0]; exact (Stay.refl _ _).alloc _
  have HS := hide' hs0
  obtain ⟨m0, m1, _, _⟩ : NBox w0 bb ⟨(k : Nat), gn⟩ := by rw [hw0]; exact NBox.new ⟨(k : Nat), gn⟩ hbb.symm
  simp only at m0 m1
  obtain ⟨r0, r1, _, _, r4, _⟩ := (hr k hk).keep hs0
  have kn : (k : Int) < (n : Nat) := by omega
  have k1 : ¬ (k : Int) < 0 := by omega
  have d1 : decide ((k : Int) < 0) = false := decide_eq_false k1
  have k2 : ¬ (n : Int) ≤ (k : Nat) := by omega
  have d2 : decide ((n : Int) ≤ (k : Nat)) = false := decide_eq_false k2
  rw [hp] at r0 r1 r4
  clear hp
  have h3 : ¬ p.env < 0 := by omega
  have d3 : decide (p.env < 0) = false := decide_eq_false h3
  have g2 : (p.gen != gn) = true := by unfold bne; rw [hg]; rfl
  clear hs0 hr
  go_enter Try.func32, Try.ntmps32
  go_upto_region 1 with fail
  rw [← hw0, ← hbb]
  clear hw0 hbb
  go_quiet (fail)
  go_wp2
  go_ret
  exact ⟨rfl, HS.out.drewN _⟩

set_option maxRecDepth 100000 in
theorem own32_other (g n cap : Nat) (f : Nat → Sl) (env gn r : Int) (k : Nat) (p : Sl) (w : World) (hr : Rd w g n f) (hk : k < n) (hp : f k = p) (h : 0 ≤ p.env) (hg : (p.gen == gn) = true) (he : (p.env == env) = false) : Calls Try.prog 32 #[.slice (some ⟨g, 0, none⟩) n cap, .int .i64 env, .agg #[.int .i64 (k : Nat), .int .i64 gn], .int .i64 r] w (Gives (.int .i64 8) w) := by
  obtain ⟨w0, hw0⟩ : ∃ W, W = w.alloc (.cells #[.int .i64 (k : Nat), .int .i64 gn] 30) := ⟨_, rfl⟩
  obtain ⟨bb, hbb⟩ : ∃ b, b = w.heap.size := ⟨_, rfl⟩
  have hs0 : Stay (fun _ => False) w w0 := by rw [hw0]; exact (Stay.refl _ _).alloc _
  have HS := hide' hs0
  obtain ⟨m0, m1, _, _⟩ : NBox w0 bb ⟨(k : Nat), gn⟩ := by rw [hw0]; exact NBox.new ⟨(k : Nat), gn⟩ hbb.symm
  simp only at m0 m1
  obtain ⟨r0, r1, _, _, r4, _⟩ := (hr k hk).keep hs0
  have kn : (k : Int) < (n : Nat) := by omega
  have k1 : ¬ (k : Int) < 0 := by omega
  have d1 : decide ((k : Int) < 0) = false := decide_eq_false k1
  have k2 : ¬ (n : Int) ≤ (k : Nat) := by omega
  have d2 : decide ((n : Int) ≤ (k : Nat)) = false := decide_eq_false k2
  rw [hp] at r0 r1 r4
  clear hp
  have h3 : ¬ p.env < 0 := by omega
  have d3 : decide (p.env < 0) = false := decide_eq_false h3
  have g2 : (p.gen != gn) = false := by unfold bne; rw [hg]; rfl
  have e2 : (p.env != env) = true := by unfold bne; rw [he]; rfl
  clear hs0 hr
  go_enter Try.func32, Try.ntmps32
  go_upto_region 1 with fail
  rw [← hw0, ← hbb]
  clear hw0 hbb
  go_quiet (fail)
  go_wp2
  go_ret
  exact ⟨rfl, HS.out.drewN _⟩

set_option maxRecDepth 100000 in
theorem own32_right (g n cap : Nat) (f : Nat → Sl) (env gn r : Int) (k : Nat) (p : Sl) (w : World) (hr : Rd w g n f) (hk : k < n) (hp : f k = p) (h : 0 ≤ p.env) (hg : (p.gen == gn) = true) (he : (p.env == env) = true) (b : Bool) (hb : hasB p.rights r = b) (v : Int) (hv : v = if b = true then 0 else 8) : Calls Try.prog 32 #[.slice (some ⟨g, 0, none⟩) n cap, .int .i64 env, .agg #[.int .i64 (k : Nat), .int .i64 gn], .int .i64 r] w (Gives (.int .i64 v) w) := by
  obtain ⟨w0, hw0⟩ : ∃ W, W = w.alloc (.cells #[.int .i64 (k : Nat), .int .i64 gn] 30) := ⟨_, rfl⟩
  obtain ⟨bb, hbb⟩ : ∃ b, b = w.heap.size := ⟨_, rfl⟩
  have hs0 : Stay (fun _ => False) w w0 := by rw [hw0]; exact (Stay.refl _ _).alloc _
  have HS := hide' hs0
  obtain ⟨m0, m1, _, _⟩ : NBox w0 bb ⟨(k : Nat), gn⟩ := by rw [hw0]; exact NBox.new ⟨(k : Nat), gn⟩ hbb.symm
  simp only at m0 m1
  obtain ⟨r0, r1, _, _, r4, _⟩ := (hr k hk).keep hs0
  have kn : (k : Int) < (n : Nat) := by omega
  have k1 : ¬ (k : Int) < 0 := by omega
  have d1 : decide ((k : Int) < 0) = false := decide_eq_false k1
  have k2 : ¬ (n : Int) ≤ (k : Nat) := by omega
  have d2 : decide ((n : Int) ≤ (k : Nat)) = false := decide_eq_false k2
  rw [hp] at r0 r1 r4
  clear hp
  have h3 : ¬ p.env < 0 := by omega
  have d3 : decide (p.env < 0) = false := decide_eq_false h3
  have g2 : (p.gen != gn) = false := by unfold bne; rw [hg]; rfl
  have e2 : (p.env != env) = false := by unfold bne; rw [he]; rfl
  have HV := hide' hv
  clear hv
  have HH := hide' (fun w => has33 p.rights r w)
  rw [hb] at HH
  clear hb
  clear hs0 hr
  go_enter Try.func32, Try.ntmps32
  go_upto_region 1 with fail
  rw [← hw0, ← hbb]
  clear hw0 hbb
  go_quiet (fail)
  go_wp2_with fail
  refine (HH.out _).mono ?_
  rintro e w2 ⟨rfl, hs⟩
  have HS2 := hide' ((HS.out.drewN _).trans hs)
  clear hs HH
  cases b
  · go_wp2
    go_ret
    exact ⟨by rw [HV.out]; rfl, HS2.out⟩
  · go_wp2
    go_ret
    exact ⟨by rw [HV.out]; rfl, HS2.out⟩

theorem own32 (g n cap : Nat) (f : Nat → Sl) (env sl gn r : Int) (w : World) (hr : Rd w g n f) (hs : I64 sl) : Calls Try.prog 32 #[.slice (some ⟨g, 0, none⟩) n cap, .int .i64 env, .agg #[.int .i64 sl, .int .i64 gn], .int .i64 r] w (Gives (.int .i64 (ownE n f env sl gn r)) w) := by
  unfold ownE
  by_cases h0 : sl < 0
  · rw [if_neg (by omega)]
    exact own32_neg g n cap f env sl gn r w hr h0
  by_cases h1 : (n : Int) ≤ sl
  · rw [if_neg (by omega)]
    exact own32_far g n cap f env sl gn r w hr h1
  obtain ⟨k, rfl⟩ : ∃ k : Nat, sl = k := ⟨sl.toNat, by omega⟩
  rw [Int.toNat_natCast]
  have hk : k < n := by omega
  by_cases h2 : (f k).env < 0
  · rw [if_neg (by omega)]
    exact own32_free g n cap f env gn r k _ w hr hk rfl h2
  by_cases h3 : (f k).gen = gn
  · rw [if_pos ⟨by omega, by omega, by omega, h3⟩]
    by_cases h4 : (f k).env = env
    · have := own32_right g n cap f env gn r k _ w hr hk rfl (by omega) (beq_t h3) (beq_t h4) _ rfl _ rfl
      by_cases h5 : hasB (f k).rights r = true
      · rw [if_pos ⟨h4, h5⟩]
        rwa [if_pos h5] at this
      · rw [if_neg (fun h => h5 h.2)]
        rwa [if_neg h5] at this
    · rw [if_neg (fun h => h4 h.1)]
      exact own32_other g n cap f env gn r k _ w hr hk rfl (by omega) (beq_t h3) (beq_f h4)
  · rw [if_neg (fun h => h3 h.2.2.2)]
    exact own32_old g n cap f env gn r k _ w hr hk rfl (by omega) (beq_f h3)

end Go.Proofs.Ytlhfpnfiamgmlaa
