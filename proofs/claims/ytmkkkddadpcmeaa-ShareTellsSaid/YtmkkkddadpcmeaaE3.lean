/-
  The law of two weights comes out true: in whatever world, of weights whose words fit 64 bits.
-/
import Derived.Test.YtmkkkddadpcmeaaG3
import Derived.Test.YtmkkkddadpcmeaaD1
import Derived.StillTailTactics
namespace Go.Proofs.Ytmkkkddadpcmeaa
open Go.RowKit

theorem still_begin {P : Program} {ops : Array Oper} {w : World} {Q : Act → Prop} {a : Act} {l : List Oper} (h : ∀ K : Act → Prop, (∀ a, wpStill P ops w Q l a → K a) → K a) : wpStill P ops w Q l a := h _ fun _ h => h

/-- The next operation of a region's forced head is passed over. -/
theorem next_skip {P : Program} {ops : Array Oper} {w : World} {Q K : Act → Prop} {a : Act} {o : Oper} {rest : List Oper} (hK : ∀ a, wpStill P ops w Q (o :: rest) a → K a) (hg : Region.wanted o (yielded ops a.tmps) = false)
    (h : ∀ K2 : Act → Prop, (∀ a, wpStill P ops w Q rest a → K2 a) → K2 (a.put o.dst undef)) : K a := by
  refine hK a ?_
  unfold wpStill
  rw [if_neg (by rw [hg]; decide)]
  exact h _ fun _ h => h

/-- The next operation of a region's forced head is run. -/
theorem next_want {P : Program} {ops : Array Oper} {w : World} {Q K : Act → Prop} {a : Act} {o : Oper} {rest : List Oper} (hK : ∀ a, wpStill P ops w Q (o :: rest) a → K a) (hg : Region.wanted o (yielded ops a.tmps) = true)
    (h : ∀ K2 : Act → Prop, (∀ a, wpStill P ops w Q rest a → K2 a) → o.still P a w K2) : K a := by
  refine hK a ?_
  unfold wpStill
  rw [if_pos hg]
  exact h _ fun _ h => h

/-- A place below n. -/
def Picked (n : Nat) (e : Ending) : Prop := ∃ r : Nat, r < n ∧ e = .returned (.int .i64 (r : Int))

set_option maxHeartbeats 400000 in
theorem pick_any (a : Int) (n : Nat) (w : World) (h0 : 0 < n) (hn : n ≤ 64) :
    Calls Try.prog 19 #[.int .i64 a, .int .i64 (n : Int)] w fun e w' => Picked n e ∧ w = w' := by
  have h1 : ¬ (n : Int) < 1 := by omega
  have hz : ((n : Int) == 0) = false := by simp; omega
  have hn64 : (n : Int) ≤ 64 := by omega
  have m1 : a.tmod (n : Int) < n := Int.tmod_lt_of_pos a (by omega)
  have m2 : -(n : Int) < a.tmod (n : Int) := by
    have := Int.tmod_lt_of_pos (-a) (show (0 : Int) < n by omega)
    rw [Int.neg_tmod] at this
    omega
  by_cases hneg : a.tmod (n : Int) < 0
  · go_enter Try.func19, Try.ntmps19
    go_wp2
    go_ret
    exact ⟨⟨(a.tmod n + n).toNat, by omega, congrArg (fun z => Ending.returned (Value.int IntKind.i64 z)) (by show a.tmod n + n = _; omega)⟩, rfl⟩
  · go_enter Try.func19, Try.ntmps19
    go_wp2
    go_ret
    exact ⟨⟨(a.tmod n).toNat, by omega, congrArg (fun z => Ending.returned (Value.int IntKind.i64 z)) (by show a.tmod n = _; omega)⟩, rfl⟩

set_option maxHeartbeats 1000000 in
theorem more_short (v x y : Int) (a : Option Addr) (n cap : Nat) (w : World) (h : n = 0 ∨ 64 < n) (hn : (n : Int) ≤ 9223372036854775807) :
    Calls Try.prog 7 #[.int .u16 v, .slice a n cap, .int .i64 x, .int .i64 y] w fun e w' => e = .returned (.bool true) ∧ Below w.heap.size w w' := by
  rcases h with h | h
  · subst h
    go_enter Try.func7, Try.ntmps7
    go_wp2_with (go_at_call 13; refine (awake_any _).mono ?_; rintro e w' ⟨rfl, hb⟩)
    go_ret
    exact ⟨rfl, by assumption⟩
  · have h1 : ((n : Int) == 0) = false := by simp; omega
    have h2 : (64 : Int) < n := by omega
    go_enter Try.func7, Try.ntmps7
    go_wp2_with (go_at_call 13; refine (awake_any _).mono ?_; rintro e w' ⟨rfl, hb⟩)
    go_ret
    exact ⟨rfl, by assumption⟩

theorem word_lt {x y : Nat} (hx : x ≤ one) (hy : y ≤ one) : (FloatKind.f64.format.order x y == some .lt) = decide (x < y) := by
  have fx := Nat.lt_of_le_of_lt hx one_fin
  have fy := Nat.lt_of_le_of_lt hy one_fin
  have rx := fin_rung fx
  have ry := fin_rung fy
  rw [show FloatKind.f64.format.order x y = some (compare (kx x) (kx y)) from order_key x y (by rw [rx]; omega) (by rw [ry]; omega)]
  unfold kx
  rw [fin_ngv fx, fin_ngv fy, rx, ry]
  simp only [sg, Bool.false_eq_true, if_false]
  rcases Int.lt_trichotomy (x : Int) (y : Int) with h | h | h
  · rw [cmp_lt h, decide_eq_true (by omega)]; rfl
  · rw [cmp_eq h, decide_eq_false (by omega)]; rfl
  · rw [cmp_gt h, decide_eq_false (by omega)]; rfl

set_option maxHeartbeats 600000 in
set_option maxRecDepth 100000 in
theorem more_any (f : Nat → Nat) (v x y : Int) (b off n cap : Nat) (w : World) (hv0 : 0 ≤ v) (hv : v < 65536) (h0 : 0 < n) (hn : n ≤ 64) (hf : ∀ j, f j < 18446744073709551616)
    (hc : ∀ j, j < n → w.cell? ⟨b, off + j, none⟩ = some (.float .f64 (f j))) :
    Calls Try.prog 7 #[.int .u16 v, .slice (some ⟨b, off, none⟩) n cap, .int .i64 x, .int .i64 y] w fun e w' => e = .returned (.bool true) ∧ Below w.heap.size w w' := by
  obtain ⟨N, hN⟩ : ∃ N : Nat, v % 513 = (N : Int) := ⟨(v % 513).toNat, by omega⟩
  have hN5 : N ≤ 512 := by omega
  have HT := hide' (together_any f b off n cap w hn h0 hc)
  have HS : Hid (∀ W, Below w.heap.size w W → Calls Try.prog 17 #[.int .i64 (N : Int), .slice (some ⟨b, off, none⟩) n cap] W fun e w' =>
      ∃ B E, W.heap.size ≤ B ∧ e = .returned (.slice (some ⟨B, 0, none⟩) n n) ∧ Order n (fun j => restF (quoF N (tog f n) n j)) E ∧ w'.rowIs B 3 n (il (shareF N (tog f n) n E)) ∧ Below W.heap.size W w') :=
    fun W hW => shares_any f b off n N cap W hn h0 hN5 (sort_any n hn) (fine_any f hf n N h0 hn hN5) (fun j hj => (hW.cell (p := ⟨b, off + j, none⟩) (World.block_lt_of_cell? _ _ (hc j hj))).trans (hc j hj))
  have HTW := hide' (tog_word f hf n h0)
  have hz : ((n : Int) == 0) = false := by simp; omega
  have hn64 : (n : Int) ≤ 64 := by omega
  have H0 := hide' h0
  have HN := hide' hn
  have HN5 := hide' hN5
  have HP := fun a W => pick_any a n W h0 hn
  have HPK := hide' HP
  obtain ⟨T, hT⟩ : ∃ T, T = tog f n := ⟨_, rfl⟩
  rw [← hT] at HT HS HTW
  clear hf hc HP hT h0 hn
  go_enter Try.func7, Try.ntmps7
  go_wp2_with fail
  refine (HPK.out x w).mono ?_
  rintro e w' ⟨⟨i, hi, rfl⟩, rfl⟩
  go_wp2_with fail
  refine (HPK.out y w).mono ?_
  rintro e w' ⟨⟨k, hk, rfl⟩, rfl⟩
  go_wp2_with fail
  refine HT.out.mono ?_
  rintro e w1 ⟨B1, hB1, rfl, hr1, hb1⟩
  have HR1 := hide' hr1
  have HB1 := hide' hb1
  clear hB1 hr1 hb1
  go_wp2_with fail
  refine (HS.out w1 HB1.out).mono ?_
  rintro e w2 ⟨B2, E, hB2, rfl, hO, hr2, hb2⟩
  have near := share_near T n N HN.out HN5.out HTW.out.1 HTW.out.2 E hO i k hi hk
  have HNEAR := hide' near
  have hsum := sum_share N T n E H0.out (fun k hk => (hO.all _).1 ⟨k, hk, rfl⟩)
  have hSk : shareF N T n E k ≤ N := by
    have h1 := sumN_le (shareF N T n E) (show k + 1 ≤ n from hk)
    have h2 : sumN (shareF N T n E) (k + 1) = sumN (shareF N T n E) k + shareF N T n E k := rfl
    omega
  obtain ⟨S, hS⟩ : ∃ S, S = shareF N T n E := ⟨_, rfl⟩
  rw [← hS] at hr2 HNEAR hSk
  have HSK := hide' hSk
  have lt1 := HR1.out.lt
  have c1 : w2.cell? ⟨B1, i, none⟩ = some (.float .f64 (T i)) := (hb2.cell (p := ⟨B1, i, none⟩) lt1).trans (HR1.out.cell hi)
  have c2 : w2.cell? ⟨B1, k, none⟩ = some (.float .f64 (T k)) := (hb2.cell (p := ⟨B1, k, none⟩) lt1).trans (HR1.out.cell hk)
  have c3 : w2.cell? ⟨B2, i, none⟩ = some (.int .i64 (S i : Int)) := hr2.cell hi
  have c4 : w2.cell? ⟨B2, k, none⟩ = some (.int .i64 (S k : Int)) := hr2.cell hk
  have hcmp := word_lt (HTW.out.1 i hi) (HTW.out.1 k hk)
  obtain ⟨X, hX⟩ : ∃ X : Value, X = .float .f64 (T i) := ⟨_, rfl⟩
  obtain ⟨Y, hY⟩ : ∃ Y : Value, Y = .float .f64 (T k) := ⟨_, rfl⟩
  have hlaw : ∀ W : World, (binOp .lss 22 X Y).run Try.prog W = .ok (.bool (decide (T i < T k))) W := fun W => by
    rw [hX, hY, binOp_float_cmp_lss, hcmp]
    rfl
  rw [← hX] at c1
  rw [← hY] at c2
  have iz : (i : Int) < n := by omega
  have kz : (k : Int) < n := by omega
  have HB2 : Hid (Below w.heap.size w w2) := HB1.out.trans (hb2.mono HB1.out.size)
  clear hO hr2 hb2 near hS hB2 lt1 hcmp hX hY hsum hSk
  have HAW : Hid (∀ W, Below w.heap.size w W → Calls Try.prog 13 #[] W fun e w' => e = .returned (.bool true) ∧ Hid (Below w.heap.size w w')) := fun W hW => (awake_any W).mono fun e w' ⟨h1, h2⟩ => ⟨h1, hW.trans (h2.mono hW.size)⟩
  go_wp2_with fail
  by_cases hlt : T i < T k
  · rw [decide_eq_true hlt] at hlaw
    clear hlt
    clear c3 c4 HNEAR
    refine wp_region_still_tail 22 (by kernel_rfl) (by kernel_rfl) ?_
    simp only [List.take_succ_cons, List.take_zero, List.drop_succ_cons, List.drop_zero]
    refine still_begin (fun K hK => ?_)
    iterate 10 (refine next_want hK ?_ ?_; kernel_rfl; clear hK K; intro K hK; go_simp)
    iterate 10 (refine next_skip hK ?_ ?_; kernel_rfl; clear hK K; intro K hK; go_simp)
    iterate 2 (refine next_want hK ?_ ?_; kernel_rfl; clear hK K; intro K hK; go_simp)
    refine hK _ (wpStill_nil ?_)
    clear hK K
    go_wp2_with fail
    refine (HAW.out _ HB2.out.drew).mono ?_
    rintro e w3 ⟨rfl, HB3⟩
    go_wp2
    go_ret
    exact ⟨rfl, HB3.out⟩
  · rw [decide_eq_false hlt] at hlaw
    have hge : ((S k : Nat) : Int) - 1 ≤ ((S i : Nat) : Int) := by have := HNEAR.out (by omega); omega
    have hw : wrap64 (((S k : Nat) : Int) - 1) = ((S k : Nat) : Int) - 1 := by
      have := HSK.out
      have := HN5.out
      unfold wrap64
      omega
    clear hlt HNEAR
    refine wp_region_still_tail 22 (by kernel_rfl) (by kernel_rfl) ?_
    simp only [List.take_succ_cons, List.take_zero, List.drop_succ_cons, List.drop_zero]
    refine still_begin (fun K hK => ?_)
    iterate 22 (refine next_want hK ?_ ?_; kernel_rfl; clear hK K; intro K hK; go_simp)
    refine hK _ (wpStill_nil ?_)
    clear hK K
    go_wp2_with fail
    refine (HAW.out _ HB2.out.drew).mono ?_
    rintro e w3 ⟨rfl, HB3⟩
    go_wp2
    go_ret
    exact ⟨rfl, HB3.out⟩

end Go.Proofs.Ytmkkkddadpcmeaa
