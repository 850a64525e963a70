/-
  What a name names: walked. No conditions.
-/
import Derived.Test.YtlhfpnfiamgmlaaP4
import Derived.Deep.DeepCutAuto
import Derived.BigQuiet
namespace Go.Proofs.Ytlhfpnfiamgmlaa
open Go.RowKit

theorem Stay.through {S : Nat → Prop} {w w1 : World} (h : Stay S w w1) : ∀ n, Stay S w (w1.drewN n) := fun n => h.drewN n

theorem named34_neg (T B n : Nat) (q : Int) (f : Nat → Sl) (env sl gn : Int) (w : World) (ht : TAt w T B n q f) (h : sl < 0) : Calls Try.prog 34 #[.pointer (some ⟨T, 0, none⟩), .int .i64 env, .agg #[.int .i64 sl, .int .i64 gn]] w (Gives (.tuple #[.pointer none, .int .i64 9]) w) := by
  obtain ⟨W0, hW0⟩ : ∃ W, W = w.alloc (.cells #[.int .i64 sl, .int .i64 gn] 30) := ⟨_, rfl⟩
  obtain ⟨bn, hbn⟩ : ∃ b, b = w.heap.size := ⟨_, rfl⟩
  have hs0 : Stay (fun _ => False) w W0 := by rw [hW0]; exact (Stay.refl _ _).alloc _
  have HS0 := hide' hs0
  have hnb : NBox W0 bn ⟨sl, gn⟩ := by rw [hW0]; exact NBox.new ⟨sl, gn⟩ hbn.symm
  have HNB := hide' hnb
  have HT := hide' (ht.keep hs0)
  have hn1 : (n : Int) ≤ 20 := by have := ht.n1; omega
  have t0 := HT.out.c0
  obtain ⟨b0, b1, _, _⟩ := HNB.out
  simp only at b0 b1
  clear ht hs0 hnb
  have d0 : decide (sl < 0) = true := decide_eq_true h
  go_enter Try.func34, Try.ntmps34
  go_upto_region 1 with fail
  rw [← hW0, ← hbn]
  clear hW0 hbn
  go_quiet (fail)
  go_wp2
  go_ret2
  exact ⟨rfl, by first | exact HS0.out.through _ | exact ((HS0.out.through _).through _).through _⟩

theorem named34_far (T B n : Nat) (q : Int) (f : Nat → Sl) (env sl gn : Int) (w : World) (ht : TAt w T B n q f) (h0 : 0 ≤ sl) (h : (n : Int) ≤ sl) : Calls Try.prog 34 #[.pointer (some ⟨T, 0, none⟩), .int .i64 env, .agg #[.int .i64 sl, .int .i64 gn]] w (Gives (.tuple #[.pointer none, .int .i64 9]) w) := by
  obtain ⟨W0, hW0⟩ : ∃ W, W = w.alloc (.cells #[.int .i64 sl, .int .i64 gn] 30) := ⟨_, rfl⟩
  obtain ⟨bn, hbn⟩ : ∃ b, b = w.heap.size := ⟨_, rfl⟩
  have hs0 : Stay (fun _ => False) w W0 := by rw [hW0]; exact (Stay.refl _ _).alloc _
  have HS0 := hide' hs0
  have hnb : NBox W0 bn ⟨sl, gn⟩ := by rw [hW0]; exact NBox.new ⟨sl, gn⟩ hbn.symm
  have HNB := hide' hnb
  have HT := hide' (ht.keep hs0)
  have hn1 : (n : Int) ≤ 20 := by have := ht.n1; omega
  have t0 := HT.out.c0
  obtain ⟨b0, b1, _, _⟩ := HNB.out
  simp only at b0 b1
  clear ht hs0 hnb
  have d0 : decide (sl < 0) = false := decide_eq_false (by omega)
  have d1 : decide ((n : Int) ≤ sl) = true := decide_eq_true h
  go_enter Try.func34, Try.ntmps34
  go_upto_region 1 with fail
  rw [← hW0, ← hbn]
  clear hW0 hbn
  go_quiet (fail)
  go_wp2
  go_ret2
  exact ⟨rfl, by first | exact HS0.out.through _ | exact ((HS0.out.through _).through _).through _⟩

theorem named34_free (T B n : Nat) (q : Int) (f : Nat → Sl) (env gn : Int) (k : Nat) (w : World) (ht : TAt w T B n q f) (hk : k < n) (p : Pl) (hp : pl B (f k) = p) (h : p.kind = 0) : Calls Try.prog 34 #[.pointer (some ⟨T, 0, none⟩), .int .i64 env, .agg #[.int .i64 (k : Nat), .int .i64 gn]] w (Gives (.tuple #[.pointer none, .int .i64 9]) w) := by
  obtain ⟨W0, hW0⟩ : ∃ W, W = w.alloc (.cells #[.int .i64 (k : Nat), .int .i64 gn] 30) := ⟨_, rfl⟩
  obtain ⟨bn, hbn⟩ : ∃ b, b = w.heap.size := ⟨_, rfl⟩
  have hs0 : Stay (fun _ => False) w W0 := by rw [hW0]; exact (Stay.refl _ _).alloc _
  have HS0 := hide' hs0
  have hnb : NBox W0 bn ⟨((k : Nat) : Int), gn⟩ := by rw [hW0]; exact NBox.new ⟨((k : Nat) : Int), gn⟩ hbn.symm
  have HNB := hide' hnb
  have HT := hide' (ht.keep hs0)
  have hn1 : (n : Int) ≤ 20 := by have := ht.n1; omega
  have t0 := HT.out.c0
  obtain ⟨b0, b1, _, _⟩ := HNB.out
  simp only at b0 b1
  clear ht hs0 hnb
  have d0 : decide (((k : Nat) : Int) < 0) = false := decide_eq_false (by omega)
  have kn : (k : Int) < (n : Nat) := by omega
  have d1 : decide ((n : Int) ≤ ((k : Nat) : Int)) = false := decide_eq_false (by omega)
  have hpb := HT.out.at hk
  rw [hp] at hpb
  obtain ⟨r0, r1, r2, _, _, _⟩ := hpb
  obtain ⟨g, hg⟩ : ∃ g, g = p.gen := ⟨_, rfl⟩
  obtain ⟨x, hx⟩ : ∃ g, g = p.kind := ⟨_, rfl⟩
  obtain ⟨y, hy⟩ : ∃ g, g = p.env := ⟨_, rfl⟩
  rw [← hg] at r0
  rw [← hy] at r1
  rw [← hx] at r2
  rw [h] at hx
  subst hx
  clear hp h hg hy
  go_enter Try.func34, Try.ntmps34
  go_upto_region 1 with fail
  rw [← hW0, ← hbn]
  clear hW0 hbn
  go_quiet (fail)
  go_upto_region 3 with fail
  go_quiet (fail)
  go_upto_region 4 with fail
  go_quiet (fail)
  go_wp2
  go_ret2
  exact ⟨rfl, by first | exact HS0.out.through _ | exact ((HS0.out.through _).through _).through _⟩

theorem named34_old (T B n : Nat) (q : Int) (f : Nat → Sl) (env gn : Int) (k : Nat) (w : World) (ht : TAt w T B n q f) (hk : k < n) (p : Pl) (hp : pl B (f k) = p) (h : p.kind ≠ 0) (h2 : p.gen ≠ gn) : Calls Try.prog 34 #[.pointer (some ⟨T, 0, none⟩), .int .i64 env, .agg #[.int .i64 (k : Nat), .int .i64 gn]] w (Gives (.tuple #[.pointer none, .int .i64 9]) w) := by
  obtain ⟨W0, hW0⟩ : ∃ W, W = w.alloc (.cells #[.int .i64 (k : Nat), .int .i64 gn] 30) := ⟨_, rfl⟩
  obtain ⟨bn, hbn⟩ : ∃ b, b = w.heap.size := ⟨_, rfl⟩
  have hs0 : Stay (fun _ => False) w W0 := by rw [hW0]; exact (Stay.refl _ _).alloc _
  have HS0 := hide' hs0
  have hnb : NBox W0 bn ⟨((k : Nat) : Int), gn⟩ := by rw [hW0]; exact NBox.new ⟨((k : Nat) : Int), gn⟩ hbn.symm
  have HNB := hide' hnb
  have HT := hide' (ht.keep hs0)
  have hn1 : (n : Int) ≤ 20 := by have := ht.n1; omega
  have t0 := HT.out.c0
  obtain ⟨b0, b1, _, _⟩ := HNB.out
  simp only at b0 b1
  clear ht hs0 hnb
  have d0 : decide (((k : Nat) : Int) < 0) = false := decide_eq_false (by omega)
  have kn : (k : Int) < (n : Nat) := by omega
  have d1 : decide ((n : Int) ≤ ((k : Nat) : Int)) = false := decide_eq_false (by omega)
  have hpb := HT.out.at hk
  rw [hp] at hpb
  obtain ⟨r0, r1, r2, _, _, _⟩ := hpb
  obtain ⟨g, hg⟩ : ∃ g, g = p.gen := ⟨_, rfl⟩
  obtain ⟨x, hx⟩ : ∃ g, g = p.kind := ⟨_, rfl⟩
  obtain ⟨y, hy⟩ : ∃ g, g = p.env := ⟨_, rfl⟩
  rw [← hg] at r0
  rw [← hy] at r1
  rw [← hx] at r2
  rw [← hx] at h
  rw [← hg] at h2
  have e1 : (x == 0) = false := beq_eq_false_iff_ne.2 h
  have e2 : (g != gn) = true := bne_iff_ne.2 h2
  clear hp hg hy hx
  go_enter Try.func34, Try.ntmps34
  go_upto_region 1 with fail
  rw [← hW0, ← hbn]
  clear hW0 hbn
  go_quiet (fail)
  go_upto_region 3 with fail
  go_quiet (fail)
  go_upto_region 4 with fail
  go_quiet (fail)
  go_wp2
  go_ret2
  exact ⟨rfl, by first | exact HS0.out.through _ | exact ((HS0.out.through _).through _).through _⟩

theorem named34_other (T B n : Nat) (q : Int) (f : Nat → Sl) (env gn : Int) (k : Nat) (w : World) (ht : TAt w T B n q f) (hk : k < n) (p : Pl) (hp : pl B (f k) = p) (h : p.kind ≠ 0) (h2 : p.gen = gn) (h3 : p.env ≠ env) : Calls Try.prog 34 #[.pointer (some ⟨T, 0, none⟩), .int .i64 env, .agg #[.int .i64 (k : Nat), .int .i64 gn]] w (Gives (.tuple #[.pointer none, .int .i64 8]) w) := by
  obtain ⟨W0, hW0⟩ : ∃ W, W = w.alloc (.cells #[.int .i64 (k : Nat), .int .i64 gn] 30) := ⟨_, rfl⟩
  obtain ⟨bn, hbn⟩ : ∃ b, b = w.heap.size := ⟨_, rfl⟩
  have hs0 : Stay (fun _ => False) w W0 := by rw [hW0]; exact (Stay.refl _ _).alloc _
  have HS0 := hide' hs0
  have hnb : NBox W0 bn ⟨((k : Nat) : Int), gn⟩ := by rw [hW0]; exact NBox.new ⟨((k : Nat) : Int), gn⟩ hbn.symm
  have HNB := hide' hnb
  have HT := hide' (ht.keep hs0)
  have hn1 : (n : Int) ≤ 20 := by have := ht.n1; omega
  have t0 := HT.out.c0
  obtain ⟨b0, b1, _, _⟩ := HNB.out
  simp only at b0 b1
  clear ht hs0 hnb
  have d0 : decide (((k : Nat) : Int) < 0) = false := decide_eq_false (by omega)
  have kn : (k : Int) < (n : Nat) := by omega
  have d1 : decide ((n : Int) ≤ ((k : Nat) : Int)) = false := decide_eq_false (by omega)
  have hpb := HT.out.at hk
  rw [hp] at hpb
  obtain ⟨r0, r1, r2, _, _, _⟩ := hpb
  obtain ⟨g, hg⟩ : ∃ g, g = p.gen := ⟨_, rfl⟩
  obtain ⟨x, hx⟩ : ∃ g, g = p.kind := ⟨_, rfl⟩
  obtain ⟨y, hy⟩ : ∃ g, g = p.env := ⟨_, rfl⟩
  rw [← hg] at r0
  rw [← hy] at r1
  rw [← hx] at r2
  rw [← hx] at h
  rw [← hg] at h2
  rw [← hy] at h3
  have e1 : (x == 0) = false := beq_eq_false_iff_ne.2 h
  have e2 : (g != gn) = false := by rw [h2]; simp
  have e3 : (y != env) = true := bne_iff_ne.2 h3
  clear hp hg hy hx h2
  go_enter Try.func34, Try.ntmps34
  go_upto_region 1 with fail
  rw [← hW0, ← hbn]
  clear hW0 hbn
  go_quiet (fail)
  go_upto_region 3 with fail
  go_quiet (fail)
  go_upto_region 4 with fail
  go_quiet (fail)
  go_wp2
  go_ret2
  exact ⟨rfl, by first | exact HS0.out.through _ | exact ((HS0.out.through _).through _).through _⟩

theorem named34_right (T B n : Nat) (q : Int) (f : Nat → Sl) (env gn : Int) (k : Nat) (w : World) (ht : TAt w T B n q f) (hk : k < n) (p : Pl) (hp : pl B (f k) = p) (h : p.kind ≠ 0) (h2 : p.gen = gn) (h3 : p.env = env) : Calls Try.prog 34 #[.pointer (some ⟨T, 0, none⟩), .int .i64 env, .agg #[.int .i64 (k : Nat), .int .i64 gn]] w (Gives (.tuple #[.pointer (some ⟨B, k * 6, none⟩), .int .i64 0]) w) := by
  obtain ⟨W0, hW0⟩ : ∃ W, W = w.alloc (.cells #[.int .i64 (k : Nat), .int .i64 gn] 30) := ⟨_, rfl⟩
  obtain ⟨bn, hbn⟩ : ∃ b, b = w.heap.size := ⟨_, rfl⟩
  have hs0 : Stay (fun _ => False) w W0 := by rw [hW0]; exact (Stay.refl _ _).alloc _
  have HS0 := hide' hs0
  have hnb : NBox W0 bn ⟨((k : Nat) : Int), gn⟩ := by rw [hW0]; exact NBox.new ⟨((k : Nat) : Int), gn⟩ hbn.symm
  have HNB := hide' hnb
  have HT := hide' (ht.keep hs0)
  have hn1 : (n : Int) ≤ 20 := by have := ht.n1; omega
  have t0 := HT.out.c0
  obtain ⟨b0, b1, _, _⟩ := HNB.out
  simp only at b0 b1
  clear ht hs0 hnb
  have d0 : decide (((k : Nat) : Int) < 0) = false := decide_eq_false (by omega)
  have kn : (k : Int) < (n : Nat) := by omega
  have d1 : decide ((n : Int) ≤ ((k : Nat) : Int)) = false := decide_eq_false (by omega)
  have hpb := HT.out.at hk
  rw [hp] at hpb
  obtain ⟨r0, r1, r2, _, _, _⟩ := hpb
  obtain ⟨g, hg⟩ : ∃ g, g = p.gen := ⟨_, rfl⟩
  obtain ⟨x, hx⟩ : ∃ g, g = p.kind := ⟨_, rfl⟩
  obtain ⟨y, hy⟩ : ∃ g, g = p.env := ⟨_, rfl⟩
  rw [← hg] at r0
  rw [← hy] at r1
  rw [← hx] at r2
  rw [← hx] at h
  rw [← hg] at h2
  rw [← hy] at h3
  have e1 : (x == 0) = false := beq_eq_false_iff_ne.2 h
  have e2 : (g != gn) = false := by rw [h2]; simp
  have e3 : (y != env) = false := by rw [h3]; simp
  clear hp hg hy hx h2 h3
  go_enter Try.func34, Try.ntmps34
  go_upto_region 1 with fail
  rw [← hW0, ← hbn]
  clear hW0 hbn
  go_quiet (fail)
  go_upto_region 3 with fail
  go_quiet (fail)
  go_upto_region 4 with fail
  go_quiet (fail)
  go_wp2
  go_ret2
  exact ⟨rfl, by first | exact HS0.out.through _ | exact ((HS0.out.through _).through _).through _⟩

/-- The pointer to what is named. -/
def nptr (B : Nat) (e sl : Int) : Value := if e = 0 then .pointer (some ⟨B, sl.toNat * 6, none⟩) else .pointer none

theorem has0 (x : Int) : hasB x 0 = true := by
  unfold hasB bits
  simp
  decide

theorem named34 (T B n : Nat) (q : Int) (f : Nat → Sl) (env sl gn : Int) (w : World) (ht : TAt w T B n q f) : Calls Try.prog 34 #[.pointer (some ⟨T, 0, none⟩), .int .i64 env, .agg #[.int .i64 sl, .int .i64 gn]] w (Gives (.tuple #[nptr B (ownE n f env sl gn 0) sl, .int .i64 (ownE n f env sl gn 0)]) w) := by
  by_cases h0 : sl < 0
  · have he : ownE n f env sl gn 0 = 9 := by unfold ownE; rw [if_neg (fun h => by omega)]
    rw [he]
    exact named34_neg T B n q f env sl gn w ht h0
  · by_cases h1 : (n : Int) ≤ sl
    · have he : ownE n f env sl gn 0 = 9 := by unfold ownE; rw [if_neg (fun h => by omega)]
      rw [he]
      exact named34_far T B n q f env sl gn w ht (by omega) h1
    · obtain ⟨k, rfl⟩ := Int.eq_ofNat_of_zero_le (show 0 ≤ sl by omega)
      have hk : k < n := by omega
      have hok := ht.ok.1 k hk
      by_cases h2 : 0 ≤ (f k).env
      · have hkd : (f k).kind ≠ 0 := by rcases hok with e | e <;> omega
        by_cases h3 : (f k).gen = gn
        · by_cases h4 : (f k).env = env
          · have he : ownE n f env (k : Nat) gn 0 = 0 := by
              unfold ownE
              rw [Int.toNat_natCast, if_pos ⟨by omega, by omega, h2, h3⟩, if_pos ⟨h4, has0 _⟩]
            rw [he]
            exact named34_right T B n q f env gn k w ht hk _ rfl hkd h3 (by show (if (f k).env < 0 then 0 else (f k).env) = env; rw [if_neg (by omega)]; exact h4)
          · have he : ownE n f env (k : Nat) gn 0 = 8 := by
              unfold ownE
              rw [Int.toNat_natCast, if_pos ⟨by omega, by omega, h2, h3⟩, if_neg (fun h => h4 h.1)]
            rw [he]
            exact named34_other T B n q f env gn k w ht hk _ rfl hkd h3 (by show (if (f k).env < 0 then 0 else (f k).env) ≠ env; rw [if_neg (by omega)]; exact h4)
        · have he : ownE n f env (k : Nat) gn 0 = 9 := by
            unfold ownE
            rw [Int.toNat_natCast, if_neg (fun h => h3 h.2.2.2)]
          rw [he]
          exact named34_old T B n q f env gn k w ht hk _ rfl hkd h3
      · have he : ownE n f env (k : Nat) gn 0 = 9 := by
          unfold ownE
          rw [Int.toNat_natCast, if_neg (fun h => h2 h.2.2.1)]
        rw [he]
        exact named34_free T B n q f env gn k w ht hk _ rfl (by rcases hok with e | e; exact e.2.1; omega)

end Go.Proofs.Ytlhfpnfiamgmlaa
