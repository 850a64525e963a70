/-
  A place is looked for by halves: walked. No conditions.
-/
import Derived.Test.YtihciknbmhadjaaD5
namespace Go.Proofs.Ytihciknbmhadjaa
open Go.RowKit

theorem srt_lt {L : List Tm} (h : Srt L) {i j : Nat} {a b : Tm} (hij : i < j) (ha : L[i]? = some a) (hb : L[j]? = some b) : ahB a b = true := by
  obtain ⟨hi, rfl⟩ := List.getElem?_eq_some_iff.1 ha
  obtain ⟨hj, rfl⟩ := List.getElem?_eq_some_iff.1 hb
  exact List.pairwise_iff_getElem.1 h i j hi hj hij

/-- Those ahead of a place stand ahead of a timer, the others don't. -/
def Spl (t : Tm) (L : List Tm) (lo hi : Nat) : Prop := (∀ k a, k < lo → L[k]? = some a → ahB a t = true) ∧ (∀ k a, hi ≤ k → L[k]? = some a → ahB a t = false)

theorem Spl.up {t x : Tm} {L : List Tm} {lo hi m : Nat} (h : Spl t L lo hi) (hs : Srt L) (hx : L[m]? = some x) (ht : ahB x t = true) : Spl t L (m + 1) hi :=
  ⟨fun k a hk ha => by
    by_cases e : k = m
    · subst e; rw [hx] at ha; cases ha; exact ht
    · exact ah_trans (srt_lt hs (by omega) ha hx) ht, h.2⟩

theorem Spl.down {t x : Tm} {L : List Tm} {lo hi m : Nat} (h : Spl t L lo hi) (hs : Srt L) (hx : L[m]? = some x) (ht : ahB x t = false) : Spl t L lo m :=
  ⟨h.1, fun k a hk ha => by
    by_cases e : k = m
    · subst e; rw [hx] at ha; cases ha; exact ht
    · rw [ah_false]
      intro h2
      have := ah_trans (srt_lt hs (by omega) hx ha) h2
      rw [ht] at this
      cases this⟩

/-- What the search hands back. -/
def FoundT (t : Tm) (L : List Tm) (w : World) (e : Ending) (w' : World) : Prop := ∃ (i : Nat) (f : Bool), e = .returned (.tuple #[.int .i64 (i : Nat), .bool f]) ∧ i ≤ L.length ∧ Spl t L i i ∧ Stay (fun _ => False) w w'

/-- What stands while one searches. -/
def SIn (w : World) (bt : Nat) (t : Tm) (w' : World) : Prop := Stay (fun _ => False) w w' ∧ TBox w' bt t

theorem SIn.keep {w W w1 : World} {bt : Nat} {t : Tm} (h : SIn w bt t W) (hs : Stay (fun _ => False) W w1) : SIn w bt t w1 := ⟨h.1.trans hs, h.2.keep hs⟩

set_option maxHeartbeats 2000000 in
theorem search29 (a : Option Addr) (n cap : Nat) (L : List Tm) (t : Tm) (w : World) (hr : Rd w a L) (hn : L.length = n) (hm : n ≤ 2048) (hs : Srt L) :
    Calls Try.prog 29 #[.slice a n cap, .agg #[.int .i64 t.en, .int .i64 t.nr, .int .i64 t.du], .func (.func 30) #[] #[]] w (FoundT t L w) := by
  obtain ⟨bt, hbt⟩ : ∃ b, b = w.heap.size := ⟨_, rfl⟩
  obtain ⟨W0, hW0⟩ : ∃ W, W = w.alloc (.cells #[.int .i64 t.en, .int .i64 t.nr, .int .i64 t.du] 35) := ⟨_, rfl⟩
  have HS0 : Hid (SIn w bt t W0) := by rw [hW0]; exact ⟨(Stay.refl _ _).alloc _, TBox.new t hbt.symm⟩
  have HR := hide' hr
  have HN := hide' hn
  have HSR := hide' hs
  have n2 : (n : Int) ≤ 2048 := by omega
  have HP0 : Hid (Spl t L 0 n) := ⟨fun k a hk => by omega, fun k a hk ha => by rw [List.getElem?_eq_none (by omega)] at ha; cases ha⟩
  clear hr hn hs hm
  go_enter Try.func29, Try.ntmps29
  go_upto_region 1 with fail
  rw [← hW0, ← hbt]
  clear hW0 hbt
  go_wp2
  go_loopg [9, 10] n (fun gg v9 v10 wr => ∃ lo hi : Nat, v9 = .int .i64 (lo : Int) ∧ v10 = .int .i64 (hi : Int) ∧ lo ≤ hi ∧ hi ≤ n ∧ gg = hi - lo ∧ Hid (SIn w bt t wr) ∧ Hid (Spl t L lo hi))
  case atStart => exact ⟨0, n, rfl, rfl, Nat.zero_le _, Nat.le_refl _, by omega, HS0, HP0⟩
  case round =>
    clear HS0 HP0
    obtain ⟨lo, hi, rfl, rfl, hlh, hhn, rfl, HS, HP⟩ := hrel
    by_cases hlt : lo < hi
    · have l1 : (lo : Int) < (hi : Nat) := by omega
      obtain ⟨m, hm⟩ : ∃ m, m = (lo + hi) / 2 := ⟨_, rfl⟩
      have em : ((lo : Int) + (hi : Int)) / 2 = ((m : Nat) : Int) := by omega
      have mn : m < n := by omega
      have mi : (m : Int) < (n : Nat) := by omega
      have HML : Hid (lo ≤ m ∧ m < hi) := by show _ ∧ _; omega
      obtain ⟨x, hx⟩ : ∃ x, L[m]? = some x := ⟨_, List.getElem?_eq_getElem (by rw [HN.out]; exact mn)⟩
      obtain ⟨g, o, rfl, hb⟩ := HR.out m x hx
      have HB := hide' hb
      have HX := hide' hx
      obtain ⟨c, hc⟩ : ∃ c, c = cT x t := ⟨_, rfl⟩
      have HO := hide' (fun w => order30 x t w)
      rw [← hc] at HO
      have HC : Hid (decide (c < 0) = ahB x t) := by rw [hc]; exact cT_neg x t
      have hSS := HS.out
      clear hm hx hb hc HS
      go_upto_region 5 with fail
      have hS : SIn w bt t wr.drew := hSS.keep (Stay.refl _ _).drew
      refine wp_region_mix (SIn w bt t) [(0, true), (1, true), (2, true), (3, true), (4, true), (5, true), (6, false), (7, true)] (by kernel_rfl) (by kernel_rfl) (fun _ d _ _ _ h => by cases d <;> exact h) hS ?_
      refine mix_begin (fun K0 hK0 => ?_)
      refine mix_take hK0 (some 24) (.move (.tmp 2)) 60 _ (by kernel_rfl) (by kernel_rfl) (fun w' hS' => by (simp only [opr]; go_simp; try with_reducible rfl)) (fun K1 hK1 => ?_)
      clear hK0 K0
      simp only [Act.put, List.setIfInBounds_toArray, List.set_cons_zero, List.set_cons_succ]
      refine mix_take hK1 (some 25) (.move (.tmp 0)) 26 _ (by kernel_rfl) (by kernel_rfl) (fun w' hS' => by (simp only [opr]; go_simp; try with_reducible rfl)) (fun K2 hK2 => ?_)
      clear hK1 K1
      simp only [Act.put, List.setIfInBounds_toArray, List.set_cons_zero, List.set_cons_succ]
      refine mix_take hK2 (some 26) (.move (.tmp 11)) 3 _ (by kernel_rfl) (by kernel_rfl) (fun w' hS' => by (simp only [opr]; go_simp; try with_reducible rfl)) (fun K3 hK3 => ?_)
      clear hK2 K2
      simp only [Act.put, List.setIfInBounds_toArray, List.set_cons_zero, List.set_cons_succ]
      refine mix_take hK3 (some 27) (.indexAddr 26 (.tmp 25) (.tmp 26)) 0 _ (by kernel_rfl) (by kernel_rfl) (fun w' hS' => by (simp only [opr]; go_simp; try with_reducible rfl)) (fun K4 hK4 => ?_)
      clear hK3 K3
      simp only [Act.put, List.setIfInBounds_toArray, List.set_cons_zero, List.set_cons_succ]
      refine mix_take hK4 (some 28) (.load 35 (.tmp 27)) 35 _ (by kernel_rfl) (by kernel_rfl) (fun w' hS' => by exact run_load_TBoxAt rfl rfl (HB.out.keep hS'.1)) (fun K5 hK5 => ?_)
      clear hK4 K4
      simp only [Act.put, List.setIfInBounds_toArray, List.set_cons_zero, List.set_cons_succ]
      refine mix_take hK5 (some 29) (.load 35 (.tmp 4)) 35 _ (by kernel_rfl) (by kernel_rfl) (fun w' hS' => by exact run_load_TBox rfl rfl hS'.2) (fun K6 hK6 => ?_)
      clear hK5 K5
      simp only [Act.put, List.setIfInBounds_toArray, List.set_cons_zero, List.set_cons_succ]
      refine mix_chain hK6 (fun K6c hK6c => ?_)
      clear hK6 K6
      refine op_plain (some 30) (.call { callee := Callee.value (.tmp 24), args := #[.tmp 28, .tmp 29], argTypes := #[35, 35] }) 3 (by kernel_rfl) (by kernel_rfl) ?_
      go_wp2_with fail
      refine (HO.out _).mono ?_
      rintro _ wm ⟨rfl, hsm⟩
      have hSm : SIn w bt t wm := hS.keep hsm
      clear hsm
      go_wp2
      have hSz : (SIn w bt t) wm := hSm
      refine hK6c _ _ hSz (mix_begin fun K7 hK7 => ?_)
      clear hK6c K6c
      try simp only [Act.put, List.setIfInBounds_toArray, List.set_cons_zero, List.set_cons_succ]
      refine mix_take hK7 (some 31) (.binOp BinOp.lss 3 (.tmp 30) (.const (Value.int IntKind.i64 0)) 3) 4 _ (by kernel_rfl) (by kernel_rfl) (fun w' hS' => by (simp only [opr]; go_simp; try with_reducible rfl)) (fun K8 hK8 => ?_)
      clear hK7 K7
      simp only [Act.put, List.setIfInBounds_toArray, List.set_cons_zero, List.set_cons_succ]
      refine hK8 _ _ (mix_nil ?_)
      clear hK8 K8
      have HS2 := hide' hSz
      clear hS hSz hSm HO HB hSS
      by_cases hc0 : c < 0
      · have HP2 := hide' (HP.out.up HSR.out HX.out (by rw [← HC.out]; exact decide_eq_true hc0))
        clear HP HC em
        go_wp2
        go_roundg (hi - (m + 1))
        case measure => have := HML.out; omega
        case rel => exact ⟨m + 1, hi, by go_num, rfl, by have := HML.out; omega, hhn, rfl, HS2, HP2⟩
      · have HP2 := hide' (HP.out.down HSR.out HX.out (by rw [← HC.out]; exact decide_eq_false hc0))
        clear HP HC em
        go_wp2
        go_roundg (m - lo)
        case measure => have := HML.out; omega
        case rel => exact ⟨lo, m, rfl, rfl, by have := HML.out; omega, by omega, rfl, HS2, HP2⟩
    · obtain rfl : hi = lo := by omega
      have hSS := HS.out
      clear HS
      go_upto_region 8 with fail
      have hS : SIn w bt t wr.drew := hSS.keep (Stay.refl _ _).drew
      by_cases hin : hi < n
      · have i1 : (hi : Int) < (n : Nat) := by omega
        obtain ⟨x, hx⟩ : ∃ x, L[hi]? = some x := ⟨_, List.getElem?_eq_getElem (by rw [HN.out]; exact hin)⟩
        obtain ⟨g, o, rfl, hb⟩ := HR.out hi x hx
        have HB := hide' hb
        have HO := hide' (fun w => order30 x t w)
        clear hx hb
        refine wp_region_mix (SIn w bt t) [(0, true), (1, true), (2, true), (3, true), (4, true), (5, true), (6, true), (7, true), (8, true), (9, true), (10, true), (11, false), (12, true), (13, true), (14, true), (15, true)] (by kernel_rfl) (by kernel_rfl) (fun _ d _ _ _ h => by cases d <;> exact h) hS ?_
        refine mix_begin (fun K0 hK0 => ?_)
        refine mix_take hK0 (some 35) (.move (.tmp 9)) 3 _ (by kernel_rfl) (by kernel_rfl) (fun w' hS' => by (simp only [opr]; go_simp; try with_reducible rfl)) (fun K1 hK1 => ?_)
        clear hK0 K0
        simp only [Act.put, List.setIfInBounds_toArray, List.set_cons_zero, List.set_cons_succ]
        refine mix_take hK1 (some 36) (.move (.tmp 9)) 3 _ (by kernel_rfl) (by kernel_rfl) (fun w' hS' => by (simp only [opr]; go_simp; try with_reducible rfl)) (fun K2 hK2 => ?_)
        clear hK1 K1
        simp only [Act.put, List.setIfInBounds_toArray, List.set_cons_zero, List.set_cons_succ]
        refine mix_take hK2 (some 37) (.move (.tmp 8)) 3 _ (by kernel_rfl) (by kernel_rfl) (fun w' hS' => by (simp only [opr]; go_simp; try with_reducible rfl)) (fun K3 hK3 => ?_)
        clear hK2 K2
        simp only [Act.put, List.setIfInBounds_toArray, List.set_cons_zero, List.set_cons_succ]
        refine mix_take hK3 (some 38) (.binOp BinOp.lss 3 (.tmp 36) (.tmp 37) 3) 4 _ (by kernel_rfl) (by kernel_rfl) (fun w' hS' => by (simp only [opr]; go_simp; try with_reducible rfl)) (fun K4 hK4 => ?_)
        clear hK3 K3
        simp only [Act.put, List.setIfInBounds_toArray, List.set_cons_zero, List.set_cons_succ]
        refine mix_take hK4 (some 39) (.move (.tmp 38)) 4 _ (by kernel_rfl) (by kernel_rfl) (fun w' hS' => by (simp only [opr]; go_simp; try with_reducible rfl)) (fun K5 hK5 => ?_)
        clear hK4 K4
        simp only [Act.put, List.setIfInBounds_toArray, List.set_cons_zero, List.set_cons_succ]
        refine mix_take hK5 (some 40) (.move (.tmp 2)) 60 _ (by kernel_rfl) (by kernel_rfl) (fun w' hS' => by (simp only [opr]; go_simp; try with_reducible rfl)) (fun K6 hK6 => ?_)
        clear hK5 K5
        simp only [Act.put, List.setIfInBounds_toArray, List.set_cons_zero, List.set_cons_succ]
        refine mix_take hK6 (some 41) (.move (.tmp 0)) 26 _ (by kernel_rfl) (by kernel_rfl) (fun w' hS' => by (simp only [opr]; go_simp; try with_reducible rfl)) (fun K7 hK7 => ?_)
        clear hK6 K6
        simp only [Act.put, List.setIfInBounds_toArray, List.set_cons_zero, List.set_cons_succ]
        refine mix_take hK7 (some 42) (.move (.tmp 9)) 3 _ (by kernel_rfl) (by kernel_rfl) (fun w' hS' => by (simp only [opr]; go_simp; try with_reducible rfl)) (fun K8 hK8 => ?_)
        clear hK7 K7
        simp only [Act.put, List.setIfInBounds_toArray, List.set_cons_zero, List.set_cons_succ]
        refine mix_take hK8 (some 43) (.indexAddr 26 (.tmp 41) (.tmp 42)) 0 _ (by kernel_rfl) (by kernel_rfl) (fun w' hS' => by (simp only [opr]; go_simp; try with_reducible rfl)) (fun K9 hK9 => ?_)
        clear hK8 K8
        simp only [Act.put, List.setIfInBounds_toArray, List.set_cons_zero, List.set_cons_succ]
        refine mix_take hK9 (some 44) (.load 35 (.tmp 43)) 35 _ (by kernel_rfl) (by kernel_rfl) (fun w' hS' => by exact run_load_TBoxAt rfl rfl (HB.out.keep hS'.1)) (fun K10 hK10 => ?_)
        clear hK9 K9
        simp only [Act.put, List.setIfInBounds_toArray, List.set_cons_zero, List.set_cons_succ]
        refine mix_take hK10 (some 45) (.load 35 (.tmp 4)) 35 _ (by kernel_rfl) (by kernel_rfl) (fun w' hS' => by exact run_load_TBox rfl rfl hS'.2) (fun K11 hK11 => ?_)
        clear hK10 K10
        simp only [Act.put, List.setIfInBounds_toArray, List.set_cons_zero, List.set_cons_succ]
        refine mix_chain hK11 (fun K11c hK11c => ?_)
        clear hK11 K11
        refine op_plain (some 46) (.call { callee := Callee.value (.tmp 40), args := #[.tmp 44, .tmp 45], argTypes := #[35, 35] }) 3 (by kernel_rfl) (by kernel_rfl) ?_
        go_wp2_with fail
        refine (HO.out _).mono ?_
        rintro _ wm ⟨rfl, hsm⟩
        have hSm : SIn w bt t wm := hS.keep hsm
        clear hsm
        go_wp2
        have hSz : (SIn w bt t) wm := hSm
        refine hK11c _ _ hSz (mix_begin fun K12 hK12 => ?_)
        clear hK11c K11c
        try simp only [Act.put, List.setIfInBounds_toArray, List.set_cons_zero, List.set_cons_succ]
        refine mix_take hK12 (some 47) (.binOp BinOp.eql 3 (.tmp 46) (.const (Value.int IntKind.i64 0)) 3) 4 _ (by kernel_rfl) (by kernel_rfl) (fun w' hS' => by (simp only [opr]; go_simp; try with_reducible rfl)) (fun K13 hK13 => ?_)
        clear hK12 K12
        simp only [Act.put, List.setIfInBounds_toArray, List.set_cons_zero, List.set_cons_succ]
        refine mix_take hK13 (some 48) (.pick (.tmp 39) (.tmp 47) (.const (Value.bool false))) 4 _ (by kernel_rfl) (by kernel_rfl) (fun w' hS' => by (simp only [opr]; go_simp; try with_reducible rfl)) (fun K14 hK14 => ?_)
        clear hK13 K13
        simp only [Act.put, List.setIfInBounds_toArray, List.set_cons_zero, List.set_cons_succ]
        refine mix_take hK14 (some 6) (.assign (.tmp 35)) 3 _ (by kernel_rfl) (by kernel_rfl) (fun w' hS' => by (simp only [opr]; go_simp; try with_reducible rfl)) (fun K15 hK15 => ?_)
        clear hK14 K14
        simp only [Act.put, List.setIfInBounds_toArray, List.set_cons_zero, List.set_cons_succ]
        refine mix_take hK15 (some 7) (.assign (.tmp 48)) 4 _ (by kernel_rfl) (by kernel_rfl) (fun w' hS' => by (simp only [opr]; go_simp; try with_reducible rfl)) (fun K16 hK16 => ?_)
        clear hK15 K15
        simp only [Act.put, List.setIfInBounds_toArray, List.set_cons_zero, List.set_cons_succ]
        refine hK16 _ _ (mix_nil ?_)
        clear hK16 K16
        have HS2 := hide' hSz.1
        clear hS hSz hSm HO HB hSS
        go_wp2
        go_returns
        exact ⟨hi, _, rfl, by rw [HN.out]; exact hhn, HP.out, HS2.out⟩
      · have i1 : ¬ (hi : Int) < (n : Nat) := by omega
        refine wp_region_mix (SIn w bt t) [(0, true), (1, true), (2, true), (3, true), (4, true), (5, true), (6, true), (7, true), (8, true), (9, true), (10, true), (11, false), (12, true), (13, true), (14, true), (15, true)] (by kernel_rfl) (by kernel_rfl) (fun _ d _ _ _ h => by cases d <;> exact h) hS ?_
        refine mix_begin (fun K0 hK0 => ?_)
        refine mix_take hK0 (some 35) (.move (.tmp 9)) 3 _ (by kernel_rfl) (by kernel_rfl) (fun w' hS' => by (simp only [opr]; go_simp; try with_reducible rfl)) (fun K1 hK1 => ?_)
        clear hK0 K0
        simp only [Act.put, List.setIfInBounds_toArray, List.set_cons_zero, List.set_cons_succ]
        refine mix_take hK1 (some 36) (.move (.tmp 9)) 3 _ (by kernel_rfl) (by kernel_rfl) (fun w' hS' => by (simp only [opr]; go_simp; try with_reducible rfl)) (fun K2 hK2 => ?_)
        clear hK1 K1
        simp only [Act.put, List.setIfInBounds_toArray, List.set_cons_zero, List.set_cons_succ]
        refine mix_take hK2 (some 37) (.move (.tmp 8)) 3 _ (by kernel_rfl) (by kernel_rfl) (fun w' hS' => by (simp only [opr]; go_simp; try with_reducible rfl)) (fun K3 hK3 => ?_)
        clear hK2 K2
        simp only [Act.put, List.setIfInBounds_toArray, List.set_cons_zero, List.set_cons_succ]
        refine mix_take hK3 (some 38) (.binOp BinOp.lss 3 (.tmp 36) (.tmp 37) 3) 4 _ (by kernel_rfl) (by kernel_rfl) (fun w' hS' => by (simp only [opr]; go_simp; try with_reducible rfl)) (fun K4 hK4 => ?_)
        clear hK3 K3
        simp only [Act.put, List.setIfInBounds_toArray, List.set_cons_zero, List.set_cons_succ]
        refine mix_take hK4 (some 39) (.move (.tmp 38)) 4 _ (by kernel_rfl) (by kernel_rfl) (fun w' hS' => by (simp only [opr]; go_simp; try with_reducible rfl)) (fun K5 hK5 => ?_)
        clear hK4 K4
        simp only [Act.put, List.setIfInBounds_toArray, List.set_cons_zero, List.set_cons_succ]
        refine mix_skip hK5 (some 40) (by kernel_rfl) (by kernel_rfl) hS (fun K6 hK6 => ?_)
        clear hK5 K5
        simp only [Act.put, List.setIfInBounds_toArray, List.set_cons_zero, List.set_cons_succ]
        refine mix_skip hK6 (some 41) (by kernel_rfl) (by kernel_rfl) hS (fun K7 hK7 => ?_)
        clear hK6 K6
        simp only [Act.put, List.setIfInBounds_toArray, List.set_cons_zero, List.set_cons_succ]
        refine mix_skip hK7 (some 42) (by kernel_rfl) (by kernel_rfl) hS (fun K8 hK8 => ?_)
        clear hK7 K7
        simp only [Act.put, List.setIfInBounds_toArray, List.set_cons_zero, List.set_cons_succ]
        refine mix_skip hK8 (some 43) (by kernel_rfl) (by kernel_rfl) hS (fun K9 hK9 => ?_)
        clear hK8 K8
        simp only [Act.put, List.setIfInBounds_toArray, List.set_cons_zero, List.set_cons_succ]
        refine mix_skip hK9 (some 44) (by kernel_rfl) (by kernel_rfl) hS (fun K10 hK10 => ?_)
        clear hK9 K9
        simp only [Act.put, List.setIfInBounds_toArray, List.set_cons_zero, List.set_cons_succ]
        refine mix_skip hK10 (some 45) (by kernel_rfl) (by kernel_rfl) hS (fun K11 hK11 => ?_)
        clear hK10 K10
        simp only [Act.put, List.setIfInBounds_toArray, List.set_cons_zero, List.set_cons_succ]
        refine mix_skip hK11 (some 46) (by kernel_rfl) (by kernel_rfl) hS (fun K12 hK12 => ?_)
        clear hK11 K11
        simp only [Act.put, List.setIfInBounds_toArray, List.set_cons_zero, List.set_cons_succ]
        refine mix_skip hK12 (some 47) (by kernel_rfl) (by kernel_rfl) hS (fun K13 hK13 => ?_)
        clear hK12 K12
        simp only [Act.put, List.setIfInBounds_toArray, List.set_cons_zero, List.set_cons_succ]
        refine mix_take hK13 (some 48) (.pick (.tmp 39) (.tmp 47) (.const (Value.bool false))) 4 _ (by kernel_rfl) (by kernel_rfl) (fun w' hS' => by (simp only [opr]; go_simp; try with_reducible rfl)) (fun K14 hK14 => ?_)
        clear hK13 K13
        simp only [Act.put, List.setIfInBounds_toArray, List.set_cons_zero, List.set_cons_succ]
        refine mix_take hK14 (some 6) (.assign (.tmp 35)) 3 _ (by kernel_rfl) (by kernel_rfl) (fun w' hS' => by (simp only [opr]; go_simp; try with_reducible rfl)) (fun K15 hK15 => ?_)
        clear hK14 K14
        simp only [Act.put, List.setIfInBounds_toArray, List.set_cons_zero, List.set_cons_succ]
        refine mix_take hK15 (some 7) (.assign (.tmp 48)) 4 _ (by kernel_rfl) (by kernel_rfl) (fun w' hS' => by (simp only [opr]; go_simp; try with_reducible rfl)) (fun K16 hK16 => ?_)
        clear hK15 K15
        simp only [Act.put, List.setIfInBounds_toArray, List.set_cons_zero, List.set_cons_succ]
        refine hK16 _ _ (mix_nil ?_)
        clear hK16 K16
        have HS2 := hide' hS.1
        clear hS hSS
        go_wp2
        go_returns
        exact ⟨hi, _, rfl, by rw [HN.out]; exact hhn, HP.out, HS2.out⟩

end Go.Proofs.Ytihciknbmhadjaa
