/-
  ScanFeeds: walked. No conditions.
-/
import Derived.Test.YtjficpcfdpbegaaF1
namespace Go.Proofs.Ytjficpcfdpbegaa
open Go.RowKit

/-- What stands while scancodes are told: all that has turned is new; the decoder's modifiers; the scancodes. -/
def SF (w : World) (b off : Nat) (l : List Int) (m : Int) (W : World) : Prop := Newer w W ∧ DBox W w.heap.size ⟨m⟩ ∧ Ints .u8 W b off l ∧ b < w.heap.size

theorem SF.keep {w W W1 : World} {b off : Nat} {l : List Int} {m : Int} (h : SF w b off l m W) (hs : Stay (fun _ => False) W W1) : SF w b off l m W1 :=
  ⟨h.1.keep hs, h.2.1.keep hs, h.2.2.1.keep (Nat.lt_of_lt_of_le h.2.2.2 h.1.size) hs, h.2.2.2⟩

theorem SF.alloc {w W : World} {b off : Nat} {l : List Int} {m : Int} (h : SF w b off l m W) (o : Obj) : SF w b off l m (W.alloc o) := h.keep ((Stay.refl _ _).alloc o)

theorem SF.fed {w W W1 : World} {b off : Nat} {l : List Int} {m m' : Int} (h : SF w b off l m W) (hs : Stay (fun j => j = w.heap.size) W W1) (hd : DBox W1 w.heap.size ⟨m'⟩) : SF w b off l m' W1 :=
  ⟨h.1.at (Nat.le_refl _) hs, hd, h.2.2.1.stay (Nat.lt_of_lt_of_le h.2.2.2 h.1.size) hs (fun e => by have := h.2.2.2; omega), h.2.2.2⟩

theorem SF.new {w : World} {b off : Nat} {l : List Int} (h : Ints .u8 w b off l) (hb : b < w.heap.size) : SF w b off l 0 (w.alloc (.cells #[.int .i64 0] 25)) :=
  ⟨(Newer.refl w).alloc _, DBox.new ⟨0⟩ rfl, h.keep hb ((Stay.refl _ _).alloc _), hb⟩

/-- Which modifiers are down behind some scancodes. -/
def mst (l : List Int) : Nat → Int
  | 0 => 0
  | k + 1 => nmI (mst l k) (l.getD k 0)

theorem nm_small (m x : Int) (h0 : 0 ≤ m) (h1 : m ≤ 7) : 0 ≤ nmI m x ∧ nmI m x ≤ 7 := by
  have h := fun v (hv : v ∈ [(1 : Int), 2, 4]) => all_keys (fun m => ∀ v ∈ [(1 : Int), 2, 4], (0 ≤ bits .or .i64 m v ∧ bits .or .i64 m v ≤ 7) ∧ 0 ≤ bits .andNot .i64 m v ∧ bits .andNot .i64 m v ≤ 7) 0 8 (by decide +kernel) m h0 (by omega) v hv
  unfold nmI
  by_cases hm : modI (x % 128) = 0
  · rw [if_pos hm]
    exact ⟨h0, h1⟩
  have hv : modI (x % 128) ∈ [(1 : Int), 2, 4] := by
    revert hm
    unfold modI
    split
    · simp
    split
    · simp
    split
    · simp
    · simp
  rw [if_neg hm]
  split
  · exact (h _ hv).1
  · exact (h _ hv).2

theorem mst_small (l : List Int) : ∀ k, 0 ≤ mst l k ∧ mst l k ≤ 7
  | 0 => by simp [mst]
  | k + 1 => nm_small _ _ (mst_small l k).1 (mst_small l k).2

theorem or_gone (m v : Int) (hv : v ∈ [(1 : Int), 2, 4]) (h0 : 0 ≤ m) (h1 : m ≤ 7) : bits .or .i64 (bits .andNot .i64 m v) v = bits .or .i64 m v :=
  all_keys (fun m => ∀ v ∈ [(1 : Int), 2, 4], bits .or .i64 (bits .andNot .i64 m v) v = bits .or .i64 m v) 0 8 (by decide +kernel) m h0 (by omega) v hv

/-- What the law counts of the modifiers, bit by bit. -/
def mj (m M y : Int) (j : Nat) : Int := if 96 ≤ y ∧ y < 96 + (j : Int) then M else m

theorem mj_same {m M y : Int} {j : Nat} (h : y ≠ 96 + (j : Int)) : mj m M y (j + 1) = mj m M y j := by
  unfold mj
  by_cases h1 : 96 ≤ y ∧ y < 96 + (j : Int)
  · rw [if_pos h1, if_pos (by omega)]
  · rw [if_neg h1, if_neg (by omega)]

theorem mj_now {m M y : Int} {j : Nat} (h : y = 96 + (j : Int)) : mj m M y j = m ∧ mj m M y (j + 1) = M := by
  unfold mj
  rw [if_neg (by omega), if_pos (by omega)]
  exact ⟨rfl, rfl⟩

theorem mj_end {m x : Int} : mj m (nmI m x) (x % 128) 3 = nmI m x := by
  unfold mj
  by_cases h : 96 ≤ x % 128 ∧ x % 128 < 96 + ((3 : Nat) : Int)
  · rw [if_pos h]
  · rw [if_neg h]
    unfold nmI
    rw [mod_no _ (by omega) (by omega) (by omega), if_pos rfl]

set_option maxHeartbeats 4000000 in
set_option maxRecDepth 100000 in
theorem feeds_some (l : List Int) (b off n cap : Nat) (w : World) (hl : l.length = n) (hn : n ≤ 300) (hb : b < w.heap.size) (h : Ints .u8 w b off l) (hw : ∀ x ∈ l, 0 ≤ x ∧ x < 256) : Calls Try.prog 3 #[.slice (some ⟨b, off, none⟩) n cap] w (LawTrue w) := by
  have HLN := hide' hl
  have HWF := hide' hw
  have nz : ((n : Nat) : Int) ≤ 300 := by omega
  have H0 := hide' (SF.new h hb)
  clear hl hw hn h hb
  go_enter Try.func3, Try.ntmps3
  go_wp2_with fail
  go_loopg [4, 5] n (fun g v4 v5 wr => ∃ k : Nat, k ≤ n ∧ g = n - k ∧ v4 = .int .i64 (mst l k) ∧ v5 = .int .i64 (k : Int) ∧ Hid (SF w b off l (mst l k) wr))
  case atStart => exact ⟨0, by omega, rfl, rfl, rfl, H0⟩
  case round =>
    obtain ⟨k, hk, rfl, rfl, rfl, HF⟩ := hrel
    by_cases hlt : k < n
    · have k0 : (0 : Int) ≤ k := by omega
      have k1 : (k : Int) < n := by omega
      have a0 := HF.out.2.2.1 k (by rw [HLN.out]; omega)
      obtain ⟨x, hx⟩ : ∃ x, x = l.getD k 0 := ⟨_, rfl⟩
      obtain ⟨g0, g1⟩ := HWF.out _ (getD_mem (l := l) (j := k) (by rw [HLN.out]; omega))
      have HXX := hide' hx
      rw [← hx] at a0 g0 g1
      obtain ⟨q0, q1⟩ := mst_small l k
      have HMS0 : mst l (k + 1) = nmI (mst l k) x := by rw [hx]; rfl
      obtain ⟨m, hm⟩ : ∃ m, m = mst l k := ⟨_, rfl⟩
      rw [← hm] at HF HMS0 q0 q1 ⊢
      clear hm hx
      obtain ⟨y, hy⟩ : ∃ y, y = x % 128 := ⟨_, rfl⟩
      have et : x.tmod 128 = y := by rw [hy, Int.tmod_eq_emod_of_nonneg g0]
      have y0 : 0 ≤ y := by omega
      have y1 : y < 128 := by omega
      have HMY : Hid (∀ (j : Nat) (v : Int), y = 96 + (j : Int) → modI (96 + (j : Int)) = v → v ∈ [(1 : Int), 2, 4] → (x < 128 → bits .or .i64 (bits .andNot .i64 m v) v = nmI m x) ∧ (¬ x < 128 → bits .andNot .i64 m v = nmI m x)) := by
        intro j v h1 h2 h3
        have hv0 : v ≠ 0 := by rintro rfl; simp at h3
        have hmv : modI (x % 128) = v := by rw [← hy, h1, h2]
        refine ⟨fun hx => ?_, fun hx => ?_⟩
        · rw [or_gone m v h3 q0 q1]
          unfold nmI
          rw [hmv, if_neg hv0, if_pos hx]
        · unfold nmI
          rw [hmv, if_neg hv0, if_neg hx]
      have HM3 : Hid (mj m (nmI m x) y 3 = nmI m x) := by show _ = _; rw [hy]; exact mj_end
      obtain ⟨M, hM⟩ : ∃ M, M = nmI m x := ⟨_, rfl⟩
      rw [← hM] at HMY HM3 HMS0
      have HMM := hide' hM
      have HMS := hide' HMS0
      clear hM HMS0 q0 q1 HWF H0
      cases hi : isB x
      · have HFD := hide' (fun W (h : DBox W w.heap.size ⟨m⟩) => feed_to (kc := 0) (km := 0) h g0 g1 hi (by unfold keyOf; rw [hi]; rfl) HMM.out.symm)
        have HKY := hide' (fun h : x < 128 => show ∀ w, Calls Try.prog 10 #[.int .i64 y] w fun e w' => e = .returned (.bool false) ∧ w = w' from by
          have : telB y = false := by unfold isB at hi; simp at hi; rw [hy]; exact hi h
          rw [← this]
          exact key10 y)
        clear hi hy
        go_wp2_with fail
        refine (HFD.out _ HF.out.2.1).mono ?_
        rintro e w1 ⟨rfl, hs, hd⟩
        have HF2 := hide' ((HF.out.fed hs hd).alloc (.cells #[.int .i64 0, .int .i64 0] 27))
        have HK2 := hide' (KBox.new (w := w1) ⟨0, 0⟩ rfl)
        obtain ⟨c0, c1, _⟩ := HK2.out
        have z0 := HF2.out.2.2.1 k (by rw [HLN.out]; omega)
        rw [← HXX.out] at z0
        clear hs hd a0 HF HFD
        by_cases hx : x < 128
        · have HK3 := hide' (HKY.out hx)
          clear HKY
          go_wp2_with fail
          refine (HK3.out _).mono ?_
          rintro e w' ⟨rfl, rfl⟩
          clear HK3
          go_wp2_with fail
          go_loopg [4, 10] 3 (fun g v4 v10 wr => ∃ j : Nat, j ≤ 3 ∧ g = 3 - j ∧ v4 = .int .i64 (mj m M y j) ∧ v10 = .int .i64 (j : Int) ∧ Hid (SF w b off l M wr))
          case atStart => exact ⟨0, by omega, rfl, by rw [show mj m M y 0 = m by unfold mj; rw [if_neg (by omega)]], rfl, HF2⟩
          case round =>
            obtain ⟨j, hj, rfl, rfl, rfl, HX⟩ := hrel
            by_cases hjt : j < 3
            · have hj3 : j = 0 ∨ j = 1 ∨ j = 2 := by omega
              have x0 := HX.out.2.2.1 k (by rw [HLN.out]; omega)
              rw [← HXX.out] at x0
              have hb2 : b < wr.heap.size := Nat.lt_of_lt_of_le HX.out.2.2.2 HX.out.1.size
              have x1 : (wr.alloc (.cells #[.int .i64 1, .int .i64 2, .int .i64 4] 3)).cell? ⟨b, off + k, none⟩ = some (.int .u8 x) := keep_cell ((Stay.refl _ _).alloc _) x0
              rcases hj3 with rfl | rfl | rfl
              · by_cases hy : y = 96
                · have e1 := (mj_now (m := m) (M := M) (y := y) (j := 0) (by omega)).1
                  have HE2 := hide' (mj_now (m := m) (M := M) (y := y) (j := 0) (by omega)).2
                  have HMO := hide' (HMY.out 0 1 (by omega) rfl (by simp))
                  subst hy
                  have HMO2 := hide' (HMO.out.1 (by omega))
                  clear HMO HMY
                  go_wp2
                  go_roundg (3 - (0 + 1))
                  case measure => omega
                  case rel => exact ⟨0 + 1, by omega, rfl, by rw [HE2.out, ← HMO2.out], rfl, hide' (HX.out.alloc _)⟩
                · have HE2 := hide' (mj_same (m := m) (M := M) (y := y) (j := 0) (by omega))
                  have ey : (y == 96) = false := beq_f hy
                  clear hy
                  go_wp2
                  go_roundg (3 - (0 + 1))
                  case measure => omega
                  case rel => exact ⟨0 + 1, by omega, rfl, by rw [HE2.out], rfl, hide' (HX.out.alloc _)⟩
              · by_cases hy : y = 97
                · have e1 := (mj_now (m := m) (M := M) (y := y) (j := 1) (by omega)).1
                  have HE2 := hide' (mj_now (m := m) (M := M) (y := y) (j := 1) (by omega)).2
                  have HMO := hide' (HMY.out 1 2 (by omega) rfl (by simp))
                  subst hy
                  have HMO2 := hide' (HMO.out.1 (by omega))
                  clear HMO HMY
                  go_wp2
                  go_roundg (3 - (1 + 1))
                  case measure => omega
                  case rel => exact ⟨1 + 1, by omega, rfl, by rw [HE2.out, ← HMO2.out], rfl, hide' (HX.out.alloc _)⟩
                · have HE2 := hide' (mj_same (m := m) (M := M) (y := y) (j := 1) (by omega))
                  have ey : (y == 97) = false := beq_f hy
                  clear hy
                  go_wp2
                  go_roundg (3 - (1 + 1))
                  case measure => omega
                  case rel => exact ⟨1 + 1, by omega, rfl, by rw [HE2.out], rfl, hide' (HX.out.alloc _)⟩
              · by_cases hy : y = 98
                · have e1 := (mj_now (m := m) (M := M) (y := y) (j := 2) (by omega)).1
                  have HE2 := hide' (mj_now (m := m) (M := M) (y := y) (j := 2) (by omega)).2
                  have HMO := hide' (HMY.out 2 4 (by omega) rfl (by simp))
                  subst hy
                  have HMO2 := hide' (HMO.out.1 (by omega))
                  clear HMO HMY
                  go_wp2
                  go_roundg (3 - (2 + 1))
                  case measure => omega
                  case rel => exact ⟨2 + 1, by omega, rfl, by rw [HE2.out, ← HMO2.out], rfl, hide' (HX.out.alloc _)⟩
                · have HE2 := hide' (mj_same (m := m) (M := M) (y := y) (j := 2) (by omega))
                  have ey : (y == 98) = false := beq_f hy
                  clear hy
                  go_wp2
                  go_roundg (3 - (2 + 1))
                  case measure => omega
                  case rel => exact ⟨2 + 1, by omega, rfl, by rw [HE2.out], rfl, hide' (HX.out.alloc _)⟩
            · have : j = 3 := by omega
              subst this
              have e3 : mj m M y 3 = M := HM3.out
              have HMD := hide' (mods11 w.heap.size M wr HX.out.2.1)
              go_wp2_with fail
              refine HMD.out.mono ?_
              rintro e w' ⟨rfl, rfl⟩
              go_wp2
              go_roundg (n - (k + 1))
              case measure => omega
              case rel => exact ⟨k + 1, by omega, rfl, by rw [HMS.out], by go_num, by rw [HMS.out]; exact HX⟩
        · have dx0 : decide (x < 128) = false := by simpa using hx
          clear HKY
          go_wp2_with fail
          go_loopg [4, 10] 3 (fun g v4 v10 wr => ∃ j : Nat, j ≤ 3 ∧ g = 3 - j ∧ v4 = .int .i64 (mj m M y j) ∧ v10 = .int .i64 (j : Int) ∧ Hid (SF w b off l M wr))
          case atStart => exact ⟨0, by omega, rfl, by rw [show mj m M y 0 = m by unfold mj; rw [if_neg (by omega)]], rfl, HF2⟩
          case round =>
            obtain ⟨j, hj, rfl, rfl, rfl, HX⟩ := hrel
            by_cases hjt : j < 3
            · have hj3 : j = 0 ∨ j = 1 ∨ j = 2 := by omega
              have x0 := HX.out.2.2.1 k (by rw [HLN.out]; omega)
              rw [← HXX.out] at x0
              have hb2 : b < wr.heap.size := Nat.lt_of_lt_of_le HX.out.2.2.2 HX.out.1.size
              have x1 : (wr.alloc (.cells #[.int .i64 1, .int .i64 2, .int .i64 4] 3)).cell? ⟨b, off + k, none⟩ = some (.int .u8 x) := keep_cell ((Stay.refl _ _).alloc _) x0
              rcases hj3 with rfl | rfl | rfl
              · by_cases hy : y = 96
                · have e1 := (mj_now (m := m) (M := M) (y := y) (j := 0) (by omega)).1
                  have HE2 := hide' (mj_now (m := m) (M := M) (y := y) (j := 0) (by omega)).2
                  have HMO := hide' (HMY.out 0 1 (by omega) rfl (by simp))
                  subst hy
                  have HMO2 := hide' (HMO.out.2 (by omega))
                  clear HMO HMY
                  go_wp2
                  go_roundg (3 - (0 + 1))
                  case measure => omega
                  case rel => exact ⟨0 + 1, by omega, rfl, by rw [HE2.out, ← HMO2.out], rfl, hide' (HX.out.alloc _)⟩
                · have HE2 := hide' (mj_same (m := m) (M := M) (y := y) (j := 0) (by omega))
                  have ey : (y == 96) = false := beq_f hy
                  clear hy
                  go_wp2
                  go_roundg (3 - (0 + 1))
                  case measure => omega
                  case rel => exact ⟨0 + 1, by omega, rfl, by rw [HE2.out], rfl, hide' (HX.out.alloc _)⟩
              · by_cases hy : y = 97
                · have e1 := (mj_now (m := m) (M := M) (y := y) (j := 1) (by omega)).1
                  have HE2 := hide' (mj_now (m := m) (M := M) (y := y) (j := 1) (by omega)).2
                  have HMO := hide' (HMY.out 1 2 (by omega) rfl (by simp))
                  subst hy
                  have HMO2 := hide' (HMO.out.2 (by omega))
                  clear HMO HMY
                  go_wp2
                  go_roundg (3 - (1 + 1))
                  case measure => omega
                  case rel => exact ⟨1 + 1, by omega, rfl, by rw [HE2.out, ← HMO2.out], rfl, hide' (HX.out.alloc _)⟩
                · have HE2 := hide' (mj_same (m := m) (M := M) (y := y) (j := 1) (by omega))
                  have ey : (y == 97) = false := beq_f hy
                  clear hy
                  go_wp2
                  go_roundg (3 - (1 + 1))
                  case measure => omega
                  case rel => exact ⟨1 + 1, by omega, rfl, by rw [HE2.out], rfl, hide' (HX.out.alloc _)⟩
              · by_cases hy : y = 98
                · have e1 := (mj_now (m := m) (M := M) (y := y) (j := 2) (by omega)).1
                  have HE2 := hide' (mj_now (m := m) (M := M) (y := y) (j := 2) (by omega)).2
                  have HMO := hide' (HMY.out 2 4 (by omega) rfl (by simp))
                  subst hy
                  have HMO2 := hide' (HMO.out.2 (by omega))
                  clear HMO HMY
                  go_wp2
                  go_roundg (3 - (2 + 1))
                  case measure => omega
                  case rel => exact ⟨2 + 1, by omega, rfl, by rw [HE2.out, ← HMO2.out], rfl, hide' (HX.out.alloc _)⟩
                · have HE2 := hide' (mj_same (m := m) (M := M) (y := y) (j := 2) (by omega))
                  have ey : (y == 98) = false := beq_f hy
                  clear hy
                  go_wp2
                  go_roundg (3 - (2 + 1))
                  case measure => omega
                  case rel => exact ⟨2 + 1, by omega, rfl, by rw [HE2.out], rfl, hide' (HX.out.alloc _)⟩
            · have : j = 3 := by omega
              subst this
              have e3 : mj m M y 3 = M := HM3.out
              have HMD := hide' (mods11 w.heap.size M wr HX.out.2.1)
              go_wp2_with fail
              refine HMD.out.mono ?_
              rintro e w' ⟨rfl, rfl⟩
              go_wp2
              go_roundg (n - (k + 1))
              case measure => omega
              case rel => exact ⟨k + 1, by omega, rfl, by rw [HMS.out], by go_num, by rw [HMS.out]; exact HX⟩
      · have hxl : x < 128 := by unfold isB at hi; simp at hi; exact hi.1
        have ht : telB x = true := by unfold isB at hi; simp at hi; rw [← hi.2, show x % 128 = x by omega]
        have hyx : x = y := by rw [hy]; omega
        have HFD := hide' (fun W (h : DBox W w.heap.size ⟨m⟩) => feed_to (kc := x) (km := m) h g0 g1 hi (by unfold keyOf; rw [hi]; rfl) HMM.out.symm)
        have HKY := hide' (key10 y)
        rw [← hyx, ht] at HKY
        clear ht
        clear hi hy
        subst hyx
        go_wp2_with fail
        refine (HFD.out _ HF.out.2.1).mono ?_
        rintro e w1 ⟨rfl, hs, hd⟩
        have HF2 := hide' ((HF.out.fed hs hd).alloc (.cells #[.int .i64 x, .int .i64 m] 27))
        have HK2 := hide' (KBox.new (w := w1) ⟨x, m⟩ rfl)
        obtain ⟨c0, c1, _⟩ := HK2.out
        have z0 := HF2.out.2.2.1 k (by rw [HLN.out]; omega)
        rw [← HXX.out] at z0
        clear hs hd a0 HF HFD
        go_wp2_with fail
        refine (HKY.out _).mono ?_
        rintro e w' ⟨rfl, rfl⟩
        clear HKY
        go_wp2_with fail
        go_loopg [4, 10] 3 (fun g v4 v10 wr => ∃ j : Nat, j ≤ 3 ∧ g = 3 - j ∧ v4 = .int .i64 (mj m M x j) ∧ v10 = .int .i64 (j : Int) ∧ Hid (SF w b off l M wr))
        case atStart => exact ⟨0, by omega, rfl, by rw [show mj m M x 0 = m by unfold mj; rw [if_neg (by omega)]], rfl, HF2⟩
        case round =>
          obtain ⟨j, hj, rfl, rfl, rfl, HX⟩ := hrel
          by_cases hjt : j < 3
          · have hj3 : j = 0 ∨ j = 1 ∨ j = 2 := by omega
            have x0 := HX.out.2.2.1 k (by rw [HLN.out]; omega)
            rw [← HXX.out] at x0
            have hb2 : b < wr.heap.size := Nat.lt_of_lt_of_le HX.out.2.2.2 HX.out.1.size
            have x1 : (wr.alloc (.cells #[.int .i64 1, .int .i64 2, .int .i64 4] 3)).cell? ⟨b, off + k, none⟩ = some (.int .u8 x) := keep_cell ((Stay.refl _ _).alloc _) x0
            rcases hj3 with rfl | rfl | rfl
            · by_cases hy : x = 96
              · have e1 := (mj_now (m := m) (M := M) (y := x) (j := 0) (by omega)).1
                have HE2 := hide' (mj_now (m := m) (M := M) (y := x) (j := 0) (by omega)).2
                have HMO := hide' (HMY.out 0 1 (by omega) rfl (by simp))
                subst hy
                have HMO2 := hide' (HMO.out.1 (by omega))
                clear HMO HMY
                go_wp2
                go_roundg (3 - (0 + 1))
                case measure => omega
                case rel => exact ⟨0 + 1, by omega, rfl, by rw [HE2.out, ← HMO2.out], rfl, hide' (HX.out.alloc _)⟩
              · have HE2 := hide' (mj_same (m := m) (M := M) (y := x) (j := 0) (by omega))
                have ey : (x == 96) = false := beq_f hy
                clear hy
                go_wp2
                go_roundg (3 - (0 + 1))
                case measure => omega
                case rel => exact ⟨0 + 1, by omega, rfl, by rw [HE2.out], rfl, hide' (HX.out.alloc _)⟩
            · by_cases hy : x = 97
              · have e1 := (mj_now (m := m) (M := M) (y := x) (j := 1) (by omega)).1
                have HE2 := hide' (mj_now (m := m) (M := M) (y := x) (j := 1) (by omega)).2
                have HMO := hide' (HMY.out 1 2 (by omega) rfl (by simp))
                subst hy
                have HMO2 := hide' (HMO.out.1 (by omega))
                clear HMO HMY
                go_wp2
                go_roundg (3 - (1 + 1))
                case measure => omega
                case rel => exact ⟨1 + 1, by omega, rfl, by rw [HE2.out, ← HMO2.out], rfl, hide' (HX.out.alloc _)⟩
              · have HE2 := hide' (mj_same (m := m) (M := M) (y := x) (j := 1) (by omega))
                have ey : (x == 97) = false := beq_f hy
                clear hy
                go_wp2
                go_roundg (3 - (1 + 1))
                case measure => omega
                case rel => exact ⟨1 + 1, by omega, rfl, by rw [HE2.out], rfl, hide' (HX.out.alloc _)⟩
            · by_cases hy : x = 98
              · have e1 := (mj_now (m := m) (M := M) (y := x) (j := 2) (by omega)).1
                have HE2 := hide' (mj_now (m := m) (M := M) (y := x) (j := 2) (by omega)).2
                have HMO := hide' (HMY.out 2 4 (by omega) rfl (by simp))
                subst hy
                have HMO2 := hide' (HMO.out.1 (by omega))
                clear HMO HMY
                go_wp2
                go_roundg (3 - (2 + 1))
                case measure => omega
                case rel => exact ⟨2 + 1, by omega, rfl, by rw [HE2.out, ← HMO2.out], rfl, hide' (HX.out.alloc _)⟩
              · have HE2 := hide' (mj_same (m := m) (M := M) (y := x) (j := 2) (by omega))
                have ey : (x == 98) = false := beq_f hy
                clear hy
                go_wp2
                go_roundg (3 - (2 + 1))
                case measure => omega
                case rel => exact ⟨2 + 1, by omega, rfl, by rw [HE2.out], rfl, hide' (HX.out.alloc _)⟩
          · have : j = 3 := by omega
            subst this
            have e3 : mj m M x 3 = M := HM3.out
            have HMD := hide' (mods11 w.heap.size M wr HX.out.2.1)
            go_wp2_with fail
            refine HMD.out.mono ?_
            rintro e w' ⟨rfl, rfl⟩
            go_wp2
            go_roundg (n - (k + 1))
            case measure => omega
            case rel => exact ⟨k + 1, by omega, rfl, by rw [HMS.out], by go_num, by rw [HMS.out]; exact HX⟩
    · have : k = n := by omega
      subst this
      have HA := hide' (fun wx => awake8 wx)
      go_wp2_with fail
      refine (HA.out _).mono ?_
      rintro e w' ⟨rfl, hs⟩
      have HY := hide' (HF.out.1.keep hs)
      clear hs
      go_wp2
      go_ret
      exact ⟨by simp, HY.out.out⟩

end Go.Proofs.Ytjficpcfdpbegaa
