/-
  ScanReleases: walked. No conditions.
-/
import Derived.Test.YtjficpcfdpbegaaF6
namespace Go.Proofs.Ytjficpcfdpbegaa
open Go.RowKit

def md (M : Int) : Nat → Int
  | 0 => M
  | j + 1 => nmI (md M j) (224 + (j : Int))

theorem md_end (M : Int) (h0 : 0 ≤ M) (h1 : M ≤ 7) : md M 3 = 0 := all_keys (fun M => md M 3 = 0) 0 8 (by decide +kernel) M h0 (by omega)

theorem isB_up (x : Int) (h : 128 ≤ x) : isB x = false := by
  unfold isB
  simp
  omega

theorem nm_key (m x : Int) (h : isB x = true) (h0 : 0 ≤ x) : nmI m x = m := by
  unfold isB at h
  simp at h
  obtain ⟨h1, h2⟩ := h
  have e : x % 128 = x := by omega
  rw [e] at h2
  unfold nmI
  rw [e]
  have hm : modI x = 0 := by
    refine mod_no x ?_ ?_ ?_ <;> (rintro rfl; revert h2; decide)
  rw [if_pos hm]

set_option maxHeartbeats 4000000 in
set_option maxRecDepth 100000 in
theorem rels_some (l : List Int) (b off n cap : Nat) (w : World) (hl : l.length = n) (hn : n ≤ 100) (hb : b < w.heap.size) (h : Ints .u8 w b off l) (hw : ∀ x ∈ l, 0 ≤ x ∧ x < 256) : Calls Try.prog 6 #[.slice (some ⟨b, off, none⟩) n cap] w (LawTrue w) := by
  have HLN := hide' hl
  have HWF := hide' hw
  have nz : ((n : Nat) : Int) ≤ 100 := by omega
  have H0 := hide' (SF.new h hb)
  clear hl hw hn h hb
  go_enter Try.func6, Try.ntmps6
  go_wp2_with fail
  go_loopg [4] n (fun g v4 wr => ∃ k : Nat, k ≤ n ∧ g = n - k ∧ v4 = .int .i64 (k : Int) ∧ Hid (SF w b off l (mst l k) wr))
  case atStart => exact ⟨0, by omega, rfl, rfl, H0⟩
  case round =>
    obtain ⟨k, hk, rfl, rfl, HF⟩ := hrel
    by_cases hlt : k < n
    · have k0 : (0 : Int) ≤ k := by omega
      have k1 : (k : Int) < n := by omega
      have a0 := HF.out.2.2.1 k (by rw [HLN.out]; omega)
      obtain ⟨x, hx⟩ : ∃ x, x = l.getD k 0 := ⟨_, rfl⟩
      obtain ⟨g0, g1⟩ := HWF.out _ (getD_mem (l := l) (j := k) (by rw [HLN.out]; omega))
      have HXX := hide' hx
      rw [← hx] at a0 g0 g1
      have HMS : Hid (mst l (k + 1) = nmI (mst l k) x) := by show _ = _; rw [hx]; rfl
      obtain ⟨m, hm⟩ : ∃ m, m = mst l k := ⟨_, rfl⟩
      rw [← hm] at HF HMS
      clear hm hx HWF H0
      cases hi : isB x
      · have HFD := hide' (fun W (h : DBox W w.heap.size ⟨m⟩) => feed_to (kc := 0) (km := 0) h g0 g1 hi (by unfold keyOf; rw [hi]; rfl) rfl)
        clear hi
        go_wp2_with fail
        refine (HFD.out _ HF.out.2.1).mono ?_
        rintro e w1 ⟨rfl, hs, hd⟩
        have HF2 := hide' ((HF.out.fed hs hd).alloc (.cells #[.int .i64 0, .int .i64 0] 27))
        clear hs hd a0 HF HFD
        go_wp2_with fail
        go_quiet (fail)
        go_wp2
        go_roundg (n - (k + 1))
        case measure => omega
        case rel => exact ⟨k + 1, by omega, rfl, by go_num, by rw [HMS.out]; exact hide' (HF2.out.keep ((Stay.refl _ _).drewN _))⟩
      · have hxl : x < 128 := by unfold isB at hi; simp at hi; exact hi.1
        have d128 : decide (128 ≤ x) = false := by simp; omega
        have HNK := hide' (nm_key m x hi g0)
        have HFD := hide' (fun W (h : DBox W w.heap.size ⟨m⟩) => feed_to (kc := x) (km := m) h g0 g1 hi (by unfold keyOf; rw [hi]; rfl) (nm_key m x hi g0))
        clear hi
        go_wp2_with fail
        refine (HFD.out _ HF.out.2.1).mono ?_
        rintro e w1 ⟨rfl, hs, hd⟩
        have HF2 := hide' ((HF.out.fed hs hd).alloc (.cells #[.int .i64 x, .int .i64 m] 27))
        have HK2 := hide' (KBox.new (w := w1) ⟨x, m⟩ rfl)
        clear hs hd a0 HF HFD
        go_upto_region 8 with fail
        obtain ⟨W, hW⟩ : ∃ W, W = w1.alloc (.cells #[.int .i64 x, .int .i64 m] 27) := ⟨_, rfl⟩
        have HK3 : Hid (KBox W w1.heap.size ⟨x, m⟩) := by show _; rw [hW]; exact HK2.out
        rw [← hW] at HF2 ⊢
        clear hW HK2
        obtain ⟨c0, c1, _⟩ := HK3.out
        have z0 := HF2.out.2.2.1 k (by rw [HLN.out]; omega)
        rw [← HXX.out] at z0
        go_quiet ((go_at_call 11; exact Calls.quiet_of_same ((mods11 _ _ _ (HF2.out.2.1.keep ((Stay.refl _ _).drewN _))).mono fun _ _ h => ⟨h.1, h.2.symm⟩)))
        go_wp2
        go_roundg (n - (k + 1))
        case measure => omega
        case rel => exact ⟨k + 1, by omega, rfl, by go_num, by rw [HMS.out, HNK.out]; exact hide' (HF2.out.keep ((Stay.refl _ _).drewN _))⟩
    · have : k = n := by omega
      subst this
      have HA := hide' (fun wx => awake8 wx)
      obtain ⟨q0, q1⟩ := mst_small l k
      obtain ⟨M, hM⟩ : ∃ M, M = mst l k := ⟨_, rfl⟩
      rw [← hM] at HF q0 q1
      have HE := hide' (md_end M q0 q1)
      clear hM H0 HWF q0 q1
      have HN0 : Hid (Newer w wr ∧ DBox wr w.heap.size ⟨md M 0⟩) := ⟨HF.out.1, HF.out.2.1⟩
      go_wp2_with fail
      go_loopg [7] 3 (fun g v7 wr => ∃ j : Nat, j ≤ 3 ∧ g = 3 - j ∧ v7 = .int .u8 (224 + (j : Int)) ∧ Hid (Newer w wr ∧ DBox wr w.heap.size ⟨md M j⟩))
      case atStart => exact ⟨0, by omega, rfl, rfl, HN0⟩
      case round =>
        obtain ⟨j, hj, rfl, rfl, HX⟩ := hrel
        by_cases hjt : j < 3
        · have j0 : (0 : Int) ≤ j := by omega
          have j1 : (j : Int) < 3 := by omega
          have HFD := hide' (fun W (h : DBox W w.heap.size ⟨md M j⟩) => feed_to (x := 224 + (j : Int)) (kc := 0) (km := 0) (m' := md M (j + 1)) h (by omega) (by omega) (isB_up _ (by omega)) (by unfold keyOf; rw [isB_up _ (by omega)]; rfl) rfl)
          go_wp2_with fail
          refine (HFD.out _ HX.out.2).mono ?_
          rintro e w1 ⟨rfl, hs, hd⟩
          have HY : Hid (Newer w (w1.alloc (.cells #[.int .i64 0, .int .i64 0] 27)) ∧ DBox (w1.alloc (.cells #[.int .i64 0, .int .i64 0] 27)) w.heap.size ⟨md M (j + 1)⟩) := ⟨(HX.out.1.at (Nat.le_refl _) hs).alloc _, hd.alloc _⟩
          clear hs hd HFD
          go_wp2
          go_roundg (3 - (j + 1))
          case measure => omega
          case rel => exact ⟨j + 1, by omega, rfl, by go_num, HY⟩
        · have : j = 3 := by omega
          subst this
          have HX0 : Hid (Newer w wr ∧ DBox wr w.heap.size ⟨0⟩) := by
            have := HX.out
            rw [HE.out] at this
            exact this
          have HFD := hide' (fun W (h : DBox W w.heap.size ⟨0⟩) => feed_to (x := 5) (m' := 0) (kc := 5) (km := 0) (is := true) h (by decide) (by decide) (by decide) rfl (by decide))
          go_wp2_with fail
          refine (HFD.out _ HX0.out.2).mono ?_
          rintro e w1 ⟨rfl, hs, hd⟩
          have HY : Hid (Newer w (w1.alloc (.cells #[.int .i64 5, .int .i64 0] 27)) ∧ DBox (w1.alloc (.cells #[.int .i64 5, .int .i64 0] 27)) w.heap.size ⟨0⟩) := ⟨(HX0.out.1.at (Nat.le_refl _) hs).alloc _, hd.alloc _⟩
          have HK2 := hide' (KBox.new (w := w1) ⟨5, 0⟩ rfl)
          clear hs hd HFD HX HX0
          obtain ⟨c0, c1, _⟩ := HK2.out
          go_wp2_with fail
          refine (mods11 _ _ _ HY.out.2).mono ?_
          rintro e w' ⟨rfl, rfl⟩
          clear c0 c1 HK2
          go_wp2_with fail
          refine (HA.out _).mono ?_
          rintro e w2 ⟨rfl, hs⟩
          have HZ := hide' (HY.out.1.keep hs)
          clear hs
          go_wp2
          go_ret
          exact ⟨by simp, HZ.out.out⟩

set_option maxHeartbeats 4000000 in
set_option maxRecDepth 100000 in
theorem rels_nil (a : Option Addr) (cap : Nat) (w : World) : Calls Try.prog 6 #[.slice a 0 cap] w (LawTrue w) := by
  have HA := hide' (fun wx => awake8 wx)
  have H0 : Hid (Newer w (w.alloc (.cells #[.int .i64 0] 25)) ∧ DBox (w.alloc (.cells #[.int .i64 0] 25)) w.heap.size ⟨0⟩) := ⟨(Newer.refl w).alloc _, DBox.new ⟨0⟩ rfl⟩
  go_enter Try.func6, Try.ntmps6
  go_wp2_with fail
  go_loopg [4] 0 (fun g v4 wr => g = 0 ∧ v4 = .int .i64 0 ∧ Hid (Newer w wr ∧ DBox wr w.heap.size ⟨0⟩))
  case atStart => exact ⟨rfl, rfl, H0⟩
  case round =>
    obtain ⟨rfl, rfl, HF⟩ := hrel
    obtain ⟨M, hM⟩ : ∃ M : Int, M = 0 := ⟨_, rfl⟩
    have HE : Hid (md M 3 = 0) := by rw [hM]; exact md_end 0 (by omega) (by omega)
    rw [← hM] at HF
    clear hM H0
    have HN0 : Hid (Newer w wr ∧ DBox wr w.heap.size ⟨md M 0⟩) := ⟨HF.out.1, HF.out.2⟩
    go_wp2_with fail
    go_loopg [7] 3 (fun g v7 wr => ∃ j : Nat, j ≤ 3 ∧ g = 3 - j ∧ v7 = .int .u8 (224 + (j : Int)) ∧ Hid (Newer w wr ∧ DBox wr w.heap.size ⟨md M j⟩))
    case atStart => exact ⟨0, by omega, rfl, rfl, HN0⟩
    case round =>
      obtain ⟨j, hj, rfl, rfl, HX⟩ := hrel
      by_cases hjt : j < 3
      · have j0 : (0 : Int) ≤ j := by omega
        have j1 : (j : Int) < 3 := by omega
        have HFD := hide' (fun W (h : DBox W w.heap.size ⟨md M j⟩) => feed_to (x := 224 + (j : Int)) (kc := 0) (km := 0) (m' := md M (j + 1)) h (by omega) (by omega) (isB_up _ (by omega)) (by unfold keyOf; rw [isB_up _ (by omega)]; rfl) rfl)
        go_wp2_with fail
        refine (HFD.out _ HX.out.2).mono ?_
        rintro e w1 ⟨rfl, hs, hd⟩
        have HY : Hid (Newer w (w1.alloc (.cells #[.int .i64 0, .int .i64 0] 27)) ∧ DBox (w1.alloc (.cells #[.int .i64 0, .int .i64 0] 27)) w.heap.size ⟨md M (j + 1)⟩) := ⟨(HX.out.1.at (Nat.le_refl _) hs).alloc _, hd.alloc _⟩
        clear hs hd HFD
        go_wp2
        go_roundg (3 - (j + 1))
        case measure => omega
        case rel => exact ⟨j + 1, by omega, rfl, by go_num, HY⟩
      · have : j = 3 := by omega
        subst this
        have HX0 : Hid (Newer w wr ∧ DBox wr w.heap.size ⟨0⟩) := by
          have := HX.out
          rw [HE.out] at this
          exact this
        have HFD := hide' (fun W (h : DBox W w.heap.size ⟨0⟩) => feed_to (x := 5) (m' := 0) (kc := 5) (km := 0) (is := true) h (by decide) (by decide) (by decide) rfl (by decide))
        go_wp2_with fail
        refine (HFD.out _ HX0.out.2).mono ?_
        rintro e w1 ⟨rfl, hs, hd⟩
        have HY : Hid (Newer w (w1.alloc (.cells #[.int .i64 5, .int .i64 0] 27)) ∧ DBox (w1.alloc (.cells #[.int .i64 5, .int .i64 0] 27)) w.heap.size ⟨0⟩) := ⟨(HX0.out.1.at (Nat.le_refl _) hs).alloc _, hd.alloc _⟩
        have HK2 := hide' (KBox.new (w := w1) ⟨5, 0⟩ rfl)
        clear hs hd HFD HX HX0
        obtain ⟨c0, c1, _⟩ := HK2.out
        go_wp2_with fail
        refine (mods11 _ _ _ HY.out.2).mono ?_
        rintro e w' ⟨rfl, rfl⟩
        clear c0 c1 HK2
        go_wp2_with fail
        refine (HA.out _).mono ?_
        rintro e w2 ⟨rfl, hs⟩
        have HZ := hide' (HY.out.1.keep hs)
        clear hs
        go_wp2
        go_ret
        exact ⟨by simp, HZ.out.out⟩

end Go.Proofs.Ytjficpcfdpbegaa
