/-
  ShareTells of 1 to 64 weights: the walk.
-/
import Derived.Test.YtmkkkddadpcmeaaK6
import Derived.Test.YtmkkkddadpcmeaaH3
namespace Go.Proofs.Ytmkkkddadpcmeaa
open Go.RowKit

set_option maxHeartbeats 4000000
set_option maxRecDepth 100000

theorem tells_any (f : Nat → Nat) (b off n cap : Nat) (N : Int) (w : World) (hn : n ≤ 64) (h0 : 0 < n) (hf : ∀ j, f j < 18446744073709551616)
    (hc : ∀ j, j < n → w.cell? ⟨b, off + j, none⟩ = some (.float .f64 (f j))) :
    Calls Try.prog 4 #[.int .i64 N, .slice (some ⟨b, off, none⟩) n cap] w fun e w' => e = .returned (.bool true) ∧ Below w.heap.size w w' := by
  have H1 := hide' (together_any f b off n cap w hn h0 hc)
  have HC := hide' hc
  have HF := hide' hf
  have H0 := hide' h0
  have hT := tog_word f hf n h0
  have HT : Hid (∀ j, j < n → tog f n j < 18446744073709551616) := fun j hj => Nat.lt_of_le_of_lt (hT.1 j hj) (by decide : one < 18446744073709551616)
  have h64 : (n : Int) ≤ 64 := by omega
  have h70 : ¬ (70 : Int) < n := by omega
  have HN := hide' hn
  clear hc hf h0 hT hn
  go_enter Try.func4, Try.ntmps4
  go_wp2_with fail
  refine H1.out.mono ?_
  rintro e w1 ⟨B1, hB1, rfl, hr1, hb1⟩
  have HR1 := hide' hr1
  have HB1 := hide' hb1
  have HC1 : Hid (∀ j, j < n → w1.cell? ⟨b, off + j, none⟩ = some (.float .f64 (f j))) := fun j hj => by
    rw [hb1.cell (p := ⟨b, off + j, none⟩) (World.block_lt_of_cell? _ _ (HC.out j hj))]; exact HC.out j hj
  clear hB1 hr1 hb1 H1
  go_wp2_with fail
  refine (rtogether_any f b off n cap w1 HN.out H0.out HF.out HC1.out).mono ?_
  rintro e w2 ⟨B2, cap2, hB2, rfl, hc2, hb2⟩
  have HB2 : Hid (Below w.heap.size w w2) := HB1.out.trans (hb2.mono HB1.out.size)
  have HA : Hid (∀ j, j < n → w2.cell? ⟨B1, j, none⟩ = some (.float .f64 (tog f n j))) := fun j hj => by
    have h1 := HR1.out.cell hj
    rw [hb2.cell (p := ⟨B1, j, none⟩) (World.block_lt_of_cell? _ _ h1)]; exact h1
  have HC2 : Hid (∀ j, j < n → w2.cell? ⟨b, off + j, none⟩ = some (.float .f64 (f j))) := fun j hj => by
    rw [hb2.cell (p := ⟨b, off + j, none⟩) (World.block_lt_of_cell? _ _ (HC1.out j hj))]; exact HC1.out j hj
  have HB' := hide' hc2
  clear hB2 hc2 hb2 HR1 HB1 HC1
  go_wp2_with fail
  go_loopg [7] n (fun g vi wr => ∃ j : Nat, j ≤ n ∧ g = n - j ∧ vi = .int .i64 (j : Int) ∧ Hid (∃ q, wr = w2.drewN q))
  case atStart => exact ⟨0, Nat.zero_le _, rfl, rfl, 0, rfl⟩
  case round =>
    obtain ⟨j, hj, rfl, rfl, HQ⟩ := hrel
    by_cases hlt : j < n
    · have a1 : wr.cell? ⟨B1, j, none⟩ = some (.float .f64 (tog f n j)) := by obtain ⟨q, hq⟩ := HQ.out; rw [hq]; exact HA.out j hlt
      have a2 : wr.cell? ⟨B2, j, none⟩ = some (.float .f64 (tog f n j)) := by obtain ⟨q, hq⟩ := HQ.out; rw [hq]; exact HB'.out j hlt
      have jz : (j : Int) < n := by omega
      have j0 : (0 : Int) ≤ j := by omega
      have e0 := ordI_self _ (HT.out j hlt)
      have hw := HT.out j hlt
      go_wp2_with fail
      go_quiet ((go_at_call 9; exact Calls.quiet_of_same ((rorder_any _ _ _ hw hw).mono fun _ _ h => ⟨h.1, h.2.symm⟩)))
      go_wp2
      go_roundg (n - (j + 1))
      case measure => omega
      case rel => exact ⟨j + 1, by omega, rfl, by go_num, by obtain ⟨q, hq⟩ := HQ.out; exact ⟨q + nq, by rw [hq]; first | rfl | exact World.drewN_drewN ..⟩⟩
    · have e : j = n := by omega
      subst e
      obtain ⟨q, hq⟩ := HQ.out
      subst hq
      have HBQ : Hid (Below w.heap.size w (w2.drewN q)) := HB2.out.trans ⟨rfl, rfl, rfl, Nat.le_refl _, fun _ _ => rfl⟩
      have HCQ : Hid (∀ i, i < j → (w2.drewN q).cell? ⟨b, off + i, none⟩ = some (.float .f64 (f i))) := HC2
      clear HC2 HB2 HA HB' HC hlt hj HQ
      by_cases hN : N < 0 ∨ 512 < N
      · have HNN := hide' hN
        clear hN
        go_wp2_with fail
        refine (shares_out N _ _ _ _ HNN.out).mono ?_
        rintro e w3 ⟨rfl, rfl⟩
        go_wp2_with fail
        refine (rshares_out f N b off j cap _ HNN.out HN.out H0.out HF.out HCQ.out).mono ?_
        rintro e w3 ⟨rfl, hb3⟩
        have HB3 : Hid (Below w.heap.size w w3) := HBQ.out.trans (hb3.mono HBQ.out.size)
        clear hb3
        go_wp2_with fail
        refine (same_nil _).mono ?_
        rintro e w4 ⟨rfl, rfl⟩
        go_wp2_with fail
        refine (awake_any _).mono ?_
        rintro e w5 ⟨rfl, hb5⟩
        have HB5 : Hid (Below w.heap.size w w5) := HB3.out.trans (hb5.mono HB3.out.size)
        clear hb5
        go_wp2
        go_ret
        exact ⟨rfl, HB5.out⟩
      · obtain ⟨M, rfl⟩ : ∃ M : Nat, N = M := ⟨N.toNat, by omega⟩
        have hM : M ≤ 512 := by omega
        have HM := hide' hM
        clear hN hM
        have HT2 := hide' (tog_word f HF.out j H0.out)
        go_wp2_with fail
        refine (shares_any f b off j M cap _ HN.out H0.out HM.out (sort_any j HN.out) (fine_all (tog f j) j M HN.out HM.out HT2.out.1 HT2.out.2) HCQ.out).mono ?_
        rintro e w3 ⟨B3, E, hB3, rfl, hO, hr3, hb3⟩
        have HB3 : Hid (Below w.heap.size w w3) := HBQ.out.trans (hb3.mono HBQ.out.size)
        have HR3 := hide' hr3
        have HO := hide' hO
        have HC3 : Hid (∀ i, i < j → w3.cell? ⟨b, off + i, none⟩ = some (.float .f64 (f i))) := fun i hi => by
          rw [hb3.cell (p := ⟨b, off + i, none⟩) (World.block_lt_of_cell? _ _ (HCQ.out i hi))]; exact HCQ.out i hi
        clear hB3 hO hr3 hb3
        go_wp2_with fail
        refine (rshares_any f b off j M cap w3 HN.out H0.out HM.out HF.out E HO.out HC3.out).mono ?_
        rintro e w4 ⟨B4, cap4, hB4, rfl, hc4, hb4⟩
        have HB4 : Hid (Below w.heap.size w w4) := HB3.out.trans (hb4.mono HB3.out.size)
        have HC4 := hide' hc4
        have HR4 : Hid (∀ i, i < j → w4.cell? ⟨B3, i, none⟩ = some (.int .i64 (shareF M (tog f j) j E i : Int))) := fun i hi => by
          have h1 := HR3.out.cell hi
          rw [hb4.cell (p := ⟨B3, i, none⟩) (World.block_lt_of_cell? _ _ h1)]; exact h1
        clear hB4 hc4 hb4
        go_wp2_with fail
        refine (sameints_true (shareF M (tog f j) j E) B3 0 j B4 0 cap4 j w4 HN.out (fun i hi => ?_) (fun i hi => ?_)).mono ?_
        · rw [Nat.zero_add]; exact HR4.out i hi
        · rw [Nat.zero_add]; exact HC4.out i hi
        rintro e w5 ⟨rfl, hb5⟩
        have HB5 : Hid (Below w.heap.size w w5) := HB4.out.trans (hb5.mono HB4.out.size)
        clear hb5
        go_wp2_with fail
        refine (awake_any _).mono ?_
        rintro e w6 ⟨rfl, hb6⟩
        have HB6 : Hid (Below w.heap.size w w6) := HB5.out.trans (hb6.mono HB5.out.size)
        clear hb6
        go_wp2
        go_ret
        exact ⟨rfl, HB6.out⟩

/-- No weights, or more than 64. -/
theorem tells_none (a : Option Addr) (n cap : Nat) (N : Int) (w : World) (h : n = 0 ∨ 64 < n) (hn : (n : Int) ≤ 9223372036854775807) :
    Calls Try.prog 4 #[.int .i64 N, .slice a n cap] w fun e w' => e = .returned (.bool true) ∧ Below w.heap.size w w' := by
  have H1 := hide' (together_none a n cap w h hn)
  have H2 := hide' (rtogether_none a n cap w h hn)
  have H3 := hide' (shares_none N a n cap w h hn)
  have H4 := hide' (rshares_none N a n cap w h hn)
  clear h
  by_cases h70 : (70 : Int) < n
  · go_enter Try.func4, Try.ntmps4
    go_wp2_with (go_at_call 13; refine (awake_any _).mono ?_; rintro e w' ⟨rfl, hb⟩)
    go_ret
    exact ⟨rfl, by assumption⟩
  · go_enter Try.func4, Try.ntmps4
    go_wp2_with fail
    refine H1.out.mono ?_
    rintro e w' ⟨rfl, rfl⟩
    go_wp2_with fail
    refine H2.out.mono ?_
    rintro e w' ⟨rfl, rfl⟩
    go_wp2_with fail
    go_loopg [7] 0 (fun g i wr => g = 0 ∧ i = .int .i64 0 ∧ wr = w)
    case atStart => exact ⟨rfl, rfl, rfl⟩
    case round =>
      obtain ⟨rfl, rfl, rfl⟩ := hrel
      go_wp2_with fail
      refine H3.out.mono ?_
      rintro e w' ⟨rfl, rfl⟩
      go_wp2_with fail
      refine H4.out.mono ?_
      rintro e w' ⟨rfl, rfl⟩
      go_wp2_with fail
      refine (same_nil _).mono ?_
      rintro e w' ⟨rfl, rfl⟩
      go_wp2_with fail
      refine (awake_any _).mono ?_
      rintro e w6 ⟨rfl, hb6⟩
      have HB6 := hide' hb6
      clear hb6
      go_wp2
      go_ret
      exact ⟨rfl, HB6.out⟩

end Go.Proofs.Ytmkkkddadpcmeaa
