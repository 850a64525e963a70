/-
  What stands at a place, by the document, walked. No conditions.
-/
import Derived.Test.YticccknocjnkpaaDoorUI
import Derived.IntWalk
namespace Go.Proofs.YticccknocjnkpaaDoor.Utf
open Go.RowKit

/-- A rune and how many bytes it has. -/
def AtE (l : List Nat) (w : World) (e : Ending) (w' : World) : Prop :=
  e = .returned (.agg #[.int .i64 (atV l : Nat), .int .i64 (atN l : Nat)]) ∧ Stay (fun _ => False) w w'

theorem getD_drop (l : List Nat) (k i : Nat) : (l.drop k).getD i 0 = l.getD (k + i) 0 := by simp [List.getD_eq_getElem?_getD, List.getElem?_drop]

theorem two_0 {W : World} {B : Nat} {f : Nat → Value} (h : W.rowIs B 80 2 f) (X : Value) : (W.setCell ⟨B, 0, none⟩ X).cell? ⟨B, 0, none⟩ = some X := by
  simpa using (h.set 0 X).cell (i := 0) (by decide)

theorem two_1 {W : World} {B : Nat} {f : Nat → Value} (h : W.rowIs B 80 2 f) (X Y : Value) : ((W.setCell ⟨B, 0, none⟩ X).setCell ⟨B, 1, none⟩ Y).cell? ⟨B, 1, none⟩ = some Y := by
  simpa using ((h.set 0 X).set 1 Y).cell (i := 1) (by decide)

set_option maxHeartbeats 4000000 in
set_option maxRecDepth 100000 in
theorem at_any (l : List Nat) (k b off cap : Nat) (w : World) (hk : k < l.length) (hl : l.length ≤ 100000) (hcap : l.length ≤ cap) (hcm : cap ≤ maxLen) (hB : Bytes w b off l) :
    Calls Tryd.prog 30 #[.slice (some ⟨b, off, none⟩) l.length cap, .int .i64 (k : Nat)] w (AtE (l.drop k) w) := by
  have hcm' : (cap : Int) ≤ 9223372036854775807 := by unfold maxLen at hcm; omega
  clear hcm
  obtain ⟨m, hm⟩ : ∃ m, m = l.drop k := ⟨_, rfl⟩
  have hml : m.length = l.length - k := by rw [hm, List.length_drop]
  have hBm : Bytes w b (off + k) m := by rw [hm]; exact hB.drop k
  have hc0 : w.cell? ⟨b, off + k, none⟩ = some (.int .u8 (m.getD 0 0 : Nat)) := by have := hBm.1 0 (by omega); rwa [Nat.add_zero] at this
  have hc256 := hBm.lt 0 (by omega)
  have HV : Hid (atV m = if m.getD 0 0 < 128 then m.getD 0 0 else if run m = 0 then 65533 else formV m (run m)) := rfl
  have HN : Hid (atN m = if m.getD 0 0 < 128 then 1 else if run m = 0 then 1 else run m) := rfl
  have HF : Hid (∀ i, formV m i = if i = 2 ∧ m.getD 0 0 < 224 then m.getD 0 0 % 32 * 64 + m.getD 1 0 % 64
    else if i = 3 ∧ m.getD 0 0 < 240 then m.getD 0 0 % 16 * 4096 + m.getD 1 0 % 64 * 64 + m.getD 2 0 % 64
    else if i = 4 then m.getD 0 0 % 8 * 262144 + m.getD 1 0 % 64 * 4096 + m.getD 2 0 % 64 * 64 + m.getD 3 0 % 64
    else 65533) := fun i => rfl
  rw [← hm]
  obtain ⟨c, hc⟩ : ∃ c, c = m.getD 0 0 := ⟨_, rfl⟩
  rw [← hc] at hc0 hc256 HV HN HF
  obtain ⟨n, hn⟩ : ∃ n, n = l.length := ⟨_, rfl⟩
  rw [← hn] at hk hl hcap hml ⊢
  have HB := hide' hBm
  have HML := hide' hml
  have hbl : b < w.heap.size := World.block_lt_of_cell? _ _ hc0
  have q0 : (0 : Int) ≤ c := by omega
  have q1 : (c : Int) < 256 := by omega
  have k0 : (0 : Int) ≤ k := by omega
  have kn : (k : Int) < n := by omega
  have n5 : (n : Int) ≤ 100000 := by omega
  have HS : Hid (Stay (fun _ => False) w (w.alloc (.cells #[.int .i64 0, .int .i64 0] 80))) := (Stay.refl _ _).alloc _
  clear hm hB hBm hn hml hc
  by_cases h128 : c < 128
  · have d1 : decide ((c : Int) < 128) = true := by simp; omega
    rw [if_pos h128] at HV HN
    go_enter Tryd.func30, Tryd.ntmps30
    go_wp2
    exact bodyPost_ret (v := .agg #[.int .i64 (c : Nat), .int .i64 1]) (by simp [results, go_sem]) rfl ⟨by rw [HV.out, HN.out]; rfl, (Stay.refl _ _).alloc _⟩
  have d1 : decide ((c : Int) < 128) = false := by simp; omega
  rw [if_neg h128] at HV HN
  go_enter Tryd.func30, Tryd.ntmps30
  go_wp2
  go_loopg [5] 4 (fun g i wr => ∃ j : Nat, j ≤ 4 ∧ g = 4 - j ∧ i = .int .i64 (j : Int) ∧ Hid (∀ x, x < j → x < m.length ∧ beg (m.take (x + 1)) = true) ∧ wr = w.alloc (.cells #[.int .i64 0, .int .i64 0] 80))
  case atStart => exact ⟨0, by omega, rfl, rfl, fun j h1 => by omega, rfl⟩
  case round =>
    obtain ⟨j, hj, rfl, rfl, HI, rfl⟩ := hrel
    have j0 : (0 : Int) ≤ j := by omega
    have j4 : (j : Int) ≤ 4 := by omega
    by_cases hj4 : j < 4
    · have t2 : decide ((j : Int) < 4) = true := by simp; omega
      by_cases hjm : j < m.length
      · have t1 : decide ((k : Int) + j < n) = true := by have := HML.out; simp; omega
        have hlen : (m.take (j + 1)).length = k + j + 1 - k := by rw [List.length_take]; omega
        have hbg := begins_any (m.take (j + 1)) b (off + k) (cap - k) (w.alloc (.cells #[.int .i64 0, .int .i64 0] 80)) (by omega) (by omega) ((HS.out.bytes HB.out (fun _ h => h)).take (j + 1))
        have kc : k + (j + 1) ≤ cap := by have := HML.out; omega
        cases hv : beg (m.take (j + 1))
        · have HRUN : Hid (run m = j) := run_of m j (by omega) HI.out (Or.inr (fun h => by rw [hv] at h; exact absurd h.2 (by decide)))
          rw [hlen, hv] at hbg
          have HBG := hide' hbg
          clear hbg hlen hv
          have hj5 : j = 0 ∨ j = 1 ∨ j = 2 ∨ j = 3 := by omega
          rcases hj5 with hJ | hJ | hJ | hJ
          · have HJ := hide' hJ
            clear hJ
            have b0 : ((j : Int) == 0) = true := by have := HJ.out; simp; omega
            have b2 : ((j : Int) == 2) = false := by have := HJ.out; simp; omega
            have b3 : ((j : Int) == 3) = false := by have := HJ.out; simp; omega
            have b4 : ((j : Int) == 4) = false := by have := HJ.out; simp; omega
            have HVV : Hid (atV m = 65533) := by show atV m = 65533; rw [HV.out, HRUN.out, HJ.out]; rfl
            have HNN : Hid (atN m = 1) := by show atN m = 1; rw [HN.out, HRUN.out, HJ.out]; rfl
            clear HF HV HN HRUN
            go_wp2_with fail
            refine HBG.out.mono ?_
            rintro e w' ⟨rfl, rfl⟩
            go_wp2
            exact bodyPost_ret (v := .agg #[.int .i64 65533, .int .i64 1]) (by simp [results, go_sem]) rfl ⟨by rw [HVV.out, HNN.out]; rfl, (Stay.refl _ _).alloc _⟩
          · have HJ := hide' hJ
            clear hJ
            have b0 : ((j : Int) == 0) = false := by have := HJ.out; simp; omega
            have b2 : ((j : Int) == 2) = false := by have := HJ.out; simp; omega
            have b3 : ((j : Int) == 3) = false := by have := HJ.out; simp; omega
            have b4 : ((j : Int) == 4) = false := by have := HJ.out; simp; omega
            have HNN : Hid (atN m = j) := by show atN m = j; rw [HN.out, HRUN.out, if_neg (by have := HJ.out; omega)]
            have HV1 : atV m = formV m 1 := by rw [HV.out, HRUN.out, HJ.out]; rfl
            rw [HF.out] at HV1
            have HVV : Hid (atV m = 65533) := by show atV m = 65533; rw [HV1]; rw [if_neg (by omega), if_neg (by omega), if_neg (by omega)]
            clear HV1 HF HV HN HRUN
            go_wp2_with fail
            refine HBG.out.mono ?_
            rintro e w' ⟨rfl, rfl⟩
            go_wp2
            exact bodyPost_ret (v := .agg #[.int .i64 65533, .int .i64 (j : Nat)]) (by simp [results, go_sem]) rfl ⟨by rw [HVV.out, HNN.out]; rfl, (Stay.refl _ _).alloc _⟩
          · have HJ := hide' hJ
            clear hJ
            have b0 : ((j : Int) == 0) = false := by have := HJ.out; simp; omega
            have b2 : ((j : Int) == 2) = true := by have := HJ.out; simp; omega
            have b3 : ((j : Int) == 3) = false := by have := HJ.out; simp; omega
            have b4 : ((j : Int) == 4) = false := by have := HJ.out; simp; omega
            have HNN : Hid (atN m = j) := by show atN m = j; rw [HN.out, HRUN.out, if_neg (by have := HJ.out; omega)]
            have HV1 : atV m = formV m 2 := by rw [HV.out, HRUN.out, HJ.out]; rfl
            rw [HF.out] at HV1
            have e1 : w.cell? ⟨b, off + (k + 1), none⟩ = some (.int .u8 (m.getD 1 0 : Nat)) := by have := HB.out.1 1 (by have := HJ.out; omega); rwa [Nat.add_assoc] at this
            have l1 := HB.out.lt 1 (by have := HJ.out; omega)
            obtain ⟨x1, hx1⟩ : ∃ x, x = m.getD 1 0 := ⟨_, rfl⟩
            rw [← hx1] at e1 l1 HV1
            have y1 : (0 : Int) ≤ x1 := by omega
            have u1' : (x1 : Int) < 256 := by omega
            have kq1 : (k : Int) + 1 < n := by have := HML.out; have := HJ.out; omega
            clear hx1
            by_cases hcc : c < 224
            · have d2 : decide ((c : Int) < 224) = true := by simp; omega
              have HVV : Hid (atV m = c % 32 * 64 + x1 % 64) := by show atV m = c % 32 * 64 + x1 % 64; rw [HV1, if_pos ⟨rfl, hcc⟩]
              clear HV1 HF HV HN HRUN
              go_wp2_with fail
              refine HBG.out.mono ?_
              rintro e w' ⟨rfl, rfl⟩
              go_wp2
              exact bodyPost_ret (v := .agg #[.int .i64 ((c : Int) % 32 * 64 + (x1 : Int) % 64), .int .i64 2]) (by simp [results, go_sem]) rfl ⟨by rw [HVV.out, HNN.out]; rw [HJ.out]; go_num, (Stay.refl _ _).alloc _⟩
            · have d2 : decide ((c : Int) < 224) = false := by simp; omega
              have HVV : Hid (atV m = 65533) := by show atV m = 65533; rw [HV1]; rw [if_neg (by omega), if_neg (by omega), if_neg (by omega)]
              clear HV1 HF HV HN HRUN
              go_wp2_with fail
              refine HBG.out.mono ?_
              rintro e w' ⟨rfl, rfl⟩
              go_wp2
              exact bodyPost_ret (v := .agg #[.int .i64 65533, .int .i64 (j : Nat)]) (by simp [results, go_sem]) rfl ⟨by rw [HVV.out, HNN.out]; rfl, (Stay.refl _ _).alloc _⟩
          · have HJ := hide' hJ
            clear hJ
            have b0 : ((j : Int) == 0) = false := by have := HJ.out; simp; omega
            have b2 : ((j : Int) == 2) = false := by have := HJ.out; simp; omega
            have b3 : ((j : Int) == 3) = true := by have := HJ.out; simp; omega
            have b4 : ((j : Int) == 4) = false := by have := HJ.out; simp; omega
            have HNN : Hid (atN m = j) := by show atN m = j; rw [HN.out, HRUN.out, if_neg (by have := HJ.out; omega)]
            have HV1 : atV m = formV m 3 := by rw [HV.out, HRUN.out, HJ.out]; rfl
            rw [HF.out] at HV1
            have e1 : w.cell? ⟨b, off + (k + 1), none⟩ = some (.int .u8 (m.getD 1 0 : Nat)) := by have := HB.out.1 1 (by have := HJ.out; omega); rwa [Nat.add_assoc] at this
            have l1 := HB.out.lt 1 (by have := HJ.out; omega)
            obtain ⟨x1, hx1⟩ : ∃ x, x = m.getD 1 0 := ⟨_, rfl⟩
            rw [← hx1] at e1 l1 HV1
            have y1 : (0 : Int) ≤ x1 := by omega
            have u1' : (x1 : Int) < 256 := by omega
            have kq1 : (k : Int) + 1 < n := by have := HML.out; have := HJ.out; omega
            clear hx1
            have e2 : w.cell? ⟨b, off + (k + 2), none⟩ = some (.int .u8 (m.getD 2 0 : Nat)) := by have := HB.out.1 2 (by have := HJ.out; omega); rwa [Nat.add_assoc] at this
            have l2 := HB.out.lt 2 (by have := HJ.out; omega)
            obtain ⟨x2, hx2⟩ : ∃ x, x = m.getD 2 0 := ⟨_, rfl⟩
            rw [← hx2] at e2 l2 HV1
            have y2 : (0 : Int) ≤ x2 := by omega
            have u2' : (x2 : Int) < 256 := by omega
            have kq2 : (k : Int) + 2 < n := by have := HML.out; have := HJ.out; omega
            clear hx2
            by_cases hcc : c < 240
            · have d2 : decide ((c : Int) < 240) = true := by simp; omega
              have HVV : Hid (atV m = c % 16 * 4096 + x1 % 64 * 64 + x2 % 64) := by show atV m = c % 16 * 4096 + x1 % 64 * 64 + x2 % 64; rw [HV1, if_neg (by omega), if_pos ⟨rfl, hcc⟩]
              clear HV1 HF HV HN HRUN
              go_wp2_with fail
              refine HBG.out.mono ?_
              rintro e w' ⟨rfl, rfl⟩
              go_wp2
              have r2 := World.rowIs_alloc w #[.int .i64 0, .int .i64 0] 80 (fun _ => .int .i64 0) (fun i hi => by
                have : i = 0 ∨ i = 1 := by simp at hi; omega
                rcases this with rfl | rfl <;> rfl)
              have g1 := (HS.out.cell (p := ⟨b, off + (k + 1), none⟩) hbl (fun h => h)).trans e1
              have g2 := (HS.out.cell (p := ⟨b, off + (k + 2), none⟩) hbl (fun h => h)).trans e2
              have HS' := HS
              generalize w.alloc (.cells #[.int .i64 0, .int .i64 0] 80) = W at r2 HS' g1 g2 ⊢
              have r0 := r2.cell (i := 0) (by decide)
              have r1 := r2.cell (i := 1) (by decide)
              have rf0 := r2.frozen 0
              have rf1 := r2.frozen 1
              have HR2 := hide' r2
              clear r2
              have s1 : IntKind.i64.wrap ((k : Int) + 1) = (k : Int) + 1 := IntWalk.i64_in _ (by omega)
              have p1 : (0 : Int) ≤ (k : Int) + 1 := by omega
              have w1 : ((k : Int) + 1).toNat = k + 1 := by omega
              have s2 : IntKind.i64.wrap ((k : Int) + 2) = (k : Int) + 2 := IntWalk.i64_in _ (by omega)
              have p2 : (0 : Int) ≤ (k : Int) + 2 := by omega
              have w2 : ((k : Int) + 2).toNat = k + 2 := by omega
              have mc : (c : Int).tmod 16 = (c : Int) % 16 := Int.tmod_eq_emod_of_nonneg q0
              have mx1 : (x1 : Int).tmod 64 = (x1 : Int) % 64 := Int.tmod_eq_emod_of_nonneg y1
              have mx2 : (x2 : Int).tmod 64 = (x2 : Int) % 64 := Int.tmod_eq_emod_of_nonneg y2
              have v0 : IntKind.i64.wrap ((c : Int) % 16 * 4096) = (c : Int) % 16 * 4096 := IntWalk.i64_in _ (by omega)
              have v1 : IntKind.i64.wrap ((x1 : Int) % 64 * 64) = (x1 : Int) % 64 * 64 := IntWalk.i64_in _ (by omega)
              have v2 : IntKind.i64.wrap ((c : Int) % 16 * 4096 + (x1 : Int) % 64 * 64) = (c : Int) % 16 * 4096 + (x1 : Int) % 64 * 64 := IntWalk.i64_in _ (by omega)
              have v3 : IntKind.i64.wrap ((c : Int) % 16 * 4096 + (x1 : Int) % 64 * 64 + (x2 : Int) % 64) = (c : Int) % 16 * 4096 + (x1 : Int) % 64 * 64 + (x2 : Int) % 64 := IntWalk.i64_in _ (by omega)
              refine wp_region_still_tail 21 (by kernel_rfl) (by kernel_rfl) ?_
              simp only [List.take_succ_cons, List.take_zero, List.drop_succ_cons, List.drop_zero]
              refine still_begin (fun K hK => ?_)
              iterate 21 (refine next_want hK ?_ ?_; kernel_rfl; clear hK K; intro K hK; go_simp)
              refine hK _ (wpStill_nil ?_)
              clear hK K
              clear s1 p1 w1 mx1 s2 p2 w2 mx2 mc v0 v1 v2 v3
              go_wp2
              exact bodyPost_ret (v := .agg #[.int .i64 ((c : Int) % 16 * 4096 + (x1 : Int) % 64 * 64 + (x2 : Int) % 64), .int .i64 3]) (by simp [results, go_sem, two_0 HR2.out, two_1 HR2.out]) rfl ⟨by rw [HVV.out, HNN.out]; rw [HJ.out]; go_num, (HS'.out.drew.setNew (p := ⟨w.heap.size, 0, none⟩) (Nat.le_refl _) _).setNew (p := ⟨w.heap.size, 1, none⟩) (Nat.le_refl _) _⟩
            · have d2 : decide ((c : Int) < 240) = false := by simp; omega
              have HVV : Hid (atV m = 65533) := by show atV m = 65533; rw [HV1]; rw [if_neg (by omega), if_neg (by omega), if_neg (by omega)]
              clear HV1 HF HV HN HRUN
              go_wp2_with fail
              refine HBG.out.mono ?_
              rintro e w' ⟨rfl, rfl⟩
              go_wp2
              exact bodyPost_ret (v := .agg #[.int .i64 65533, .int .i64 (j : Nat)]) (by simp [results, go_sem]) rfl ⟨by rw [HVV.out, HNN.out]; rfl, (Stay.refl _ _).alloc _⟩
        · have HI2 : Hid (∀ x, x < j + 1 → x < m.length ∧ beg (m.take (x + 1)) = true) := fun x hx => by
            by_cases e : x = j
            · subst e; exact ⟨hjm, hv⟩
            · exact HI.out x (by omega)
          rw [hlen, hv] at hbg
          have HBG := hide' hbg
          clear hbg hlen hv
          go_wp2_with fail
          refine HBG.out.mono ?_
          rintro e w' ⟨rfl, rfl⟩
          go_wp2
          go_roundg (4 - (j + 1))
          case rel => exact ⟨j + 1, by omega, rfl, by go_num, HI2, rfl⟩
          case measure => omega
      · have t1 : decide ((k : Int) + j < n) = false := by have := HML.out; simp; omega
        have HRUN : Hid (run m = j) := run_of m j (by omega) HI.out (Or.inr (fun h => hjm h.1))
        have hm1 := fun h => (HI.out (j - 1) h).1
        have HM1 := hide' hm1
        clear hm1
        have hj5 : j = 0 ∨ j = 1 ∨ j = 2 ∨ j = 3 := by omega
        rcases hj5 with hJ | hJ | hJ | hJ
        · exfalso; have := HML.out; omega
        · have HJ := hide' hJ
          have hjm' := HM1.out (by omega)
          clear hJ
          have b0 : ((j : Int) == 0) = false := by have := HJ.out; simp; omega
          have b2 : ((j : Int) == 2) = false := by have := HJ.out; simp; omega
          have b3 : ((j : Int) == 3) = false := by have := HJ.out; simp; omega
          have b4 : ((j : Int) == 4) = false := by have := HJ.out; simp; omega
          have HNN : Hid (atN m = j) := by show atN m = j; rw [HN.out, HRUN.out, if_neg (by have := HJ.out; omega)]
          have HV1 : atV m = formV m 1 := by rw [HV.out, HRUN.out, HJ.out]; rfl
          rw [HF.out] at HV1
          have HVV : Hid (atV m = 65533) := by show atV m = 65533; rw [HV1]; rw [if_neg (by omega), if_neg (by omega), if_neg (by omega)]
          clear HV1 HF HV HN HRUN
          go_wp2
          exact bodyPost_ret (v := .agg #[.int .i64 65533, .int .i64 (j : Nat)]) (by simp [results, go_sem]) rfl ⟨by rw [HVV.out, HNN.out]; rfl, (Stay.refl _ _).alloc _⟩
        · have HJ := hide' hJ
          have hjm' := HM1.out (by omega)
          clear hJ
          have b0 : ((j : Int) == 0) = false := by have := HJ.out; simp; omega
          have b2 : ((j : Int) == 2) = true := by have := HJ.out; simp; omega
          have b3 : ((j : Int) == 3) = false := by have := HJ.out; simp; omega
          have b4 : ((j : Int) == 4) = false := by have := HJ.out; simp; omega
          have HNN : Hid (atN m = j) := by show atN m = j; rw [HN.out, HRUN.out, if_neg (by have := HJ.out; omega)]
          have HV1 : atV m = formV m 2 := by rw [HV.out, HRUN.out, HJ.out]; rfl
          rw [HF.out] at HV1
          have e1 : w.cell? ⟨b, off + (k + 1), none⟩ = some (.int .u8 (m.getD 1 0 : Nat)) := by have := HB.out.1 1 (by have := HJ.out; omega); rwa [Nat.add_assoc] at this
          have l1 := HB.out.lt 1 (by have := HJ.out; omega)
          obtain ⟨x1, hx1⟩ : ∃ x, x = m.getD 1 0 := ⟨_, rfl⟩
          rw [← hx1] at e1 l1 HV1
          have y1 : (0 : Int) ≤ x1 := by omega
          have u1' : (x1 : Int) < 256 := by omega
          have kq1 : (k : Int) + 1 < n := by have := HML.out; have := HJ.out; omega
          clear hx1
          by_cases hcc : c < 224
          · have d2 : decide ((c : Int) < 224) = true := by simp; omega
            have HVV : Hid (atV m = c % 32 * 64 + x1 % 64) := by show atV m = c % 32 * 64 + x1 % 64; rw [HV1, if_pos ⟨rfl, hcc⟩]
            clear HV1 HF HV HN HRUN
            go_wp2
            exact bodyPost_ret (v := .agg #[.int .i64 ((c : Int) % 32 * 64 + (x1 : Int) % 64), .int .i64 2]) (by simp [results, go_sem]) rfl ⟨by rw [HVV.out, HNN.out]; rw [HJ.out]; go_num, (Stay.refl _ _).alloc _⟩
          · have d2 : decide ((c : Int) < 224) = false := by simp; omega
            have HVV : Hid (atV m = 65533) := by show atV m = 65533; rw [HV1]; rw [if_neg (by omega), if_neg (by omega), if_neg (by omega)]
            clear HV1 HF HV HN HRUN
            go_wp2
            exact bodyPost_ret (v := .agg #[.int .i64 65533, .int .i64 (j : Nat)]) (by simp [results, go_sem]) rfl ⟨by rw [HVV.out, HNN.out]; rfl, (Stay.refl _ _).alloc _⟩
        · have HJ := hide' hJ
          have hjm' := HM1.out (by omega)
          clear hJ
          have b0 : ((j : Int) == 0) = false := by have := HJ.out; simp; omega
          have b2 : ((j : Int) == 2) = false := by have := HJ.out; simp; omega
          have b3 : ((j : Int) == 3) = true := by have := HJ.out; simp; omega
          have b4 : ((j : Int) == 4) = false := by have := HJ.out; simp; omega
          have HNN : Hid (atN m = j) := by show atN m = j; rw [HN.out, HRUN.out, if_neg (by have := HJ.out; omega)]
          have HV1 : atV m = formV m 3 := by rw [HV.out, HRUN.out, HJ.out]; rfl
          rw [HF.out] at HV1
          have e1 : w.cell? ⟨b, off + (k + 1), none⟩ = some (.int .u8 (m.getD 1 0 : Nat)) := by have := HB.out.1 1 (by have := HJ.out; omega); rwa [Nat.add_assoc] at this
          have l1 := HB.out.lt 1 (by have := HJ.out; omega)
          obtain ⟨x1, hx1⟩ : ∃ x, x = m.getD 1 0 := ⟨_, rfl⟩
          rw [← hx1] at e1 l1 HV1
          have y1 : (0 : Int) ≤ x1 := by omega
          have u1' : (x1 : Int) < 256 := by omega
          have kq1 : (k : Int) + 1 < n := by have := HML.out; have := HJ.out; omega
          clear hx1
          have e2 : w.cell? ⟨b, off + (k + 2), none⟩ = some (.int .u8 (m.getD 2 0 : Nat)) := by have := HB.out.1 2 (by have := HJ.out; omega); rwa [Nat.add_assoc] at this
          have l2 := HB.out.lt 2 (by have := HJ.out; omega)
          obtain ⟨x2, hx2⟩ : ∃ x, x = m.getD 2 0 := ⟨_, rfl⟩
          rw [← hx2] at e2 l2 HV1
          have y2 : (0 : Int) ≤ x2 := by omega
          have u2' : (x2 : Int) < 256 := by omega
          have kq2 : (k : Int) + 2 < n := by have := HML.out; have := HJ.out; omega
          clear hx2
          by_cases hcc : c < 240
          · have d2 : decide ((c : Int) < 240) = true := by simp; omega
            have HVV : Hid (atV m = c % 16 * 4096 + x1 % 64 * 64 + x2 % 64) := by show atV m = c % 16 * 4096 + x1 % 64 * 64 + x2 % 64; rw [HV1, if_neg (by omega), if_pos ⟨rfl, hcc⟩]
            clear HV1 HF HV HN HRUN
            go_wp2
            have r2 := World.rowIs_alloc w #[.int .i64 0, .int .i64 0] 80 (fun _ => .int .i64 0) (fun i hi => by
              have : i = 0 ∨ i = 1 := by simp at hi; omega
              rcases this with rfl | rfl <;> rfl)
            have g1 := (HS.out.cell (p := ⟨b, off + (k + 1), none⟩) hbl (fun h => h)).trans e1
            have g2 := (HS.out.cell (p := ⟨b, off + (k + 2), none⟩) hbl (fun h => h)).trans e2
            have HS' := HS
            generalize w.alloc (.cells #[.int .i64 0, .int .i64 0] 80) = W at r2 HS' g1 g2 ⊢
            have r0 := r2.cell (i := 0) (by decide)
            have r1 := r2.cell (i := 1) (by decide)
            have rf0 := r2.frozen 0
            have rf1 := r2.frozen 1
            have HR2 := hide' r2
            clear r2
            have s1 : IntKind.i64.wrap ((k : Int) + 1) = (k : Int) + 1 := IntWalk.i64_in _ (by omega)
            have p1 : (0 : Int) ≤ (k : Int) + 1 := by omega
            have w1 : ((k : Int) + 1).toNat = k + 1 := by omega
            have s2 : IntKind.i64.wrap ((k : Int) + 2) = (k : Int) + 2 := IntWalk.i64_in _ (by omega)
            have p2 : (0 : Int) ≤ (k : Int) + 2 := by omega
            have w2 : ((k : Int) + 2).toNat = k + 2 := by omega
            have mc : (c : Int).tmod 16 = (c : Int) % 16 := Int.tmod_eq_emod_of_nonneg q0
            have mx1 : (x1 : Int).tmod 64 = (x1 : Int) % 64 := Int.tmod_eq_emod_of_nonneg y1
            have mx2 : (x2 : Int).tmod 64 = (x2 : Int) % 64 := Int.tmod_eq_emod_of_nonneg y2
            have v0 : IntKind.i64.wrap ((c : Int) % 16 * 4096) = (c : Int) % 16 * 4096 := IntWalk.i64_in _ (by omega)
            have v1 : IntKind.i64.wrap ((x1 : Int) % 64 * 64) = (x1 : Int) % 64 * 64 := IntWalk.i64_in _ (by omega)
            have v2 : IntKind.i64.wrap ((c : Int) % 16 * 4096 + (x1 : Int) % 64 * 64) = (c : Int) % 16 * 4096 + (x1 : Int) % 64 * 64 := IntWalk.i64_in _ (by omega)
            have v3 : IntKind.i64.wrap ((c : Int) % 16 * 4096 + (x1 : Int) % 64 * 64 + (x2 : Int) % 64) = (c : Int) % 16 * 4096 + (x1 : Int) % 64 * 64 + (x2 : Int) % 64 := IntWalk.i64_in _ (by omega)
            refine wp_region_still_tail 21 (by kernel_rfl) (by kernel_rfl) ?_
            simp only [List.take_succ_cons, List.take_zero, List.drop_succ_cons, List.drop_zero]
            refine still_begin (fun K hK => ?_)
            iterate 21 (refine next_want hK ?_ ?_; kernel_rfl; clear hK K; intro K hK; go_simp)
            refine hK _ (wpStill_nil ?_)
            clear hK K
            clear s1 p1 w1 mx1 s2 p2 w2 mx2 mc v0 v1 v2 v3
            go_wp2
            exact bodyPost_ret (v := .agg #[.int .i64 ((c : Int) % 16 * 4096 + (x1 : Int) % 64 * 64 + (x2 : Int) % 64), .int .i64 3]) (by simp [results, go_sem, two_0 HR2.out, two_1 HR2.out]) rfl ⟨by rw [HVV.out, HNN.out]; rw [HJ.out]; go_num, (HS'.out.drew.setNew (p := ⟨w.heap.size, 0, none⟩) (Nat.le_refl _) _).setNew (p := ⟨w.heap.size, 1, none⟩) (Nat.le_refl _) _⟩
          · have d2 : decide ((c : Int) < 240) = false := by simp; omega
            have HVV : Hid (atV m = 65533) := by show atV m = 65533; rw [HV1]; rw [if_neg (by omega), if_neg (by omega), if_neg (by omega)]
            clear HV1 HF HV HN HRUN
            go_wp2
            exact bodyPost_ret (v := .agg #[.int .i64 65533, .int .i64 (j : Nat)]) (by simp [results, go_sem]) rfl ⟨by rw [HVV.out, HNN.out]; rfl, (Stay.refl _ _).alloc _⟩
    · have t2 : decide ((j : Int) < 4) = false := by simp; omega
      have HJ : Hid (j = 4) := by show j = 4; omega
      have HRUN : Hid (run m = j) := run_of m j (by omega) HI.out (Or.inl HJ.out)
      have hjm' := (HI.out 3 (by omega)).1
      cases t1 : decide ((k : Int) + j < n)
      all_goals
        have b0 : ((j : Int) == 0) = false := by have := HJ.out; simp; omega
        have b2 : ((j : Int) == 2) = false := by have := HJ.out; simp; omega
        have b3 : ((j : Int) == 3) = false := by have := HJ.out; simp; omega
        have b4 : ((j : Int) == 4) = true := by have := HJ.out; simp; omega
        have HNN : Hid (atN m = j) := by show atN m = j; rw [HN.out, HRUN.out, if_neg (by have := HJ.out; omega)]
        have HV1 : atV m = formV m 4 := by rw [HV.out, HRUN.out, HJ.out]; rfl
        rw [HF.out] at HV1
        have e1 : w.cell? ⟨b, off + (k + 1), none⟩ = some (.int .u8 (m.getD 1 0 : Nat)) := by have := HB.out.1 1 (by have := HJ.out; omega); rwa [Nat.add_assoc] at this
        have l1 := HB.out.lt 1 (by have := HJ.out; omega)
        obtain ⟨x1, hx1⟩ : ∃ x, x = m.getD 1 0 := ⟨_, rfl⟩
        rw [← hx1] at e1 l1 HV1
        have y1 : (0 : Int) ≤ x1 := by omega
        have u1' : (x1 : Int) < 256 := by omega
        have kq1 : (k : Int) + 1 < n := by have := HML.out; have := HJ.out; omega
        clear hx1
        have e2 : w.cell? ⟨b, off + (k + 2), none⟩ = some (.int .u8 (m.getD 2 0 : Nat)) := by have := HB.out.1 2 (by have := HJ.out; omega); rwa [Nat.add_assoc] at this
        have l2 := HB.out.lt 2 (by have := HJ.out; omega)
        obtain ⟨x2, hx2⟩ : ∃ x, x = m.getD 2 0 := ⟨_, rfl⟩
        rw [← hx2] at e2 l2 HV1
        have y2 : (0 : Int) ≤ x2 := by omega
        have u2' : (x2 : Int) < 256 := by omega
        have kq2 : (k : Int) + 2 < n := by have := HML.out; have := HJ.out; omega
        clear hx2
        have e3 : w.cell? ⟨b, off + (k + 3), none⟩ = some (.int .u8 (m.getD 3 0 : Nat)) := by have := HB.out.1 3 (by have := HJ.out; omega); rwa [Nat.add_assoc] at this
        have l3 := HB.out.lt 3 (by have := HJ.out; omega)
        obtain ⟨x3, hx3⟩ : ∃ x, x = m.getD 3 0 := ⟨_, rfl⟩
        rw [← hx3] at e3 l3 HV1
        have y3 : (0 : Int) ≤ x3 := by omega
        have u3' : (x3 : Int) < 256 := by omega
        have kq3 : (k : Int) + 3 < n := by have := HML.out; have := HJ.out; omega
        clear hx3
        have HVV : Hid (atV m = c % 8 * 262144 + x1 % 64 * 4096 + x2 % 64 * 64 + x3 % 64) := by show atV m = c % 8 * 262144 + x1 % 64 * 4096 + x2 % 64 * 64 + x3 % 64; rw [HV1, if_neg (by omega), if_neg (by omega), if_pos rfl]
        clear HV1 HF HV HN HRUN
        go_wp2
        have r2 := World.rowIs_alloc w #[.int .i64 0, .int .i64 0] 80 (fun _ => .int .i64 0) (fun i hi => by
          have : i = 0 ∨ i = 1 := by simp at hi; omega
          rcases this with rfl | rfl <;> rfl)
        have g1 := (HS.out.cell (p := ⟨b, off + (k + 1), none⟩) hbl (fun h => h)).trans e1
        have g2 := (HS.out.cell (p := ⟨b, off + (k + 2), none⟩) hbl (fun h => h)).trans e2
        have g3 := (HS.out.cell (p := ⟨b, off + (k + 3), none⟩) hbl (fun h => h)).trans e3
        have HS' := HS
        generalize w.alloc (.cells #[.int .i64 0, .int .i64 0] 80) = W at r2 HS' g1 g2 g3 ⊢
        have r0 := r2.cell (i := 0) (by decide)
        have r1 := r2.cell (i := 1) (by decide)
        have rf0 := r2.frozen 0
        have rf1 := r2.frozen 1
        have HR2 := hide' r2
        clear r2
        have s1 : IntKind.i64.wrap ((k : Int) + 1) = (k : Int) + 1 := IntWalk.i64_in _ (by omega)
        have p1 : (0 : Int) ≤ (k : Int) + 1 := by omega
        have w1 : ((k : Int) + 1).toNat = k + 1 := by omega
        have s2 : IntKind.i64.wrap ((k : Int) + 2) = (k : Int) + 2 := IntWalk.i64_in _ (by omega)
        have p2 : (0 : Int) ≤ (k : Int) + 2 := by omega
        have w2 : ((k : Int) + 2).toNat = k + 2 := by omega
        have s3 : IntKind.i64.wrap ((k : Int) + 3) = (k : Int) + 3 := IntWalk.i64_in _ (by omega)
        have p3 : (0 : Int) ≤ (k : Int) + 3 := by omega
        have w3 : ((k : Int) + 3).toNat = k + 3 := by omega
        have mc : (c : Int).tmod 8 = (c : Int) % 8 := Int.tmod_eq_emod_of_nonneg q0
        have mx1 : (x1 : Int).tmod 64 = (x1 : Int) % 64 := Int.tmod_eq_emod_of_nonneg y1
        have mx2 : (x2 : Int).tmod 64 = (x2 : Int) % 64 := Int.tmod_eq_emod_of_nonneg y2
        have mx3 : (x3 : Int).tmod 64 = (x3 : Int) % 64 := Int.tmod_eq_emod_of_nonneg y3
        have v0 : IntKind.i64.wrap ((c : Int) % 8 * 262144) = (c : Int) % 8 * 262144 := IntWalk.i64_in _ (by omega)
        have v1 : IntKind.i64.wrap ((x1 : Int) % 64 * 4096) = (x1 : Int) % 64 * 4096 := IntWalk.i64_in _ (by omega)
        have v2 : IntKind.i64.wrap ((c : Int) % 8 * 262144 + (x1 : Int) % 64 * 4096) = (c : Int) % 8 * 262144 + (x1 : Int) % 64 * 4096 := IntWalk.i64_in _ (by omega)
        have v3 : IntKind.i64.wrap ((x2 : Int) % 64 * 64) = (x2 : Int) % 64 * 64 := IntWalk.i64_in _ (by omega)
        have v4 : IntKind.i64.wrap ((c : Int) % 8 * 262144 + (x1 : Int) % 64 * 4096 + (x2 : Int) % 64 * 64) = (c : Int) % 8 * 262144 + (x1 : Int) % 64 * 4096 + (x2 : Int) % 64 * 64 := IntWalk.i64_in _ (by omega)
        have v5 : IntKind.i64.wrap ((c : Int) % 8 * 262144 + (x1 : Int) % 64 * 4096 + (x2 : Int) % 64 * 64 + (x3 : Int) % 64) = (c : Int) % 8 * 262144 + (x1 : Int) % 64 * 4096 + (x2 : Int) % 64 * 64 + (x3 : Int) % 64 := IntWalk.i64_in _ (by omega)
        refine wp_region_still_tail 30 (by kernel_rfl) (by kernel_rfl) ?_
        simp only [List.take_succ_cons, List.take_zero, List.drop_succ_cons, List.drop_zero]
        refine still_begin (fun K hK => ?_)
        iterate 30 (refine next_want hK ?_ ?_; kernel_rfl; clear hK K; intro K hK; go_simp)
        refine hK _ (wpStill_nil ?_)
        clear hK K
        clear s1 p1 w1 mx1 s2 p2 w2 mx2 s3 p3 w3 mx3 mc v0 v1 v2 v3 v4 v5
        go_wp2
        exact bodyPost_ret (v := .agg #[.int .i64 ((c : Int) % 8 * 262144 + (x1 : Int) % 64 * 4096 + (x2 : Int) % 64 * 64 + (x3 : Int) % 64), .int .i64 4]) (by simp [results, go_sem, two_0 HR2.out, two_1 HR2.out]) rfl ⟨by rw [HVV.out, HNN.out]; rw [HJ.out]; go_num, (HS'.out.drew.setNew (p := ⟨w.heap.size, 0, none⟩) (Nat.le_refl _) _).setNew (p := ⟨w.heap.size, 1, none⟩) (Nat.le_refl _) _⟩

end Go.Proofs.YticccknocjnkpaaDoor.Utf
