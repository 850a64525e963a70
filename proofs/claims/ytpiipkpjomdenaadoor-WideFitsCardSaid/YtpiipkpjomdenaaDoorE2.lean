/-
  For any runes, and any number, the law WideFits returns true, and the arguments read as they did; the tied card.
-/
import Derived.Test.YtpiipkpjomdenaaDoorE0
import Derived.Test.YtpiipkpjomdenaaDoorTie
import Derived.Test.YtpiipkpjomdenaaDoorCards
namespace Go.Proofs.YtpiipkpjomdenaaDoor
open Go.ChangeShapes Go.WideShapes Go.ChangeAt Go.RowKit

theorem sum_ne (l : List Int) (m : Int) {k : Nat} (h : IsFit l m k) (hk : 0 < k) : sumC (l.take k) ≤ m := h.2.1 k hk (Nat.le_refl _)

set_option maxHeartbeats 2000000 in
set_option maxRecDepth 100000 in
theorem fits_any (l : List Int) (cap : Nat) (a : Option Addr) (v : Value) (m : Int) (w : World) (hA : IArg .i32 w v l a cap) (hl : l.length ≤ 100) (hT : Tbl w) : Calls Tryd.prog 4 #[v, .int .i64 m] w (LawTrue w) := by
  have hsh := hA.shape
  obtain ⟨n, hn⟩ : ∃ n, n = l.length := ⟨_, rfl⟩
  have HN := hide' hn
  rw [← hn] at hl hsh
  subst hsh
  have hcap : n ≤ cap := by rw [hn]; exact hA.lenLe
  have hcm := hA.capLe
  unfold maxLen at hcm
  have cm : (cap : Int) ≤ 9223372036854775807 := by omega
  have n1 : (n : Int) ≤ 100 := by omega
  have HA := hide' hA
  have HT := hide' hT
  have HX := hide' (fit_arg m hA hT (by rw [← hn]; omega))
  clear hA hT hn hcm
  go_enter Tryd.func4, Tryd.ntmps4
  go_wp2_with fail
  refine HX.out.mono ?_
  rintro e w1 ⟨k, rfl, hf, hs1⟩
  have HF := hide' hf
  have HS1 := hide' hs1
  have hkn : k ≤ n := by rw [HN.out]; exact hf.1
  have HX1 := hide' (text_arg (HA.out.stay0 hs1) (HT.out.stay hs1) (by rw [← HN.out]; omega))
  obtain ⟨s, hs⟩ : ∃ s, s = sumC l := ⟨_, rfl⟩
  have HX2 : Hid (∀ w2, Stay (fun _ => False) w w2 → Calls Tryd.prog 11 #[.slice a n cap] w2 (Gives (.int .i64 s) w2)) := fun w2 h2 => by rw [hs]; exact refText_arg (HA.out.stay0 h2) (by rw [← HN.out]; omega)
  rw [← hs] at HX1
  clear hf hs1 hs
  go_wp2_with fail
  refine HX1.out.mono ?_
  rintro e w2 ⟨rfl, hs2⟩
  have HS2 := hide' (HS1.out.trans hs2)
  clear hs2
  go_wp2_with fail
  refine (HX2.out _ HS2.out).mono ?_
  rintro e w3 ⟨rfl, hs3⟩
  have HS3 := hide' (HS2.out.trans hs3)
  have HX3 := hide' (refFit_arg m (HA.out.stay0 HS3.out) (by rw [← HN.out]; omega))
  clear hs3
  go_wp2_with fail
  refine HX3.out.mono ?_
  rintro e w4 ⟨k', rfl, hf', hs4⟩
  obtain rfl : k = k' := isFit_one HF.out hf'
  have HS4 := hide' (HS3.out.trans hs4)
  have k0 : (0 : Int) ≤ k := by omega
  have kn : (k : Int) ≤ n := by omega
  clear hf' hs4
  by_cases hk0 : 0 < k
  · have hle := sum_ne l m HF.out hk0
    have d0 : decide ((0 : Int) < k) = true := by simp; omega
    have HX5 := hide' (text_arg ((HA.out.stay0 HS4.out).take k (by rw [← HN.out]; omega)) (HT.out.stay HS4.out) (by rw [List.length_take, ← HN.out]; omega))
    obtain ⟨y, hy⟩ : ∃ y, y = sumC (l.take k) := ⟨_, rfl⟩
    rw [← hy] at hle HX5
    have d1 : decide (m < y) = false := by simp; omega
    have kc : k ≤ cap := by omega
    clear hy
    go_wp2_with fail
    refine HX5.out.mono ?_
    rintro e w5 ⟨rfl, hs5⟩
    have HS5 := hide' (HS4.out.trans hs5)
    clear hs5
    by_cases hkn2 : k = n
    · subst hkn2
      have HAW := hide' (awake_any _ (HT.out.stay HS5.out))
      go_wp2_with fail
      refine HAW.out.mono ?_
      rintro e w6 ⟨rfl, hs6⟩
      have HS6 := hide' (HS5.out.trans hs6)
      clear hs6
      go_wp2
      go_ret
      exact ⟨rfl, HS6.out⟩
    · have e1 : ((k : Int) == n) = false := by rw [beq_eq_false_iff_ne]; omega
      have hgt : m < sumC (l.take (k + 1)) := HF.out.2.2.resolve_left (by rw [← HN.out]; exact hkn2)
      have HX6 := hide' (text_arg ((HA.out.stay0 HS5.out).take (k + 1) (by rw [← HN.out]; omega)) (HT.out.stay HS5.out) (by rw [List.length_take, ← HN.out]; omega))
      obtain ⟨z, hz⟩ : ∃ z, z = sumC (l.take (k + 1)) := ⟨_, rfl⟩
      rw [← hz] at hgt HX6
      have d2 : decide (m < z) = true := by simp; omega
      have kc1 : k + 1 ≤ cap := by omega
      have kn1 : (k : Int) < n := by omega
      clear hz hkn2
      go_wp2_with fail
      refine HX6.out.mono ?_
      rintro e w6 ⟨rfl, hs6⟩
      have HS6 := hide' (HS5.out.trans hs6)
      have HAW := hide' (awake_any _ (HT.out.stay HS6.out))
      clear hs6
      go_wp2_with fail
      refine HAW.out.mono ?_
      rintro e w7 ⟨rfl, hs7⟩
      have HS7 := hide' (HS6.out.trans hs7)
      clear hs7
      go_wp2
      go_ret
      exact ⟨rfl, HS7.out⟩
  · have d0 : decide (0 < k) = false := by simpa using hk0
    have hk1 : ¬ 0 < k := hk0
    clear hk0
    have HS5 := HS4
    by_cases hkn2 : k = n
    · subst hkn2
      have HAW := hide' (awake_any _ (HT.out.stay HS5.out))
      go_wp2_with fail
      refine HAW.out.mono ?_
      rintro e w6 ⟨rfl, hs6⟩
      have HS6 := hide' (HS5.out.trans hs6)
      clear hs6
      go_wp2
      go_ret
      exact ⟨rfl, HS6.out⟩
    · have e1 : ((k : Int) == n) = false := by rw [beq_eq_false_iff_ne]; omega
      have hgt : m < sumC (l.take (k + 1)) := HF.out.2.2.resolve_left (by rw [← HN.out]; exact hkn2)
      have HX6 := hide' (text_arg ((HA.out.stay0 HS5.out).take (k + 1) (by rw [← HN.out]; omega)) (HT.out.stay HS5.out) (by rw [List.length_take, ← HN.out]; omega))
      obtain ⟨z, hz⟩ : ∃ z, z = sumC (l.take (k + 1)) := ⟨_, rfl⟩
      rw [← hz] at hgt HX6
      have d2 : decide (m < z) = true := by simp; omega
      have kc1 : k + 1 ≤ cap := by omega
      have kn1 : (k : Int) < n := by omega
      clear hz hkn2
      go_wp2_with fail
      refine HX6.out.mono ?_
      rintro e w6 ⟨rfl, hs6⟩
      have HS6 := hide' (HS5.out.trans hs6)
      have HAW := hide' (awake_any _ (HT.out.stay HS6.out))
      clear hs6
      go_wp2_with fail
      refine HAW.out.mono ?_
      rintro e w7 ⟨rfl, hs7⟩
      have HS7 := hide' (HS6.out.trans hs7)
      clear hs7
      go_wp2
      go_ret
      exact ⟨rfl, HS7.out⟩

theorem fits_long (n cap : Nat) (a : Option Addr) (m : Int) (w : World) (hn : 100 < n) (hm : n ≤ maxLen) (hT : Tbl w) : Calls Tryd.prog 4 #[.slice a n cap, .int .i64 m] w (LawTrue w) := by
  have hA := hide' (awake_any w hT)
  have n2 : (100 : Int) < n := by omega
  have n3 : (n : Int) ≤ 9223372036854775807 := by unfold maxLen at hm; omega
  clear hT hm hn
  go_enter Tryd.func4, Tryd.ntmps4
  go_wp2_with fail
  refine hA.out.mono ?_
  rintro e w4 ⟨rfl, hs4⟩
  have HS4 := hide' hs4
  clear hs4
  go_wp2
  go_ret
  exact ⟨rfl, HS4.out⟩

theorem readable4 : ∀ t ∈ Tryd.f4.params.toList, Tryd.prog.readableRec t = true ∧ t < Tryd.prog.types.size := by
  rw [Tryd.params4]
  intro t ht
  have h : t = 26 ∨ t = 3 := by simpa using ht
  rcases h with rfl | rfl <;> exact ⟨by kernel_rfl, by decide +kernel⟩

set_option maxRecDepth 100000 in
theorem wideFits_lifted (os : Os) (started : os.Started) (H : Type) (enc : TypeId × Value → H) :
    ReturnsInHanded {} Tryd.checked os 4 .any (fun w args => (Rows.wideFitsSpec.pre enc Tryd.prog Tryd.f4 [] false w args ∧ laidMetH Tryd.prog [("betony/wide.rows", Rows.laid_betony_wide_rows)] w) ∧ sizedMet enc Tryd.prog Tryd.f4 (OpenSpec.ofChange Rows.wideFitsSpec) false w args) (Rows.wideFitsSpec.post enc Tryd.prog Tryd.f4 false true false false) := by
  refine returnsInHanded_of_change_and (C := Tryd.checked) (X := fun w _ => laidMetH Tryd.prog [("betony/wide.rows", Rows.laid_betony_wide_rows)] w) (fun _ _ _ hh h => h.of_heap hh) Tryd.own started (by kernel_rfl) Tryd.func4
    (ChangeSpec.witness_shaped (enc := enc) (C := Tryd.checked) (os := os) (X := fun w _ => laidMetH Tryd.prog [("betony/wide.rows", Rows.laid_betony_wide_rows)] w) false (World.doorLaid Tryd.prog 400 os) #[.slice none 0 0, .int .i64 0] 8 rfl (World.shaped_of_RefB (by kernel_rfl) (by kernel_rfl)) (by kernel_rfl) (by kernel_rfl) (by kernel_rfl) (door_met os _)) ?_
  intro W base args ds gs before hval0 hW _ _ hL _
  have hval : ∀ (j : Nat) t v, Tryd.f4.params[j]? = some t → args[j]? = some v → Value.okWide Tryd.prog W .any base t v := hval0
  have hW' := hW
  obtain ⟨p, q, hA0, hV, rfl, hfz, hnd⟩ := hW
  have hA : DataW.TrodAll enc Tryd.prog W 0 (fun _ => true) true Tryd.f4.params.toList args.toList ds p := hA0
  rw [Tryd.params4] at hA hval
  obtain ⟨v0, v1, d0, d1, p0, p1, rfl, rfl, rfl, h0, h1⟩ := trodAll_two hA
  have hT := tbl_of_laid hL
  obtain ⟨l, a, cap, ha⟩ := open_arg Tryd.underlying26 Tryd.underlying21 (by kernel_rfl) (okWide_slice Tryd.underlying26 (hval 0 26 v0 rfl rfl)) h0
  obtain ⟨m, rfl, rfl, rfl, wm⟩ := open_int Tryd.underlying3 (hval 1 3 v1 rfl rfl) h1
  have run : Calls Tryd.prog 4 #[v0, .int .i64 m] W (LawTrue W) := by
    by_cases hn : l.length ≤ 100
    · exact fits_any l cap a v0 m W ha hn hT
    · rw [ha.shape]
      exact fits_long _ cap a m W (by omega) (Nat.le_trans ha.lenLe ha.capLe) hT
  clear hA0 hval0 hval hA
  refine run.mono fun e W' hl => ?_
  have hb := hl.below
  obtain ⟨rfl, _⟩ := hl
  exact ⟨_, rfl, law_post Tryd.laidOut readable4 (by kernel_rfl) Tryd.underlying4 rfl hW' (fun _ => rfl) hb⟩

theorem wideFits_said : Rows.WideFitsSaid :=
  OpenClaim.holds_of_wide 4 Tryd.f4 rfl rfl rfl rfl rfl rfl rfl ⟨rfl, rfl, rfl, rfl, rfl⟩ rfl rfl rfl rfl rfl (by kernel_rfl) Tryd.func4 (by kernel_rfl)
    (of_decide_eq_true (by kernel_rfl)) (by unfold Func.isWrapper; first | (rw [if_pos (by decide +kernel)]; kernel_rfl) | (rw [if_neg (by decide +kernel)]; exact ⟨rfl, rfl⟩))
    (fun os started H enc _ => wideFits_lifted os started H enc)

theorem wideFits_holds : Rows.WideFitsCardSaid :=
  Claim7.holds_tied_plain_at .later [] [.data] true (true, "1dd5758dff86a9c9ec08edbdf2caae533aeac4100cf122b88b61b43550daa817") false
    wideFits_said (fun _ h => by cases h) (by kernel_rfl) (fun _ h => by cases h) wideFits_row_tie rfl ⟨rfl, rfl⟩ (by kernel_rfl) rfl
    (fun f fn hf hfn => by
      obtain rfl : f = 4 := Option.some.inj ((show Tryd.prog.funcNamed "betony/betonylaw03.WideFits" = some 4 by kernel_rfl).symm.trans hf) |>.symm
      obtain rfl : fn = Tryd.f4 := (Option.some.inj (Tryd.func4.symm.trans hfn)).symm
      exact ⟨by kernel_rfl, fun j t ht => by
        rw [Tryd.params4] at ht
        have hm : t ∈ [26, 3] := by simpa using Array.mem_of_getElem? ht
        have hall : ([26, 3].all fun u => !Tryd.prog.wantsStandIn u) = true := by kernel_rfl
        exact (show Tryd.prog.wantsStandIn t = false by simpa using List.all_eq_true.1 hall t hm)⟩)
    (by kernel_rfl)

end Go.Proofs.YtpiipkpjomdenaaDoor
