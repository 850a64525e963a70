/-
  For any runes the law WideJoin returns true, and the arguments read as they did; the tied card.
-/
import Derived.Test.YtpiipkpjomdenaaDoorE0
import Derived.Test.YtpiipkpjomdenaaDoorTie
import Derived.Test.YtpiipkpjomdenaaDoorCards
namespace Go.Proofs.YtpiipkpjomdenaaDoor
open Go.ChangeShapes Go.WideShapes Go.ChangeAt Go.RowKit

theorem info21 : (Tryd.prog.info? 21).map (fun i => (i.zero, i.size, i.bytes)) = some (some (.int .i32 0), 1, 4) := by kernel_rfl

theorem sum_all (l : List Int) {k : Nat} (h : IsFit l (sumC l) k) : k = l.length := by
  rcases h.2.2 with h1 | h1
  · exact h1
  · exfalso
    have h2 := sumC_mono l (k + 1) (max (k + 1) l.length) (by omega)
    rw [List.take_of_length_le (l := l) (i := max (k + 1) l.length) (by omega)] at h2
    omega

/-- An own row that was laid behind a world. -/
structure Laid (w wr : World) (l : List Int) (v : Value) (g cap : Nat) (a : Option Addr) : Prop where
  arg : IArg .i32 wr v l a cap
  stay : Stay (fun _ => False) w wr

theorem stay_past {B : Nat} {w w1 w2 : World} (h : Stay (fun _ => False) w w1) (hs : Stay (fun i => B ≤ i) w1 w2) (hB : w.heap.size ≤ B) : Stay (fun _ => False) w w2 :=
  ⟨hs.os.trans h.os, hs.tape.trans h.tape, hs.output.trans h.output, Nat.le_trans h.size hs.size, fun k hk _ => (hs.block k (Nat.lt_of_lt_of_le hk h.size) (by omega)).trans (h.block k hk (fun h => h))⟩

set_option maxHeartbeats 4000000 in
set_option maxRecDepth 100000 in
theorem join_any (la lb : List Int) (ca cb : Nat) (a b : Option Addr) (va vb : Value) (w : World) (hA : IArg .i32 w va la a ca) (hB : IArg .i32 w vb lb b cb) (h1 : la.length ≤ 100) (h2 : lb.length ≤ 100) (hT : Tbl w) : Calls Tryd.prog 5 #[va, vb] w (LawTrue w) := by
  have sa := hA.shape
  have sb := hB.shape
  obtain ⟨na, hna⟩ : ∃ n, n = la.length := ⟨_, rfl⟩
  obtain ⟨nb, hnb⟩ : ∃ n, n = lb.length := ⟨_, rfl⟩
  have HNA := hide' hna
  have HNB := hide' hnb
  rw [← hna] at sa h1
  rw [← hnb] at sb h2
  subst sa sb
  have HA := hide' hA
  have HB := hide' hB
  have HT := hide' hT
  have a1 : (na : Int) ≤ 100 := by omega
  have b1 : (nb : Int) ≤ 100 := by omega
  clear hA hB hT hna hnb
  have HLA : Hid (la.length ≤ 100) := by rw [← HNA.out]; exact h1
  have HLB : Hid (lb.length ≤ 100) := by rw [← HNB.out]; exact h2
  -- the first append
  have HSA : Hid (Stay (fun _ => False) w (w.alloc (.cells #[] 21))) := (Stay.refl _ w).alloc _
  have HR1 := hide' (HA.out.stay0 HSA.out).row
  have HOW := hide' (World.ownsRow_made (e := 21) (size := 1) w #[] 0 (Nat.le_refl _) (by unfold maxLen; omega) rfl)
  have hn1 : 0 + (la.map (Value.int .i32 ·)).length ≤ 1000000 := by have := HLA.out; rw [List.length_map]; omega
  have HNE : Hid (∀ k, Value.ownBlock (.slice (some ⟨w.heap.size, 0, none⟩) 0 0) = some k → w.heap.size ≤ k) := fun k hk => (HOW.out.lt k hk).1
  go_enter Tryd.func5, Tryd.ntmps5
  go_wp2_with (
    at_builtin
    refine appL (fun i => w.heap.size ≤ i) rfl _ _ 26 rfl Tryd.underlying26 info21 rfl (by decide) HOW.out rfl HR1.out rfl (one_ints _ _) hn1 (by simp) HNE.out ?_
    intro t4 w4 ho4 hs4
    have HO4 := hide' ho4
    have HSB := hide' (stay_past HSA.out hs4 (Nat.le_refl _))
    have HR2 := hide' (HB.out.stay0 HSB.out).row
    have hn2 : 0 + (la.map (Value.int .i32 ·)).length + (lb.map (Value.int .i32 ·)).length ≤ 1000000 := (by have := HLA.out; have := HLB.out; rw [List.length_map, List.length_map]; omega)
    have HNE2 : Hid (∀ k, Value.ownBlock t4 = some k → w.heap.size ≤ k) := fun k hk => (ho4.lt k hk).1
    have hbs : w.heap.size ≤ w4.heap.size := (by have := hs4.size; simp at this; omega)
    clear ho4 hs4
    go_wp2_with (
      at_builtin
      refine appL (fun i => w.heap.size ≤ i) rfl _ _ 26 rfl Tryd.underlying26 info21 rfl (by decide) HO4.out rfl HR2.out rfl (one_ints _ _) hn2 hbs HNE2.out ?_
      intro t5 w5 ho5 hs5
      have HO5 := hide' ho5
      have HS5 := hide' (stay_past HSB.out hs5 (Nat.le_refl _))
      have hz5 : w.heap.size ≤ w5.heap.size := HS5.out.size
      have HSA5 : Hid (Stay (fun _ => False) w5 (w5.alloc (.cells #[] 21))) := (Stay.refl _ w5).alloc _
      have HSC : Hid (Stay (fun _ => False) w (w5.alloc (.cells #[] 21))) := HS5.out.trans HSA5.out
      have HR6 := hide' (HB.out.stay0 HSC.out).row
      have HOW5 := hide' (World.ownsRow_made (e := 21) (size := 1) w5 #[] 0 (Nat.le_refl _) (by unfold maxLen; omega) rfl)
      have hn6 : 0 + (lb.map (Value.int .i32 ·)).length ≤ 1000000 := (by have := HLB.out; rw [List.length_map]; omega)
      have HNE6 : Hid (∀ k, Value.ownBlock (.slice (some ⟨w5.heap.size, 0, none⟩) 0 0) = some k → w5.heap.size ≤ k) := fun k hk => (HOW5.out.lt k hk).1
      clear ho5 hs5
      go_wp2_with (
        at_builtin
        refine appL (fun i => w5.heap.size ≤ i) rfl _ _ 26 rfl Tryd.underlying26 info21 rfl (by decide) HOW5.out rfl HR6.out rfl (one_ints _ _) hn6 (by simp) HNE6.out ?_
        intro t6 w6 ho6 hs6
        have HO6 := hide' ho6
        have HS56 : Hid (Stay (fun i => w5.heap.size ≤ i) w5 w6) := ((Stay.refl _ w5).alloc _).trans hs6
        have HSD := hide' (stay_past HSC.out hs6 hz5)
        have HR7 := hide' (HA.out.stay0 HSD.out).row
        have hn7 : 0 + (lb.map (Value.int .i32 ·)).length + (la.map (Value.int .i32 ·)).length ≤ 1000000 := (by have := HLA.out; have := HLB.out; rw [List.length_map, List.length_map]; omega)
        have HNE7 : Hid (∀ k, Value.ownBlock t6 = some k → w5.heap.size ≤ k) := fun k hk => (ho6.lt k hk).1
        have hbs6 : w5.heap.size ≤ w6.heap.size := HS56.out.size
        clear ho6 hs6
        go_wp2_with (
          at_builtin
          refine appL (fun i => w5.heap.size ≤ i) rfl _ _ 26 rfl Tryd.underlying26 info21 rfl (by decide) HO6.out rfl HR7.out rfl (one_ints _ _) hn7 hbs6 HNE7.out ?_
          intro t7 w7 ho7 hs7
          have HO7 := hide' ho7
          have HS57 := hide' (HS56.out.trans hs7)
          have HSE := hide' (stay_past HSD.out hs7 hz5)
          clear ho7 hs7
          go_wp2_with fail))))
  have HWA := hide' HA.out.wf
  have HWB := hide' HB.out.wf
  have hx5 : w7.ownsRow w.heap.size 21 1 t5 (la ++ lb).length ((la ++ lb).map (Value.int .i32 ·)) := by
    have := HS57.out.owns HO5.out (fun k hk h => by have := (HO5.out.lt k hk).2; omega)
    rwa [List.nil_append, ← List.map_append, Nat.zero_add, List.length_map, List.length_map, ← List.length_append] at this
  have hy7 : w7.ownsRow w5.heap.size 21 1 t7 (lb ++ la).length ((lb ++ la).map (Value.int .i32 ·)) := by
    have := HO7.out
    rwa [List.nil_append, ← List.map_append, Nat.zero_add, List.length_map, List.length_map, ← List.length_append] at this
  obtain ⟨ax, cx, hx, _⟩ := owned_arg hx5 (fun x h => (List.mem_append.1 h).elim (HWA.out x) (HWB.out x))
  obtain ⟨ay, cy, hy, _⟩ := owned_arg hy7 (fun x h => (List.mem_append.1 h).elim (HWB.out x) (HWA.out x))
  have HX := hide' hx
  have HY := hide' hy
  have HXL : Hid ((la ++ lb).length ≤ 900) := by have := HLA.out; have := HLB.out; show _ ≤ _; rw [List.length_append]; omega
  have HYL : Hid ((lb ++ la).length ≤ 900) := by have := HLA.out; have := HLB.out; show _ ≤ _; rw [List.length_append]; omega
  clear hx5 hy7 hx hy
  have HTA := hide' (text_arg (HA.out.stay0 HSE.out) (HT.out.stay HSE.out) (by have := HLA.out; omega))
  obtain ⟨pa, pa1⟩ := sumC_bd la
  obtain ⟨pb, pb1⟩ := sumC_bd lb
  have hsx := sumC_append la lb
  have hsy := sumC_append lb la
  have HSS : Hid (sumC (lb ++ la) = sumC la + sumC lb) := by show _ = _; omega
  have HSX := hide' hsx
  have qa : sumC la ≤ 200 := by have := HLA.out; omega
  have qb : sumC lb ≤ 200 := by have := HLB.out; omega
  have HTB : Hid (∀ w1, Stay (fun _ => False) w7 w1 → Calls Tryd.prog 10 #[.slice b nb cb] w1 (Gives (.int .i64 (sumC lb)) w1)) := fun w1 h => text_arg (HB.out.stay0 (HSE.out.trans h)) (HT.out.stay (HSE.out.trans h)) (by have := HLB.out; omega)
  have HTX : Hid (∀ w1, Stay (fun _ => False) w7 w1 → Calls Tryd.prog 10 #[t5] w1 (Gives (.int .i64 (sumC la + sumC lb)) w1)) := fun w1 h => by rw [← HSX.out]; exact text_arg (HX.out.stay0 h) (HT.out.stay (HSE.out.trans h)) (by have := HXL.out; omega)
  have HTY : Hid (∀ w1, Stay (fun _ => False) w7 w1 → Calls Tryd.prog 10 #[t7] w1 (Gives (.int .i64 (sumC la + sumC lb)) w1)) := fun w1 h => by rw [← HSS.out]; exact text_arg (HY.out.stay0 h) (HT.out.stay (HSE.out.trans h)) (by have := HYL.out; omega)
  have HFX : Hid (∀ w1, Stay (fun _ => False) w7 w1 → Calls Tryd.prog 9 #[t5, .int .i64 (sumC la + sumC lb)] w1 (FitE (la ++ lb) (sumC la + sumC lb) w1)) := fun w1 h => fit_arg _ (HX.out.stay0 h) (HT.out.stay (HSE.out.trans h)) (by have := HXL.out; omega)
  have HFE : Hid (∀ k, IsFit (la ++ lb) (sumC la + sumC lb) k → k = (la ++ lb).length) := fun k h => by rw [← HSX.out] at h; exact sum_all _ h
  clear hsx hsy
  obtain ⟨xa, hxa⟩ : ∃ x, x = sumC la := ⟨_, rfl⟩
  obtain ⟨xb, hxb⟩ : ∃ x, x = sumC lb := ⟨_, rfl⟩
  rw [← hxa] at HTA HTX HTY HFX HFE pa qa
  rw [← hxb] at HTB HTX HTY HFX HFE pb qb
  clear hxa hxb pa1 pb1 HSS HSX
  have HXS := hide' HX.out.shape
  rw [HXS.out] at HTX HFX
  refine HTA.out.mono ?_
  rintro e w8 ⟨rfl, hs8⟩
  have HS8 := hide' hs8
  clear hs8
  go_wp2_with fail
  refine (HTB.out _ HS8.out).mono ?_
  rintro e w9 ⟨rfl, hs9⟩
  have HS9 := hide' (HS8.out.trans hs9)
  clear hs9
  obtain ⟨nx, hnx⟩ : ∃ n, n = (la ++ lb).length := ⟨_, rfl⟩
  rw [← hnx] at HTX HFX HFE HXS HXL
  have hx5 := HXS.out
  have nx9 : (nx : Int) ≤ 900 := by have := HXL.out; omega
  clear hnx HX HO5 HXS HXL
  subst hx5
  go_wp2_with fail
  refine (HTX.out _ HS9.out).mono ?_
  rintro e w10 ⟨rfl, hs10⟩
  have HS10 := hide' (HS9.out.trans hs10)
  clear hs10
  go_wp2_with fail
  refine (HTY.out _ HS10.out).mono ?_
  rintro e w11 ⟨rfl, hs11⟩
  have HS11 := hide' (HS10.out.trans hs11)
  clear hs11
  go_wp2_with fail
  refine (HFX.out _ HS11.out).mono ?_
  rintro e w12 ⟨k, rfl, hf, hs12⟩
  obtain rfl : k = nx := HFE.out k hf
  have HS12 := hide' (HSE.out.trans (HS11.out.trans hs12))
  have HAW := hide' (awake_any _ (HT.out.stay HS12.out))
  clear hf hs12
  go_wp2_with fail
  refine HAW.out.mono ?_
  rintro e w13 ⟨rfl, hs13⟩
  have HS13 := hide' (HS12.out.trans hs13)
  clear hs13
  go_wp2
  go_ret
  exact ⟨rfl, HS13.out⟩

theorem join_long (na nb ca cb : Nat) (a b : Option Addr) (w : World) (hn : 100 < na ∨ 100 < nb) (ha : na ≤ maxLen) (hb : nb ≤ maxLen) (hT : Tbl w) : Calls Tryd.prog 5 #[.slice a na ca, .slice b nb cb] w (LawTrue w) := by
  have hA := hide' (awake_any w hT)
  have n3 : (na : Int) ≤ 9223372036854775807 := by unfold maxLen at ha; omega
  have n4 : (nb : Int) ≤ 9223372036854775807 := by unfold maxLen at hb; omega
  have D : Hid (decide (100 < (na : Int)) = true ∨ decide (100 < (na : Int)) = false ∧ decide (100 < (nb : Int)) = true) := by
    by_cases h : 100 < na
    · left; simp; omega
    · right; simp; omega
  clear hT ha hb hn
  rcases D.out with d1 | ⟨d1, d2⟩
  all_goals
    go_enter Tryd.func5, Tryd.ntmps5
    go_wp2_with fail
    refine hA.out.mono ?_
    rintro e w4 ⟨rfl, hs4⟩
    have HS4 := hide' hs4
    clear hs4
    go_wp2
    go_ret
    exact ⟨rfl, HS4.out⟩

theorem readable5 : ∀ t ∈ Tryd.f5.params.toList, Tryd.prog.readableRec t = true ∧ t < Tryd.prog.types.size := by
  rw [Tryd.params5]
  intro t ht
  have h : t = 26 := by simpa using ht
  rcases h with rfl <;> exact ⟨by kernel_rfl, by decide +kernel⟩

set_option maxRecDepth 100000 in
theorem wideJoin_lifted (os : Os) (started : os.Started) (H : Type) (enc : TypeId × Value → H) :
    ReturnsInHanded {} Tryd.checked os 5 .any (fun w args => (Rows.wideJoinSpec.pre enc Tryd.prog Tryd.f5 [] false w args ∧ laidMetH Tryd.prog [("betony/wide.rows", Rows.laid_betony_wide_rows)] w) ∧ sizedMet enc Tryd.prog Tryd.f5 (OpenSpec.ofChange Rows.wideJoinSpec) false w args) (Rows.wideJoinSpec.post enc Tryd.prog Tryd.f5 false true false false) := by
  refine returnsInHanded_of_change_and (C := Tryd.checked) (X := fun w _ => laidMetH Tryd.prog [("betony/wide.rows", Rows.laid_betony_wide_rows)] w) (fun _ _ _ hh h => h.of_heap hh) Tryd.own started (by kernel_rfl) Tryd.func5
    (ChangeSpec.witness_shaped (enc := enc) (C := Tryd.checked) (os := os) (X := fun w _ => laidMetH Tryd.prog [("betony/wide.rows", Rows.laid_betony_wide_rows)] w) false (World.doorLaid Tryd.prog 400 os) #[.slice none 0 0, .slice none 0 0] 8 rfl (World.shaped_of_RefB (by kernel_rfl) (by kernel_rfl)) (by kernel_rfl) (by kernel_rfl) (by kernel_rfl) (door_met os _)) ?_
  intro W base args ds gs before hval0 hW _ _ hL _
  have hval : ∀ (j : Nat) t v, Tryd.f5.params[j]? = some t → args[j]? = some v → Value.okWide Tryd.prog W .any base t v := hval0
  have hW' := hW
  obtain ⟨p, q, hA0, hV, rfl, hfz, hnd⟩ := hW
  have hA : DataW.TrodAll enc Tryd.prog W 0 (fun _ => true) true Tryd.f5.params.toList args.toList ds p := hA0
  rw [Tryd.params5] at hA hval
  obtain ⟨v0, v1, d0, d1, p0, p1, rfl, rfl, rfl, h0, h1⟩ := trodAll_two hA
  have hT := tbl_of_laid hL
  obtain ⟨la, a, ca, ha⟩ := open_arg Tryd.underlying26 Tryd.underlying21 (by kernel_rfl) (okWide_slice Tryd.underlying26 (hval 0 26 v0 rfl rfl)) h0
  obtain ⟨lb, b, cb, hb⟩ := open_arg Tryd.underlying26 Tryd.underlying21 (by kernel_rfl) (okWide_slice Tryd.underlying26 (hval 1 26 v1 rfl rfl)) h1
  have run : Calls Tryd.prog 5 #[v0, v1] W (LawTrue W) := by
    by_cases hn : la.length ≤ 100 ∧ lb.length ≤ 100
    · exact join_any la lb ca cb a b v0 v1 W ha hb hn.1 hn.2 hT
    · rw [ha.shape, hb.shape]
      exact join_long _ _ ca cb a b W (by omega) (Nat.le_trans ha.lenLe ha.capLe) (Nat.le_trans hb.lenLe hb.capLe) hT
  clear hA0 hval0 hval hA
  refine run.mono fun e W' hl => ?_
  have hb := hl.below
  obtain ⟨rfl, _⟩ := hl
  exact ⟨_, rfl, law_post Tryd.laidOut readable5 (by kernel_rfl) Tryd.underlying4 rfl hW' (fun _ => rfl) hb⟩

theorem wideJoin_said : Rows.WideJoinSaid :=
  OpenClaim.holds_of_wide 5 Tryd.f5 rfl rfl rfl rfl rfl rfl rfl ⟨rfl, rfl, rfl, rfl, rfl⟩ rfl rfl rfl rfl rfl (by kernel_rfl) Tryd.func5 (by kernel_rfl)
    (of_decide_eq_true (by kernel_rfl)) (by unfold Func.isWrapper; first | (rw [if_pos (by decide +kernel)]; kernel_rfl) | (rw [if_neg (by decide +kernel)]; exact ⟨rfl, rfl⟩))
    (fun os started H enc _ => wideJoin_lifted os started H enc)

theorem wideJoin_holds : Rows.WideJoinCardSaid :=
  Claim7.holds_tied_plain_at .later [] [.data] true (true, "1dd5758dff86a9c9ec08edbdf2caae533aeac4100cf122b88b61b43550daa817") false
    wideJoin_said (fun _ h => by cases h) (by kernel_rfl) (fun _ h => by cases h) wideJoin_row_tie rfl ⟨rfl, rfl⟩ (by kernel_rfl) rfl
    (fun f fn hf hfn => by
      obtain rfl : f = 5 := Option.some.inj ((show Tryd.prog.funcNamed "betony/betonylaw03.WideJoin" = some 5 by kernel_rfl).symm.trans hf) |>.symm
      obtain rfl : fn = Tryd.f5 := (Option.some.inj (Tryd.func5.symm.trans hfn)).symm
      exact ⟨by kernel_rfl, fun j t ht => by
        rw [Tryd.params5] at ht
        have hm : t ∈ [26, 26] := by simpa using Array.mem_of_getElem? ht
        have hall : ([26, 26].all fun u => !Tryd.prog.wantsStandIn u) = true := by kernel_rfl
        exact (show Tryd.prog.wantsStandIn t = false by simpa using List.all_eq_true.1 hall t hm)⟩)
    (by kernel_rfl)

end Go.Proofs.YtpiipkpjomdenaaDoor
