/-
  For every two lists of bytes the law UtfJoin returns true, and the arguments read as they did; the tied card.
-/
import Derived.Test.YtofecgjlghfnlaaDoorE5
namespace Go.Proofs.YtofecgjlghfnlaaDoor
open Go.ChangeShapes Go.WideShapes Go.ChangeAt Go.RowKit

theorem join_long (na ca nb cb : Nat) (a b : Option Addr) (w : World) (hn : 500 < na ∨ 500 < nb) (hma : na ≤ maxLen) (hmb : nb ≤ maxLen) (hT : Tbl w) : Calls Tryd.prog 6 #[.slice a na ca, .slice b nb cb] w (LawTrue w) := by
  have hA := hide' (awake_any w hT (tbl_size hT))
  have n3 : (na : Int) ≤ 9223372036854775807 := by unfold maxLen at hma; omega
  have n4 : (nb : Int) ≤ 9223372036854775807 := by unfold maxLen at hmb; omega
  by_cases h1 : 500 < na
  · have d1 : decide ((500 : Int) < na) = true := by simp; omega
    clear hT hma hmb hn
    go_enter Tryd.func6, Tryd.ntmps6
    go_wp2_with fail
    refine hA.out.mono ?_
    rintro e w4 ⟨rfl, hs4⟩
    have HS4 := hide' hs4
    clear hs4
    go_wp2
    go_ret
    exact ⟨rfl, HS4.out⟩
  · have d1 : decide ((500 : Int) < na) = false := by simp; omega
    have d2 : decide ((500 : Int) < nb) = true := by simp; omega
    clear hT hma hmb hn
    go_enter Tryd.func6, Tryd.ntmps6
    go_wp2_with fail
    refine hA.out.mono ?_
    rintro e w4 ⟨rfl, hs4⟩
    have HS4 := hide' hs4
    clear hs4
    go_wp2
    go_ret
    exact ⟨rfl, HS4.out⟩

set_option maxHeartbeats 4000000 in
set_option maxRecDepth 100000 in
theorem join_any (la lb : List Nat) (ca cb : Nat) (a b : Option Addr) (va vb : Value) (w : World) (ha : BArg w va la a ca) (hb : BArg w vb lb b cb) (hla : la.length ≤ 500) (hlb : lb.length ≤ 500) (hT : Tbl w) : Calls Tryd.prog 6 #[va, vb] w (LawTrue w) := by
  have HA := hide' ha
  have HB := hide' hb
  have HT := hide' hT
  have H0 := hide' (tbl_size hT)
  have hW := refWaits_arg ha (by omega)
  unfold WaitsE at hW
  have HLT := hide' (show ∀ x ∈ la ++ lb, x < 256 from fun x hx => by
    rcases List.mem_append.1 hx with h | h
    · exact barg_lt ha x h
    · exact barg_lt hb x h)
  obtain ⟨na, hna⟩ : ∃ n, n = la.length := ⟨_, rfl⟩
  obtain ⟨nb, hnb⟩ : ∃ n, n = lb.length := ⟨_, rfl⟩
  obtain ⟨wt, hwt⟩ : ∃ x, x = waitsOf la := ⟨_, rfl⟩
  have hw3 : wt ≤ 3 := by rw [hwt]; exact right_len (foldP_right _ _ right_nil)
  have ea := ha.shape
  have eb := hb.shape
  rw [← hwt] at hW
  rw [← hna] at ea hla
  rw [← hnb] at eb hlb
  have HNA := hide' hna
  have HNB := hide' hnb
  have HWT := hide' hwt
  have HW := hide' hW
  have HLA := hide' hla
  have HLB := hide' hlb
  subst ea eb
  have q1 : (na : Int) ≤ 500 := by omega
  have q2 : (nb : Int) ≤ 500 := by omega
  have d1 : decide ((500 : Int) < na) = false := by simp; omega
  have d2 : decide ((500 : Int) < nb) = false := by simp; omega
  have q3 : (wt : Int) ≤ 3 := by omega
  have q4 : (0 : Int) ≤ wt := by omega
  clear ha hb hT hW hna hnb hwt hla hlb
  by_cases hz : 0 < wt
  · have d3 : decide ((0 : Int) < wt) = true := by simp; omega
    go_enter Tryd.func6, Tryd.ntmps6
    go_wp2_with fail
    refine HW.out.mono ?_
    rintro e w1 ⟨rfl, hs1⟩
    have HS1 := hide' hs1
    have HAW := hide' (awake_any w1 (hs1.tbl HT.out (fun h => h) H0.out) (by have := H0.out; have := hs1.size; omega))
    clear hs1
    go_wp2_with fail
    refine HAW.out.mono ?_
    rintro e w4 ⟨rfl, hs4⟩
    have HS4 := hide' (HS1.out.trans hs4)
    clear hs4
    go_wp2
    go_ret
    exact ⟨rfl, HS4.out⟩
  · have d3 : decide ((0 : Int) < wt) = false := by simp; omega
    have HJ : Hid (runes (la ++ lb) = runes la ++ runes lb) := runes_join (by have := HWT.out; omega) lb
    have HRL : Hid ((runes la).length ≤ 2000 ∧ (runes lb).length ≤ 2000) := by
      have h1 : (runes la).length ≤ 2 * la.length + 1 := by unfold runes; have := outP_len [] la; have := endP_len (foldP [] la); rw [List.length_append]; omega
      have h2 : (runes lb).length ≤ 2 * lb.length + 1 := by unfold runes; have := outP_len [] lb; have := endP_len (foldP [] lb); rw [List.length_append]; omega
      have := HLA.out
      have := HLB.out
      have := HNA.out
      have := HNB.out
      exact ⟨by omega, by omega⟩
    go_enter Tryd.func6, Tryd.ntmps6
    go_wp2_with fail
    refine HW.out.mono ?_
    rintro e w1 ⟨rfl, hs1⟩
    have HS1 := hide' hs1
    have HC1 := hide' (all_arg (HA.out.stay hs1) (hs1.tbl HT.out (fun h => h) H0.out) (by have := HLA.out; have := HNA.out; omega))
    clear hs1
    go_wp2_with fail
    refine HC1.out.mono ?_
    rintro e w2 ⟨t2, rfl, ho2, hs2⟩
    have HO2 := hide' ho2
    have HS2 := hide' (HS1.out.trans hs2)
    have HC2 := hide' (all_arg (HB.out.stay HS2.out) (HS2.out.tbl HT.out (fun h => h) H0.out) (by have := HLB.out; have := HNB.out; omega))
    clear ho2 hs2
    go_wp2_with fail
    refine HC2.out.mono ?_
    rintro e w3 ⟨t3, rfl, ho3, hs3⟩
    have HO3 := hide' ho3
    have HO2' := hide' (hs3.owns HO2.out (fun _ _ h => h))
    have HS3 := hide' (HS2.out.trans hs3)
    have HZ3 : Hid (w.heap.size ≤ w3.heap.size) := HS3.out.size
    clear ho3 hs3
    -- bytes behind bytes
    have HSA : Hid (Stay (fun _ => False) w (w3.alloc (.cells #[] 5))) := HS3.out.alloc _
    have HR1 := hide' (HA.out.stay HSA.out).row
    have HOW := hide' (World.ownsRow_made (e := 5) (size := 1) w3 #[] 0 (Nat.le_refl _) (by unfold maxLen; omega) rfl)
    have hn1 : 0 + (la.map bv).length ≤ 1000000 := by have := HLA.out; have := HNA.out; rw [List.length_map]; omega
    have HNE : Hid (∀ k, Value.ownBlock (.slice (some ⟨w3.heap.size, 0, none⟩) 0 0) = some k → w3.heap.size ≤ k) := fun k hk => (HOW.out.lt k hk).1
    go_wp2_with (at_builtin; refine appL (fun i => w3.heap.size ≤ i) rfl _ _ 22 rfl Tryd.underlying22 info5 rfl (by decide) HOW.out rfl HR1.out rfl (one_bytes _) hn1 (by simp) HNE.out ?_; intro t4 w4 ho4 hs4; have HO4 := hide' ho4; have HSB := hide' (HSA.out.past hs4 (fun i hi h => by have := HZ3.out; omega)); have HS4 := hide' hs4; have HR2 := hide' (HB.out.stay HSB.out).row; have hn2 : 0 + (la.map bv).length + (lb.map bv).length ≤ 1000000 := (by have := HLA.out; have := HNA.out; have := HLB.out; have := HNB.out; rw [List.length_map, List.length_map]; omega); have HNE2 : Hid (∀ k, Value.ownBlock t4 = some k → w3.heap.size ≤ k) := fun k hk => (ho4.lt k hk).1; have hbs : w3.heap.size ≤ w4.heap.size := (by have := hs4.size; simp at this; omega); clear ho4 hs4; go_wp2_with (at_builtin; refine appL (fun i => w3.heap.size ≤ i) rfl _ _ 22 rfl Tryd.underlying22 info5 rfl (by decide) HO4.out rfl HR2.out rfl (one_bytes _) hn2 hbs HNE2.out ?_; intro t5 w5 ho5 hs5; have HO5 := hide' ho5; have HS5 := hide' hs5; clear ho5 hs5; go_wp2_with fail))
    have HSC : Hid (Stay (fun _ => False) w w5) := HSB.out.past HS5.out (fun i hi h => by have := HZ3.out; omega)
    have HSD : Hid (Stay (fun i => w3.heap.size ≤ i) w3 w5) := ((Stay.refl _ w3).alloc _).trans (HS4.out.trans HS5.out)
    have ho5' : w5.ownsRow w3.heap.size 5 1 t5 (la ++ lb).length ((la ++ lb).map bv) := by
      have := HO5.out
      rwa [List.nil_append, ← List.map_append, Nat.zero_add, List.length_map, List.length_map, ← List.length_append] at this
    obtain ⟨a5, c5, hb5⟩ := owned_arg ho5' HLT.out
    have HC5 := hide' (all_arg hb5 (HSC.out.tbl HT.out (fun h => h) H0.out) (by have := HLA.out; have := HNA.out; have := HLB.out; have := HNB.out; rw [List.length_append]; omega))
    have HO25 := hide' (HSD.out.owns HO2'.out (fun k hk h => by have := (HO2'.out.lt k hk).2; omega))
    have HO35 := hide' (HSD.out.owns HO3.out (fun k hk h => by have := (HO3.out.lt k hk).2; omega))
    clear ho5' hb5
    refine HC5.out.mono ?_
    rintro e w6 ⟨t6, rfl, ho6, hs6⟩
    have HO6 := hide' ho6
    have HS6 := hide' (HSC.out.trans hs6)
    have HO26 := hide' (hs6.owns HO25.out (fun _ _ h => h))
    have HO36 := hide' (hs6.owns HO35.out (fun _ _ h => h))
    have HZ6 : Hid (w.heap.size ≤ w6.heap.size) := HS6.out.size
    clear ho6 hs6
    have HSX : Hid (Stay (fun _ => False) w6 (w6.alloc (.cells #[] 21))) := (Stay.refl _ _).alloc _
    have HR7 := hide' (isRow_of_owns (HSX.out.owns HO26.out (fun _ _ h => h)))
    have HOW7 := hide' (World.ownsRow_made (e := 21) (size := 1) w6 #[] 0 (Nat.le_refl _) (by unfold maxLen; omega) rfl)
    have hn7 : 0 + ((runes la).map rv).length ≤ 1000000 := by have := HRL.out; rw [List.length_map]; omega
    have HNE7 : Hid (∀ k, Value.ownBlock (.slice (some ⟨w6.heap.size, 0, none⟩) 0 0) = some k → w6.heap.size ≤ k) := fun k hk => (HOW7.out.lt k hk).1
    go_wp2_with (at_builtin; refine appL (fun i => w6.heap.size ≤ i) rfl _ _ 25 rfl Tryd.underlying25 info21 rfl (by decide) HOW7.out rfl HR7.out rfl (one_runes _) hn7 (by simp) HNE7.out ?_; intro t7 w7 ho7 hs7; have HO7 := hide' ho7; have HS7 : Hid (Stay (fun i => w6.heap.size ≤ i) w6 w7) := ((Stay.refl _ w6).alloc _).trans hs7; have HR8 := hide' (isRow_of_owns (HS7.out.owns HO36.out (fun k hk h => by have := (HO36.out.lt k hk).2; omega))); have hn8 : 0 + ((runes la).map rv).length + ((runes lb).map rv).length ≤ 1000000 := (by have := HRL.out; rw [List.length_map, List.length_map]; omega); have HNE8 : Hid (∀ k, Value.ownBlock t7 = some k → w6.heap.size ≤ k) := fun k hk => (ho7.lt k hk).1; have hbs7 : w6.heap.size ≤ w7.heap.size := HS7.out.size; clear ho7 hs7; go_wp2_with (at_builtin; refine appL (fun i => w6.heap.size ≤ i) rfl _ _ 25 rfl Tryd.underlying25 info21 rfl (by decide) HO7.out rfl HR8.out rfl (one_runes _) hn8 hbs7 HNE8.out ?_; intro t8 w8 ho8 hs8; have HO8 := hide' ho8; have HS8 := hide' (HS7.out.trans hs8); clear ho8 hs8; go_wp2_with fail))
    have ho8' : w8.ownsRow w6.heap.size 21 1 t8 (runes (la ++ lb)).length ((runes (la ++ lb)).map rv) := by
      have := HO8.out
      rw [HJ.out]
      rwa [List.nil_append, ← List.map_append, Nat.zero_add, List.length_map, List.length_map, ← List.length_append] at this
    have HO68 := hide' (HS8.out.owns HO6.out (fun k hk h => by have := (HO6.out.lt k hk).2; omega))
    have HSE : Hid (Stay (fun _ => False) w w8) := HS6.out.past HS8.out (fun i hi h => by have := HZ6.out; omega)
    have HSM := hide' (same_true (runes (la ++ lb)) _ _ t6 t8 w8 (by have := HRL.out; rw [HJ.out, List.length_append]; omega) HO68.out ho8')
    clear ho8'
    refine HSM.out.mono ?_
    rintro e w9 ⟨rfl, hs9⟩
    have HSF := hide' (HSE.out.trans hs9)
    have HAW := hide' (awake_any w9 (HSF.out.tbl HT.out (fun h => h) H0.out) (by have := H0.out; have := HSF.out.size; omega))
    clear hs9
    go_wp2_with fail
    refine HAW.out.mono ?_
    rintro e w10 ⟨rfl, hs10⟩
    have HSG := hide' (HSF.out.trans hs10)
    clear hs10
    go_wp2
    go_ret
    exact ⟨rfl, HSG.out⟩

theorem readable6 : ∀ t ∈ Tryd.f6.params.toList, Tryd.prog.readableRec t = true ∧ t < Tryd.prog.types.size := by
  rw [Tryd.params6]
  intro t ht
  have h : t = 22 := by simpa using ht
  rcases h with rfl <;> exact ⟨by kernel_rfl, by decide +kernel⟩

set_option maxRecDepth 100000 in
theorem utfJoin_lifted (os : Os) (started : os.Started) (H : Type) (enc : TypeId × Value → H) :
    ReturnsInHanded {} Tryd.checked os 6 .any (fun w args => (Rows.utfJoinSpec.pre enc Tryd.prog Tryd.f6 [] false w args ∧ laidMetH Tryd.prog [("betony/utf.forms", Rows.laid_betony_utf_forms)] w) ∧ sizedMet enc Tryd.prog Tryd.f6 (OpenSpec.ofChange Rows.utfJoinSpec) false w args) (Rows.utfJoinSpec.post enc Tryd.prog Tryd.f6 false true false false) := by
  refine returnsInHanded_of_change_and (C := Tryd.checked) (X := fun w _ => laidMetH Tryd.prog [("betony/utf.forms", Rows.laid_betony_utf_forms)] w) (fun _ _ _ hh h => h.of_heap hh) Tryd.own started (by kernel_rfl) Tryd.func6
    (ChangeSpec.witness_shaped (enc := enc) (C := Tryd.checked) (os := os) (X := fun w _ => laidMetH Tryd.prog [("betony/utf.forms", Rows.laid_betony_utf_forms)] w) false (World.doorLaid Tryd.prog 400 os) #[.slice none 0 0, .slice none 0 0] 8 rfl (World.shaped_of_RefB (by kernel_rfl) (by kernel_rfl)) (by kernel_rfl) (by kernel_rfl) (by kernel_rfl) (door_met os _)) ?_
  intro W base args ds gs before hval0 hW _ _ hL _
  have hval : ∀ (j : Nat) t v, Tryd.f6.params[j]? = some t → args[j]? = some v → Value.okWide Tryd.prog W .any base t v := hval0
  have hW' := hW
  obtain ⟨p, q, hA0, hV, rfl, hfz, hnd⟩ := hW
  have hA : DataW.TrodAll enc Tryd.prog W 0 (fun _ => true) true Tryd.f6.params.toList args.toList ds p := hA0
  rw [Tryd.params6] at hA hval
  obtain ⟨v0, v1, d0, d1, p0, p1, rfl, rfl, rfl, h0, h1⟩ := trodAll_two hA
  have hT := tbl_of_laid hL
  obtain ⟨la, a, ca, ha⟩ := open_arg (okWide_slice Tryd.underlying22 (hval 0 22 v0 rfl rfl)) h0
  obtain ⟨lb, b, cb, hb⟩ := open_arg (okWide_slice Tryd.underlying22 (hval 1 22 v1 rfl rfl)) h1
  have run : Calls Tryd.prog 6 #[v0, v1] W (LawTrue W) := by
    by_cases hn : la.length ≤ 500 ∧ lb.length ≤ 500
    · exact join_any la lb ca cb a b v0 v1 W ha hb hn.1 hn.2 hT
    · rw [ha.shape, hb.shape]
      exact join_long _ ca _ cb a b W (by omega) (Nat.le_trans ha.lenLe ha.capLe) (Nat.le_trans hb.lenLe hb.capLe) hT
  clear hA0 hval0 hval hA
  refine run.mono fun e W' hl => ?_
  have hb := hl.below
  obtain ⟨rfl, _⟩ := hl
  exact ⟨_, rfl, law_post Tryd.laidOut readable6 (by kernel_rfl) Tryd.underlying4 rfl hW' (fun _ => rfl) hb⟩

theorem utfJoin_said : Rows.UtfJoinSaid :=
  OpenClaim.holds_of_wide 6 Tryd.f6 rfl rfl rfl rfl rfl rfl rfl ⟨rfl, rfl, rfl, rfl, rfl⟩ rfl rfl rfl rfl rfl (by kernel_rfl) Tryd.func6 (by kernel_rfl)
    (of_decide_eq_true (by kernel_rfl)) (by unfold Func.isWrapper; first | (rw [if_pos (by decide +kernel)]; kernel_rfl) | (rw [if_neg (by decide +kernel)]; exact ⟨rfl, rfl⟩))
    (fun os started H enc _ => utfJoin_lifted os started H enc)

theorem utfJoin_holds : Rows.UtfJoinCardSaid :=
  Claim7.holds_tied_plain_at .later [] [.wider] true (true, "64d957faab6dbb45aadd5e527e6b6a73dcc8c67575f5c2b38c49567fe74cfb0e") false
    utfJoin_said (fun _ h => by cases h) (by kernel_rfl) (fun _ h => by cases h) utfJoin_row_tie rfl ⟨rfl, rfl⟩ (by kernel_rfl) rfl
    (fun f fn hf hfn => by
      obtain rfl : f = 6 := Option.some.inj ((show Tryd.prog.funcNamed "betony/betonylaw02.UtfJoin" = some 6 by kernel_rfl).symm.trans hf) |>.symm
      obtain rfl : fn = Tryd.f6 := (Option.some.inj (Tryd.func6.symm.trans hfn)).symm
      exact ⟨by kernel_rfl, fun j t ht => by
        rw [Tryd.params6] at ht
        have hm : t ∈ [22, 22] := by simpa using Array.mem_of_getElem? ht
        have hall : ([22, 22].all fun u => !Tryd.prog.wantsStandIn u) = true := by kernel_rfl
        exact (show Tryd.prog.wantsStandIn t = false by simpa using List.all_eq_true.1 hall t hm)⟩)
    (by kernel_rfl)

end Go.Proofs.YtofecgjlghfnlaaDoor
