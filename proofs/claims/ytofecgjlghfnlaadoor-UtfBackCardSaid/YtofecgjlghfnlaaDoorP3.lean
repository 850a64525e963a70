/-
  For every number the law UtfPuts returns true; the tied card.
-/
import Derived.Test.YtofecgjlghfnlaaDoorP2
namespace Go.Proofs.YtofecgjlghfnlaaDoor
open Go.ChangeShapes Go.WideShapes Go.ChangeAt Go.RowKit

set_option maxHeartbeats 2000000 in
set_option maxRecDepth 100000 in
theorem puts_any (r : Int) (w : World) (h0 : -2147483648 ≤ r) (h1 : r ≤ 2147483647) (hT : Tbl w) : Calls Tryd.prog 5 #[.int .i32 r] w (LawTrue w) := by
  have HT := hide' hT
  have H0 := hide' (tbl_size hT)
  have HPUT := hide' (fun wx => put16_any r wx h0 h1)
  have HRP := hide' (fun wx => rput_any r wx)
  have hlen := putL_len r
  have HLE := hide' hlen
  have hne : putL r ≠ [] := fun h => by rw [h] at hlen; simp at hlen
  have HNE := hide' hne
  have HLT := hide' (putL_lt r)
  have HRU := hide' (runes_put r).1
  have HBAD : Hid (repR r = r.toNat ∧ 0 ≤ r ∨ repR r = 65533 ∧ (putL r).length = 3) := by
    unfold repR putL
    by_cases h : isR r
    · left; rw [if_pos h]; exact ⟨rfl, h.1⟩
    · right; rw [if_neg h, if_neg h]; exact ⟨rfl, rfl⟩
  clear hT hlen hne
  go_enter Tryd.func5, Tryd.ntmps5
  go_wp2_with fail
  refine (HPUT.out w).mono ?_
  rintro e w1 ⟨t1, rfl, ho1, hs1⟩
  have HO1 := hide' ho1
  have HS1 := hide' hs1
  obtain ⟨a1, c1, hb1⟩ := owned_arg ho1 HLT.out
  have HALL := hide' (all_arg hb1 (hs1.tbl HT.out (fun h => h) H0.out) (by have := HLE.out; omega))
  have hsh := hb1.shape
  subst hsh
  clear ho1 hs1 hb1
  go_wp2_with fail
  refine HALL.out.mono ?_
  rintro e w2 ⟨t2, rfl, ho2, hs2⟩
  have hx := HRU.out
  rw [hx] at ho2
  obtain ⟨a2, c2, rfl, h2⟩ := owns_nil_or ho2
  obtain ⟨g2, rfl, hc2⟩ := h2.resolve_left (by simp)
  have hz : w2.cell? ⟨g2, 0, none⟩ = some (.int .i32 (repR r : Nat)) := hc2 0 (by simp)
  have HZ := hide' hz
  have HS2 := hide' (HS1.out.trans hs2)
  have HO12 := hide' (hs2.owns HO1.out (fun _ _ h => h))
  clear ho2 hs2 hx h2 hc2 hz
  go_wp2_with fail
  refine (HRP.out w2).mono ?_
  rintro e w3 ⟨t3, rfl, ho3, hs3⟩
  have hz3 := (hs3.cell (p := ⟨g2, 0, none⟩) (World.block_lt_of_cell? _ _ HZ.out) (fun h => h)).trans HZ.out
  have HZ3 := hide' hz3
  have HS3 := hide' (HS2.out.trans hs3)
  have HSM := hide' (sameB_true (putL r) _ _ _ t3 w3 (by have := HLE.out; omega) HNE.out (hs3.owns HO12.out (fun _ _ h => h)) ho3)
  clear ho3 hs3 hz3
  go_wp2_with fail
  refine HSM.out.mono ?_
  rintro e w4 ⟨rfl, hs4⟩
  have hz4 := (hs4.cell (p := ⟨g2, 0, none⟩) (World.block_lt_of_cell? _ _ HZ3.out) (fun h => h)).trans HZ3.out
  have HS4 := hide' (HS3.out.trans hs4)
  have HAW := hide' (awake_any w4 (HS4.out.tbl HT.out (fun h => h) H0.out) (by have := H0.out; have := HS4.out.size; omega))
  clear hs4
  have hfin : ∀ e w', (e = Ending.returned (.bool true) ∧ Stay (fun _ => False) w4 w') → LawTrue w e w' := fun e w' h => ⟨h.1, HS4.out.trans h.2⟩
  have HFIN := hide' hfin
  clear hfin
  rcases HBAD.out with hB | hB
  · have he : (((repR r : Nat) : Int) == r) = true := by rw [beq_iff_eq]; omega
    obtain ⟨z, hzz⟩ : ∃ z, z = repR r := ⟨_, rfl⟩
    rw [← hzz] at hz4 he
    clear hB hzz
    go_wp2_with fail
    refine HAW.out.mono ?_
    rintro e w5 ⟨rfl, hs5⟩
    have HS5 := hide' hs5
    clear hs5
    go_wp2
    go_ret
    exact HFIN.out _ _ ⟨rfl, HS5.out⟩
  · have hl3 : (((putL r).length : Nat) : Int) = 3 := by rw [hB.2]; rfl
    have hb3 : ((((putL r).length : Nat) : Int) == 3) = true := by rw [hl3]; rfl
    rw [hB.1] at hz4
    cases he : (((65533 : Nat) : Int) == r)
    all_goals
      have he' : ((65533 : Int) == r) = _ := he
      clear hB hl3 he
      go_wp2_with fail
      refine HAW.out.mono ?_
      rintro e w5 ⟨rfl, hs5⟩
      have HS5 := hide' hs5
      clear hs5
      go_wp2
      go_ret
      exact HFIN.out _ _ ⟨rfl, HS5.out⟩

theorem i32_bd {x : Int} (h : (Lit.int .i32 x).wf = true) : -2147483648 ≤ x ∧ x ≤ 2147483647 := by
  have z1 : IntKind.i32.min = -2147483648 := by decide
  have z2 : IntKind.i32.max = 2147483647 := by decide
  simp only [Lit.wf, decide_eq_true_eq, Bool.and_eq_true] at h
  omega

theorem readable5 : ∀ t ∈ Tryd.f5.params.toList, Tryd.prog.readableRec t = true ∧ t < Tryd.prog.types.size := by
  rw [Tryd.params5]
  intro t ht
  have h : t = 21 := by simpa using ht
  rcases h with rfl <;> exact ⟨by kernel_rfl, by decide +kernel⟩

set_option maxRecDepth 100000 in
theorem utfPuts_lifted (os : Os) (started : os.Started) (H : Type) (enc : TypeId × Value → H) :
    ReturnsInHanded {} Tryd.checked os 5 .any (fun w args => (Rows.utfPutsSpec.pre enc Tryd.prog Tryd.f5 [] false w args ∧ laidMetH Tryd.prog [("betony/utf.forms", Rows.laid_betony_utf_forms)] w) ∧ sizedMet enc Tryd.prog Tryd.f5 (OpenSpec.ofChange Rows.utfPutsSpec) false w args) (Rows.utfPutsSpec.post enc Tryd.prog Tryd.f5 false true false false) := by
  refine returnsInHanded_of_change_and (C := Tryd.checked) (X := fun w _ => laidMetH Tryd.prog [("betony/utf.forms", Rows.laid_betony_utf_forms)] w) (fun _ _ _ hh h => h.of_heap hh) Tryd.own started (by kernel_rfl) Tryd.func5
    (ChangeSpec.witness_shaped (enc := enc) (C := Tryd.checked) (os := os) (X := fun w _ => laidMetH Tryd.prog [("betony/utf.forms", Rows.laid_betony_utf_forms)] w) false (World.doorLaid Tryd.prog 400 os) #[.int .i32 0] 8 rfl (World.shaped_of_RefB (by kernel_rfl) (by kernel_rfl)) (by kernel_rfl) (by kernel_rfl) (by kernel_rfl) (door_met os _)) ?_
  intro W base args ds gs before hval0 hW _ _ hL _
  have hval : ∀ (j : Nat) t v, Tryd.f5.params[j]? = some t → args[j]? = some v → Value.okWide Tryd.prog W .any base t v := hval0
  have hW' := hW
  obtain ⟨p, q, hA0, hV, rfl, hfz, hnd⟩ := hW
  have hA : DataW.TrodAll enc Tryd.prog W 0 (fun _ => true) true Tryd.f5.params.toList args.toList ds p := hA0
  rw [Tryd.params5] at hA hval
  obtain ⟨v0, d0, rfl, rfl, h0⟩ := trodAll_one hA
  have hT := tbl_of_laid hL
  obtain ⟨r, rfl, rfl, rfl, wr⟩ := open_int Tryd.underlying21 (hval 0 21 v0 rfl rfl) h0
  have run : Calls Tryd.prog 5 #[.int .i32 r] W (LawTrue W) := puts_any r W (i32_bd wr).1 (i32_bd wr).2 hT
  clear hA0 hval0 hval hA
  refine run.mono fun e W' hl => ?_
  have hb := hl.below
  obtain ⟨rfl, _⟩ := hl
  exact ⟨_, rfl, law_post Tryd.laidOut readable5 (by kernel_rfl) Tryd.underlying4 rfl hW' (fun _ => rfl) hb⟩

theorem utfPuts_said : Rows.UtfPutsSaid :=
  OpenClaim.holds_of_wide 5 Tryd.f5 rfl rfl rfl rfl rfl rfl rfl ⟨rfl, rfl, rfl, rfl, rfl⟩ rfl rfl rfl rfl rfl (by kernel_rfl) Tryd.func5 (by kernel_rfl)
    (of_decide_eq_true (by kernel_rfl)) (by unfold Func.isWrapper; first | (rw [if_pos (by decide +kernel)]; kernel_rfl) | (rw [if_neg (by decide +kernel)]; exact ⟨rfl, rfl⟩))
    (fun os started H enc _ => utfPuts_lifted os started H enc)

theorem utfPuts_holds : Rows.UtfPutsCardSaid :=
  Claim7.holds_tied_plain_at .later [] [.wider] true (true, "64d957faab6dbb45aadd5e527e6b6a73dcc8c67575f5c2b38c49567fe74cfb0e") false
    utfPuts_said (fun _ h => by cases h) (by kernel_rfl) (fun _ h => by cases h) utfPuts_row_tie rfl ⟨rfl, rfl⟩ (by kernel_rfl) rfl
    (fun f fn hf hfn => by
      obtain rfl : f = 5 := Option.some.inj ((show Tryd.prog.funcNamed "betony/betonylaw02.UtfPuts" = some 5 by kernel_rfl).symm.trans hf) |>.symm
      obtain rfl : fn = Tryd.f5 := (Option.some.inj (Tryd.func5.symm.trans hfn)).symm
      exact ⟨by kernel_rfl, fun j t ht => by
        rw [Tryd.params5] at ht
        have hm : t ∈ [21] := by simpa using Array.mem_of_getElem? ht
        have hall : ([21].all fun u => !Tryd.prog.wantsStandIn u) = true := by kernel_rfl
        exact (show Tryd.prog.wantsStandIn t = false by simpa using List.all_eq_true.1 hall t hm)⟩)
    (by kernel_rfl)

end Go.Proofs.YtofecgjlghfnlaaDoor
