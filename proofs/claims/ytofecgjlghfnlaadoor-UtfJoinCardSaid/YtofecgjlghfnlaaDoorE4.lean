/-
  For every bytes the law UtfFeeds returns true, and the argument reads as it did; the tied card.
-/
import Derived.Test.YtofecgjlghfnlaaDoorE3
namespace Go.Proofs.YtofecgjlghfnlaaDoor
open Go.ChangeShapes Go.WideShapes Go.ChangeAt Go.RowKit

set_option maxHeartbeats 4000000 in
set_option maxRecDepth 100000 in
theorem feeds_nil (a : Option Addr) (cap : Nat) (w : World) (hT : Tbl w) : Calls Tryd.prog 4 #[.slice a 0 cap] w (LawTrue w) := by
  have h0 : 0 < w.heap.size := tbl_size hT
  have HT := hide' hT
  obtain ⟨l, hl⟩ : ∃ l : List Nat, l = [] := ⟨_, rfl⟩
  have HALL := hide' (fun wr (_ : Stay (fun _ => False) w wr) => refAll_nil a cap wr)
  have hru : runes l = [] := by rw [hl]; rfl
  have HR : Hid ((runes l).length ≤ 100000) := by show (runes l).length ≤ 100000; rw [hru]; simp
  rw [← hru] at HALL
  have HL := hide' hl
  clear hT hl hru
  go_enter Tryd.func4, Tryd.ntmps4
  go_wp2_with fail
  go_loopg [4, 5, 6] 0 (fun g t i u wr => g = 0 ∧ i = .int .i64 0 ∧ Hid (AllIn w wr l 0 t))
  case atStart => exact ⟨rfl, rfl, allIn_start w l⟩
  case round =>
    obtain ⟨rfl, rfl, HI'⟩ := hrel
    have HI : Hid (AllIn w wr l 0 _) := HI'
    have hlk : l.take 0 = l := by rw [HL.out]; rfl
    have hD := HI.out.dec
    have hO := HI.out.own
    rw [hlk] at hD hO
    have HO := hide' hO
    have HE := hide' (end15 (foldP [] l) w.heap.size wr (right_len (foldP_right _ _ right_nil)) hD)
    have HNE : Hid (∀ i, Value.ownBlock _ = some i → w.heap.size + 1 ≤ i) := fun i hi => (HO.out.lt i hi).1
    clear hlk hO hD
    go_wp2_with fail
    refine HE.out.mono ?_
    rintro e w1 ⟨t1, rfl, h1, h2, h3⟩
    have HS1 : Hid (Stay (fun _ => False) w w1) := HI.out.stay.past h3 (fun i hi h => by omega)
    have HO1 := hide' (h3.owns HO.out (fun i hi h => by have := HNE.out i hi; omega))
    have HD1 := hide' h2
    have HIS := hide' (isRow_of_owns h1)
    have HSZ1 := hide' h3.size
    have hbase : w.heap.size + 1 ≤ w1.heap.size := by have := HSZ1.out; have := HI.out.size; omega
    have hnn : (outP [] l).length + ((endP (foldP [] l)).map rv).length ≤ 1000000 := by have := HR.out; unfold runes at this; rw [List.length_append] at this; rw [List.length_map]; omega
    clear h1 h2 h3
    have HWT := hide' (fun wx (h : DecP wx w.heap.size []) => waits13 [] w.heap.size wx h)
    have HEE := hide' (fun wx (h : DecP wx w.heap.size []) => end15 [] w.heap.size wx (by simp) h)
    go_wp2_with (at_builtin; refine appL (fun i => w.heap.size + 1 ≤ i) rfl _ _ 25 rfl Tryd.underlying25 info21 rfl (by decide) HO1.out rfl HIS.out rfl (one_runes _) hnn hbase HNE.out ?_; intro t2 w2 ho2 hs2; have HO2 := hide' ho2; have HS2 := hide' hs2; clear ho2 hs2; go_wp2_with fail)
    have HSA := hide' (HS1.out.past HS2.out (fun i hi h => by omega))
    have HD2 : Hid (DecP w2 w.heap.size []) := HS2.out.row HD1.out (by simp)
    have HRU : Hid (w2.ownsRow (w.heap.size + 1) 21 1 t2 (runes l).length ((runes l).map rv)) := by
      have := HO2.out
      rw [List.length_map, ← List.map_append, ← List.length_append] at this
      exact this
    refine (HALL.out w2 HSA.out).mono ?_
    rintro e w3 ⟨t3, rfl, ho3, hs3⟩
    have HSB := hide' (HSA.out.trans hs3)
    have HD3 : Hid (DecP w3 w.heap.size []) := hs3.row HD2.out (fun h => h)
    have HSM := hide' (same_true (runes l) _ _ t2 t3 w3 HR.out (hs3.owns HRU.out (fun _ _ h => h)) ho3)
    clear ho3 hs3
    go_wp2_with fail
    refine HSM.out.mono ?_
    rintro e w4 ⟨rfl, hs4⟩
    have HSC := hide' (HSB.out.trans hs4)
    have HD4 : Hid (DecP w4 w.heap.size []) := hs4.row HD3.out (fun h => h)
    clear hs4
    go_wp2_with fail
    refine (HWT.out _ HD4.out).mono ?_
    rintro e w5 ⟨rfl, rfl⟩
    go_wp2_with fail
    refine (HEE.out _ HD4.out).mono ?_
    rintro e w6 ⟨t6, rfl, ho6, hd6, hs6⟩
    obtain ⟨a6, c6, rfl, _⟩ := ownsRow_shape ho6
    have HSD : Hid (Stay (fun _ => False) w w6) := HSC.out.past hs6 (fun i hi h => by omega)
    have HAW := hide' (awake_any w6 (HSD.out.tbl HT.out (fun h => h) h0) (by have := HSD.out.size; omega))
    clear ho6 hd6 hs6
    go_wp2_with fail
    refine HAW.out.mono ?_
    rintro e w7 ⟨rfl, hs7⟩
    have HSE := hide' (HSD.out.trans hs7)
    clear hs7
    go_wp2
    go_ret
    exact ⟨rfl, HSE.out⟩

theorem feeds_long (n cap : Nat) (a : Option Addr) (w : World) (hn : 300 < n) (hm : n ≤ maxLen) (hT : Tbl w) : Calls Tryd.prog 4 #[.slice a n cap] w (LawTrue w) := by
  have hA := hide' (awake_any w hT (tbl_size hT))
  have n2 : (300 : Int) < n := by omega
  have n3 : (n : Int) ≤ 9223372036854775807 := by unfold maxLen at hm; omega
  clear hT hm hn
  go_enter Tryd.func4, Tryd.ntmps4
  go_wp2_with fail
  refine hA.out.mono ?_
  rintro e w4 ⟨rfl, hs4⟩
  have HS4 := hide' hs4
  clear hs4
  go_wp2
  go_ret
  exact ⟨rfl, HS4.out⟩

theorem readable4 : ∀ t ∈ Tryd.f4.params.toList, Tryd.prog.readableRec t = true ∧ t < Tryd.prog.types.size := by
  rw [Tryd.params4]
  intro t ht
  have h : t = 22 := by simpa using ht
  rcases h with rfl <;> exact ⟨by kernel_rfl, by decide +kernel⟩

set_option maxRecDepth 100000 in
theorem utfFeeds_lifted (os : Os) (started : os.Started) (H : Type) (enc : TypeId × Value → H) :
    ReturnsInHanded {} Tryd.checked os 4 .any (fun w args => (Rows.utfFeedsSpec.pre enc Tryd.prog Tryd.f4 [] false w args ∧ laidMetH Tryd.prog [("betony/utf.forms", Rows.laid_betony_utf_forms)] w) ∧ sizedMet enc Tryd.prog Tryd.f4 (OpenSpec.ofChange Rows.utfFeedsSpec) false w args) (Rows.utfFeedsSpec.post enc Tryd.prog Tryd.f4 false true false false) := by
  refine returnsInHanded_of_change_and (C := Tryd.checked) (X := fun w _ => laidMetH Tryd.prog [("betony/utf.forms", Rows.laid_betony_utf_forms)] w) (fun _ _ _ hh h => h.of_heap hh) Tryd.own started (by kernel_rfl) Tryd.func4
    (ChangeSpec.witness_shaped (enc := enc) (C := Tryd.checked) (os := os) (X := fun w _ => laidMetH Tryd.prog [("betony/utf.forms", Rows.laid_betony_utf_forms)] w) false (World.doorLaid Tryd.prog 400 os) #[.slice none 0 0] 8 rfl (World.shaped_of_RefB (by kernel_rfl) (by kernel_rfl)) (by kernel_rfl) (by kernel_rfl) (by kernel_rfl) (door_met os _)) ?_
  intro W base args ds gs before hval0 hW _ _ hL _
  have hval : ∀ (j : Nat) t v, Tryd.f4.params[j]? = some t → args[j]? = some v → Value.okWide Tryd.prog W .any base t v := hval0
  have hW' := hW
  obtain ⟨p, q, hA0, hV, rfl, hfz, hnd⟩ := hW
  have hA : DataW.TrodAll enc Tryd.prog W 0 (fun _ => true) true Tryd.f4.params.toList args.toList ds p := hA0
  rw [Tryd.params4] at hA hval
  obtain ⟨v0, d0, rfl, rfl, h0⟩ := trodAll_one hA
  have hT := tbl_of_laid hL
  have hs := open_bs (okWide_slice Tryd.underlying22 (hval 0 22 v0 rfl rfl)) h0
  have run : Calls Tryd.prog 4 #[v0] W (LawTrue W) := by
    rcases hs with ⟨a, cap, rfl⟩ | ⟨b, off, cap, l, hne, rfl, hc, hm, hB⟩
    · exact feeds_nil a cap W hT
    · by_cases hn : l.length ≤ 300
      · exact feeds_any l b off cap W hn hne hc hm hB hT
      · exact feeds_long l.length cap _ W (by omega) (by omega) hT
  clear hA0 hval0 hval hA
  refine run.mono fun e W' hl => ?_
  have hb := hl.below
  obtain ⟨rfl, _⟩ := hl
  exact ⟨_, rfl, law_post Tryd.laidOut readable4 (by kernel_rfl) Tryd.underlying4 rfl hW' (fun _ => rfl) hb⟩

theorem utfFeeds_said : Rows.UtfFeedsSaid :=
  OpenClaim.holds_of_wide 4 Tryd.f4 rfl rfl rfl rfl rfl rfl rfl ⟨rfl, rfl, rfl, rfl, rfl⟩ rfl rfl rfl rfl rfl (by kernel_rfl) Tryd.func4 (by kernel_rfl)
    (of_decide_eq_true (by kernel_rfl)) (by unfold Func.isWrapper; first | (rw [if_pos (by decide +kernel)]; kernel_rfl) | (rw [if_neg (by decide +kernel)]; exact ⟨rfl, rfl⟩))
    (fun os started H enc _ => utfFeeds_lifted os started H enc)

theorem utfFeeds_holds : Rows.UtfFeedsCardSaid :=
  Claim7.holds_tied_plain_at .later [] [.wider] true (true, "64d957faab6dbb45aadd5e527e6b6a73dcc8c67575f5c2b38c49567fe74cfb0e") false
    utfFeeds_said (fun _ h => by cases h) (by kernel_rfl) (fun _ h => by cases h) utfFeeds_row_tie rfl ⟨rfl, rfl⟩ (by kernel_rfl) rfl
    (fun f fn hf hfn => by
      obtain rfl : f = 4 := Option.some.inj ((show Tryd.prog.funcNamed "betony/betonylaw02.UtfFeeds" = some 4 by kernel_rfl).symm.trans hf) |>.symm
      obtain rfl : fn = Tryd.f4 := (Option.some.inj (Tryd.func4.symm.trans hfn)).symm
      exact ⟨by kernel_rfl, fun j t ht => by
        rw [Tryd.params4] at ht
        have hm : t ∈ [22] := by simpa using Array.mem_of_getElem? ht
        have hall : ([22].all fun u => !Tryd.prog.wantsStandIn u) = true := by kernel_rfl
        exact (show Tryd.prog.wantsStandIn t = false by simpa using List.all_eq_true.1 hall t hm)⟩)
    (by kernel_rfl)

end Go.Proofs.YtofecgjlghfnlaaDoor
