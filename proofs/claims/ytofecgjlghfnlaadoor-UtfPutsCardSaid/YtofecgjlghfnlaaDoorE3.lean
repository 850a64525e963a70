/-
  UtfFeeds of bytes that aren't none, walked. No conditions.
-/
import Derived.Test.YtofecgjlghfnlaaDoorE2
namespace Go.Proofs.YtofecgjlghfnlaaDoor
open Go.RowKit

/-- What turned later met only what was new. -/
theorem Stay.past {S T : Nat → Prop} {w w' w'' : World} (h : Stay S w w') (k : Stay T w' w'') (hT : ∀ i, i < w.heap.size → T i → S i) : Stay S w w'' :=
  ⟨k.os.trans h.os, k.tape.trans h.tape, k.output.trans h.output, Nat.le_trans h.size k.size, fun i hi hs =>
    (k.block i (Nat.lt_of_lt_of_le hi h.size) (fun ht => hs (hT i hi ht))).trans (h.block i hi hs)⟩

theorem waitsOf_take (l : List Nat) (k : Nat) : waitsOf (l.take k) = (foldP [] (l.take k)).length := rfl

set_option maxHeartbeats 4000000 in
set_option maxRecDepth 100000 in
theorem feeds_any (l : List Nat) (b off cap : Nat) (w : World) (hl : l.length ≤ 300) (hne : l ≠ []) (hcap : l.length ≤ cap) (hcm : cap ≤ maxLen) (hB : Bytes w b off l) (hT : Tbl w) :
    Calls Tryd.prog 4 #[.slice (some ⟨b, off, none⟩) l.length cap] w (LawTrue w) := by
  have h0 : 0 < w.heap.size := tbl_size hT
  have HT := hide' hT
  have HB := hide' hB
  have HCAP := hide' hcap
  have HCM := hide' hcm
  have hbl := hB.block hne
  have hcm' : (cap : Int) ≤ 9223372036854775807 := by unfold maxLen at hcm; omega
  obtain ⟨n, hn⟩ : ∃ n, n = l.length := ⟨_, rfl⟩
  have HW := hide' (fun k wr (h : Stay (fun _ => False) w wr) (hk : k < l.length) => refWaits_any (l.take (k + 1)) b off cap wr (by rw [List.length_take]; omega) (by rw [List.length_take]; omega) hcm ((h.bytes hB (fun _ h => h)).take _))
  have HALL := hide' (fun wr (h : Stay (fun _ => False) w wr) => refAll_any l b off cap wr (by omega) hcap hcm (h.bytes hB (fun _ h => h)))
  have hr : (runes l).length ≤ 100000 := by
    unfold runes
    have := outP_len [] l
    have := endP_len (foldP [] l)
    rw [List.length_append]; omega
  have HR := hide' hr
  rw [← hn] at hcap HALL HW ⊢
  have HN := hide' hn
  have hl' : (n : Int) ≤ 300 := by omega
  have hl2 : n ≤ 300 := by omega
  have hgt : ¬ (300 : Int) < n := by omega
  clear hT hB hn hcm hr hl hne
  go_enter Tryd.func4, Tryd.ntmps4
  go_wp2_with fail
  go_loopg [4, 5, 6] n (fun g t i u wr => ∃ k : Nat, k ≤ n ∧ g = n - k ∧ i = .int .i64 (k : Int) ∧ Hid (AllIn w wr l k t))
  case atStart => exact ⟨0, Nat.zero_le _, rfl, rfl, allIn_start w l⟩
  case round =>
    obtain ⟨k, hk, rfl, rfl, HI⟩ := hrel
    by_cases hlt : k < n
    · have hlk : k < l.length := by have := HN.out; omega
      have HB2 := hide' (HI.out.stay.bytes HB.out (fun _ h => h))
      have hT2 := HI.out.stay.tbl HT.out (fun h => h) h0
      have c1 : wr.cell? ⟨b, off + k, none⟩ = some (.int .u8 (l.getD k 0 : Nat)) := HB2.out.1 k hlk
      have hF := feed12 (foldP [] (l.take k)) (l.getD k 0) w.heap.size wr (HB2.out.lt k hlk) (foldP_right _ _ right_nil) hT2 HI.out.dec h0
      have htwo := feedP_two (foldP [] (l.take k)) (l.getD k 0)
      have hfs := foldP_snoc [] l k hlk
      have hos := outP_snoc [] l k hlk
      have hwl : (l.take (k + 1)).length = k + 1 := by rw [List.length_take]; omega
      have hW := fun wx hx => HW.out k wx hx hlt
      rw [hwl] at hW
      obtain ⟨p', hp'⟩ : ∃ p', p' = (feedP (foldP [] (l.take k)) (l.getD k 0)).1 := ⟨_, rfl⟩
      obtain ⟨o', ho'⟩ : ∃ o', o' = (feedP (foldP [] (l.take k)) (l.getD k 0)).2 := ⟨_, rfl⟩
      unfold Fed at hF
      rw [← hp', ← ho'] at hF
      rw [← ho'] at htwo hos
      rw [← hp'] at hfs
      obtain ⟨z, hz⟩ : ∃ z, z = l.getD k 0 := ⟨_, rfl⟩
      rw [← hz] at c1 hF
      have hwe : waitsOf (l.take (k + 1)) = p'.length := by rw [waitsOf_take, hfs]
      unfold WaitsE at hW
      rw [hwe] at hW
      have HF := hide' hF
      have HFS := hide' hfs
      have HOS := hide' hos
      have HWW := hide' hW
      have HOL := hide' (outP_len [] (l.take k))
      have HTK : Hid ((l.take k).length ≤ k) := by show (l.take k).length ≤ k; rw [List.length_take]; omega
      have kz : (k : Int) < n := by omega
      have k0 : (0 : Int) ≤ k := by omega
      have d2 : decide ((2 : Int) < o'.length) = false := by simp; omega
      have kc : k + 1 ≤ cap := by omega
      have kcz : (k : Int) + 1 ≤ cap := by omega
      have HTWO := hide' htwo
      clear hT2 hF hfs hos hW hwe hwl hz htwo hp' ho'
      go_wp2_with fail
      refine HF.out.mono ?_
      rintro e w1 ⟨t', rfl, h1, h2, h3⟩
      obtain ⟨a', cap', rfl, _⟩ := ownsRow_shape h1
      simp only [Nat.zero_add, List.nil_append] at h1
      have HO1 := hide' h1
      have HD1 := hide' h2
      have HS1 : Hid (Stay (fun _ => False) w w1) := ⟨h3.os.trans HI.out.stay.os, h3.tape.trans HI.out.stay.tape, h3.output.trans HI.out.stay.output, Nat.le_trans HI.out.stay.size h3.size, fun i hi _ =>
        (h3.block i (by have := HI.out.stay.size; omega) (by have := HI.out.size; omega)).trans (HI.out.stay.block i hi (fun h => h))⟩
      have HO2 := hide' (h3.owns HI.out.own (fun i hi h => by have := HI.out.own.lt i hi; omega))
      have HSZ := hide' h3.size
      have HWT := hide' (waits13 p' w.heap.size w1.drew (World.rowIs.drew h2))
      clear h1 h2 h3
      rw [Nat.zero_add]
      go_wp2_with fail
      refine wp_region_still_tail 9 (by kernel_rfl) (by kernel_rfl) ?_
      simp only [List.take_succ_cons, List.take_zero, List.drop_succ_cons, List.drop_zero]
      refine still_begin (fun K hK => ?_)
      iterate 4 (refine next_want hK ?_ ?_; kernel_rfl; clear hK K; intro K hK; go_simp)
      refine next_want hK ?_ ?_
      kernel_rfl
      clear hK K
      intro K hK
      go_simp
      refine ⟨_, HWT.out.mono (fun _ _ h => ⟨h.1, h.2.symm⟩), ?_⟩
      have s1 : IntKind.i64.wrap ((k : Int) + 1) = (k : Int) + 1 := IntWalk.i64_in _ (by omega)
      have s2 : (0 : Int) ≤ (k : Int) + 1 := by omega
      have s3 : ((k : Int) + 1).toNat = k + 1 := by omega
      iterate 4 (refine next_want hK ?_ ?_; kernel_rfl; clear hK K; intro K hK; go_simp)
      refine hK _ (wpStill_nil ?_)
      clear hK K s1 s2 s3
      have HWX := hide' (HWW.out w1.drew HS1.out.drew)
      go_wp2_with fail
      refine HWX.out.mono ?_
      rintro e w2 ⟨rfl, hs2⟩
      have HS2 := hide' (HS1.out.drew.trans hs2)
      have HD2 : Hid (DecP w2 w.heap.size p') := hs2.row (World.rowIs.drew HD1.out) (fun h => h)
      have HO3 := hide' (hs2.owns (w := w1.drew) HO2.out (fun _ _ h => h))
      have HO4 := hide' (hs2.owns (w := w1.drew) HO1.out (fun _ _ h => h))
      have HSZ2 := hide' hs2.size
      have hnn : (outP [] (l.take k)).length + (o'.map rv).length ≤ 1000000 := by have := HOL.out; have := HTK.out; have := HTWO.out; rw [List.length_map]; omega
      have hbase : w.heap.size + 1 ≤ w2.heap.size := by have h1 := HSZ2.out; have := HSZ.out; have := HI.out.size; simp at h1; omega
      have HIS := hide' (isRow_of_owns HO4.out)
      have HNE : Hid (∀ i, Value.ownBlock _ = some i → w.heap.size + 1 ≤ i) := fun i hi => (HI.out.own.lt i hi).1
      clear hs2
      go_wp2_with (at_builtin; refine appL (fun i => w.heap.size + 1 ≤ i) rfl _ _ 25 rfl Tryd.underlying25 info21 rfl (by decide) HO3.out rfl HIS.out rfl (one_runes _) hnn hbase HNE.out ?_; intro t2 w3 ho3 hs3; have HO5 := hide' ho3; have HS3 := hide' hs3; clear ho3 hs3)
      have HI2 : Hid (AllIn w w3 l (k + 1) t2) := by
        refine ⟨?_, ?_, ?_, Nat.le_trans hbase HS3.out.size⟩
        · rw [HOS.out, List.length_append, List.map_append]
          have := HO5.out
          rwa [List.length_map] at this
        · rw [HFS.out]; exact HS3.out.row HD2.out (by simp)
        · exact HS2.out.past HS3.out (fun i hi h => by omega)
      go_roundg (n - (k + 1))
      case rel => exact ⟨k + 1, by omega, rfl, by go_num, HI2⟩
      case measure => omega
    · have hkn : k = n := by omega
      have hlk : l.take k = l := by rw [hkn, HN.out]; exact List.take_length
      have hO := HI.out.own
      have hD := HI.out.dec
      rw [hlk] at hO hD
      have HO := hide' hO
      have HE := hide' (end15 (foldP [] l) w.heap.size wr (right_len (foldP_right _ _ right_nil)) hD)
      have HNE : Hid (∀ i, Value.ownBlock _ = some i → w.heap.size + 1 ≤ i) := fun i hi => (hO.lt i hi).1
      clear hkn hlk hO hD
      go_wp2_with fail
      refine HE.out.mono ?_
      rintro e w1 ⟨t1, rfl, h1, h2, h3⟩
      have HS1 : Hid (Stay (fun _ => False) w w1) := HI.out.stay.past h3 (fun i hi h => by omega)
      have HO1 := hide' (h3.owns HO.out (fun i hi h => by have := HNE.out i hi; omega))
      have HD1 := hide' h2
      have HIS := hide' (isRow_of_owns h1)
      have HSZ1 := hide' h3.size
      have hbase : w.heap.size + 1 ≤ w1.heap.size := by have := HSZ1.out; have := HI.out.size; omega
      have hnn : (outP [] l).length + ((endP (foldP [] l)).map rv).length ≤ 1000000 := by have := HR.out; unfold runes at this; rw [List.length_append] at this; rw [List.length_map]; omega
      clear h1 h2 h3
      have HWT := hide' (fun wx (h : DecP wx w.heap.size []) => waits13 [] w.heap.size wx h)
      have HEE := hide' (fun wx (h : DecP wx w.heap.size []) => end15 [] w.heap.size wx (by simp) h)
      go_wp2_with (at_builtin; refine appL (fun i => w.heap.size + 1 ≤ i) rfl _ _ 25 rfl Tryd.underlying25 info21 rfl (by decide) HO1.out rfl HIS.out rfl (one_runes _) hnn hbase HNE.out ?_; intro t2 w2 ho2 hs2; have HO2 := hide' ho2; have HS2 := hide' hs2; clear ho2 hs2; go_wp2_with fail)
      have HSA := hide' (HS1.out.past HS2.out (fun i hi h => by omega))
      have HD2 : Hid (DecP w2 w.heap.size []) := HS2.out.row HD1.out (by simp)
      have HRU : Hid (w2.ownsRow (w.heap.size + 1) 21 1 t2 (runes l).length ((runes l).map rv)) := by
        have := HO2.out
        rw [List.length_map, ← List.map_append, ← List.length_append] at this
        exact this
      refine (HALL.out w2 HSA.out).mono ?_
      rintro e w3 ⟨t3, rfl, ho3, hs3⟩
      have HSB := hide' (HSA.out.trans hs3)
      have HD3 : Hid (DecP w3 w.heap.size []) := hs3.row HD2.out (fun h => h)
      have HSM := hide' (same_true (runes l) _ _ t2 t3 w3 HR.out (hs3.owns HRU.out (fun _ _ h => h)) ho3)
      clear ho3 hs3
      go_wp2_with fail
      refine HSM.out.mono ?_
      rintro e w4 ⟨rfl, hs4⟩
      have HSC := hide' (HSB.out.trans hs4)
      have HD4 : Hid (DecP w4 w.heap.size []) := hs4.row HD3.out (fun h => h)
      clear hs4
      go_wp2_with fail
      refine (HWT.out _ HD4.out).mono ?_
      rintro e w5 ⟨rfl, rfl⟩
      go_wp2_with fail
      refine (HEE.out _ HD4.out).mono ?_
      rintro e w6 ⟨t6, rfl, ho6, hd6, hs6⟩
      obtain ⟨a6, c6, rfl, _⟩ := ownsRow_shape ho6
      have HSD : Hid (Stay (fun _ => False) w w6) := HSC.out.past hs6 (fun i hi h => by omega)
      have HAW := hide' (awake_any w6 (HSD.out.tbl HT.out (fun h => h) h0) (by have := HSD.out.size; omega))
      clear ho6 hd6 hs6
      go_wp2_with fail
      refine HAW.out.mono ?_
      rintro e w7 ⟨rfl, hs7⟩
      have HSE := hide' (HSD.out.trans hs7)
      clear hs7
      go_wp2
      go_ret
      exact ⟨rfl, HSE.out⟩

end Go.Proofs.YtofecgjlghfnlaaDoor
