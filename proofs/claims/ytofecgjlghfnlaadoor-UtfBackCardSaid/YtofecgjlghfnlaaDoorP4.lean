/-
  For every runes the law UtfBack returns true, and the argument reads as it did; the tied card.
-/
import Derived.Test.YtofecgjlghfnlaaDoorP3
namespace Go.Proofs.YtofecgjlghfnlaaDoor
open Go.ChangeShapes Go.WideShapes Go.ChangeAt Go.RowKit

/-- Runes that are read. -/
def Rns (w : World) (b off : Nat) (l : List Int) : Prop := ∀ j, j < l.length → w.cell? ⟨b, off + j, none⟩ = some (.int .i32 (l.getD j 0))

theorem Stay.rns {S : Nat → Prop} {w w' : World} (h : Stay S w w') {b off : Nat} {l : List Int} (hb : Rns w b off l) (hs : l ≠ [] → ¬ S b) : Rns w' b off l := by
  intro j hj
  have hc := hb j hj
  rw [h.cell (p := ⟨b, off + j, none⟩) (World.block_lt_of_cell? _ _ hc) (hs (fun h0 => by rw [h0] at hj; simp at hj))]
  exact hc

theorem back_long (n cap : Nat) (a : Option Addr) (w : World) (hn : 200 < n) (hm : n ≤ maxLen) (hT : Tbl w) : Calls Tryd.prog 7 #[.slice a n cap] w (LawTrue w) := by
  have hA := hide' (awake_any w hT (tbl_size hT))
  have n2 : (200 : Int) < n := by omega
  have n3 : (n : Int) ≤ 9223372036854775807 := by unfold maxLen at hm; omega
  clear hT hm hn
  go_enter Tryd.func7, Tryd.ntmps7
  go_wp2_with fail
  refine hA.out.mono ?_
  rintro e w4 ⟨rfl, hs4⟩
  have HS4 := hide' hs4
  clear hs4
  go_wp2
  go_ret
  exact ⟨rfl, HS4.out⟩

set_option maxHeartbeats 400000 in
theorem back_nil (a : Option Addr) (cap : Nat) (w : World) (hT : Tbl w) : Calls Tryd.prog 7 #[.slice a 0 cap] w (LawTrue w) := by
  have HT := hide' hT
  have H0 := hide' (tbl_size hT)
  have HAL := hide' (fun wx => all_nil none 0 wx)
  clear hT
  go_enter Tryd.func7, Tryd.ntmps7
  go_wp2_with fail
  go_loopg [3, 4] 0 (fun g t i wr => g = 0 ∧ t = .slice none 0 0 ∧ i = .int .i64 0 ∧ wr = w)
  case atStart => exact ⟨rfl, rfl, rfl, rfl⟩
  case round =>
    obtain ⟨rfl, rfl, rfl, rfl⟩ := hrel
    go_wp2_with fail
    refine (HAL.out _).mono ?_
    rintro e w1 ⟨t1, rfl, ho1, hs1⟩
    obtain ⟨a1, c1, rfl, _⟩ := owns_nil_or ho1
    have HS1 := hide' hs1
    have HAW := hide' (fun q => awake_any (w1.drewN q) (hs1.tbl HT.out (fun h => h) H0.out) (by have := H0.out; have := hs1.size; show 0 < w1.heap.size; omega))
    clear ho1 hs1
    go_wp2_with fail
    go_loopg [6] 0 (fun g i wr' => g = 0 ∧ i = .int .i64 0 ∧ wr' = w1)
    case atStart => exact ⟨rfl, rfl, rfl⟩
    case round =>
      obtain ⟨rfl, rfl, rfl⟩ := hrel
      go_wp2_with fail
      refine (HAW.out 0).mono ?_
      rintro e w5 ⟨rfl, hs5⟩
      have HS5 : Hid (Stay (fun _ => False) _ w5) := hs5
      clear hs5
      go_wp2
      go_ret
      exact ⟨rfl, HS1.out.trans HS5.out⟩

set_option maxHeartbeats 4000000 in
set_option maxRecDepth 100000 in
theorem back_any (l : List Int) (b off cap : Nat) (w : World) (hl : l.length ≤ 200) (hne : l ≠ []) (hB : Rns w b off l) (hbd : ∀ x ∈ l, -2147483648 ≤ x ∧ x ≤ 2147483647) (hT : Tbl w) :
    Calls Tryd.prog 7 #[.slice (some ⟨b, off, none⟩) l.length cap] w (LawTrue w) := by
  have HT := hide' hT
  have H0 := hide' (tbl_size hT)
  have HB := hide' hB
  have HBD := hide' hbd
  have HPL := hide' (putsL_len l)
  have HPT := hide' (putsL_lt l)
  have HPA := hide' (puts_all l).1
  have hpos := List.length_pos_iff.2 hne
  obtain ⟨n, hn⟩ : ∃ n, n = l.length := ⟨_, rfl⟩
  rw [← hn] at hpos ⊢
  have HN := hide' hn
  have hl2 : n ≤ 200 := by omega
  have hl3 : (n : Int) ≤ 200 := by omega
  clear hT hB hbd hn hl hne
  go_enter Tryd.func7, Tryd.ntmps7
  go_wp2_with fail
  go_loopg [3, 4] n (fun g t i wr => ∃ k : Nat, k ≤ n ∧ g = n - k ∧ i = .int .i64 (k : Int) ∧ Hid (wr.ownsRow w.heap.size 5 1 t (putsL (l.take k)).length ((putsL (l.take k)).map bv) ∧ Stay (fun _ => False) w wr))
  case atStart => exact ⟨0, Nat.zero_le _, rfl, rfl, World.ownsRow_nil _ _ _ _, Stay.refl _ _⟩
  case round =>
    obtain ⟨k, hk, rfl, rfl, HI⟩ := hrel
    by_cases hlt : k < n
    · have hlk : k < l.length := by have := HN.out; omega
      have c1 : wr.cell? ⟨b, off + k, none⟩ = some (.int .i32 (l.getD k 0)) := (HI.out.2.rns HB.out (fun _ h => h)) k hlk
      have hbd : -2147483648 ≤ l.getD k 0 ∧ l.getD k 0 ≤ 2147483647 := HBD.out _ (by rw [List.getD_eq_getElem?_getD, List.getElem?_eq_getElem hlk]; exact List.getElem_mem hlk)
      have hsn := putsL_snoc l k hlk
      obtain ⟨z, hz⟩ : ∃ z, z = l.getD k 0 := ⟨_, rfl⟩
      rw [← hz] at c1 hbd hsn
      have HPUT := hide' (fun wx => put16_any z wx hbd.1 hbd.2)
      have HSN := hide' hsn
      have HLN := hide' (putsL_len (l.take k))
      have HTK : Hid ((l.take k).length ≤ k) := by show (l.take k).length ≤ k; rw [List.length_take]; omega
      have HL4 := hide' (putL_len z)
      have kz : (k : Int) < n := by omega
      have k0 : (0 : Int) ≤ k := by omega
      clear hz hsn hbd
      go_wp2_with fail
      refine (HPUT.out wr).mono ?_
      rintro e w1 ⟨t1, rfl, ho1, hs1⟩
      have HS1 := hide' (HI.out.2.trans hs1)
      have HO1 := hide' (hs1.owns HI.out.1 (fun _ _ h => h))
      have HIS := hide' (isRow_of_owns ho1)
      have hnn : (putsL (l.take k)).length + ((putL z).map bv).length ≤ 1000000 := by have := HLN.out; have := HTK.out; have := HL4.out; rw [List.length_map]; omega
      have hbase : w.heap.size ≤ w1.heap.size := HS1.out.size
      have HNE : Hid (∀ i, Value.ownBlock _ = some i → w.heap.size ≤ i) := fun i hi => (HI.out.1.lt i hi).1
      clear ho1 hs1
      go_wp2_with (at_builtin; refine appL (fun i => w.heap.size ≤ i) rfl _ _ 22 rfl Tryd.underlying22 info5 rfl (by decide) HO1.out rfl HIS.out rfl (one_bytes _) hnn hbase HNE.out ?_; intro t2 w2 ho2 hs2; have HO2 := hide' ho2; have HS2 := hide' hs2; clear ho2 hs2)
      have HI2 : Hid (w2.ownsRow w.heap.size 5 1 t2 (putsL (l.take (k + 1))).length ((putsL (l.take (k + 1))).map bv) ∧ Stay (fun _ => False) w w2) := by
        refine ⟨?_, HS1.out.past HS2.out (fun i hi h => by omega)⟩
        rw [HSN.out, List.length_append, List.map_append]
        have := HO2.out
        rwa [List.length_map] at this
      go_roundg (n - (k + 1))
      case rel => exact ⟨k + 1, by omega, rfl, by go_num, HI2⟩
      case measure => omega
    · have hlk : l.take k = l := by rw [show k = l.length by have := HN.out; omega]; exact List.take_length
      have ho := HI.out.1
      rw [hlk] at ho
      obtain ⟨a1, c1, hb1⟩ := owned_arg ho HPT.out
      have HALL := hide' (all_arg hb1 (HI.out.2.tbl HT.out (fun h => h) H0.out) (by have := HPL.out; have := HN.out; omega))
      have HZ0 := hide' HI.out.2
      clear hlk ho hb1 HI
      go_wp2_with fail
      refine HALL.out.mono ?_
      rintro e w1 ⟨t1, rfl, ho1, hs1⟩
      have hx := HPA.out
      rw [hx] at ho1
      obtain ⟨a2, c2, rfl, h2⟩ := owns_nil_or ho1
      have hml : (l.map repR).length = n := by rw [List.length_map, ← HN.out]
      obtain ⟨g2, rfl, hc2⟩ := h2.resolve_left (fun h => by rw [h] at hml; simp at hml; omega)
      rw [hml] at hc2 ⊢
      have HC2 : Hid (∀ j, j < n → w1.cell? ⟨g2, j, none⟩ = some (.int .i32 (repR (l.getD j 0) : Nat))) := fun j hj => by
        rw [hc2 j hj]
        have hj2 : j < l.length := by have := HN.out; omega
        simp [rv, List.getD_eq_getElem?_getD, List.getElem?_map, List.getElem?_eq_getElem hj2]
      have HS1 := hide' (HZ0.out.trans hs1)
      have HB1 := hide' (HS1.out.rns HB.out (fun _ h => h))
      have HAW := hide' (fun q => awake_any (w1.drewN q) (HS1.out.tbl HT.out (fun h => h) H0.out) (by have := H0.out; have := HS1.out.size; show 0 < w1.heap.size; omega))
      clear ho1 hs1 hx h2 hml hc2
      go_wp2_with fail
      go_loopg [6] n (fun g i wr => ∃ k : Nat, k ≤ n ∧ g = n - k ∧ i = .int .i64 (k : Int) ∧ Hid (∃ q, wr = w1.drewN q))
      case atStart => exact ⟨0, Nat.zero_le _, rfl, rfl, 0, rfl⟩
      case round =>
        obtain ⟨k, hk, rfl, rfl, HQ⟩ := hrel
        by_cases hlt : k < n
        · have hlk : k < l.length := by have := HN.out; omega
          obtain ⟨z, hz⟩ : ∃ z, z = l.getD k 0 := ⟨_, rfl⟩
          obtain ⟨y, hy⟩ : ∃ y, y = repR z := ⟨_, rfl⟩
          have a1 : wr.cell? ⟨g2, k, none⟩ = some (.int .i32 (y : Nat)) := by obtain ⟨q, hq⟩ := HQ.out; rw [hq, hy, hz]; exact HC2.out k hlt
          have a2 : wr.cell? ⟨b, off + k, none⟩ = some (.int .i32 z) := by obtain ⟨q, hq⟩ := HQ.out; rw [hq, hz]; exact HB1.out k hlk
          have hyz : (y : Int) = z ∨ y = 65533 := by
            rw [hy]; unfold repR
            by_cases h : isR z
            · left; rw [if_pos h]; have := h.1; omega
            · right; rw [if_neg h]
          have k0 : (0 : Int) ≤ k := by omega
          have kn : (k : Int) < n := by omega
          clear hz hy
          by_cases he : (y : Int) = z
          · have e1 : ((y : Int) != z) = false := by simp [he]
            clear he hyz
            go_wp2_with fail
            go_quiet (fail)
            go_wp2
            go_roundg (n - (k + 1))
            case rel => exact ⟨k + 1, by omega, rfl, by go_num, by obtain ⟨q, hq⟩ := HQ.out; exact ⟨q + nq, by rw [hq]; simp [World.drewN, Nat.add_assoc]⟩⟩
            case measure => omega
          · have e1 : ((y : Int) != z) = true := by simp [he]
            have e2 : ((y : Int) != 65533) = false := by rw [hyz.resolve_left he]; rfl
            clear he hyz
            go_wp2_with fail
            go_quiet (fail)
            go_wp2
            go_roundg (n - (k + 1))
            case rel => exact ⟨k + 1, by omega, rfl, by go_num, by obtain ⟨q, hq⟩ := HQ.out; exact ⟨q + nq, by rw [hq]; simp [World.drewN, Nat.add_assoc]⟩⟩
            case measure => omega
        · have HAQ : Hid (Calls Tryd.prog 8 #[] wr fun e w' => e = .returned (.bool true) ∧ Stay (fun _ => False) w w') := by
            obtain ⟨q, hq⟩ := HQ.out
            subst hq
            exact (HAW.out q).mono fun e w' h => ⟨h.1, (HS1.out.drewN q).trans h.2⟩
          go_wp2_with fail
          refine HAQ.out.mono ?_
          rintro e w5 ⟨rfl, hs5⟩
          have HS5 := hide' hs5
          clear hs5
          go_wp2
          go_ret
          exact ⟨rfl, HS5.out⟩

theorem readable7 : ∀ t ∈ Tryd.f7.params.toList, Tryd.prog.readableRec t = true ∧ t < Tryd.prog.types.size := by
  rw [Tryd.params7]
  intro t ht
  have h : t = 25 := by simpa using ht
  rcases h with rfl <;> exact ⟨by kernel_rfl, by decide +kernel⟩

set_option maxRecDepth 100000 in
theorem utfBack_lifted (os : Os) (started : os.Started) (H : Type) (enc : TypeId × Value → H) :
    ReturnsInHanded {} Tryd.checked os 7 .any (fun w args => (Rows.utfBackSpec.pre enc Tryd.prog Tryd.f7 [] false w args ∧ laidMetH Tryd.prog [("betony/utf.forms", Rows.laid_betony_utf_forms)] w) ∧ sizedMet enc Tryd.prog Tryd.f7 (OpenSpec.ofChange Rows.utfBackSpec) false w args) (Rows.utfBackSpec.post enc Tryd.prog Tryd.f7 false true false false) := by
  refine returnsInHanded_of_change_and (C := Tryd.checked) (X := fun w _ => laidMetH Tryd.prog [("betony/utf.forms", Rows.laid_betony_utf_forms)] w) (fun _ _ _ hh h => h.of_heap hh) Tryd.own started (by kernel_rfl) Tryd.func7
    (ChangeSpec.witness_shaped (enc := enc) (C := Tryd.checked) (os := os) (X := fun w _ => laidMetH Tryd.prog [("betony/utf.forms", Rows.laid_betony_utf_forms)] w) false (World.doorLaid Tryd.prog 400 os) #[.slice none 0 0] 8 rfl (World.shaped_of_RefB (by kernel_rfl) (by kernel_rfl)) (by kernel_rfl) (by kernel_rfl) (by kernel_rfl) (door_met os _)) ?_
  intro W base args ds gs before hval0 hW _ _ hL _
  have hval : ∀ (j : Nat) t v, Tryd.f7.params[j]? = some t → args[j]? = some v → Value.okWide Tryd.prog W .any base t v := hval0
  have hW' := hW
  obtain ⟨p, q, hA0, hV, rfl, hfz, hnd⟩ := hW
  have hA : DataW.TrodAll enc Tryd.prog W 0 (fun _ => true) true Tryd.f7.params.toList args.toList ds p := hA0
  rw [Tryd.params7] at hA hval
  obtain ⟨v0, d0, rfl, rfl, h0⟩ := trodAll_one hA
  have hT := tbl_of_laid hL
  have hs := open_zs Tryd.underlying25 Tryd.underlying21 Tryd.cells21 (okWide_slice Tryd.underlying25 (hval 0 25 v0 rfl rfl)) h0
  have run : Calls Tryd.prog 7 #[v0] W (LawTrue W) := by
    rcases hs with ⟨a, cap, rfl⟩ | ⟨b, off, cap, l, hne, rfl, hc, hm, hw, hcell⟩
    · exact back_nil a cap W hT
    · by_cases hn : l.length ≤ 200
      · exact back_any l b off cap W hn hne hcell (fun x hx => i32_bd (hw x hx)) hT
      · exact back_long l.length cap _ W (by omega) (by omega) hT
  clear hA0 hval0 hval hA
  refine run.mono fun e W' hl => ?_
  have hb := hl.below
  obtain ⟨rfl, _⟩ := hl
  exact ⟨_, rfl, law_post Tryd.laidOut readable7 (by kernel_rfl) Tryd.underlying4 rfl hW' (fun _ => rfl) hb⟩

theorem utfBack_said : Rows.UtfBackSaid :=
  OpenClaim.holds_of_wide 7 Tryd.f7 rfl rfl rfl rfl rfl rfl rfl ⟨rfl, rfl, rfl, rfl, rfl⟩ rfl rfl rfl rfl rfl (by kernel_rfl) Tryd.func7 (by kernel_rfl)
    (of_decide_eq_true (by kernel_rfl)) (by unfold Func.isWrapper; first | (rw [if_pos (by decide +kernel)]; kernel_rfl) | (rw [if_neg (by decide +kernel)]; exact ⟨rfl, rfl⟩))
    (fun os started H enc _ => utfBack_lifted os started H enc)

theorem utfBack_holds : Rows.UtfBackCardSaid :=
  Claim7.holds_tied_plain_at .later [] [.wider] true (true, "64d957faab6dbb45aadd5e527e6b6a73dcc8c67575f5c2b38c49567fe74cfb0e") false
    utfBack_said (fun _ h => by cases h) (by kernel_rfl) (fun _ h => by cases h) utfBack_row_tie rfl ⟨rfl, rfl⟩ (by kernel_rfl) rfl
    (fun f fn hf hfn => by
      obtain rfl : f = 7 := Option.some.inj ((show Tryd.prog.funcNamed "betony/betonylaw02.UtfBack" = some 7 by kernel_rfl).symm.trans hf) |>.symm
      obtain rfl : fn = Tryd.f7 := (Option.some.inj (Tryd.func7.symm.trans hfn)).symm
      exact ⟨by kernel_rfl, fun j t ht => by
        rw [Tryd.params7] at ht
        have hm : t ∈ [25] := by simpa using Array.mem_of_getElem? ht
        have hall : ([25].all fun u => !Tryd.prog.wantsStandIn u) = true := by kernel_rfl
        exact (show Tryd.prog.wantsStandIn t = false by simpa using List.all_eq_true.1 hall t hm)⟩)
    (by kernel_rfl)

end Go.Proofs.YtofecgjlghfnlaaDoor
