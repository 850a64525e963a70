/-
  For every bytes the law UtfAll returns true, and the argument reads as it did; the tied card.
-/
import Derived.Test.YtofecgjlghfnlaaDoorE0
import Derived.Test.YtofecgjlghfnlaaDoorTie
import Derived.Test.YtofecgjlghfnlaaDoorCards
namespace Go.Proofs.YtofecgjlghfnlaaDoor
open Go.ChangeShapes Go.WideShapes Go.ChangeAt Go.RowKit

theorem refAll_nil (a : Option Addr) (cap : Nat) (w : World) : Calls Tryd.prog 11 #[.slice a 0 cap] w (Runes w []) := by
  go_enter Tryd.func11, Tryd.ntmps11
  go_wp2_with fail
  go_loopg [3, 4, 5] 0 (fun g t i u wr => g = 0 ∧ t = .slice none 0 0 ∧ i = .int .i64 0 ∧ wr = w)
  case atStart => exact ⟨rfl, rfl, rfl, rfl⟩
  case round =>
    obtain ⟨rfl, rfl, rfl, rfl⟩ := hrel
    go_wp2
    go_ret
    exact ⟨_, rfl, World.ownsRow_nil _ _ _ _, Stay.refl _ _⟩

/-- Of a law: true, and nothing that was there has turned. -/
def LawTrue (w : World) (e : Ending) (w' : World) : Prop := e = .returned (.bool true) ∧ Stay (fun _ => False) w w'

theorem LawTrue.below {w w' : World} {e : Ending} (h : LawTrue w e w') : Below w.heap.size w w' := h.2.below (Nat.le_refl _) (fun _ _ h => h)

/-- The law, of whatever bytes both sides tell as the same runes. -/
theorem all_walk (l : List Nat) (v : Value) (n cap : Nat) (a : Option Addr) (w : World) (hv : v = .slice a n cap) (hl : l.length ≤ 2000) (hn : n = l.length) (hT : Tbl w) (h0 : 0 < w.heap.size)
    (h1 : ∀ wx, Stay (fun _ => False) w wx → Calls Tryd.prog 10 #[v] wx (Runes wx (runes l))) (h2 : ∀ wx, Stay (fun _ => False) w wx → Calls Tryd.prog 11 #[v] wx (Runes wx (runes l))) :
    Calls Tryd.prog 3 #[v] w (LawTrue w) := by
  subst hv
  have H1 := hide' h1
  have H2 := hide' h2
  have HT := hide' hT
  have hr : (runes l).length ≤ 100000 := by
    unfold runes
    have := outP_len [] l
    have := endP_len (foldP [] l)
    rw [List.length_append]; omega
  have HR := hide' hr
  have n2 : (n : Int) ≤ 2000 := by omega
  clear h1 h2 hT hr hn hl
  go_enter Tryd.func3, Tryd.ntmps3
  go_wp2_with fail
  refine (H1.out w (Stay.refl _ _)).mono ?_
  rintro e w1 ⟨t1, rfl, ho1, hs1⟩
  have HS1 := hide' hs1
  have HO1 := hide' ho1
  clear ho1 hs1
  go_wp2_with fail
  refine (H2.out w1 HS1.out).mono ?_
  rintro e w2 ⟨t2, rfl, ho2, hs2⟩
  have HS2 := hide' (HS1.out.trans hs2)
  have HO2 := hide' ho2
  have HO1' := hide' (hs2.owns HO1.out (fun _ _ h => h))
  clear ho2 hs2
  go_wp2_with fail
  refine (same_true (runes l) _ _ t1 t2 w2 HR.out HO1'.out HO2.out).mono ?_
  rintro e w3 ⟨rfl, hs3⟩
  have HS3 := hide' (HS2.out.trans hs3)
  have HA := hide' (awake_any w3 (HS3.out.tbl HT.out (fun h => h) h0) (by have := HS3.out.size; omega))
  clear hs3
  go_wp2_with fail
  refine HA.out.mono ?_
  rintro e w4 ⟨rfl, hs4⟩
  have HS4 := hide' (HS3.out.trans hs4)
  clear hs4
  go_wp2
  go_ret
  exact ⟨rfl, HS4.out⟩

theorem all_long (n cap : Nat) (a : Option Addr) (w : World) (hn : 2000 < n) (hm : n ≤ maxLen) (hT : Tbl w) (h0 : 0 < w.heap.size) : Calls Tryd.prog 3 #[.slice a n cap] w (LawTrue w) := by
  have hA := hide' (awake_any w hT h0)
  have n2 : (2000 : Int) < n := by omega
  have n3 : (n : Int) ≤ 9223372036854775807 := by unfold maxLen at hm; omega
  clear hT h0 hm hn
  go_enter Tryd.func3, Tryd.ntmps3
  go_wp2_with fail
  refine hA.out.mono ?_
  rintro e w4 ⟨rfl, hs4⟩
  have HS4 := hide' hs4
  clear hs4
  go_wp2
  go_ret
  exact ⟨rfl, HS4.out⟩

theorem readable3 : ∀ t ∈ Tryd.f3.params.toList, Tryd.prog.readableRec t = true ∧ t < Tryd.prog.types.size := by
  rw [Tryd.params3]
  intro t ht
  have h : t = 22 := by simpa using ht
  subst h
  exact ⟨by kernel_rfl, by decide +kernel⟩

theorem tbl_size {w : World} (h : Tbl w) : 0 < w.heap.size := World.block_lt_of_cell? _ _ (h 0 (by decide))

set_option maxRecDepth 100000 in
theorem all_lifted (os : Os) (started : os.Started) (H : Type) (enc : TypeId × Value → H) :
    ReturnsInHanded {} Tryd.checked os 3 .any (fun w args => (Rows.utfAllSpec.pre enc Tryd.prog Tryd.f3 [] false w args ∧ laidMetH Tryd.prog [("betony/utf.forms", Rows.laid_betony_utf_forms)] w) ∧ sizedMet enc Tryd.prog Tryd.f3 (OpenSpec.ofChange Rows.utfAllSpec) false w args)
      (Rows.utfAllSpec.post enc Tryd.prog Tryd.f3 false true false false) := by
  refine returnsInHanded_of_change_and (C := Tryd.checked) (X := fun w _ => laidMetH Tryd.prog [("betony/utf.forms", Rows.laid_betony_utf_forms)] w) (fun _ _ _ hh h => h.of_heap hh) Tryd.own started (by kernel_rfl) Tryd.func3
    (ChangeSpec.witness_shaped (enc := enc) (C := Tryd.checked) (os := os) (X := fun w _ => laidMetH Tryd.prog [("betony/utf.forms", Rows.laid_betony_utf_forms)] w) false (World.doorLaid Tryd.prog 400 os) #[.slice none 0 0] 8 rfl (World.shaped_of_RefB (by kernel_rfl) (by kernel_rfl)) (by kernel_rfl) (by kernel_rfl) (by kernel_rfl) (door_met os _)) ?_
  intro W base args ds gs before hval0 hW _ _ hL _
  have hval : ∀ (j : Nat) t v, Tryd.f3.params[j]? = some t → args[j]? = some v → Value.okWide Tryd.prog W .any base t v := hval0
  have hW' := hW
  obtain ⟨p, q, hA0, hV, rfl, hfz, hnd⟩ := hW
  have hA : DataW.TrodAll enc Tryd.prog W 0 (fun _ => true) true Tryd.f3.params.toList args.toList ds p := hA0
  rw [Tryd.params3] at hA hval
  obtain ⟨v0, d0, rfl, rfl, h0⟩ := trodAll_one hA
  have hT := tbl_of_laid hL
  have hs := open_bs (okWide_slice Tryd.underlying22 (hval 0 22 v0 rfl rfl)) h0
  clear hA0 hval0 hval hA h0
  have run : Calls Tryd.prog 3 #[v0] W (LawTrue W) := by
    rcases hs with ⟨a, cap, rfl⟩ | ⟨b, off, cap, l, hne, rfl, hc, hm, hB⟩
    · exact all_walk [] _ 0 cap a W rfl (by simp) rfl hT (tbl_size hT) (fun wx _ => all_nil a cap wx) (fun wx _ => refAll_nil a cap wx)
    · by_cases hn : l.length ≤ 2000
      · exact all_walk l _ _ cap _ W rfl hn rfl hT (tbl_size hT) (fun wx h => all_any l b off cap wx (h.tbl hT (fun h => h) (tbl_size hT)) (by have := tbl_size hT; have := h.size; omega) (by omega) (h.bytes hB (fun _ h => h)))
          (fun wx h => refAll_any l b off cap wx (by omega) hc hm (h.bytes hB (fun _ h => h)))
      · exact all_long l.length cap _ W (by omega) (by omega) hT (tbl_size hT)
  refine run.mono fun e W' hl => ?_
  have hb := hl.below
  obtain ⟨rfl, _⟩ := hl
  exact ⟨_, rfl, law_post Tryd.laidOut readable3 (by kernel_rfl) Tryd.underlying4 rfl hW' (fun _ => rfl) hb⟩

theorem utfAll_said : Rows.UtfAllSaid :=
  OpenClaim.holds_of_wide 3 Tryd.f3 rfl rfl rfl rfl rfl rfl rfl ⟨rfl, rfl, rfl, rfl, rfl⟩ rfl rfl rfl rfl rfl (by kernel_rfl) Tryd.func3 (by kernel_rfl)
    (of_decide_eq_true (by kernel_rfl)) (by unfold Func.isWrapper; first | (rw [if_pos (by decide +kernel)]; kernel_rfl) | (rw [if_neg (by decide +kernel)]; exact ⟨rfl, rfl⟩))
    (fun os started H enc _ => all_lifted os started H enc)

theorem utfAll_holds : Rows.UtfAllCardSaid :=
  Claim7.holds_tied_plain_at .later [] [.wider] true (true, "64d957faab6dbb45aadd5e527e6b6a73dcc8c67575f5c2b38c49567fe74cfb0e") false
    utfAll_said (fun _ h => by cases h) (by kernel_rfl) (fun _ h => by cases h) utfAll_row_tie rfl ⟨rfl, rfl⟩ (by kernel_rfl) rfl
    (fun f fn hf hfn => by
      obtain rfl : f = 3 := Option.some.inj ((show Tryd.prog.funcNamed "betony/betonylaw02.UtfAll" = some 3 by kernel_rfl).symm.trans hf) |>.symm
      obtain rfl : fn = Tryd.f3 := (Option.some.inj (Tryd.func3.symm.trans hfn)).symm
      exact ⟨by kernel_rfl, fun j t ht => by
        rw [Tryd.params3] at ht
        have hm : t ∈ [22] := by simpa using Array.mem_of_getElem? ht
        have hall : ([22].all fun u => !Tryd.prog.wantsStandIn u) = true := by kernel_rfl
        exact (show Tryd.prog.wantsStandIn t = false by simpa using List.all_eq_true.1 hall t hm)⟩)
    (by kernel_rfl)

end Go.Proofs.YtofecgjlghfnlaaDoor
