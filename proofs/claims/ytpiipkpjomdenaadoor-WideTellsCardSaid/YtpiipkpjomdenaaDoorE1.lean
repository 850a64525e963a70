/-
  For every number the law WideTells returns true, and the argument reads as it did; the tied card.
-/
import Derived.Test.YtpiipkpjomdenaaDoorE0
import Derived.Test.YtpiipkpjomdenaaDoorTie
import Derived.Test.YtpiipkpjomdenaaDoorCards
namespace Go.Proofs.YtpiipkpjomdenaaDoor
open Go.ChangeShapes Go.WideShapes Go.ChangeAt Go.RowKit

set_option maxHeartbeats 400000 in
theorem tells_any (r : Int) (w : World) (h1 : -2147483648 ≤ r) (h2 : r ≤ 2147483647) (hT : Tbl w) : Calls Tryd.prog 3 #[.int .i32 r] w (LawTrue w) := by
  have HT := hide' hT
  have HX := hide' (width6 r w hT)
  obtain ⟨x, hx⟩ : ∃ x, x = wid r := ⟨_, rfl⟩
  have HY : Hid (∀ w1, Calls Tryd.prog 7 #[.int .i64 r] w1 (Gives (.int .i64 x) w1)) := fun w1 => by rw [hx]; exact refWidth7 r w1
  rw [← hx] at HX
  clear hT hx
  go_enter Tryd.func3, Tryd.ntmps3
  go_wp2_with fail
  refine HX.out.mono ?_
  rintro e w1 ⟨rfl, hs1⟩
  have HS1 := hide' hs1
  clear hs1
  go_wp2_with fail
  refine (HY.out _).mono ?_
  rintro e w2 ⟨rfl, hs2⟩
  have HS2 := hide' (HS1.out.trans hs2)
  have HA := hide' (awake_any w2 (HT.out.stay HS2.out))
  clear hs2
  go_wp2_with fail
  refine HA.out.mono ?_
  rintro e w3 ⟨rfl, hs3⟩
  have HS3 := hide' (HS2.out.trans hs3)
  clear hs3
  go_wp2
  go_ret
  exact ⟨rfl, HS3.out⟩

theorem readable3 : ∀ t ∈ Tryd.f3.params.toList, Tryd.prog.readableRec t = true ∧ t < Tryd.prog.types.size := by
  rw [Tryd.params3]
  intro t ht
  have h : t = 21 := by simpa using ht
  rcases h with rfl <;> exact ⟨by kernel_rfl, by decide +kernel⟩

set_option maxRecDepth 100000 in
theorem wideTells_lifted (os : Os) (started : os.Started) (H : Type) (enc : TypeId × Value → H) :
    ReturnsInHanded {} Tryd.checked os 3 .any (fun w args => (Rows.wideTellsSpec.pre enc Tryd.prog Tryd.f3 [] false w args ∧ laidMetH Tryd.prog [("betony/wide.rows", Rows.laid_betony_wide_rows)] w) ∧ sizedMet enc Tryd.prog Tryd.f3 (OpenSpec.ofChange Rows.wideTellsSpec) false w args) (Rows.wideTellsSpec.post enc Tryd.prog Tryd.f3 false true false false) := by
  refine returnsInHanded_of_change_and (C := Tryd.checked) (X := fun w _ => laidMetH Tryd.prog [("betony/wide.rows", Rows.laid_betony_wide_rows)] w) (fun _ _ _ hh h => h.of_heap hh) Tryd.own started (by kernel_rfl) Tryd.func3
    (ChangeSpec.witness_shaped (enc := enc) (C := Tryd.checked) (os := os) (X := fun w _ => laidMetH Tryd.prog [("betony/wide.rows", Rows.laid_betony_wide_rows)] w) false (World.doorLaid Tryd.prog 400 os) #[.int .i32 0] 8 rfl (World.shaped_of_RefB (by kernel_rfl) (by kernel_rfl)) (by kernel_rfl) (by kernel_rfl) (by kernel_rfl) (door_met os _)) ?_
  intro W base args ds gs before hval0 hW _ _ hL _
  have hval : ∀ (j : Nat) t v, Tryd.f3.params[j]? = some t → args[j]? = some v → Value.okWide Tryd.prog W .any base t v := hval0
  have hW' := hW
  obtain ⟨p, q, hA0, hV, rfl, hfz, hnd⟩ := hW
  have hA : DataW.TrodAll enc Tryd.prog W 0 (fun _ => true) true Tryd.f3.params.toList args.toList ds p := hA0
  rw [Tryd.params3] at hA hval
  obtain ⟨v0, d0, rfl, rfl, h0⟩ := trodAll_one hA
  have hT := tbl_of_laid hL
  obtain ⟨r, rfl, rfl, rfl, wr⟩ := open_int Tryd.underlying21 (hval 0 21 v0 rfl rfl) h0
  have run : Calls Tryd.prog 3 #[.int .i32 r] W (LawTrue W) := tells_any r W (wf_i32 wr).1 (wf_i32 wr).2 hT
  clear hA0 hval0 hval hA
  refine run.mono fun e W' hl => ?_
  have hb := hl.below
  obtain ⟨rfl, _⟩ := hl
  exact ⟨_, rfl, law_post Tryd.laidOut readable3 (by kernel_rfl) Tryd.underlying4 rfl hW' (fun _ => rfl) hb⟩

theorem wideTells_said : Rows.WideTellsSaid :=
  OpenClaim.holds_of_wide 3 Tryd.f3 rfl rfl rfl rfl rfl rfl rfl ⟨rfl, rfl, rfl, rfl, rfl⟩ rfl rfl rfl rfl rfl (by kernel_rfl) Tryd.func3 (by kernel_rfl)
    (of_decide_eq_true (by kernel_rfl)) (by unfold Func.isWrapper; first | (rw [if_pos (by decide +kernel)]; kernel_rfl) | (rw [if_neg (by decide +kernel)]; exact ⟨rfl, rfl⟩))
    (fun os started H enc _ => wideTells_lifted os started H enc)

theorem wideTells_holds : Rows.WideTellsCardSaid :=
  Claim7.holds_tied_plain_at .later [] [.data] true (true, "1dd5758dff86a9c9ec08edbdf2caae533aeac4100cf122b88b61b43550daa817") false
    wideTells_said (fun _ h => by cases h) (by kernel_rfl) (fun _ h => by cases h) wideTells_row_tie rfl ⟨rfl, rfl⟩ (by kernel_rfl) rfl
    (fun f fn hf hfn => by
      obtain rfl : f = 3 := Option.some.inj ((show Tryd.prog.funcNamed "betony/betonylaw03.WideTells" = some 3 by kernel_rfl).symm.trans hf) |>.symm
      obtain rfl : fn = Tryd.f3 := (Option.some.inj (Tryd.func3.symm.trans hfn)).symm
      exact ⟨by kernel_rfl, fun j t ht => by
        rw [Tryd.params3] at ht
        have hm : t ∈ [21] := by simpa using Array.mem_of_getElem? ht
        have hall : ([21].all fun u => !Tryd.prog.wantsStandIn u) = true := by kernel_rfl
        exact (show Tryd.prog.wantsStandIn t = false by simpa using List.all_eq_true.1 hall t hm)⟩)
    (by kernel_rfl)

end Go.Proofs.YtpiipkpjomdenaaDoor
