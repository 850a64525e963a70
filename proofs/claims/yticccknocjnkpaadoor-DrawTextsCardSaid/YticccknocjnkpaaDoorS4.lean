/-
  Of any arguments the law DrawTexts returns true, and they read as they did; the tied card. No conditions.
-/
import Derived.Test.YticccknocjnkpaaDoorK4
import Derived.Test.YticccknocjnkpaaDoorA3
import Derived.SevenTiedAt
import Derived.Test.YticccknocjnkpaaDoorTie
namespace Go.Proofs.YticccknocjnkpaaDoor
open Go.ChangeShapes Go.WideShapes Go.ChangeAt Go.RowKit Go.Joins

set_option maxRecDepth 100000 in
/-- A pen that came in. -/
theorem open_pen {H : Type} {enc : TypeId × Value → H} {w : World} {base : Nat} {v : Value} {d : DataW H} {p : List MemPlace} (hval : Value.okWide Tryd.prog w .any base 23 v) (h : DataW.Trod enc Tryd.prog w 0 (fun _ => true) true 23 v d p) : ∃ q : Pe, v = .agg #[.int .i64 q.fg, .int .i64 q.bg, .int .i64 q.fl] := by
  obtain ⟨cs, rfl, _⟩ := okWide_struct Tryd.underlying23 hval
  obtain ⟨fuel, hf⟩ := h
  have k3 : ∀ (cs : List Value) (x : DataW H × List MemPlace) (fuel : Nat), DataW.trod enc Tryd.prog w 0 (fun _ => true) true fuel 3 cs = some x → KInts [.i64] cs := fun cs x fuel h => kints_int Tryd.underlying3 cs x fuel h
  have k := kints_struct Tryd.underlying23 (fun _ => [.i64]) (by kernel_rfl) (by kernel_rfl) (fun f hf => by
    simp only [List.mem_cons, List.not_mem_nil, or_false] at hf
    rcases hf with rfl | rfl | rfl <;> exact k3) _ _ _ hf
  obtain ⟨a, r1, e1, f1, b, r2, e2, f2, c, r3, e3, f3, e4⟩ := k
  subst e4
  subst e3 e2
  obtain ⟨l⟩ := cs
  have e1' : l = _ := e1
  subst e1'
  exact ⟨⟨a, b, c⟩, rfl⟩

theorem readable3 : ∀ t ∈ Tryd.f3.params.toList, Tryd.prog.readableRec t = true ∧ t < Tryd.prog.types.size := by
  rw [Tryd.params3]
  intro t ht
  have h : t = 9 ∨ t = 23 := by
    have h2 := ht
    simp at h2
    first | exact h2 | (rcases h2 with h2 | h2 | h2 <;> simp [h2])
  rcases h with rfl | rfl <;> exact ⟨by kernel_rfl, by decide +kernel⟩

set_option maxRecDepth 100000 in
theorem drawTexts_lifted (os : Os) (started : os.Started) (H : Type) (enc : TypeId × Value → H) :
    ReturnsInHanded {} Tryd.checked os 3 .any (fun w args => (Rows.drawTextsSpec.pre enc Tryd.prog Tryd.f3 [] false w args ∧ laidMetH Tryd.prog [("betony/wide.rows", Rows.laid_betony_wide_rows), ("betony/utf.forms", Rows.laid_betony_utf_forms)] w) ∧ sizedMet enc Tryd.prog Tryd.f3 (OpenSpec.ofChange Rows.drawTextsSpec) false w args) (Rows.drawTextsSpec.post enc Tryd.prog Tryd.f3 false true false false) := by
  refine returnsInHanded_of_change_and (C := Tryd.checked) (X := fun w _ => laidMetH Tryd.prog [("betony/wide.rows", Rows.laid_betony_wide_rows), ("betony/utf.forms", Rows.laid_betony_utf_forms)] w) (fun _ _ _ hh h => h.of_heap hh) Tryd.own started (by kernel_rfl) Tryd.func3
    (ChangeSpec.witness_shaped (enc := enc) (C := Tryd.checked) (os := os) (X := fun w _ => laidMetH Tryd.prog [("betony/wide.rows", Rows.laid_betony_wide_rows), ("betony/utf.forms", Rows.laid_betony_utf_forms)] w) false (World.doorLaid Tryd.prog 400 os) #[.string ⟨#[]⟩, .agg #[.int .i64 0, .int .i64 0, .int .i64 0]] 8 rfl (World.shaped_of_RefB (by kernel_rfl) (by kernel_rfl)) (by kernel_rfl) (by kernel_rfl) (by kernel_rfl) (door_both os _)) ?_
  intro W base args ds gs before hval0 hW _ _ hL _
  have hval : ∀ (j : Nat) t v, Tryd.f3.params[j]? = some t → args[j]? = some v → Value.okWide Tryd.prog W .any base t v := hval0
  have hW' := hW
  obtain ⟨p, q, hA0, hV, rfl, hfz, hnd⟩ := hW
  have hA : DataW.TrodAll enc Tryd.prog W 0 (fun _ => true) true Tryd.f3.params.toList args.toList ds p := hA0
  rw [Tryd.params3] at hA hval
  obtain ⟨v0, v1, d0, d1, p0, p1, rfl, rfl, rfl, h0, h1⟩ := trodAll_two hA
  obtain ⟨hTW, hTU⟩ := laid_both hL
  obtain ⟨s, rfl, rfl, rfl, hs⟩ := Go.ChangeMaps.open_string Tryd.underlying9 (hval 0 9 v0 rfl rfl) h0
  obtain ⟨q, rfl⟩ := open_pen (hval 1 23 v1 rfl rfl) h1
  have run : Calls Tryd.prog 3 #[.string s, .agg #[.int .i64 q.fg, .int .i64 q.bg, .int .i64 q.fl]] W (LawTrue W) := drawTexts3 text6 s q W (by unfold maxLen at hs; omega) hTW hTU
  clear hA0 hval0 hval hA
  refine run.mono fun e W' hl => ?_
  have hb := hl.below
  obtain ⟨rfl, _⟩ := hl
  exact ⟨_, rfl, law_post Tryd.laidOut readable3 (by kernel_rfl) Tryd.underlying4 rfl hW' (fun _ => rfl) hb⟩

theorem drawTexts_said : Rows.DrawTextsSaid :=
  OpenClaim.holds_of_wide 3 Tryd.f3 rfl rfl rfl rfl rfl rfl rfl ⟨rfl, rfl, rfl, rfl, rfl⟩ rfl rfl rfl rfl rfl (by kernel_rfl) Tryd.func3 (by kernel_rfl)
    (of_decide_eq_true (by kernel_rfl)) (by unfold Func.isWrapper; first | (rw [if_pos (by decide +kernel)]; kernel_rfl) | (rw [if_neg (by decide +kernel)]; exact ⟨rfl, rfl⟩))
    (fun os started H enc _ => drawTexts_lifted os started H enc)

theorem drawTexts_holds : Rows.DrawTextsCardSaid :=
  Claim7.holds_tied_plain_at .later [] [.data, .wider] true (true, "946497b6c1dcf17753bf2e64ca1b8155eccc5ab7de436fb01e1a56a73b2dc7c4") false
    drawTexts_said (fun _ h => by cases h) (by kernel_rfl) (fun _ h => by cases h) drawTexts_row_tie rfl ⟨rfl, rfl⟩ (by kernel_rfl) rfl
    (fun f fn hf hfn => by
      obtain rfl : f = 3 := Option.some.inj ((show Tryd.prog.funcNamed "betony/betonylaw13.DrawTexts" = some 3 by kernel_rfl).symm.trans hf) |>.symm
      obtain rfl : fn = Tryd.f3 := (Option.some.inj (Tryd.func3.symm.trans hfn)).symm
      exact ⟨by kernel_rfl, fun j t ht => by
        rw [Tryd.params3] at ht
        have hm : t ∈ [9, 23] := by simpa using Array.mem_of_getElem? ht
        have hall : ([9, 23].all fun u => !Tryd.prog.wantsStandIn u) = true := by kernel_rfl
        exact (show Tryd.prog.wantsStandIn t = false by simpa using List.all_eq_true.1 hall t hm)⟩)
    (by kernel_rfl)

end Go.Proofs.YticccknocjnkpaaDoor
