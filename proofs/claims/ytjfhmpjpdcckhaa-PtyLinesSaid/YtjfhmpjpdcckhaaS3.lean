/-
  Of any arguments the law PtyLines returns true, and they read as they did. No conditions.
-/
import Derived.Test.YtjfhmpjpdcckhaaE5
import Derived.Lib.SmallJoins
import Derived.Deep.Grids
namespace Go.Proofs.Ytjfhmpjpdcckhaa
open Go.ChangeShapes Go.WideShapes Go.ChangeAt Go.RowKit Go.Joins
open L17 L18

/-- One line. -/
def LineOk (w : World) (g o : Nat) (x : Option Addr × List Int × Nat) : Prop :=
  w.cell? ⟨g, o, none⟩ = some (.slice x.1 x.2.1.length x.2.2) ∧ IArg .u8 w (.slice x.1 x.2.1.length x.2.2) x.2.1 x.1 x.2.2

section
variable {H : Type} {enc : TypeId × Value → H} {W : World}

theorem line_one {fuel : Nat} {cs : List Value} {y : DataW H × List MemPlace} {g o : Nat} {sp : _} (hl : cs.length = 1) (hc : ∀ j, j < 1 → W.cell? ((⟨g, o, sp⟩ : Addr).add j) = cs[j]?) (h : DataW.trod enc Try.prog W 0 (fun _ => true) true fuel 22 cs = some y) : sp = none ∧ ∃ x, LineOk W g o x := by
  match cs, hl with
  | [u0], _ =>
    have h0 := hc 0 (by decide)
    have hsp : sp = none := by
      have := World.cell?_spot h0
      simpa [Addr.add] using this
    subst hsp
    rw [addr_add] at h0
    have hu : ∃ a len cap, u0 = .slice a len cap := by
      rcases open_ints Try.underlying22 Try.underlying5 (by kernel_rfl) h with ⟨h, _⟩ | ⟨a, len, cap, _, h, _⟩
      · exact ⟨_, _, _, by simpa using h⟩
      · exact ⟨_, _, _, by simpa using h⟩
    obtain ⟨a, len, cap, rfl⟩ := hu
    obtain ⟨l, a', cap', hi⟩ := open_arg (H := H) (enc := enc) (W := W) (d := y.1) (p := y.2) Try.underlying22 Try.underlying5 (by kernel_rfl) ⟨a, len, cap, rfl⟩ ⟨fuel, h⟩
    have hs := hi.shape
    rw [hs] at h0 hi
    exact ⟨rfl, (a', l, cap'), h0, hi⟩

end

/-- Lines that came in. -/
theorem open_lines {H : Type} {enc : TypeId × Value → H} {W : World} {base : Nat} {v : Value} {d : DataW H} {p : List MemPlace} (hval : Value.okWide Try.prog W .any base 45 v) (h : DataW.Trod enc Try.prog W 0 (fun _ => true) true 45 v d p) :
    ∃ (ad : Option Addr) (n cap : Nat) (LS : List (List Int)), v = .slice ad n cap ∧ (n : Int) ≤ 9223372036854775807 ∧ LArg W ad n LS := by
  obtain ⟨a0, l0, c0, rfl⟩ := okWide_slice Try.underlying45 hval
  obtain ⟨fuel, hf⟩ := h
  have hc1 : Try.prog.cellsOf 22 = 1 := by kernel_rfl
  rcases Go.Deep.open_slice Try.underlying45 hf with ⟨hcs, _⟩ | ⟨a, len, cap, m, n, D, Pl, hcs, _, hlc, hcm, hm, _, hx⟩
  · have e : (Value.slice a0 l0 c0) = .slice none 0 0 := by simpa [Value.cells] using hcs
    cases e
    exact ⟨none, 0, 0, [], rfl, by decide, rfl, fun i hi => absurd hi (Nat.not_lt_zero _)⟩
  · have e : (Value.slice a0 l0 c0) = .slice (some a) len cap := by simpa [Value.cells] using hcs
    cases e
    have hmm : l0 ≤ m := by rw [hm]; simpa using hlc
    obtain ⟨b, o, spo⟩ := a
    have hsp : 0 < l0 → spo = none := fun h1 => by
      obtain ⟨cs, g1, g2⟩ := hx 0 (by omega)
      rw [hc1] at g1
      obtain ⟨_, hl, hcc⟩ := World.cells?_some g1
      rw [Nat.zero_mul] at hcc
      have h0 : (⟨b, o, spo⟩ : Addr).add 0 = ⟨b, o, spo⟩ := by unfold Addr.add; simp
      rw [h0] at hcc
      exact (line_one hl hcc g2).1
    have key : ∀ i, i < l0 → ∃ x, LineOk W b (o + i) x := fun i hi => by
      obtain ⟨cs, g1, g2⟩ := hx i (by omega)
      obtain rfl := hsp (by omega)
      rw [hc1] at g1
      obtain ⟨_, hl, hcc⟩ := World.cells?_some g1
      rw [addr_add, Nat.mul_one] at hcc
      exact (line_one hl hcc g2).2
    obtain ⟨F, hF⟩ := Go.Deep.choose_lt (α := Option Addr × List Int × Nat) (p := fun i x => LineOk W b (o + i) x) key
    refine ⟨some ⟨b, o, spo⟩, l0, c0, (List.range l0).map (fun i => (F i).2.1), rfl, by unfold maxLen at hcm; omega, by simp, fun i hi => ?_⟩
    have e : ((List.range l0).map (fun i => (F i).2.1)).getD i [] = (F i).2.1 := by
      rw [List.getD_eq_getElem?_getD, List.getElem?_map, List.getElem?_range hi]
      rfl
    obtain ⟨h1, h2⟩ := hF i hi
    rw [e]
    exact ⟨b, o, (F i).1, (F i).2.2, by rw [hsp (by omega)], h1, h2⟩

theorem readable5 : ∀ t ∈ Try.f5.params.toList, Try.prog.readableRec t = true ∧ t < Try.prog.types.size := by
  rw [Try.params5]
  intro t ht
  have h : t = 45 := by
    have h2 := ht
    simp at h2
    first | exact h2 | (rcases h2 with h2 | h2 | h2 <;> simp [h2])
  rcases h with rfl <;> exact ⟨by kernel_rfl, by decide +kernel⟩

set_option maxRecDepth 100000 in
theorem ptyLines_lifted (os : Os) (started : os.Started) (H : Type) (enc : TypeId × Value → H) :
    ReturnsInHanded {} Try.checked os 5 .any (Rows.ptyLinesSpec.pre6 enc Try.prog Try.f5 Rows.ptyLinesRow.domain false) (Rows.ptyLinesSpec.post enc Try.prog Try.f5 false true false false) := by
  refine returnsInHanded_of_change (C := Try.checked) Try.own started (by kernel_rfl) Try.func5
    (ChangeSpec.witness6 (enc := enc) (C := Try.checked) false ⟨#[], #[.slice none 0 0], []⟩ 8 (by kernel_rfl) (by kernel_rfl) (by kernel_rfl) (by kernel_rfl)) ?_
  intro W base args ds gs before hval0 hW hcnd _
  have hval : ∀ (j : Nat) t v, Try.f5.params[j]? = some t → args[j]? = some v → Value.okWide Try.prog W .any base t v := hval0
  have hW' := hW
  obtain ⟨p, q, hA0, hV, rfl, hfz, hnd⟩ := hW
  have hA : DataW.TrodAll enc Try.prog W 0 (fun _ => true) true Try.f5.params.toList args.toList ds p := hA0
  rw [Try.params5] at hA hval
  obtain ⟨v0, d0, rfl, rfl, h0⟩ := trodAll_one hA
  obtain ⟨ad, n, ca, LS, rfl, hn, hLA⟩ := open_lines (hval 0 45 v0 rfl rfl) h0
  have run : Calls Try.prog 5 #[.slice ad n ca] W (LawTrue W) := by
    by_cases h : 8 < n
    · exact lines_long ad n ca W hn h
    · exact lines_walk LS ad n ca W hLA (by omega)
  clear hA0 hval0 hval hA
  refine run.mono fun e W' hl => ?_
  have hb := hl.below
  obtain ⟨rfl, _⟩ := hl
  exact ⟨_, rfl, law_post Try.laidOut readable5 (by kernel_rfl) Try.underlying4 rfl hW' (fun _ => rfl) hb⟩

theorem ptyLines_said : Rows.PtyLinesSaid :=
  OpenClaim.holds_of_wide 5 Try.f5 rfl rfl rfl rfl rfl rfl rfl ⟨rfl, rfl, rfl, rfl, rfl⟩ rfl rfl rfl rfl rfl (by kernel_rfl) Try.func5 (by kernel_rfl)
    (of_decide_eq_true (by kernel_rfl)) (by unfold Func.isWrapper; first | (rw [if_pos (by decide +kernel)]; kernel_rfl) | (rw [if_neg (by decide +kernel)]; exact ⟨rfl, rfl⟩))
    (fun os started H enc _ => ptyLines_lifted os started H enc)

end Go.Proofs.Ytjfhmpjpdcckhaa
