/-
  Lines that came in, opened. No conditions.
-/
import Derived.Test.YtkggmjjjopfdbaaP5
import Derived.Test.YtkggmjjjopfdbaaG0
import Derived.Deep.Grids
import Derived.Lib.SmallJoins
namespace Go.Proofs.Ytkggmjjjopfdbaa
open Go.ChangeShapes Go.WideShapes Go.ChangeAt Go.RowKit Go.Joins
open L17

/-- One line. -/
def LineOk (w : World) (g o : Nat) (x : Option Addr × List Int × Nat) : Prop :=
  w.cell? ⟨g, o, none⟩ = some (.slice x.1 x.2.1.length x.2.2) ∧ IArg .u8 w (.slice x.1 x.2.1.length x.2.2) x.2.1 x.1 x.2.2

section
variable {H : Type} {enc : TypeId × Value → H} {W : World}

theorem line_one {fuel : Nat} {cs : List Value} {y : DataW H × List MemPlace} {g o : Nat} {sp : _} (hl : cs.length = 1) (hc : ∀ j, j < 1 → W.cell? ((⟨g, o, sp⟩ : Addr).add j) = cs[j]?) (h : DataW.trod enc Try.prog W 0 (fun _ => true) true fuel 31 cs = some y) : sp = none ∧ ∃ x, LineOk W g o x := by
  match cs, hl with
  | [u0], _ =>
    have h0 := hc 0 (by decide)
    have hsp : sp = none := by
      have := World.cell?_spot h0
      simpa [Addr.add] using this
    subst hsp
    rw [addr_add] at h0
    have hu : ∃ a len cap, u0 = .slice a len cap := by
      rcases open_ints Try.underlying31 Try.underlying5 (by kernel_rfl) h with ⟨h, _⟩ | ⟨a, len, cap, _, h, _⟩
      · exact ⟨_, _, _, by simpa using h⟩
      · exact ⟨_, _, _, by simpa using h⟩
    obtain ⟨a, len, cap, rfl⟩ := hu
    obtain ⟨l, a', cap', hi⟩ := open_arg (H := H) (enc := enc) (W := W) (d := y.1) (p := y.2) Try.underlying31 Try.underlying5 (by kernel_rfl) ⟨a, len, cap, rfl⟩ ⟨fuel, h⟩
    have hs := hi.shape
    rw [hs] at h0 hi
    exact ⟨rfl, (a', l, cap'), h0, hi⟩

end

/-- Lines that came in. -/
theorem open_lines {H : Type} {enc : TypeId × Value → H} {W : World} {base : Nat} {v : Value} {d : DataW H} {p : List MemPlace} (hval : Value.okWide Try.prog W .any base 32 v) (h : DataW.Trod enc Try.prog W 0 (fun _ => true) true 32 v d p) :
    ∃ (ad : Option Addr) (n cap : Nat) (LS : List (List Int)), v = .slice ad n cap ∧ (n : Int) ≤ 9223372036854775807 ∧ LArg W ad n LS := by
  obtain ⟨a0, l0, c0, rfl⟩ := okWide_slice Try.underlying32 hval
  obtain ⟨fuel, hf⟩ := h
  have hc1 : Try.prog.cellsOf 31 = 1 := by kernel_rfl
  rcases Go.Deep.open_slice Try.underlying32 hf with ⟨hcs, _⟩ | ⟨a, len, cap, m, n, D, Pl, hcs, _, hlc, hcm, hm, _, hx⟩
  · have e : (Value.slice a0 l0 c0) = .slice none 0 0 := by simpa [Value.cells] using hcs
    cases e
    exact ⟨none, 0, 0, [], rfl, by decide, rfl, fun i hi => absurd hi (Nat.not_lt_zero _)⟩
  · have e : (Value.slice a0 l0 c0) = .slice (some a) len cap := by simpa [Value.cells] using hcs
    cases e
    have hmm : l0 ≤ m := by rw [hm]; simpa using hlc
    obtain ⟨b, o, spo⟩ := a
    have hsp : 0 < l0 → spo = none := fun h1 => by
      obtain ⟨cs, g1, g2⟩ := hx 0 (by omega)
      rw [hc1] at g1
      obtain ⟨_, hl, hcc⟩ := World.cells?_some g1
      rw [Nat.zero_mul] at hcc
      have h0 : (⟨b, o, spo⟩ : Addr).add 0 = ⟨b, o, spo⟩ := by unfold Addr.add; simp
      rw [h0] at hcc
      exact (line_one hl hcc g2).1
    have key : ∀ i, i < l0 → ∃ x, LineOk W b (o + i) x := fun i hi => by
      obtain ⟨cs, g1, g2⟩ := hx i (by omega)
      obtain rfl := hsp (by omega)
      rw [hc1] at g1
      obtain ⟨_, hl, hcc⟩ := World.cells?_some g1
      rw [addr_add, Nat.mul_one] at hcc
      exact (line_one hl hcc g2).2
    obtain ⟨F, hF⟩ := Go.Deep.choose_lt (α := Option Addr × List Int × Nat) (p := fun i x => LineOk W b (o + i) x) key
    refine ⟨some ⟨b, o, spo⟩, l0, c0, (List.range l0).map (fun i => (F i).2.1), rfl, by unfold maxLen at hcm; omega, by simp, fun i hi => ?_⟩
    have e : ((List.range l0).map (fun i => (F i).2.1)).getD i [] = (F i).2.1 := by
      rw [List.getD_eq_getElem?_getD, List.getElem?_map, List.getElem?_range hi]
      rfl
    obtain ⟨h1, h2⟩ := hF i hi
    rw [e]
    exact ⟨b, o, (F i).1, (F i).2.2, by rw [hsp (by omega)], h1, h2⟩

end Go.Proofs.Ytkggmjjjopfdbaa
