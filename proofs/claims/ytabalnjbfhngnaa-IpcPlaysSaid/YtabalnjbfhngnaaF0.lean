/-
  Messages that came in. No conditions.
-/
import Derived.Test.YtabalnjbfhngnaaA3
import Derived.Deep.Grids
namespace Go.Proofs.Ytabalnjbfhngnaa
open Go.ChangeShapes Go.WideShapes Go.ChangeAt Go.RowKit Go.Joins

/-- One message. -/
def MsgOk (w : World) (g o : Nat) (x : Int × Option Addr × List Int × Nat) : Prop :=
  w.cell? ⟨g, o, none⟩ = some (.int .i64 x.1) ∧ w.cell? ⟨g, o + 1, none⟩ = some (.slice x.2.1 x.2.2.1.length x.2.2.2) ∧ IArg .u8 w (.slice x.2.1 x.2.2.1.length x.2.2.2) x.2.2.1 x.2.1 x.2.2.2

section
variable {H : Type} {enc : TypeId × Value → H} {W : World}

theorem msg_one {fuel : Nat} {cs : List Value} {y : DataW H × List MemPlace} {g o : Nat} {sp : _} (hl : cs.length = 2) (hc : ∀ j, j < 2 → W.cell? ((⟨g, o, sp⟩ : Addr).add j) = cs[j]?) (h : DataW.trod enc Try.prog W 0 (fun _ => true) true fuel 28 cs = some y) : sp = none ∧ ∃ x, MsgOk W g o x := by
  obtain ⟨xs, m, _, _, _, hn, hf⟩ := DataW.trod_struct Try.underlying28 h
  match cs, hl with
  | [u0, u1], _ =>
    obtain ⟨z0, e0, _, _⟩ := DataW.trod_int Try.underlying3 (hf 0 _ rfl |>.trans (List.getElem?_eq_getElem (by rw [hn]; decide)))
    have h2 := hf 1 _ rfl |>.trans (List.getElem?_eq_getElem (by rw [hn]; decide))
    have c3 : Try.prog.cellsOf 3 = 1 := by kernel_rfl
    have c26 : Try.prog.cellsOf 26 = 1 := by kernel_rfl
    change List.take (Try.prog.cellsOf 3) [u0, u1] = _ at e0
    change DataW.trod enc Try.prog W 0 (fun _ => true) true m 26 (List.take (Try.prog.cellsOf 26) [u1]) = _ at h2
    rw [c3] at e0
    rw [c26] at h2
    have f0 : u0 = .int .i64 z0 := by simpa using e0
    subst f0
    have h0 := hc 0 (by decide)
    have h3 := hc 1 (by decide)
    have hsp : sp = none := by
      have := World.cell?_spot h0
      simpa [Addr.add] using this
    subst hsp
    rw [addr_add] at h0 h3
    have hu : ∃ a len cap, u1 = .slice a len cap := by
      rcases open_ints Try.underlying26 Try.underlying5 (by kernel_rfl) h2 with ⟨h, _⟩ | ⟨a, len, cap, _, h, _⟩
      · exact ⟨_, _, _, by simpa using h⟩
      · exact ⟨_, _, _, by simpa using h⟩
    obtain ⟨a, len, cap, rfl⟩ := hu
    obtain ⟨l, a', cap', hi⟩ := open_arg (H := H) (enc := enc) (W := W) (d := (xs[1]'(by rw [hn]; decide)).1) (p := (xs[1]'(by rw [hn]; decide)).2) Try.underlying26 Try.underlying5 (by kernel_rfl) ⟨a, len, cap, rfl⟩ ⟨m, h2⟩
    have hs := hi.shape
    rw [hs] at h3 hi
    exact ⟨rfl, (z0, a', l, cap'), h0, h3, hi⟩

end

/-- Messages that came in, one by one. -/
theorem open_msgs {H : Type} {enc : TypeId × Value → H} {W : World} {base : Nat} {v : Value} {d : DataW H} {p : List MemPlace} (hval : Value.okWide Try.prog W .any base 22 v) (h : DataW.Trod enc Try.prog W 0 (fun _ => true) true 22 v d p) :
    ∃ (ad : Option Addr) (n cap : Nat) (F : Nat → Int × Option Addr × List Int × Nat), v = .slice ad n cap ∧ (n : Int) ≤ 9223372036854775807 ∧ ∀ i, i < n → ∃ g o, ad = some ⟨g, o, none⟩ ∧ MsgOk W g (o + i * 2) (F i) := by
  obtain ⟨a0, l0, c0, rfl⟩ := okWide_slice Try.underlying22 hval
  obtain ⟨fuel, hf⟩ := h
  have hc28 : Try.prog.cellsOf 28 = 2 := by kernel_rfl
  rcases Go.Deep.open_slice Try.underlying22 hf with ⟨hcs, _⟩ | ⟨a, len, cap, m, n, D, Pl, hcs, _, hlc, hcm, hm, _, hx⟩
  · have e : (Value.slice a0 l0 c0) = .slice none 0 0 := by simpa [Value.cells] using hcs
    cases e
    exact ⟨none, 0, 0, fun _ => (0, none, [], 0), rfl, by decide, fun i hi => absurd hi (Nat.not_lt_zero _)⟩
  · have e : (Value.slice a0 l0 c0) = .slice (some a) len cap := by simpa [Value.cells] using hcs
    cases e
    have hmm : l0 ≤ m := by rw [hm]; simpa using hlc
    obtain ⟨b, o, spo⟩ := a
    have hsp : 0 < l0 → spo = none := fun h1 => by
      obtain ⟨cs, g1, g2⟩ := hx 0 (by omega)
      rw [hc28] at g1
      obtain ⟨_, hl, hcc⟩ := World.cells?_some g1
      rw [Nat.zero_mul] at hcc
      have h0 : (⟨b, o, spo⟩ : Addr).add 0 = ⟨b, o, spo⟩ := by unfold Addr.add; simp
      rw [h0] at hcc
      exact (msg_one hl hcc g2).1
    have key : ∀ i, i < l0 → ∃ x, MsgOk W b (o + i * 2) x := fun i hi => by
      obtain ⟨cs, g1, g2⟩ := hx i (by omega)
      obtain rfl := hsp (by omega)
      rw [hc28] at g1
      obtain ⟨_, hl, hcc⟩ := World.cells?_some g1
      rw [addr_add] at hcc
      exact (msg_one hl hcc g2).2
    obtain ⟨F, hF⟩ := Go.Deep.choose_lt (α := Int × Option Addr × List Int × Nat) (p := fun i x => MsgOk W b (o + i * 2) x) key
    exact ⟨some ⟨b, o, spo⟩, l0, c0, F, rfl, by unfold maxLen at hcm; omega, fun i hi => ⟨b, o, by rw [hsp (by omega)], hF i hi⟩⟩

end Go.Proofs.Ytabalnjbfhngnaa
