/-
  Acts that came in. No conditions.
-/
import Derived.Test.YtefpifnfinkbaaaH1
import Derived.Test.YtefpifnfinkbaaaH2
import Derived.Deep.Grids
namespace Go.Proofs.Ytefpifnfinkbaaa
open Go.ChangeShapes Go.WideShapes Go.ChangeAt Go.RowKit Go.Joins

/-- Acts that came in. -/
structure Acts (w : World) (ad : Option Addr) (n : Nat) (F : Nat → Ac) : Prop where
  at' : ∀ i, i < n → ∃ g o, ad = some ⟨g, o, none⟩ ∧ ABoxAt w g (o + i * 6) (F i)
  wf : ∀ i, i < n → W64 (F i).tty ∧ W64 (F i).grp
  le : (n : Int) ≤ 9223372036854775807

theorem Acts.keep {w w1 : World} {ad : Option Addr} {n : Nat} {F : Nat → Ac} (h : Acts w ad n F) (hs : Stay (fun _ => False) w w1) : Acts w1 ad n F :=
  ⟨fun i hi => by obtain ⟨g, o, h1, h2⟩ := h.at' i hi; exact ⟨g, o, h1, h2.keep hs⟩, h.wf, h.le⟩

theorem wf_w64 {x : Int} (h : (Lit.int .i64 x).wf = true) : W64 x := by
  have z1 : IntKind.i64.min = -9223372036854775808 := by decide
  have z2 : IntKind.i64.max = 9223372036854775807 := by decide
  simp only [Lit.wf, decide_eq_true_eq, Bool.and_eq_true] at h
  unfold W64
  omega

section
variable {H : Type} {enc : TypeId × Value → H} {W : World}

set_option maxRecDepth 100000 in
theorem act_one {fuel : Nat} {cs : List Value} {y : DataW H × List MemPlace} {g o : Nat} {sp : _} (hl : cs.length = 6) (hc : ∀ j, j < 6 → W.cell? ((⟨g, o, sp⟩ : Addr).add j) = cs[j]?) (h : DataW.trod enc Try.prog W 0 (fun _ => true) true fuel 32 cs = some y) : sp = none ∧ ∃ x : Ac, ABoxAt W g o x ∧ W64 x.tty ∧ W64 x.grp := by
  obtain ⟨xs, m, _, _, _, hn, hf⟩ := DataW.trod_struct Try.underlying32 h
  match cs, hl with
  | [u0, u1, u2, u3, u4, u5], _ =>
    obtain ⟨z0, e0, _, w0⟩ := DataW.trod_int Try.underlying3 (hf 0 _ rfl |>.trans (List.getElem?_eq_getElem (by rw [hn]; decide)))
    obtain ⟨z1, e1, _, w1⟩ := DataW.trod_int Try.underlying3 (hf 1 _ rfl |>.trans (List.getElem?_eq_getElem (by rw [hn]; decide)))
    obtain ⟨z2, e2, _, w2⟩ := DataW.trod_int Try.underlying3 (hf 2 _ rfl |>.trans (List.getElem?_eq_getElem (by rw [hn]; decide)))
    obtain ⟨z3, e3, _, w3⟩ := DataW.trod_int Try.underlying3 (hf 3 _ rfl |>.trans (List.getElem?_eq_getElem (by rw [hn]; decide)))
    obtain ⟨z4, e4, _, w4⟩ := DataW.trod_int Try.underlying3 (hf 4 _ rfl |>.trans (List.getElem?_eq_getElem (by rw [hn]; decide)))
    obtain ⟨z5, e5, _⟩ := DataW.trod_bool Try.underlying4 (hf 5 _ rfl |>.trans (List.getElem?_eq_getElem (by rw [hn]; decide)))
    have c3 : Try.prog.cellsOf 3 = 1 := by kernel_rfl
    have c4 : Try.prog.cellsOf 4 = 1 := by kernel_rfl
    change List.take (Try.prog.cellsOf 3) [u0, u1, u2, u3, u4, u5] = _ at e0
    change List.take (Try.prog.cellsOf 3) [u1, u2, u3, u4, u5] = _ at e1
    change List.take (Try.prog.cellsOf 3) [u2, u3, u4, u5] = _ at e2
    change List.take (Try.prog.cellsOf 3) [u3, u4, u5] = _ at e3
    change List.take (Try.prog.cellsOf 3) [u4, u5] = _ at e4
    change List.take (Try.prog.cellsOf 4) [u5] = _ at e5
    rw [c3] at e0 e1 e2 e3 e4
    rw [c4] at e5
    have f0 : u0 = .int .i64 z0 := by simpa using e0
    have f1 : u1 = .int .i64 z1 := by simpa using e1
    have f2 : u2 = .int .i64 z2 := by simpa using e2
    have f3 : u3 = .int .i64 z3 := by simpa using e3
    have f4 : u4 = .int .i64 z4 := by simpa using e4
    have f5 : u5 = .bool z5 := by simpa using e5
    subst f0 f1 f2 f3 f4 f5
    have h0 := hc 0 (by decide)
    have h1 := hc 1 (by decide)
    have h2 := hc 2 (by decide)
    have h3 := hc 3 (by decide)
    have h4 := hc 4 (by decide)
    have h5 := hc 5 (by decide)
    have hsp : sp = none := by
      have := World.cell?_spot h0
      simpa [Addr.add] using this
    subst hsp
    rw [addr_add] at h0 h1 h2 h3 h4 h5
    exact ⟨rfl, ⟨z0, z1, z2, z3, z4, z5⟩, ⟨h0, h1, h2, h3, h4, h5⟩, wf_w64 w4, wf_w64 w3⟩

end

set_option maxRecDepth 100000 in
/-- Acts that came in, one by one. -/
theorem open_acts {H : Type} {enc : TypeId × Value → H} {W : World} {base : Nat} {v : Value} {d : DataW H} {p : List MemPlace} (hval : Value.okWide Try.prog W .any base 22 v) (h : DataW.Trod enc Try.prog W 0 (fun _ => true) true 22 v d p) :
    ∃ (ad : Option Addr) (n cap : Nat) (F : Nat → Ac), v = .slice ad n cap ∧ Acts W ad n F := by
  obtain ⟨a0, l0, c0, rfl⟩ := okWide_slice Try.underlying22 hval
  obtain ⟨fuel, hf⟩ := h
  have hc32 : Try.prog.cellsOf 32 = 6 := by kernel_rfl
  rcases Go.Deep.open_slice Try.underlying22 hf with ⟨hcs, _⟩ | ⟨a, len, cap, m, n, D, Pl, hcs, _, hlc, hcm, hm, _, hx⟩
  · have e : (Value.slice a0 l0 c0) = .slice none 0 0 := by simpa [Value.cells] using hcs
    cases e
    exact ⟨none, 0, 0, fun _ => ⟨0, 0, 0, 0, 0, false⟩, rfl, fun i hi => absurd hi (Nat.not_lt_zero _), fun i hi => absurd hi (Nat.not_lt_zero _), by decide⟩
  · have e : (Value.slice a0 l0 c0) = .slice (some a) len cap := by simpa [Value.cells] using hcs
    cases e
    have hmm : l0 ≤ m := by rw [hm]; simpa using hlc
    obtain ⟨b, o, spo⟩ := a
    have hsp : 0 < l0 → spo = none := fun h1 => by
      obtain ⟨cs, g1, g2⟩ := hx 0 (by omega)
      rw [hc32] at g1
      obtain ⟨_, hl, hcc⟩ := World.cells?_some g1
      rw [Nat.zero_mul] at hcc
      have h0 : (⟨b, o, spo⟩ : Addr).add 0 = ⟨b, o, spo⟩ := by unfold Addr.add; simp
      rw [h0] at hcc
      exact (act_one hl hcc g2).1
    have key : ∀ i, i < l0 → ∃ x : Ac, ABoxAt W b (o + i * 6) x ∧ W64 x.tty ∧ W64 x.grp := fun i hi => by
      obtain ⟨cs, g1, g2⟩ := hx i (by omega)
      obtain rfl := hsp (by omega)
      rw [hc32] at g1
      obtain ⟨_, hl, hcc⟩ := World.cells?_some g1
      rw [addr_add] at hcc
      exact (act_one hl hcc g2).2
    haveI : Inhabited Ac := ⟨⟨0, 0, 0, 0, 0, false⟩⟩
    obtain ⟨F, hF⟩ := Go.Deep.choose_lt (α := Ac) (p := fun i x => ABoxAt W b (o + i * 6) x ∧ W64 x.tty ∧ W64 x.grp) key
    exact ⟨some ⟨b, o, spo⟩, l0, c0, F, rfl, fun i hi => ⟨b, o, by rw [hsp (by omega)], (hF i hi).1⟩, fun i hi => (hF i hi).2, by unfold maxLen at hcm; omega⟩

end Go.Proofs.Ytefpifnfinkbaaa
