/-
  Rows of structs of integers that came in. No conditions.
-/
import Derived.Test.YtdhlgjkjdmejfaaA2
import Derived.Lib.SmallJoins
namespace Go.Proofs.Ytdhlgjkjdmejfaa
open Go.ChangeShapes Go.WideShapes Go.ChangeAt Go.RowKit Go.Joins

theorem Try.laidOut : laidOutB Try.prog = true := by kernel_rfl
theorem Try.own : ownKnob Try.prog.godebug = none := by kernel_rfl

/-- Cells that are integers of these kinds, and fit. -/
def KInts : List IntKind → List Value → Prop
  | [], cs => cs = []
  | k :: ks, cs => ∃ n rest, cs = .int k n :: rest ∧ (Lit.int k n).wf = true ∧ KInts ks rest

theorem KInts.append : ∀ {a b : List IntKind} {xs ys : List Value}, KInts a xs → KInts b ys → KInts (a ++ b) (xs ++ ys)
  | [], _, xs, _, h, k => by
    have h' : xs = [] := h
    subst h'
    exact k
  | _ :: _, _, _, _, ⟨n, rest, e, hw, hr⟩, k => ⟨n, rest ++ _, by rw [e]; rfl, hw, KInts.append hr k⟩

def offsB (c : Field → Nat) : Nat → List Field → Bool
  | _, [] => true
  | o, f :: r => f.offset == o && offsB c (o + c f) r

theorem kints_go (c : Field → Nat) (K : Field → List IntKind) : ∀ (fs : List Field) (o : Nat) (cs : List Value), cs.length = o + (fs.map c).sum → offsB c o fs = true → (∀ f ∈ fs, KInts (K f) ((cs.drop f.offset).take (c f))) → KInts (fs.flatMap K) (cs.drop o)
  | [], o, cs, hl, _, _ => by
    simp at hl
    show cs.drop o = []
    rw [List.drop_of_length_le (by omega)]
  | f :: r, o, cs, hl, ho, h => by
    simp only [offsB, Bool.and_eq_true, beq_iff_eq] at ho
    have ih := kints_go c K r (o + c f) cs (by rw [hl, List.map_cons, List.sum_cons]; omega) ho.2 (fun g hg => h g (List.mem_cons_of_mem _ hg))
    have h0 := h f List.mem_cons_self
    rw [ho.1] at h0
    have := h0.append ih
    rw [← List.drop_drop, List.take_append_drop] at this
    rw [List.flatMap_cons]
    exact this

section
variable {H : Type} {enc : TypeId × Value → H} {P : Program} {w : World} {base : Nat} {sp : Nat → Bool} {held : Bool}

theorem kints_struct {t : TypeId} {fs : Array Field} (ht : P.underlying t = some (.struct fs)) (K : Field → List IntKind) (hl : P.cellsOf t = (fs.toList.map fun f => P.cellsOf f.type).sum) (ho : offsB (fun f => P.cellsOf f.type) 0 fs.toList = true)
    (hf : ∀ f ∈ fs.toList, ∀ (cs : List Value) (x : DataW H × List MemPlace) (fuel : Nat), DataW.trod enc P w base sp held fuel f.type cs = some x → KInts (K f) cs)
    (cs : List Value) (x : DataW H × List MemPlace) (fuel : Nat) (h : DataW.trod enc P w base sp held fuel t cs = some x) : KInts (fs.toList.flatMap K) cs := by
  obtain ⟨xs, n, _, _, hc, hn, hel⟩ := DataW.trod_struct ht h
  have := kints_go (fun f => P.cellsOf f.type) K fs.toList 0 cs (by rw [hc, hl]; omega) ho (fun f hm => by
    obtain ⟨i, hi⟩ := List.getElem?_of_mem hm
    have hi' : fs[i]? = some f := by simpa using hi
    have h1 := hel i f hi'
    have hlt : i < xs.length := by
      rw [hn]
      exact (Array.getElem?_eq_some_iff.1 hi').1
    rw [List.getElem?_eq_getElem hlt] at h1
    exact hf f hm _ _ _ h1)
  simpa using this

theorem kints_int {t : TypeId} {k : IntKind} (ht : P.underlying t = some (.int k)) (cs : List Value) (x : DataW H × List MemPlace) (fuel : Nat) (h : DataW.trod enc P w base sp held fuel t cs = some x) : KInts [k] cs := by
  obtain ⟨n, rfl, _, hw⟩ := DataW.trod_int ht h
  exact ⟨n, [], rfl, hw, rfl⟩

end

/-- The integer in a cell. -/
def intAt : Option Value → Int
  | some (.int _ n) => n
  | _ => 0

theorem kints_get : ∀ {ks : List IntKind} {cs : List Value}, KInts ks cs → ∀ (j : Nat) (k : IntKind), ks[j]? = some k → cs[j]? = some (.int k (intAt cs[j]?)) ∧ (Lit.int k (intAt cs[j]?)).wf = true
  | [], _, _, j, k, hj => by simp at hj
  | k0 :: ks, cs, ⟨n, rest, e, hw, hr⟩, 0, k, hj => by
    subst e
    cases hj
    exact ⟨rfl, hw⟩
  | k0 :: ks, cs, ⟨n, rest, e, hw, hr⟩, j + 1, k, hj => by
    subst e
    have := kints_get hr j k (by simpa using hj)
    simpa using this

/-- Structs of integers that came in, one by one. -/
structure Rows' (ks : List IntKind) (w : World) (ad : Option Addr) (n : Nat) (F : Nat → Nat → Int) : Prop where
  at' : ∀ i, i < n → ∃ b o, ad = some ⟨b, o, none⟩ ∧ ∀ (j : Nat) (k : IntKind), ks[j]? = some k → w.cell? ⟨b, o + i * ks.length + j, none⟩ = some (.int k (F i j))
  wf : ∀ i, i < n → ∀ (j : Nat) (k : IntKind), ks[j]? = some k → (Lit.int k (F i j)).wf = true
  le : (n : Int) ≤ 9223372036854775807

theorem Rows'.keep {ks : List IntKind} {w w1 : World} {ad : Option Addr} {n : Nat} {F : Nat → Nat → Int} (h : Rows' ks w ad n F) (hs : Stay (fun _ => False) w w1) : Rows' ks w1 ad n F :=
  ⟨fun i hi => by obtain ⟨b, o, h1, h2⟩ := h.at' i hi; exact ⟨b, o, h1, fun j k hj => keep_cell hs (h2 j k hj)⟩, h.wf, h.le⟩

theorem open_rows {H : Type} {enc : TypeId × Value → H} {P : Program} {W : World} {base : Nat} {v : Value} {d : DataW H} {p : List MemPlace} {t e : TypeId} {ks : List IntKind} {k0 : IntKind} (ht : P.underlying t = some (.slice e)) (hc : P.cellsOf e = ks.length) (h0 : ks[0]? = some k0)
    (kE : ∀ (cs : List Value) (x : DataW H × List MemPlace) (fuel : Nat), DataW.trod enc P W 0 (fun _ => true) true fuel e cs = some x → KInts ks cs)
    (hval : Value.okWide P W .any base t v) (h : DataW.Trod enc P W 0 (fun _ => true) true t v d p) : ∃ ad n cap F, v = .slice ad n cap ∧ Rows' ks W ad n F := by
  obtain ⟨a0, l0, c0, rfl⟩ := okWide_slice ht hval
  obtain ⟨fuel, hf⟩ := h
  rcases Go.Deep.open_slice ht hf with ⟨hcs, _⟩ | ⟨a, len, cap, m, n, D, Pl, hcs, _, hlc, hcm, hm, _, hx⟩
  · have e : (Value.slice a0 l0 c0) = .slice none 0 0 := by simpa [Value.cells] using hcs
    cases e
    exact ⟨none, 0, 0, fun _ _ => 0, rfl, fun i hi => absurd hi (Nat.not_lt_zero _), fun i hi => absurd hi (Nat.not_lt_zero _), by decide⟩
  · have e : (Value.slice a0 l0 c0) = .slice (some a) len cap := by simpa [Value.cells] using hcs
    cases e
    have hmm : l0 ≤ m := by rw [hm]; simpa using hlc
    have hlen : 0 < ks.length := (List.getElem?_eq_some_iff.1 h0).1
    obtain ⟨b, o, spo⟩ := a
    have hsp : 0 < l0 → spo = none := fun h1 => by
      obtain ⟨cs, g1, g2⟩ := hx 0 (by omega)
      rw [hc] at g1
      obtain ⟨_, hl, hcc⟩ := World.cells?_some g1
      have g3 := hcc 0 (by omega)
      rw [(kints_get (kE _ _ _ g2) 0 k0 h0).1] at g3
      simpa [Addr.add] using World.cell?_spot g3
    have key : ∀ i, i < l0 → ∃ f : Nat → Int, ∀ (j : Nat) (k : IntKind), ks[j]? = some k → W.cell? ((⟨b, o, spo⟩ : Addr).add (i * ks.length + j)) = some (.int k (f j)) ∧ (Lit.int k (f j)).wf = true := fun i hi => by
      obtain ⟨cs, g1, g2⟩ := hx i (by omega)
      rw [hc] at g1
      obtain ⟨_, hl, hcc⟩ := World.cells?_some g1
      refine ⟨fun j => intAt cs[j]?, fun j k hj => ?_⟩
      have hlt : j < ks.length := (List.getElem?_eq_some_iff.1 hj).1
      have g3 := hcc j (by omega)
      obtain ⟨g4, g5⟩ := kints_get (kE _ _ _ g2) j k hj
      rw [g4] at g3
      obtain rfl := hsp (by omega)
      rw [addr_add, addr_add] at g3
      rw [addr_add]
      exact ⟨by rw [← g3, Nat.add_assoc], g5⟩
    obtain ⟨F, hF⟩ := Go.Deep.choose_lt (α := Nat → Int) (p := fun i f => ∀ (j : Nat) (k : IntKind), ks[j]? = some k → W.cell? ((⟨b, o, spo⟩ : Addr).add (i * ks.length + j)) = some (.int k (f j)) ∧ (Lit.int k (f j)).wf = true) key
    refine ⟨some ⟨b, o, spo⟩, l0, c0, F, rfl, fun i hi => ?_, fun i hi j k hj => (hF i hi j k hj).2, by unfold maxLen at hcm; omega⟩
    obtain rfl := hsp (by omega)
    refine ⟨b, o, rfl, fun j k hj => ?_⟩
    have := (hF i hi j k hj).1
    rwa [addr_add, ← Nat.add_assoc] at this

theorem trodAll_five {H : Type} {enc : TypeId × Value → H} {P : Program} {w : World} {base : Nat} {spare : Nat → Bool} {held : Bool} {t t1 t2 t3 t4 : TypeId} {args : Array Value} {ds : List (DataW H)} {ps : List MemPlace} (h : DataW.TrodAll enc P w base spare held [t, t1, t2, t3, t4] args.toList ds ps) :
    ∃ v v1 v2 v3 v4 d d1 d2 d3 d4 p p1 p2 p3 p4, args = #[v, v1, v2, v3, v4] ∧ ds = [d, d1, d2, d3, d4] ∧ ps = p ++ p1 ++ p2 ++ p3 ++ p4 ∧ DataW.Trod enc P w base spare held t v d p ∧ DataW.Trod enc P w base spare held t1 v1 d1 p1 ∧ DataW.Trod enc P w base spare held t2 v2 d2 p2 ∧ DataW.Trod enc P w base spare held t3 v3 d3 p3 ∧ DataW.Trod enc P w base spare held t4 v4 d4 p4 := by
  obtain ⟨v, vs, d, ds', p, q, hargs, rfl, rfl, hd, hrest⟩ := trodAll_cons h
  obtain ⟨v1, vs', d1, ds'', p1, q', rfl, rfl, rfl, hd1, hrest1⟩ := trodAll_cons hrest
  obtain ⟨v2, vs'', d2, dsc, p2, q'', rfl, rfl, rfl, hd2, hrest2⟩ := trodAll_cons hrest1
  obtain ⟨v3, vs3, d3, ds3, p3, q3, rfl, rfl, rfl, hd3, hrest3⟩ := trodAll_cons hrest2
  obtain ⟨v4, vs4, d4, ds4, p4, q4, rfl, rfl, rfl, hd4, hrest4⟩ := trodAll_cons hrest3
  obtain ⟨rfl, rfl, rfl⟩ := trodAll_nil hrest4
  exact ⟨v, v1, v2, v3, v4, d, d1, d2, d3, d4, p, p1, p2, p3, p4, by cases args; simp_all, rfl, by simp, hd, hd1, hd2, hd3, hd4⟩

end Go.Proofs.Ytdhlgjkjdmejfaa
