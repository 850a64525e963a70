/-
  Rectangles, cells and acts that came in. No conditions.
-/
import Derived.Test.YtmpmdlbhiogelaaE0
import Derived.Lib.SmallJoins
namespace Go.Proofs.Ytmpmdlbhiogelaa
open Go.ChangeShapes Go.WideShapes Go.ChangeAt Go.RowKit Go.Joins

theorem Try.laidOut : laidOutB Try.prog = true := by kernel_rfl
theorem Try.own : ownKnob Try.prog.godebug = none := by kernel_rfl

/-- Cells that are integers of these kinds, and fit. -/
def KInts : List IntKind → List Value → Prop
  | [], cs => cs = []
  | k :: ks, cs => ∃ n rest, cs = .int k n :: rest ∧ (Lit.int k n).wf = true ∧ KInts ks rest

theorem KInts.append : ∀ {a b : List IntKind} {xs ys : List Value}, KInts a xs → KInts b ys → KInts (a ++ b) (xs ++ ys)
  | [], _, xs, _, h, k => by
    have h' : xs = [] := h
    subst h'
    exact k
  | _ :: _, _, _, _, ⟨n, rest, e, hw, hr⟩, k => ⟨n, rest ++ _, by rw [e]; rfl, hw, KInts.append hr k⟩

def offsB (c : Field → Nat) : Nat → List Field → Bool
  | _, [] => true
  | o, f :: r => f.offset == o && offsB c (o + c f) r

theorem kints_go (c : Field → Nat) (K : Field → List IntKind) : ∀ (fs : List Field) (o : Nat) (cs : List Value), cs.length = o + (fs.map c).sum → offsB c o fs = true → (∀ f ∈ fs, KInts (K f) ((cs.drop f.offset).take (c f))) → KInts (fs.flatMap K) (cs.drop o)
  | [], o, cs, hl, _, _ => by
    simp at hl
    show cs.drop o = []
    rw [List.drop_of_length_le (by omega)]
  | f :: r, o, cs, hl, ho, h => by
    simp only [offsB, Bool.and_eq_true, beq_iff_eq] at ho
    have ih := kints_go c K r (o + c f) cs (by rw [hl, List.map_cons, List.sum_cons]; omega) ho.2 (fun g hg => h g (List.mem_cons_of_mem _ hg))
    have h0 := h f List.mem_cons_self
    rw [ho.1] at h0
    have := h0.append ih
    rw [← List.drop_drop, List.take_append_drop] at this
    rw [List.flatMap_cons]
    exact this

section
variable {H : Type} {enc : TypeId × Value → H} {P : Program} {w : World} {base : Nat} {sp : Nat → Bool} {held : Bool}

theorem kints_struct {t : TypeId} {fs : Array Field} (ht : P.underlying t = some (.struct fs)) (K : Field → List IntKind) (hl : P.cellsOf t = (fs.toList.map fun f => P.cellsOf f.type).sum) (ho : offsB (fun f => P.cellsOf f.type) 0 fs.toList = true)
    (hf : ∀ f ∈ fs.toList, ∀ (cs : List Value) (x : DataW H × List MemPlace) (fuel : Nat), DataW.trod enc P w base sp held fuel f.type cs = some x → KInts (K f) cs)
    (cs : List Value) (x : DataW H × List MemPlace) (fuel : Nat) (h : DataW.trod enc P w base sp held fuel t cs = some x) : KInts (fs.toList.flatMap K) cs := by
  obtain ⟨xs, n, _, _, hc, hn, hel⟩ := DataW.trod_struct ht h
  have := kints_go (fun f => P.cellsOf f.type) K fs.toList 0 cs (by rw [hc, hl]; omega) ho (fun f hm => by
    obtain ⟨i, hi⟩ := List.getElem?_of_mem hm
    have hi' : fs[i]? = some f := by simpa using hi
    have h1 := hel i f hi'
    have hlt : i < xs.length := by
      rw [hn]
      exact (Array.getElem?_eq_some_iff.1 hi').1
    rw [List.getElem?_eq_getElem hlt] at h1
    exact hf f hm _ _ _ h1)
  simpa using this

theorem kints_int {t : TypeId} {k : IntKind} (ht : P.underlying t = some (.int k)) (cs : List Value) (x : DataW H × List MemPlace) (fuel : Nat) (h : DataW.trod enc P w base sp held fuel t cs = some x) : KInts [k] cs := by
  obtain ⟨n, rfl, _, hw⟩ := DataW.trod_int ht h
  exact ⟨n, [], rfl, hw, rfl⟩

end

/-- The kinds of a type's parts. -/
def kindsOf (t : TypeId) : List IntKind := if t = 3 then [.i64] else if t = 21 then [.i32] else if t = 33 then [.i64, .i64, .i64] else if t = 31 then [.i64, .i64, .i64, .i64] else if t = 35 then [.i32, .i64, .i64, .i64] else if t = 37 then [.i64, .i64, .i64, .i64, .i64, .i64, .i64, .i32, .i64, .i64, .i64] else []

section
variable {H : Type} {enc : TypeId × Value → H} {w : World} {base : Nat} {sp : Nat → Bool} {held : Bool}

theorem k3 (cs : List Value) (x : DataW H × List MemPlace) (fuel : Nat) (h : DataW.trod enc Try.prog w base sp held fuel 3 cs = some x) : KInts (kindsOf 3) cs := kints_int Try.underlying3 cs x fuel h

theorem k21 (cs : List Value) (x : DataW H × List MemPlace) (fuel : Nat) (h : DataW.trod enc Try.prog w base sp held fuel 21 cs = some x) : KInts (kindsOf 21) cs := kints_int Try.underlying21 cs x fuel h

theorem k33 (cs : List Value) (x : DataW H × List MemPlace) (fuel : Nat) (h : DataW.trod enc Try.prog w base sp held fuel 33 cs = some x) : KInts (kindsOf 33) cs :=
  kints_struct Try.underlying33 (fun f => kindsOf f.type) (by kernel_rfl) (by kernel_rfl) (fun f hf => by
    simp only [List.mem_cons, List.not_mem_nil, or_false] at hf
    rcases hf with rfl | rfl | rfl <;> exact k3) cs x fuel h

theorem k31 (cs : List Value) (x : DataW H × List MemPlace) (fuel : Nat) (h : DataW.trod enc Try.prog w base sp held fuel 31 cs = some x) : KInts (kindsOf 31) cs :=
  kints_struct Try.underlying31 (fun f => kindsOf f.type) (by kernel_rfl) (by kernel_rfl) (fun f hf => by
    simp only [List.mem_cons, List.not_mem_nil, or_false] at hf
    rcases hf with rfl | rfl | rfl | rfl <;> exact k3) cs x fuel h

theorem k35 (cs : List Value) (x : DataW H × List MemPlace) (fuel : Nat) (h : DataW.trod enc Try.prog w base sp held fuel 35 cs = some x) : KInts (kindsOf 35) cs :=
  kints_struct Try.underlying35 (fun f => kindsOf f.type) (by kernel_rfl) (by kernel_rfl) (fun f hf => by
    simp only [List.mem_cons, List.not_mem_nil, or_false] at hf
    rcases hf with rfl | rfl
    · exact k21
    · exact k33) cs x fuel h

theorem k37 (cs : List Value) (x : DataW H × List MemPlace) (fuel : Nat) (h : DataW.trod enc Try.prog w base sp held fuel 37 cs = some x) : KInts (kindsOf 37) cs :=
  kints_struct Try.underlying37 (fun f => kindsOf f.type) (by kernel_rfl) (by kernel_rfl) (fun f hf => by
    simp only [List.mem_cons, List.not_mem_nil, or_false] at hf
    rcases hf with rfl | rfl | rfl | rfl | rfl
    · exact k3
    · exact k31
    · exact k3
    · exact k3
    · exact k35) cs x fuel h

/-- A rectangle that came in. -/
theorem open_rect {v : Value} {d : DataW H} {p : List MemPlace} (hval : Value.okWide Try.prog w .any base 31 v) (h : DataW.Trod enc Try.prog w 0 (fun _ => true) true 31 v d p) : ∃ r : R, v = .agg #[.int .i64 r.x, .int .i64 r.y, .int .i64 r.w, .int .i64 r.h] := by
  obtain ⟨cs, rfl, _⟩ := okWide_struct Try.underlying31 hval
  obtain ⟨fuel, hf⟩ := h
  obtain ⟨a, r1, e1, _, b, r2, e2, _, c, r3, e3, _, d, r4, e4, _, e5⟩ := k31 _ _ _ hf
  subst e5
  subst e4 e3 e2
  obtain ⟨l⟩ := cs
  have e1' : l = _ := e1
  subst e1'
  exact ⟨⟨a, b, c, d⟩, rfl⟩

/-- A cell that came in. -/
theorem open_cell {v : Value} {d : DataW H} {p : List MemPlace} (hval : Value.okWide Try.prog w .any base 35 v) (h : DataW.Trod enc Try.prog w 0 (fun _ => true) true 35 v d p) : ∃ c : Cl, v = .agg #[.int .i32 c.r, .int .i64 c.fg, .int .i64 c.bg, .int .i64 c.fl] := by
  obtain ⟨cs, rfl, _⟩ := okWide_struct Try.underlying35 hval
  obtain ⟨fuel, hf⟩ := h
  obtain ⟨a, r1, e1, _, b, r2, e2, _, c, r3, e3, _, d, r4, e4, _, e5⟩ := k35 _ _ _ hf
  subst e5
  subst e4 e3 e2
  obtain ⟨l⟩ := cs
  have e1' : l = _ := e1
  subst e1'
  exact ⟨⟨a, b, c, d⟩, rfl⟩

end

/-- What is done with a grid. -/
structure Ac where
  d : Int
  r : R
  x : Int
  y : Int
  c : Cl

/-- An act that lies in a block. -/
structure AcAt (w : World) (b o : Nat) (a : Ac) : Prop where
  c0 : w.cell? ⟨b, o, none⟩ = some (.int .i64 a.d)
  c1 : w.cell? ⟨b, o + 1, none⟩ = some (.int .i64 a.r.x)
  c2 : w.cell? ⟨b, o + 2, none⟩ = some (.int .i64 a.r.y)
  c3 : w.cell? ⟨b, o + 3, none⟩ = some (.int .i64 a.r.w)
  c4 : w.cell? ⟨b, o + 4, none⟩ = some (.int .i64 a.r.h)
  c5 : w.cell? ⟨b, o + 5, none⟩ = some (.int .i64 a.x)
  c6 : w.cell? ⟨b, o + 6, none⟩ = some (.int .i64 a.y)
  c7 : w.cell? ⟨b, o + 7, none⟩ = some (.int .i32 a.c.r)
  c8 : w.cell? ⟨b, o + 8, none⟩ = some (.int .i64 a.c.fg)
  c9 : w.cell? ⟨b, o + 9, none⟩ = some (.int .i64 a.c.bg)
  c10 : w.cell? ⟨b, o + 10, none⟩ = some (.int .i64 a.c.fl)

theorem AcAt.stay {T : Nat → Prop} {w w1 : World} {b o : Nat} {a : Ac} (h : AcAt w b o a) (hs : Stay T w w1) (hn : ¬ T b) : AcAt w1 b o a := by
  have hb : b < w.heap.size := World.block_lt_of_cell? _ _ h.c0
  have c : ∀ o, w1.cell? ⟨b, o, none⟩ = w.cell? ⟨b, o, none⟩ := fun o => hs.cell (p := ⟨b, o, none⟩) hb hn
  exact ⟨(c _).trans h.c0, (c _).trans h.c1, (c _).trans h.c2, (c _).trans h.c3, (c _).trans h.c4, (c _).trans h.c5, (c _).trans h.c6, (c _).trans h.c7, (c _).trans h.c8, (c _).trans h.c9, (c _).trans h.c10⟩

/-- Acts that came in. -/
structure Acts (w : World) (ad : Option Addr) (n : Nat) (A : Nat → Ac) : Prop where
  at' : ∀ i, i < n → ∃ b o, ad = some ⟨b, o, none⟩ ∧ AcAt w b (o + i * 11) (A i)
  wf : ∀ i, i < n → I64 (A i).x ∧ I64 (A i).y
  le : (n : Int) ≤ 9223372036854775807

theorem Acts.keep {w w1 : World} {ad : Option Addr} {n : Nat} {A : Nat → Ac} (h : Acts w ad n A) (hs : Stay (fun _ => False) w w1) : Acts w1 ad n A :=
  ⟨fun i hi => by obtain ⟨b, o, h1, h2⟩ := h.at' i hi; exact ⟨b, o, h1, h2.stay hs (fun h => h)⟩, h.wf, h.le⟩

theorem open_acts {H : Type} {enc : TypeId × Value → H} {W : World} {base : Nat} {v : Value} {d : DataW H} {p : List MemPlace} (hval : Value.okWide Try.prog W .any base 22 v) (h : DataW.Trod enc Try.prog W 0 (fun _ => true) true 22 v d p) :
    ∃ ad n cap A, v = .slice ad n cap ∧ Acts W ad n A := by
  obtain ⟨a0, l0, k0, rfl⟩ := okWide_slice Try.underlying22 hval
  obtain ⟨fuel, hf⟩ := h
  rcases Go.Deep.open_slice Try.underlying22 hf with ⟨hcs, _⟩ | ⟨a, len, cap, m, n, D, Pl, hcs, _, hlc, hcm, hm, _, hx⟩
  · have e : (Value.slice a0 l0 k0) = .slice none 0 0 := by simpa [Value.cells] using hcs
    cases e
    exact ⟨none, 0, 0, fun _ => ⟨0, ⟨0, 0, 0, 0⟩, 0, 0, Cl.zero⟩, rfl, fun i hi => absurd hi (Nat.not_lt_zero _), fun i hi => absurd hi (Nat.not_lt_zero _), by decide⟩
  · have e : (Value.slice a0 l0 k0) = .slice (some a) len cap := by simpa [Value.cells] using hcs
    cases e
    have hmm : l0 ≤ m := by rw [hm]; simpa using hlc
    have hc11 : Try.prog.cellsOf 37 = 11 := by kernel_rfl
    obtain ⟨b, o, spo⟩ := a
    have hsp : 0 < l0 → spo = none := fun h0 => by
      obtain ⟨cs, h1, h2⟩ := hx 0 (by omega)
      rw [hc11] at h1
      obtain ⟨_, hl, hc⟩ := World.cells?_some h1
      obtain ⟨n0, r0, e0, _⟩ := k37 _ _ _ h2
      have := hc 0 (by omega)
      rw [e0] at this
      simpa [Addr.add] using World.cell?_spot this
    have key : ∀ i, i < l0 → ∃ x : Ac, (∃ b' o', some (⟨b, o, spo⟩ : Addr) = some ⟨b', o', none⟩ ∧ AcAt W b' (o' + i * 11) x) ∧ I64 x.x ∧ I64 x.y := fun i hi => by
      obtain ⟨cs, h1, h2⟩ := hx i (by omega)
      rw [hc11] at h1
      obtain ⟨_, hl, hc⟩ := World.cells?_some h1
      obtain ⟨n0, r0, e0, w0, n1, r1, e1, w1, n2, r2, e2, w2, n3, r3, e3, w3, n4, r4, e4, w4, n5, r5, e5, w5, n6, r6, e6, w6, n7, r7, e7, w7, n8, r8, e8, w8, n9, r9, e9, w9, n10, r10, e10, w10, e11⟩ := k37 _ _ _ h2
      subst e11
      subst e10 e9 e8 e7 e6 e5 e4 e3 e2 e1 e0
      obtain rfl := hsp (by omega)
      have at' : ∀ j u, j < 11 → [Value.int .i64 n0, .int .i64 n1, .int .i64 n2, .int .i64 n3, .int .i64 n4, .int .i64 n5, .int .i64 n6, .int .i32 n7, .int .i64 n8, .int .i64 n9, .int .i64 n10][j]? = some u → W.cell? ⟨b, o + i * 11 + j, none⟩ = some u := fun j u hj hu => by
        have := hc j hj
        rw [addr_add, addr_add, hu] at this
        exact this
      exact ⟨⟨n0, ⟨n1, n2, n3, n4⟩, n5, n6, ⟨n7, n8, n9, n10⟩⟩, ⟨b, o, rfl, ⟨at' 0 _ (by decide) rfl, at' 1 _ (by decide) rfl, at' 2 _ (by decide) rfl, at' 3 _ (by decide) rfl, at' 4 _ (by decide) rfl, at' 5 _ (by decide) rfl, at' 6 _ (by decide) rfl, at' 7 _ (by decide) rfl, at' 8 _ (by decide) rfl, at' 9 _ (by decide) rfl, at' 10 _ (by decide) rfl⟩⟩, wf_i64 w5, wf_i64 w6⟩
    haveI : Inhabited Ac := ⟨⟨0, ⟨0, 0, 0, 0⟩, 0, 0, Cl.zero⟩⟩
    obtain ⟨A, hA⟩ := Go.Deep.choose_lt (α := Ac) (p := fun i x => (∃ b' o', some (⟨b, o, spo⟩ : Addr) = some ⟨b', o', none⟩ ∧ AcAt W b' (o' + i * 11) x) ∧ I64 x.x ∧ I64 x.y) key
    exact ⟨some _, l0, k0, A, rfl, fun i hi => (hA i hi).1, fun i hi => (hA i hi).2, by unfold maxLen at hcm; omega⟩

theorem trodAll_five {H : Type} {enc : TypeId × Value → H} {P : Program} {w : World} {base : Nat} {spare : Nat → Bool} {held : Bool} {t t1 t2 t3 t4 : TypeId} {args : Array Value} {ds : List (DataW H)} {ps : List MemPlace} (h : DataW.TrodAll enc P w base spare held [t, t1, t2, t3, t4] args.toList ds ps) :
    ∃ v v1 v2 v3 v4 d d1 d2 d3 d4 p p1 p2 p3 p4, args = #[v, v1, v2, v3, v4] ∧ ds = [d, d1, d2, d3, d4] ∧ ps = p ++ p1 ++ p2 ++ p3 ++ p4 ∧ DataW.Trod enc P w base spare held t v d p ∧ DataW.Trod enc P w base spare held t1 v1 d1 p1 ∧ DataW.Trod enc P w base spare held t2 v2 d2 p2 ∧ DataW.Trod enc P w base spare held t3 v3 d3 p3 ∧ DataW.Trod enc P w base spare held t4 v4 d4 p4 := by
  obtain ⟨v, vs, d, ds', p, q, hargs, rfl, rfl, hd, hrest⟩ := trodAll_cons h
  obtain ⟨v1, vs', d1, ds'', p1, q', rfl, rfl, rfl, hd1, hrest1⟩ := trodAll_cons hrest
  obtain ⟨v2, vs'', d2, dsc, p2, q'', rfl, rfl, rfl, hd2, hrest2⟩ := trodAll_cons hrest1
  obtain ⟨v3, vs3, d3, ds3, p3, q3, rfl, rfl, rfl, hd3, hrest3⟩ := trodAll_cons hrest2
  obtain ⟨v4, vs4, d4, ds4, p4, q4, rfl, rfl, rfl, hd4, hrest4⟩ := trodAll_cons hrest3
  obtain ⟨rfl, rfl, rfl⟩ := trodAll_nil hrest4
  exact ⟨v, v1, v2, v3, v4, d, d1, d2, d3, d4, p, p1, p2, p3, p4, by cases args; simp_all, rfl, by simp, hd, hd1, hd2, hd3, hd4⟩

end Go.Proofs.Ytmpmdlbhiogelaa
