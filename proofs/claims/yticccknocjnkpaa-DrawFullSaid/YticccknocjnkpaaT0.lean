/-
  Acts, drawings, a rectangle and cells that came in. No conditions.
-/
import Derived.Test.YticccknocjnkpaaA3
import Derived.Test.YticccknocjnkpaaZ8
import Derived.Deep.Grids
namespace Go.Proofs.Yticccknocjnkpaa
open Go.ChangeShapes Go.WideShapes Go.ChangeAt Go.RowKit Go.Joins

/-- The kinds of a type's parts. -/
def kindsOf (t : TypeId) : List IntKind := if t = 3 then [.i64] else if t = 21 then [.i32] else if t = 51 then [.i64, .i64, .i64] else if t = 53 then [.i32, .i64, .i64, .i64] else if t = 41 then [.i64, .i64, .i64, .i64] else if t = 74 then [.i64, .i64, .i64, .i64, .i64, .i64, .i64] else []

section
variable {H : Type} {enc : TypeId × Value → H} {w : World} {base : Nat} {sp : Nat → Bool} {held : Bool}

theorem k3 (cs : List Value) (x : DataW H × List MemPlace) (fuel : Nat) (h : DataW.trod enc Try.prog w base sp held fuel 3 cs = some x) : KInts (kindsOf 3) cs := kints_int Try.underlying3 cs x fuel h

theorem k21 (cs : List Value) (x : DataW H × List MemPlace) (fuel : Nat) (h : DataW.trod enc Try.prog w base sp held fuel 21 cs = some x) : KInts (kindsOf 21) cs := kints_int Try.underlying21 cs x fuel h

theorem k51 (cs : List Value) (x : DataW H × List MemPlace) (fuel : Nat) (h : DataW.trod enc Try.prog w base sp held fuel 51 cs = some x) : KInts (kindsOf 51) cs :=
  kints_struct Try.underlying51 (fun f => kindsOf f.type) (by kernel_rfl) (by kernel_rfl) (fun f hf => by
    simp only [List.mem_cons, List.not_mem_nil, or_false] at hf
    rcases hf with rfl | rfl | rfl <;> exact k3) cs x fuel h

theorem k53 (cs : List Value) (x : DataW H × List MemPlace) (fuel : Nat) (h : DataW.trod enc Try.prog w base sp held fuel 53 cs = some x) : KInts (kindsOf 53) cs :=
  kints_struct Try.underlying53 (fun f => kindsOf f.type) (by kernel_rfl) (by kernel_rfl) (fun f hf => by
    simp only [List.mem_cons, List.not_mem_nil, or_false] at hf
    rcases hf with rfl | rfl
    · exact k21
    · exact k51) cs x fuel h

theorem k41 (cs : List Value) (x : DataW H × List MemPlace) (fuel : Nat) (h : DataW.trod enc Try.prog w base sp held fuel 41 cs = some x) : KInts (kindsOf 41) cs :=
  kints_struct Try.underlying41 (fun f => kindsOf f.type) (by kernel_rfl) (by kernel_rfl) (fun f hf => by
    simp only [List.mem_cons, List.not_mem_nil, or_false] at hf
    rcases hf with rfl | rfl | rfl | rfl <;> exact k3) cs x fuel h

theorem k74 (cs : List Value) (x : DataW H × List MemPlace) (fuel : Nat) (h : DataW.trod enc Try.prog w base sp held fuel 74 cs = some x) : KInts (kindsOf 74) cs :=
  kints_struct Try.underlying74 (fun f => kindsOf f.type) (by kernel_rfl) (by kernel_rfl) (fun f hf => by
    simp only [List.mem_cons, List.not_mem_nil, or_false] at hf
    rcases hf with rfl | rfl | rfl | rfl
    · exact k3
    · exact k3
    · exact k3
    · exact k41) cs x fuel h

theorem wf_I64 {n : Int} (h : (Lit.int .i64 n).wf = true) : I64 n := by
  have := wf_i64 h
  unfold I64
  omega

set_option maxRecDepth 100000 in
theorem open_rect {v : Value} {d : DataW H} {p : List MemPlace} (hval : Value.okWide Try.prog w .any base 41 v) (h : DataW.Trod enc Try.prog w 0 (fun _ => true) true 41 v d p) : ∃ r : R, v = .agg #[.int .i64 r.x, .int .i64 r.y, .int .i64 r.w, .int .i64 r.h] ∧ I64R r := by
  obtain ⟨cs, rfl, _⟩ := okWide_struct Try.underlying41 hval
  obtain ⟨fuel, hf⟩ := h
  obtain ⟨a, r1, e1, f1, b, r2, e2, f2, c, r3, e3, f3, d, r4, e4, f4, e5⟩ := k41 _ _ _ hf
  subst e5
  subst e4 e3 e2
  obtain ⟨l⟩ := cs
  have e1' : l = _ := e1
  subst e1'
  exact ⟨⟨a, b, c, d⟩, rfl, wf_I64 f1, wf_I64 f2, wf_I64 f3, wf_I64 f4⟩

end

/-- As open_rows, of a slice. -/
theorem open_rowsS {H : Type} {enc : TypeId × Value → H} {P : Program} {W : World} {v : Value} {d : DataW H} {p : List MemPlace} {t e : TypeId} {ks : List IntKind} {k0 : IntKind} (ht : P.underlying t = some (.slice e)) (hc : P.cellsOf e = ks.length) (h0 : ks[0]? = some k0)
    (kE : ∀ (cs : List Value) (x : DataW H × List MemPlace) (fuel : Nat), DataW.trod enc P W 0 (fun _ => true) true fuel e cs = some x → KInts ks cs)
    (hval : ∃ a l c, v = .slice a l c) (h : DataW.Trod enc P W 0 (fun _ => true) true t v d p) : ∃ ad n cap F, v = .slice ad n cap ∧ Rows' ks W ad n F := by
  obtain ⟨a0, l0, c0, rfl⟩ := hval
  obtain ⟨fuel, hf⟩ := h
  rcases Go.Deep.open_slice ht hf with ⟨hcs, _⟩ | ⟨a, len, cap, m, n, D, Pl, hcs, _, hlc, hcm, hm, _, hx⟩
  · have e : (Value.slice a0 l0 c0) = .slice none 0 0 := by simpa [Value.cells] using hcs
    cases e
    exact ⟨none, 0, 0, fun _ _ => 0, rfl, fun i hi => absurd hi (Nat.not_lt_zero _), fun i hi => absurd hi (Nat.not_lt_zero _), by decide⟩
  · have e : (Value.slice a0 l0 c0) = .slice (some a) len cap := by simpa [Value.cells] using hcs
    cases e
    have hmm : l0 ≤ m := by rw [hm]; simpa using hlc
    have hlen : 0 < ks.length := (List.getElem?_eq_some_iff.1 h0).1
    obtain ⟨b, o, spo⟩ := a
    have hsp : 0 < l0 → spo = none := fun h1 => by
      obtain ⟨cs, g1, g2⟩ := hx 0 (by omega)
      rw [hc] at g1
      obtain ⟨_, hl, hcc⟩ := World.cells?_some g1
      have g3 := hcc 0 (by omega)
      rw [(kints_get (kE _ _ _ g2) 0 k0 h0).1] at g3
      simpa [Addr.add] using World.cell?_spot g3
    have key : ∀ i, i < l0 → ∃ f : Nat → Int, ∀ (j : Nat) (k : IntKind), ks[j]? = some k → W.cell? ((⟨b, o, spo⟩ : Addr).add (i * ks.length + j)) = some (.int k (f j)) ∧ (Lit.int k (f j)).wf = true := fun i hi => by
      obtain ⟨cs, g1, g2⟩ := hx i (by omega)
      rw [hc] at g1
      obtain ⟨_, hl, hcc⟩ := World.cells?_some g1
      refine ⟨fun j => intAt cs[j]?, fun j k hj => ?_⟩
      have hlt : j < ks.length := (List.getElem?_eq_some_iff.1 hj).1
      have g3 := hcc j (by omega)
      obtain ⟨g4, g5⟩ := kints_get (kE _ _ _ g2) j k hj
      rw [g4] at g3
      obtain rfl := hsp (by omega)
      rw [addr_add, addr_add] at g3
      rw [addr_add]
      exact ⟨by rw [← g3, Nat.add_assoc], g5⟩
    obtain ⟨F, hF⟩ := Go.Deep.choose_lt (α := Nat → Int) (p := fun i f => ∀ (j : Nat) (k : IntKind), ks[j]? = some k → W.cell? ((⟨b, o, spo⟩ : Addr).add (i * ks.length + j)) = some (.int k (f j)) ∧ (Lit.int k (f j)).wf = true) key
    refine ⟨some ⟨b, o, spo⟩, l0, c0, F, rfl, fun i hi => ?_, fun i hi j k hj => (hF i hi j k hj).2, by unfold maxLen at hcm; omega⟩
    obtain rfl := hsp (by omega)
    refine ⟨b, o, rfl, fun j k hj => ?_⟩
    have := (hF i hi j k hj).1
    rwa [addr_add, ← Nat.add_assoc] at this

/-- A rectangle's four parts, and so on: the integers of a list. -/
theorem rows_acts {w : World} {ad : Option Addr} {n : Nat} {F : Nat → Nat → Int} (h : Rows' (kindsOf 74) w ad n F) : AIn w ad n (fun i => ⟨F i 0, F i 1, F i 2, F i 3, F i 4, F i 5, F i 6⟩) := by
  intro i hi
  obtain ⟨b, o, e, hc⟩ := h.at' i hi
  exact ⟨b, o, e, ⟨hc 0 .i64 rfl, hc 1 .i64 rfl, hc 2 .i64 rfl, hc 3 .i64 rfl, hc 4 .i64 rfl, hc 5 .i64 rfl, hc 6 .i64 rfl⟩⟩

theorem rows_cells {w : World} {ad : Option Addr} {n : Nat} {F : Nat → Nat → Int} (h : Rows' (kindsOf 53) w ad n F) : CRd w ad n (fun i => ⟨F i 0, F i 1, F i 2, F i 3⟩) := by
  intro i hi
  obtain ⟨b, o, e, hc⟩ := h.at' i hi
  exact ⟨b, o, e, ⟨hc 0 .i32 rfl, hc 1 .i64 rfl, hc 2 .i64 rfl, hc 3 .i64 rfl⟩⟩

theorem cells_lt {w : World} {ad : Option Addr} {n : Nat} {l : Nat → Cl} (h : CRd w ad n l) : 0 < n → ∀ k, ad.map Addr.block = some k → k < w.heap.size := fun hn k hk => by
  obtain ⟨g, o, e, hb⟩ := h 0 hn
  subst e
  cases hk
  exact World.block_lt_of_cell? _ _ hb.c0

/-- What came in has room for its length. -/
theorem slice_cap {H : Type} {enc : TypeId × Value → H} {P : Program} {W : World} {t e : TypeId} {fuel : Nat} {x : DataW H × List MemPlace} {a : Option Addr} {n c : Nat} (ht : P.underlying t = some (.slice e)) (h : DataW.trod enc P W 0 (fun _ => true) true fuel t [.slice a n c] = some x) : n ≤ c := by
  rcases Go.Deep.open_slice ht h with ⟨hcs, _⟩ | ⟨b, len, cap, m, k, D, Pl, hcs, _, hlc, hcm, hm, _, hx⟩
  · have e : (Value.slice a n c) = .slice none 0 0 := by simpa using hcs
    cases e
    exact Nat.le_refl _
  · have e : (Value.slice a n c) = .slice (some b) len cap := by simpa using hcs
    cases e
    omega

/-- One drawing that came in: its parts, its cells. -/
structure DrX where
  D : Dr
  Q : Ll
  l : Nat → Cl

instance : Inhabited DrX := ⟨⟨⟨0, 0, 0, 0, 0, 0, 0, 0, .slice none 0 0⟩, ⟨none, 0, 0⟩, fun _ => Cl.zero⟩⟩

/-- .. as it lies there. -/
def DrXAt (w : World) (g o : Nat) (x : DrX) : Prop :=
  DBoxAt w g o x.D ∧ x.D.l = .slice x.Q.a x.Q.n x.Q.c ∧ CRd w x.Q.a x.Q.n x.l ∧ ((x.Q.n : Int) ≤ 9223372036854775807 ∧ x.Q.n ≤ x.Q.c) ∧ I64 x.D.x ∧ I64 x.D.y ∧ I64R ⟨x.D.p, x.D.q, x.D.w, x.D.h⟩

section
variable {H : Type} {enc : TypeId × Value → H} {W : World}

set_option maxRecDepth 100000 in
set_option maxHeartbeats 1000000 in
theorem draw_one {fuel : Nat} {cs : List Value} {y : DataW H × List MemPlace} {g o : Nat} {sp : _} (hl : cs.length = 9) (hc : ∀ j, j < 9 → W.cell? ((⟨g, o, sp⟩ : Addr).add j) = cs[j]?) (h : DataW.trod enc Try.prog W 0 (fun _ => true) true fuel 43 cs = some y) : sp = none ∧ ∃ x, DrXAt W g o x := by
  obtain ⟨xs, m, _, _, _, hn, hf⟩ := DataW.trod_struct Try.underlying43 h
  match cs, hl with
  | [u0, u1, u2, u3, u4, u5, u6, u7, u8], _ =>
    obtain ⟨z0, e0, _, _⟩ := DataW.trod_int Try.underlying3 (hf 0 _ rfl |>.trans (List.getElem?_eq_getElem (by rw [hn]; decide)))
    obtain ⟨z1, e1, _, _⟩ := DataW.trod_int Try.underlying3 (hf 1 _ rfl |>.trans (List.getElem?_eq_getElem (by rw [hn]; decide)))
    obtain ⟨z2, e2, _, wz2⟩ := DataW.trod_int Try.underlying3 (hf 2 _ rfl |>.trans (List.getElem?_eq_getElem (by rw [hn]; decide)))
    obtain ⟨z3, e3, _, wz3⟩ := DataW.trod_int Try.underlying3 (hf 3 _ rfl |>.trans (List.getElem?_eq_getElem (by rw [hn]; decide)))
    have h4 := k41 _ _ _ (hf 4 _ rfl |>.trans (List.getElem?_eq_getElem (by rw [hn]; decide)))
    have h5 := hf 5 _ rfl |>.trans (List.getElem?_eq_getElem (by rw [hn]; decide))
    have c3 : Try.prog.cellsOf 3 = 1 := by kernel_rfl
    have c41 : Try.prog.cellsOf 41 = 4 := by kernel_rfl
    have c33 : Try.prog.cellsOf 33 = 1 := by kernel_rfl
    change List.take (Try.prog.cellsOf 3) [u0, u1, u2, u3, u4, u5, u6, u7, u8] = _ at e0
    change List.take (Try.prog.cellsOf 3) [u1, u2, u3, u4, u5, u6, u7, u8] = _ at e1
    change List.take (Try.prog.cellsOf 3) [u2, u3, u4, u5, u6, u7, u8] = _ at e2
    change List.take (Try.prog.cellsOf 3) [u3, u4, u5, u6, u7, u8] = _ at e3
    change KInts (kindsOf 41) (List.take (Try.prog.cellsOf 41) [u4, u5, u6, u7, u8]) at h4
    change DataW.trod enc Try.prog W 0 (fun _ => true) true m 33 (List.take (Try.prog.cellsOf 33) [u8]) = _ at h5
    rw [c3] at e0 e1 e2 e3
    rw [c41] at h4
    rw [c33] at h5
    have f0 : u0 = .int .i64 z0 := by simpa using e0
    have f1 : u1 = .int .i64 z1 := by simpa using e1
    have f2 : u2 = .int .i64 z2 := by simpa using e2
    have f3 : u3 = .int .i64 z3 := by simpa using e3
    subst f0 f1 f2 f3
    obtain ⟨a, r1, g1, w1, b, r2, g2, w2, c, r3, g3, w3, d, r4, g4, w4, g5⟩ := h4
    have hg : [u4, u5, u6, u7] = [Value.int .i64 a, .int .i64 b, .int .i64 c, .int .i64 d] := by
      have g5' : r4 = [] := g5
      rw [g5'] at g4
      rw [g4] at g3
      rw [g3] at g2
      rw [g2] at g1
      exact g1
    simp only [List.cons.injEq, and_true] at hg
    obtain ⟨rfl, rfl, rfl, rfl⟩ := hg
    have h0 := hc 0 (by decide)
    have h1 := hc 1 (by decide)
    have h2 := hc 2 (by decide)
    have h3 := hc 3 (by decide)
    have h4 := hc 4 (by decide)
    have h6 := hc 5 (by decide)
    have h7 := hc 6 (by decide)
    have h8 := hc 7 (by decide)
    have h9 := hc 8 (by decide)
    have hsp : sp = none := by
      have := World.cell?_spot h0
      simpa [Addr.add] using this
    subst hsp
    rw [addr_add] at h0 h1 h2 h3 h4 h6 h7 h8 h9
    have hu : ∃ a len cap, u8 = .slice a len cap := by
      rcases Go.Deep.open_slice Try.underlying33 h5 with ⟨h, _⟩ | ⟨a, len, cap, _, _, _, _, h, _⟩
      · exact ⟨_, _, _, by simpa using h⟩
      · exact ⟨_, _, _, by simpa using h⟩
    obtain ⟨a9, n9, c9, rfl⟩ := hu
    obtain ⟨la, n, lc, F, e9, hr⟩ := open_rowsS (H := H) (enc := enc) (W := W) (d := (xs[5]'(by rw [hn]; decide)).1) (p := (xs[5]'(by rw [hn]; decide)).2) Try.underlying33 (by kernel_rfl) rfl k53 ⟨_, _, _, rfl⟩ ⟨m, h5⟩
    cases e9
    exact ⟨rfl, ⟨⟨z0, z1, z2, z3, a, b, c, d, .slice a9 n9 c9⟩, ⟨a9, n9, c9⟩, fun i => ⟨F i 0, F i 1, F i 2, F i 3⟩⟩, ⟨h0, h1, h2, h3, h4, h6, h7, h8, h9⟩, rfl, rows_cells hr, ⟨hr.le, slice_cap Try.underlying33 h5⟩, wf_I64 wz2, wf_I64 wz3, wf_I64 w1, wf_I64 w2, wf_I64 w3, wf_I64 w4⟩

end

set_option maxRecDepth 100000 in
/-- Drawings that came in, one by one. -/
theorem open_draws {H : Type} {enc : TypeId × Value → H} {W : World} {base : Nat} {v : Value} {d : DataW H} {p : List MemPlace} (hval : Value.okWide Try.prog W .any base 23 v) (h : DataW.Trod enc Try.prog W 0 (fun _ => true) true 23 v d p) :
    ∃ (ad : Option Addr) (n cap : Nat) (F : Nat → DrX), v = .slice ad n cap ∧ (n : Int) ≤ 9223372036854775807 ∧ ∀ i, i < n → ∃ g o, ad = some ⟨g, o, none⟩ ∧ DrXAt W g (o + i * 9) (F i) := by
  obtain ⟨a0, l0, c0, rfl⟩ := okWide_slice Try.underlying23 hval
  obtain ⟨fuel, hf⟩ := h
  have hc43 : Try.prog.cellsOf 43 = 9 := by kernel_rfl
  rcases Go.Deep.open_slice Try.underlying23 hf with ⟨hcs, _⟩ | ⟨a, len, cap, m, n, D, Pl, hcs, _, hlc, hcm, hm, _, hx⟩
  · have e : (Value.slice a0 l0 c0) = .slice none 0 0 := by simpa [Value.cells] using hcs
    cases e
    exact ⟨none, 0, 0, fun _ => ⟨⟨0, 0, 0, 0, 0, 0, 0, 0, .slice none 0 0⟩, ⟨none, 0, 0⟩, fun _ => Cl.zero⟩, rfl, by decide, fun i hi => absurd hi (Nat.not_lt_zero _)⟩
  · have e : (Value.slice a0 l0 c0) = .slice (some a) len cap := by simpa [Value.cells] using hcs
    cases e
    have hmm : l0 ≤ m := by rw [hm]; simpa using hlc
    obtain ⟨b, o, spo⟩ := a
    have hsp : 0 < l0 → spo = none := fun h1 => by
      obtain ⟨cs, g1, g2⟩ := hx 0 (by omega)
      rw [hc43] at g1
      obtain ⟨_, hl, hcc⟩ := World.cells?_some g1
      rw [Nat.zero_mul] at hcc
      have h0 : (⟨b, o, spo⟩ : Addr).add 0 = ⟨b, o, spo⟩ := by unfold Addr.add; simp
      rw [h0] at hcc
      exact (draw_one hl hcc g2).1
    have key : ∀ i, i < l0 → ∃ x, DrXAt W b (o + i * 9) x := fun i hi => by
      obtain ⟨cs, g1, g2⟩ := hx i (by omega)
      obtain rfl := hsp (by omega)
      rw [hc43] at g1
      obtain ⟨_, hl, hcc⟩ := World.cells?_some g1
      rw [addr_add] at hcc
      exact (draw_one hl hcc g2).2
    obtain ⟨F, hF⟩ := Go.Deep.choose_lt (α := DrX) (p := fun i x => DrXAt W b (o + i * 9) x) key
    exact ⟨some ⟨b, o, spo⟩, l0, c0, F, rfl, by unfold maxLen at hcm; omega, fun i hi => ⟨b, o, by rw [hsp (by omega)], hF i hi⟩⟩

end Go.Proofs.Yticccknocjnkpaa
