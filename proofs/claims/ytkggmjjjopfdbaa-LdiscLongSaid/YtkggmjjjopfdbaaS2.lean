/-
  Acts that came in, opened. No conditions.
-/
import Derived.Test.YtkggmjjjopfdbaaP9
import Derived.Test.YtkggmjjjopfdbaaS0
import Derived.Deep.Grids
import Derived.Lib.SmallJoins
namespace Go.Proofs.Ytkggmjjjopfdbaa
open Go.ChangeShapes Go.WideShapes Go.ChangeAt Go.RowKit Go.Joins
open L17

theorem mapM_each {α β : Type} {f : α → Option β} : ∀ {L : List α} {xs : List β}, L.mapM f = some xs → ∀ i ∈ L, ∃ y, f i = some y
  | [], _, _, i, hi => by cases hi
  | a :: L, xs, h, i, hi => by
    rw [List.mapM_cons] at h
    simp only [bind, Option.bind_eq_some_iff, pure, Option.some.injEq] at h
    obtain ⟨y, hy, ys, hys, _⟩ := h
    rcases List.mem_cons.1 hi with rfl | hi
    · exact ⟨y, hy⟩
    · exact mapM_each hys i hi

/-- The numbers of an array that came in. -/
theorem trod_array {H : Type} {enc : TypeId × Value → H} {P : Program} {W : World} {base : Nat} {sp : Nat → Bool} {held : Bool} {t e : TypeId} {n fuel : Nat} {k : IntKind} {cs : List Value} {x : DataW H × List MemPlace}
    (ht : P.underlying t = some (.array n e)) (he : P.underlying e = some (.int k)) (hc : P.cellsOf e = 1) (h : DataW.trod enc P W base sp held fuel t cs = some x) : ∀ i, i < n → ∃ m, (cs.drop i).take 1 = [.int k m] ∧ (Lit.int k m).wf = true := by
  intro i hi
  cases fuel with
  | zero => simp [DataW.trod] at h
  | succ m =>
    rw [DataW.trod_step] at h
    unfold DataW.trodStep at h
    simp only [ht] at h
    split at h
    · simp only [Option.map_eq_some_iff] at h
      obtain ⟨ys, hy, _⟩ := h
      obtain ⟨y, hy⟩ := mapM_each hy i (List.mem_range.2 hi)
      rw [hc, Nat.mul_one] at hy
      obtain ⟨v, e1, _, e3⟩ := DataW.trod_int he hy
      exact ⟨v, e1, e3⟩
    · cases h

section
variable {H : Type} {enc : TypeId × Value → H} {W : World}

theorem cells_set : Try.prog.cellsOf 24 = 17 := by kernel_rfl
theorem cells_chars : Try.prog.cellsOf 22 = 12 := by kernel_rfl
theorem cells_int : Try.prog.cellsOf 3 = 1 := by kernel_rfl
theorem cells_bytes : Try.prog.cellsOf 31 = 1 := by kernel_rfl

/-- The cells of a setting that came in. -/
theorem set_cells {base : Nat} {sp : Nat → Bool} {held : Bool} {fuel : Nat} {cs : List Value} {y : DataW H × List MemPlace} (h : DataW.trod enc Try.prog W base sp held fuel 24 cs = some y) : ∃ r : Tm, cs = [.int .i64 r.fi, .int .i64 r.fo, .int .i64 r.fl, .int .i64 r.k0, .int .i64 r.k1, .int .i64 r.k2, .int .i64 r.k3, .int .i64 r.k4, .int .i64 r.k5, .int .i64 r.k6, .int .i64 r.k7, .int .i64 r.k8, .int .i64 r.k9, .int .i64 r.k10, .int .i64 r.k11, .int .i64 r.mn, .int .i64 r.ti] := by
  obtain ⟨xs, n, _, _, hcl, hlen, hg⟩ := DataW.trod_struct Try.underlying24 h
  rw [cells_set] at hcl
  have hlen : xs.length = 6 := hlen
  match cs, hcl with
  | [u0, u1, u2, u3, u4, u5, u6, u7, u8, u9, u10, u11, u12, u13, u14, u15, u16], _ =>
    have g0 := hg 0 _ rfl
    have g1 := hg 1 _ rfl
    have g2 := hg 2 _ rfl
    have g3 := hg 3 _ rfl
    have g4 := hg 4 _ rfl
    have g5 := hg 5 _ rfl
    rw [List.getElem?_eq_getElem (by omega)] at g0 g1 g2 g3 g4 g5
    obtain ⟨x0, e0, _, _⟩ := DataW.trod_int Try.underlying3 g0
    obtain ⟨x1, e1, _, _⟩ := DataW.trod_int Try.underlying3 g1
    obtain ⟨x2, e2, _, _⟩ := DataW.trod_int Try.underlying3 g2
    obtain ⟨x4, e4, _, _⟩ := DataW.trod_int Try.underlying3 g4
    obtain ⟨x5, e5, _, _⟩ := DataW.trod_int Try.underlying3 g5
    have ha := trod_array Try.underlying22 Try.underlying3 cells_int g3
    obtain ⟨y0, a0, _⟩ := ha 0 (by decide)
    obtain ⟨y1, a1, _⟩ := ha 1 (by decide)
    obtain ⟨y2, a2, _⟩ := ha 2 (by decide)
    obtain ⟨y3, a3, _⟩ := ha 3 (by decide)
    obtain ⟨y4, a4, _⟩ := ha 4 (by decide)
    obtain ⟨y5, a5, _⟩ := ha 5 (by decide)
    obtain ⟨y6, a6, _⟩ := ha 6 (by decide)
    obtain ⟨y7, a7, _⟩ := ha 7 (by decide)
    obtain ⟨y8, a8, _⟩ := ha 8 (by decide)
    obtain ⟨y9, a9, _⟩ := ha 9 (by decide)
    obtain ⟨y10, a10, _⟩ := ha 10 (by decide)
    obtain ⟨y11, a11, _⟩ := ha 11 (by decide)
    simp [cells_int] at e0 e1 e2 e4 e5
    simp [cells_chars] at a0 a1 a2 a3 a4 a5 a6 a7 a8 a9 a10 a11
    subst e0 e1 e2 e4 e5 a0 a1 a2 a3 a4 a5 a6 a7 a8 a9 a10 a11
    exact ⟨⟨x0, x1, x2, y0, y1, y2, y3, y4, y5, y6, y7, y8, y9, y10, y11, x4, x5⟩, rfl⟩

/-- One act. -/
def ActOk (w : World) (g o : Nat) (x : Ac × Option Addr × List Int × Nat) : Prop :=
  ABoxAt w g o x.1 ∧ x.1.bs = .slice x.2.1 x.2.2.1.length x.2.2.2 ∧ IArg .u8 w (.slice x.2.1 x.2.2.1.length x.2.2.2) x.2.2.1 x.2.1 x.2.2.2 ∧ -9223372036854775808 ≤ x.1.nn ∧ x.1.nn ≤ 9223372036854775807

set_option maxRecDepth 100000 in
theorem act_one {fuel : Nat} {cs : List Value} {y : DataW H × List MemPlace} {g o : Nat} {sp : _} (hl : cs.length = 20) (hc : ∀ j, j < 20 → W.cell? ((⟨g, o, sp⟩ : Addr).add j) = cs[j]?) (h : DataW.trod enc Try.prog W 0 (fun _ => true) true fuel 36 cs = some y) : sp = none ∧ ∃ x, ActOk W g o x := by
  obtain ⟨xs, m, _, _, _, hn, hf⟩ := DataW.trod_struct Try.underlying36 h
  have hn : xs.length = 4 := hn
  match cs, hl with
  | [u0, u1, u2, u3, u4, u5, u6, u7, u8, u9, u10, u11, u12, u13, u14, u15, u16, u17, u18, u19], _ =>
    have g0 := hf 0 _ rfl
    have g1 := hf 1 _ rfl
    have g2 := hf 2 _ rfl
    have g3 := hf 3 _ rfl
    rw [List.getElem?_eq_getElem (by omega)] at g0 g1 g2 g3
    obtain ⟨z0, e0, _, _⟩ := DataW.trod_int Try.underlying3 g0
    obtain ⟨z1, e1, _, wz⟩ := DataW.trod_int Try.underlying3 g1
    obtain ⟨r, e3⟩ := set_cells g3
    change List.take (Try.prog.cellsOf 3) [u0, u1, u2, u3, u4, u5, u6, u7, u8, u9, u10, u11, u12, u13, u14, u15, u16, u17, u18, u19] = _ at e0
    change List.take (Try.prog.cellsOf 3) [u1, u2, u3, u4, u5, u6, u7, u8, u9, u10, u11, u12, u13, u14, u15, u16, u17, u18, u19] = _ at e1
    change DataW.trod enc Try.prog W 0 (fun _ => true) true m 31 (List.take (Try.prog.cellsOf 31) [u2, u3, u4, u5, u6, u7, u8, u9, u10, u11, u12, u13, u14, u15, u16, u17, u18, u19]) = _ at g2
    change List.take (Try.prog.cellsOf 24) [u3, u4, u5, u6, u7, u8, u9, u10, u11, u12, u13, u14, u15, u16, u17, u18, u19] = _ at e3
    rw [cells_int] at e0 e1
    rw [cells_bytes] at g2
    rw [cells_set] at e3
    change [u0] = _ at e0
    change [u1] = _ at e1
    change [u3, u4, u5, u6, u7, u8, u9, u10, u11, u12, u13, u14, u15, u16, u17, u18, u19] = _ at e3
    simp only [List.cons.injEq, and_true] at e0 e1 e3
    subst e0 e1
    obtain ⟨rfl, rfl, rfl, rfl, rfl, rfl, rfl, rfl, rfl, rfl, rfl, rfl, rfl, rfl, rfl, rfl, rfl⟩ := e3
    have g2 : DataW.trod enc Try.prog W 0 (fun _ => true) true m 31 [u2] = _ := g2
    have h0 := hc 0 (by decide)
    have hsp : sp = none := by
      have := World.cell?_spot h0
      simpa [Addr.add] using this
    subst hsp
    have hu : ∃ a len cap, u2 = .slice a len cap := by
      rcases open_ints Try.underlying31 Try.underlying5 (by kernel_rfl) g2 with ⟨h, _⟩ | ⟨a, len, cap, _, h, _⟩
      · exact ⟨_, _, _, by simpa using h⟩
      · exact ⟨_, _, _, by simpa using h⟩
    obtain ⟨a, len, cap, rfl⟩ := hu
    obtain ⟨l, a', cap', hi⟩ := open_arg (H := H) (enc := enc) (W := W) (d := (xs[2]'(by omega)).1) (p := (xs[2]'(by omega)).2) Try.underlying31 Try.underlying5 (by kernel_rfl) ⟨a, len, cap, rfl⟩ ⟨m, g2⟩
    have hs := hi.shape
    rw [hs] at hi
    have hw := wf_i64 wz
    refine ⟨rfl, (⟨z0, z1, .slice a len cap, r.fi, r.fo, r.fl, r.k0, r.k1, r.k2, r.k3, r.k4, r.k5, r.k6, r.k7, r.k8, r.k9, r.k10, r.k11, r.mn, r.ti⟩, a', l, cap'), ⟨by have h := hc 0 (by decide); rw [addr_add] at h; exact h, by have h := hc 1 (by decide); rw [addr_add] at h; exact h, by have h := hc 2 (by decide); rw [addr_add] at h; exact h, by have h := hc 3 (by decide); rw [addr_add] at h; exact h, by have h := hc 4 (by decide); rw [addr_add] at h; exact h, by have h := hc 5 (by decide); rw [addr_add] at h; exact h, by have h := hc 6 (by decide); rw [addr_add] at h; exact h, by have h := hc 7 (by decide); rw [addr_add] at h; exact h, by have h := hc 8 (by decide); rw [addr_add] at h; exact h, by have h := hc 9 (by decide); rw [addr_add] at h; exact h, by have h := hc 10 (by decide); rw [addr_add] at h; exact h, by have h := hc 11 (by decide); rw [addr_add] at h; exact h, by have h := hc 12 (by decide); rw [addr_add] at h; exact h, by have h := hc 13 (by decide); rw [addr_add] at h; exact h, by have h := hc 14 (by decide); rw [addr_add] at h; exact h, by have h := hc 15 (by decide); rw [addr_add] at h; exact h, by have h := hc 16 (by decide); rw [addr_add] at h; exact h, by have h := hc 17 (by decide); rw [addr_add] at h; exact h, by have h := hc 18 (by decide); rw [addr_add] at h; exact h, by have h := hc 19 (by decide); rw [addr_add] at h; exact h⟩, hs, hi, hw.1, hw.2⟩

end

/-- Acts that came in. -/
theorem open_acts {H : Type} {enc : TypeId × Value → H} {W : World} {base : Nat} {v : Value} {d : DataW H} {p : List MemPlace} (hval : Value.okWide Try.prog W .any base 25 v) (h : DataW.Trod enc Try.prog W 0 (fun _ => true) true 25 v d p) :
    ∃ (ad : Option Addr) (n cap : Nat) (F : Nat → Ac) (BB : Nat → List Int), v = .slice ad n cap ∧ (n : Int) ≤ 9223372036854775807 ∧ AArg W ad n F BB := by
  obtain ⟨a0, l0, c0, rfl⟩ := okWide_slice Try.underlying25 hval
  obtain ⟨fuel, hf⟩ := h
  have hc1 : Try.prog.cellsOf 36 = 20 := by kernel_rfl
  rcases Go.Deep.open_slice Try.underlying25 hf with ⟨hcs, _⟩ | ⟨a, len, cap, m, n, D, Pl, hcs, _, hlc, hcm, hm, _, hx⟩
  · have e : (Value.slice a0 l0 c0) = .slice none 0 0 := by simpa [Value.cells] using hcs
    cases e
    exact ⟨none, 0, 0, fun _ => ⟨0, 0, .slice none 0 0, 0, 0, 0, 0, 0, 0, 0, 0, 0, 0, 0, 0, 0, 0, 0, 0, 0⟩, fun _ => [], rfl, by decide, fun i hi => absurd hi (Nat.not_lt_zero _)⟩
  · have e : (Value.slice a0 l0 c0) = .slice (some a) len cap := by simpa [Value.cells] using hcs
    cases e
    have hmm : l0 ≤ m := by rw [hm]; simpa using hlc
    obtain ⟨b, o, spo⟩ := a
    have hsp : 0 < l0 → spo = none := fun h1 => by
      obtain ⟨cs, g1, g2⟩ := hx 0 (by omega)
      rw [hc1] at g1
      obtain ⟨_, hl, hcc⟩ := World.cells?_some g1
      rw [Nat.zero_mul] at hcc
      have h0 : (⟨b, o, spo⟩ : Addr).add 0 = ⟨b, o, spo⟩ := by unfold Addr.add; simp
      rw [h0] at hcc
      exact (act_one hl hcc g2).1
    have key : ∀ i, i < l0 → ∃ x, ActOk W b (o + i * 20) x := fun i hi => by
      obtain ⟨cs, g1, g2⟩ := hx i (by omega)
      obtain rfl := hsp (by omega)
      rw [hc1] at g1
      obtain ⟨_, hl, hcc⟩ := World.cells?_some g1
      rw [addr_add] at hcc
      exact (act_one hl hcc g2).2
    haveI : Inhabited Ac := ⟨⟨0, 0, .slice none 0 0, 0, 0, 0, 0, 0, 0, 0, 0, 0, 0, 0, 0, 0, 0, 0, 0, 0⟩⟩
    obtain ⟨F, hF⟩ := Go.Deep.choose_lt (α := Ac × Option Addr × List Int × Nat) (p := fun i x => ActOk W b (o + i * 20) x) key
    refine ⟨some ⟨b, o, spo⟩, l0, c0, fun i => (F i).1, fun i => (F i).2.2.1, rfl, by unfold maxLen at hcm; omega, fun i hi => ?_⟩
    obtain ⟨h1, h2, h3, h4, h5⟩ := hF i hi
    exact ⟨b, o, (F i).2.1, (F i).2.2.2, by rw [hsp (by omega)], h1, h2, h3, h4, h5⟩

end Go.Proofs.Ytkggmjjjopfdbaa
