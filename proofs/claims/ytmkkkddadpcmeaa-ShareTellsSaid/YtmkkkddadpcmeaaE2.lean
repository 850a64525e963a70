/-
  For every number and every list of floats the law ShareAll returns true, and the arguments read as they did; no conditions.
-/
import Derived.Test.YtmkkkddadpcmeaaE1
import Derived.Test.YtmkkkddadpcmeaaD5
namespace Go.Proofs.Ytmkkkddadpcmeaa
open Go.ChangeShapes Go.WideShapes Go.ChangeAt Go.RowKit

theorem Try.cells22 : Try.prog.cellsOf 22 = 1 := by kernel_rfl

/-- A slice of floats that can be read: it is nil, or its cells hold words that fit 64 bits. -/
theorem open_fs {H : Type} {enc : TypeId × Value → H} {W : World} {v : Value} {d : DataW H} {p : List MemPlace} (hval : ∃ a len cap, v = .slice a len cap) (h : DataW.Trod enc Try.prog W 0 (fun _ => true) true 27 v d p) :
    v = .slice none 0 0 ∨ ∃ (a : Addr) (len cap : Nat) (f : Nat → Nat), v = .slice (some a) len cap ∧ len ≤ maxLen ∧ (∀ j, f j < 18446744073709551616) ∧ ∀ j, j < len → W.cell? (a.add j) = some (.float .f64 (f j)) := by
  obtain ⟨a0, l0, c0, rfl⟩ := hval
  obtain ⟨fuel, hf⟩ := h
  rcases Go.Deep.open_slice1 Try.underlying27 Try.cells22 hf with ⟨h1, _⟩ | ⟨a, len, cap, m, n, V, D, Pl, h1, _, h3, h4, h5, _, h7⟩
  · left
    simpa [Value.cells] using h1
  · right
    have e : (Value.slice a0 l0 c0) = .slice (some a) len cap := by simpa [Value.cells] using h1
    have key : ∀ j, j < m → ∃ b, V j = .float .f64 b ∧ b < 18446744073709551616 := by
      intro j hj
      obtain ⟨_, k2⟩ := h7 j hj
      cases n with
      | zero => simp [DataW.trod] at k2
      | succ n =>
        generalize V j = v at k2
        cases v <;> simp [DataW.trod, Try.underlying22, Lit.wf] at k2
        obtain ⟨⟨rfl, k3⟩, _⟩ := k2
        exact ⟨_, rfl, by simpa using k3⟩
    have hm : len ≤ m := by rw [h5]; simp; omega
    obtain ⟨f, hf1⟩ := Go.Deep.choose_lt (α := Nat) (n := len) (p := fun j b => V j = .float .f64 b ∧ b < 18446744073709551616) (fun j hj => key j (by omega))
    refine ⟨a, len, cap, fun j => if j < len then f j else 0, e, by omega, fun j => ?_, fun j hj => ?_⟩
    · by_cases hj : j < len
      · simp only [hj, if_true]; exact (hf1 j hj).2
      · simp only [hj, if_false]; decide
    · rw [(h7 j (by omega)).1, (hf1 j hj).1]; simp [hj]

theorem readable5 : ∀ t ∈ Try.f5.params.toList, Try.prog.readableRec t = true ∧ t < Try.prog.types.size := by
  rw [Try.params5]
  intro t ht
  have h : t = 33 ∨ t = 27 := by simpa using ht
  rcases h with rfl | rfl
  · exact ⟨by kernel_rfl, by decide +kernel⟩
  · exact ⟨by kernel_rfl, by decide +kernel⟩

set_option maxRecDepth 100000 in
theorem all_lifted (os : Os) (started : os.Started) (H : Type) (enc : TypeId × Value → H) :
    ReturnsInHanded {} Try.checked os 5 .any (Rows.shareAllSpec.pre6 enc Try.prog Try.f5 Rows.shareAllRow.domain false) (Rows.shareAllSpec.post enc Try.prog Try.f5 false true false false) := by
  refine returnsInHanded_of_change (C := Try.checked) Try.own started (by kernel_rfl) Try.func5
    (ChangeSpec.witness6 (enc := enc) (C := Try.checked) false ⟨#[], #[.int .u16 0, .slice none 0 0], []⟩ 8 (by kernel_rfl) (by kernel_rfl) (by kernel_rfl) (by kernel_rfl)) ?_
  intro W base args ds gs before hval0 hW hcnd _
  have hval : ∀ (j : Nat) t v, Try.f5.params[j]? = some t → args[j]? = some v → Value.okWide Try.prog W .any base t v := hval0
  have hW' := hW
  obtain ⟨p, q, hA0, hV, rfl, hfz, hnd⟩ := hW
  have hA : DataW.TrodAll enc Try.prog W 0 (fun _ => true) true Try.f5.params.toList args.toList ds p := hA0
  rw [Try.params5] at hA hval
  obtain ⟨v0, v1, d0, d1, p0, p1, rfl, rfl, rfl, h0, h1⟩ := trodAll_two hA
  obtain ⟨a, rfl, rfl, rfl, wa⟩ := open_int Try.underlying33 (hval 0 33 v0 rfl rfl) h0
  have hs := open_fs (okWide_slice Try.underlying27 (hval 1 27 v1 rfl rfl)) h1
  have hwa : 0 ≤ a ∧ a < 65536 := by
    have z1 : IntKind.u16.min = 0 := by decide
    have z2 : IntKind.u16.max = 65535 := by decide
    simp only [Lit.wf, decide_eq_true_eq, Bool.and_eq_true] at wa
    omega
  clear hA0 hval0 hval hA h0 h1
  have run : Calls Try.prog 5 #[.int .u16 a, v1] W fun e W' => e = .returned (.bool true) ∧ Below W.heap.size W W' := by
    rcases hs with rfl | ⟨ad, len, cap, f, rfl, hl, hf, hc⟩
    · exact all_short a none 0 0 W (Or.inl rfl) (by decide)
    · by_cases hn : len = 0 ∨ 64 < len
      · exact all_short a (some ad) len cap W hn (by unfold maxLen at hl; omega)
      · obtain ⟨b, off, sp⟩ := ad
        have hsp : sp = none := by simpa [Addr.add] using World.cell?_spot (hc 0 (by omega))
        subst hsp
        exact all_any f a b off len cap W hwa.1 hwa.2 (by omega) (by omega) hf (fun j hj => by rw [← add_plain]; exact hc j hj)
  refine run.mono fun e W' ⟨he, hb⟩ => ?_
  subst he
  exact ⟨_, rfl, law_post Try.laidOut readable5 (by kernel_rfl) Try.underlying4 rfl hW' (fun _ => rfl) hb⟩

theorem all_holds : Rows.ShareAllSaid :=
  OpenClaim.holds_of_wide 5 Try.f5 rfl rfl rfl rfl rfl rfl rfl ⟨rfl, rfl, rfl, rfl, rfl⟩ rfl rfl rfl rfl rfl (by kernel_rfl) Try.func5 (by kernel_rfl)
    (of_decide_eq_true (by kernel_rfl)) (by unfold Func.isWrapper; first | (rw [if_pos (by decide +kernel)]; kernel_rfl) | (rw [if_neg (by decide +kernel)]; exact ⟨rfl, rfl⟩))
    (fun os started H enc _ => all_lifted os started H enc)

end Go.Proofs.Ytmkkkddadpcmeaa
