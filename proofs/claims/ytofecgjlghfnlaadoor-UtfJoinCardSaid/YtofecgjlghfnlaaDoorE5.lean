/-
  UtfJoin walked: bytes behind bytes. No conditions.
-/
import Derived.Test.YtofecgjlghfnlaaDoorE4
namespace Go.Proofs.YtofecgjlghfnlaaDoor
open Go.ChangeShapes Go.WideShapes Go.ChangeAt Go.RowKit

def bv (z : Nat) : Value := .int .u8 (z : Nat)

/-- An argument that is bytes. -/
structure BArg (W : World) (v : Value) (l : List Nat) (a : Option Addr) (cap : Nat) : Prop where
  shape : v = .slice a l.length cap
  cells : l ≠ [] → ∃ b off, a = some ⟨b, off, none⟩ ∧ Bytes W b off l
  nilCap : a = none → cap = 0
  lenLe : l.length ≤ cap
  capLe : cap ≤ maxLen

theorem BArg.stay {W W' : World} {v : Value} {l : List Nat} {a : Option Addr} {cap : Nat} (h : BArg W v l a cap) (hs : Stay (fun _ => False) W W') : BArg W' v l a cap :=
  ⟨h.shape, fun hne => by obtain ⟨b, off, h1, h2⟩ := h.cells hne; exact ⟨b, off, h1, hs.bytes h2 (fun _ h => h)⟩, h.nilCap, h.lenLe, h.capLe⟩

theorem addr_add (b off j : Nat) : (⟨b, off, none⟩ : Addr).add j = ⟨b, off + j, none⟩ := by unfold Addr.add; split <;> simp_all

theorem BArg.row {W : World} {v : Value} {l : List Nat} {a : Option Addr} {cap : Nat} (h : BArg W v l a cap) : IsRow W v (l.map bv) := by
  obtain ⟨h1, h2, h3, h4, _⟩ := h
  subst h1
  by_cases hne : l = []
  · subst hne
    cases a with
    | none => left; exact ⟨by rw [h3 rfl]; rfl, rfl⟩
    | some ad => right; exact ⟨ad, 0, cap, rfl, rfl, fun j u hu => by simp at hu⟩
  · obtain ⟨b, off, rfl, hB⟩ := h2 hne
    right
    refine ⟨_, _, _, rfl, by simp, fun j u hu => ?_⟩
    rw [List.getElem?_map, Option.map_eq_some_iff] at hu
    obtain ⟨z, hz, rfl⟩ := hu
    have hj := (List.getElem?_eq_some_iff.1 hz).1
    rw [addr_add, hB.1 j hj, List.getD_eq_getElem?_getD, hz]
    rfl

/-- Bytes, opened. -/
theorem open_arg {H : Type} {enc : TypeId × Value → H} {W : World} {v : Value} {d : DataW H} {p : List MemPlace} (hval : ∃ a len cap, v = .slice a len cap) (h : DataW.Trod enc Tryd.prog W 0 (fun _ => true) true 22 v d p) :
    ∃ l a cap, BArg W v l a cap := by
  have hb := open_bs hval h
  rcases hb with ⟨a, cap, rfl⟩ | ⟨b, off, cap, l, hne, rfl, hc, hm, hB⟩
  · obtain ⟨fuel, hf⟩ := h
    rcases open_ints Tryd.underlying22 Tryd.underlying5 Tryd.cells5 hf with ⟨h1, _⟩ | ⟨a', len, cap', zs, h1, _, h3, h4, _⟩
    · have e : (Value.slice a 0 cap) = .slice none 0 0 := by simpa [Value.cells] using h1
      refine ⟨[], a, cap, rfl, fun h => absurd rfl h, fun _ => ?_, by simp, ?_⟩
      · cases e; rfl
      · cases e; simp
    · have e : (Value.slice a 0 cap) = .slice (some a') len cap' := by simpa [Value.cells] using h1
      refine ⟨[], a, cap, rfl, fun h => absurd rfl h, fun h => ?_, by simp, ?_⟩
      · cases e; cases h
      · cases e; exact h4
  · exact ⟨l, _, cap, rfl, fun _ => ⟨b, off, rfl, hB⟩, (fun h => by cases h), hc, hm⟩

theorem all_arg {W : World} {v : Value} {l : List Nat} {a : Option Addr} {cap : Nat} (h : BArg W v l a cap) (hT : Tbl W) (hl : l.length ≤ 5000) : Calls Tryd.prog 10 #[v] W (Runes W (runes l)) := by
  obtain ⟨h1, h2, h3, h4, h5⟩ := h
  subst h1
  by_cases hne : l = []
  · subst hne; exact all_nil a cap W
  · obtain ⟨b, off, rfl, hB⟩ := h2 hne
    exact all_any l b off cap W hT (tbl_size hT) hl hB

theorem refWaits_nil (a : Option Addr) (cap : Nat) (w : World) : Calls Tryd.prog 14 #[.slice a 0 cap] w (WaitsE [] w) := by
  go_enter Tryd.func14, Tryd.ntmps14
  go_wp2_with fail
  go_loopg [3, 4] 0 (fun g i u wr => g = 0 ∧ i = .int .i64 0 ∧ wr = w)
  case atStart => exact ⟨rfl, rfl, rfl⟩
  case round =>
    obtain ⟨rfl, rfl, rfl⟩ := hrel
    go_wp2
    go_ret
    exact ⟨rfl, Stay.refl _ _⟩

theorem refWaits_arg {W : World} {v : Value} {l : List Nat} {a : Option Addr} {cap : Nat} (h : BArg W v l a cap) (hl : l.length ≤ 5000) : Calls Tryd.prog 14 #[v] W (WaitsE l W) := by
  obtain ⟨h1, h2, h3, h4, h5⟩ := h
  subst h1
  by_cases hne : l = []
  · subst hne; exact refWaits_nil a cap W
  · obtain ⟨b, off, rfl, hB⟩ := h2 hne
    exact refWaits_any l b off cap W hl h4 h5 hB

/-- An own row of bytes is bytes. -/
theorem owned_arg {w : World} {base : Nat} {v : Value} {l : List Nat} (h : w.ownsRow base 5 1 v l.length (l.map bv)) (hb : ∀ x ∈ l, x < 256) : ∃ a cap, BArg w v l a cap := by
  rcases h.2 with ⟨rfl, h0⟩ | ⟨g, cap, cur, rfl, hbg, hg, hnc, hcm, _⟩
  · have : l = [] := List.eq_nil_of_length_eq_zero h0
    subst this
    exact ⟨none, 0, rfl, fun h => absurd rfl h, fun _ => rfl, Nat.le_refl _, by unfold maxLen; omega⟩
  · refine ⟨_, cap, rfl, fun _ => ⟨g, 0, rfl, fun j hj => ?_, hb⟩, (fun h => by cases h), hnc, hcm⟩
    have := h.cells (g := g) rfl j (bv (l.getD j 0)) (by rw [List.getElem?_map, List.getElem?_eq_getElem hj, List.getD_eq_getElem?_getD, List.getElem?_eq_getElem hj]; rfl)
    rwa [addr_add] at this

theorem one_bytes (l : List Nat) : ∀ u ∈ l.map bv, u.oneCell' = true := by
  intro u hu
  obtain ⟨z, _, rfl⟩ := List.mem_map.1 hu
  rfl

theorem info5 : (Tryd.prog.info? 5).map (fun i => (i.zero, i.size, i.bytes)) = some (some (.int .u8 0), 1, 1) := by kernel_rfl

theorem barg_lt {W : World} {v : Value} {l : List Nat} {a : Option Addr} {cap : Nat} (h : BArg W v l a cap) : ∀ x ∈ l, x < 256 := by
  intro x hx
  have hne : l ≠ [] := by rintro rfl; simp at hx
  obtain ⟨b, off, _, hB⟩ := h.cells hne
  exact hB.2 x hx

end Go.Proofs.YtofecgjlghfnlaaDoor
