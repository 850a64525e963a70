/-
  Signals, one behind the other: in memory. No conditions.
-/
import Derived.Test.YtefpifnfinkbaaaG0
namespace Go.Proofs.Ytefpifnfinkbaaa
open Go.RowKit

/-- A signal's parts. -/
def Sg.parts (p : Sg) : List Value := [.int .i64 p.grp, .int .i64 p.sig]

theorem Sg.parts_one (p : Sg) : ∀ v ∈ p.parts, v.oneCell' = true := by
  intro v hv
  simp only [Sg.parts, List.mem_cons, List.not_mem_nil, or_false] at hv
  rcases hv with rfl | rfl <;> rfl

/-- The cells of signals. -/
def sc (L : List Sg) : List Value := L.flatMap Sg.parts

theorem sc_append (A B : List Sg) : sc (A ++ B) = sc A ++ sc B := List.flatMap_append

theorem sc_one (p : Sg) : sc [p] = p.parts := by simp [sc]

theorem sc_length : ∀ L : List Sg, (sc L).length = L.length * 2
  | [] => rfl
  | p :: L => by
    show (p.parts ++ sc L).length = _
    rw [List.length_append, sc_length L, List.length_cons]
    show 2 + _ = _
    omega

theorem sc_all (L : List Sg) : ∀ v ∈ sc L, v.oneCell' = true := by
  intro v hv
  obtain ⟨p, _, h⟩ := List.mem_flatMap.1 hv
  exact p.parts_one v h

theorem sc_get {L : List Sg} {i : Nat} {p : Sg} (h : L[i]? = some p) (j : Nat) (hj : j < 2) : (sc L)[i * 2 + j]? = p.parts[j]? := by
  have hi : i < L.length := (List.getElem?_eq_some_iff.1 h).1
  have e : L = L.take i ++ p :: L.drop (i + 1) := by
    rw [← (List.getElem?_eq_some_iff.1 h).2, List.getElem_cons_drop]
    exact (List.take_append_drop i L).symm
  have hl : p.parts.length = 2 := rfl
  have e2 : ∀ (A B : List Sg), sc (A ++ p :: B) = sc A ++ (p.parts ++ sc B) := fun A B => by rw [sc_append]; rfl
  rw [e, e2, List.getElem?_append_right (by rw [sc_length, List.length_take]; omega), List.getElem?_append_left (by rw [sc_length, List.length_take]; omega)]
  congr 1
  rw [sc_length, List.length_take]
  omega

theorem info60 : (Try.prog.info? 60).map (fun i => (i.zero, i.size, i.bytes)) = some (some (.agg #[.int .i64 0, .int .i64 0]), 2, 16) := by kernel_rfl

/-- Signals in a slice. -/
def SV (w : World) (a : Option Addr) (cap : Nat) (L : List Sg) : Prop := Win w 2 (.slice a L.length cap) L.length (sc L)

theorem SV.nil (w : World) : SV w none 0 [] := Win.nil w 2

theorem SV.stay {T : Nat → Prop} {w w1 : World} {a : Option Addr} {cap : Nat} {L : List Sg} (h : SV w a cap L) (hs : Stay T w w1) (hn : ∀ k, a.map Addr.block = some k → ¬ T k) : SV w1 a cap L :=
  Win.stay h hs (fun j hj => hn j (by cases a <;> exact hj))

theorem SV.keep {w w1 : World} {a : Option Addr} {cap : Nat} {L : List Sg} (h : SV w a cap L) (hs : Stay (fun _ => False) w w1) : SV w1 a cap L := h.stay hs (fun _ _ h => h)

/-- Where a signal is. -/
theorem SV.at {w : World} {a : Option Addr} {cap i : Nat} {L : List Sg} {p : Sg} (h : SV w a cap L) (hp : L[i]? = some p) : ∃ g o, a = some ⟨g, o, none⟩ ∧ SBoxAt w g (o + i * 2) p := by
  have hi : i < L.length := (List.getElem?_eq_some_iff.1 hp).1
  rcases h.2 with ⟨_, h0⟩ | ⟨g, o, c, e, _, _, _, hr, _⟩
  · omega
  · cases e
    have c : ∀ j, j < 2 → ∀ v, p.parts[j]? = some v → w.cell? ⟨g, o + (i * 2 + j), none⟩ = some v := fun j hj v hv => hr (i * 2 + j) v (by rw [sc_get hp j hj]; exact hv)
    have c0 := c 0 (by decide) _ rfl
    have c1 := c 1 (by decide) _ rfl
    exact ⟨g, o, rfl, by rw [Nat.add_zero] at c0; exact c0, by rw [← Nat.add_assoc] at c1; exact c1⟩

/-- What signals are told, in memory that is new. -/
def GivesS (L : List Sg) (w : World) (e : Ending) (w' : World) : Prop := ∃ a cap, e = .returned (.slice a L.length cap) ∧ SV w' a cap L ∧ Stay (fun _ => False) w w' ∧ ∀ j, a.map Addr.block = some j → w.heap.size ≤ j

end Go.Proofs.Ytefpifnfinkbaaa
