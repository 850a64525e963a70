/-
  UartPlays: what stands at the head of a round. No conditions.
-/
import Derived.Test.YtffdkkbinkonbaaE1
namespace Go.Proofs.Ytffdkkbinkonbaa
open Go.RowKit

/-- A line, and the document's beside it. -/
structure PG (w : World) (b r xb : Nat) (o : Bool) (L : List (Int × Int)) (M : List Int) (o' : Bool) (L' : List (Int × Int)) (M' : List Int) (vi vo : Value) (q : Ln) (wr : World) : Prop where
  lin : LIn w wr b r o q L M
  box : DBox wr xb ⟨vi, vo, o'⟩
  rin : Win wr 2 vi L'.length (its L')
  rout : Win wr 1 vo M'.length (bys M')
  nb : w.heap.size ≤ xb
  xo : ¬ q.own xb
  oi : ∀ j, vi.ownBlock = some j → ¬ q.own j ∧ j ≠ xb
  oo : ∀ j, vo.ownBlock = some j → ¬ q.own j ∧ j ≠ xb

variable {w : World} {b r xb : Nat} {o o' o2 : Bool} {L L' L2 : List (Int × Int)} {M M' M2 : List Int} {vi vo vi2 vo2 v : Value} {q q2 : Ln} {wr w1 w2 : World}

theorem PG.keep (h : PG w b r xb o L M o' L' M' vi vo q wr) (hs : Stay (fun _ => False) wr w1) : PG w b r xb o L M o' L' M' vi vo q w1 :=
  ⟨h.lin.keep hs, h.box.keep hs, h.rin.stay hs (fun _ _ h => h), h.rout.stay hs (fun _ _ h => h), h.nb, h.xo, h.oi, h.oo⟩

/-- The line moves. -/
theorem PG.move (h : PG w b r xb o L M o' L' M' vi vo q wr) (hl : LIn w w1 b r o2 q2 L2 M2) (hm : Moved q q2 wr w1) : PG w b r xb o2 L2 M2 o' L' M' vi vo q2 w1 := by
  have hx := h.box.lt
  have n : ∀ j, j < wr.heap.size → ¬ q.own j → ¬ q2.own j := fun j hj hn h2 => by
    rcases hm.2 j h2 with h3 | h3
    · exact hn h3
    · omega
  exact ⟨hl, h.box.stay hm.1 h.xo, h.rin.stay hm.1 (fun j hj => (h.oi j hj).1), h.rout.stay hm.1 (fun j hj => (h.oo j hj).1), h.nb, n _ hx h.xo, fun j hj => ⟨n j (h.rin.lt j hj) (h.oi j hj).1, (h.oi j hj).2⟩, fun j hj => ⟨n j (h.rout.lt j hj) (h.oo j hj).1, (h.oo j hj).2⟩⟩

/-- The document's is written. -/
theorem PG.put (h : PG w b r xb o L M o' L' M' vi vo q wr) (hs : Stay (fun j => j = xb) wr w1) (hb : DBox w1 xb ⟨vi2, vo2, o2⟩) (h1 : Win wr 2 vi2 L2.length (its L2)) (h2 : Win wr 1 vo2 M2.length (bys M2)) (n1 : ∀ j, vi2.ownBlock = some j → ¬ q.own j ∧ j ≠ xb) (n2 : ∀ j, vo2.ownBlock = some j → ¬ q.own j ∧ j ≠ xb) : PG w b r xb o L M o2 L2 M2 vi2 vo2 q w1 :=
  ⟨h.lin.other hs (fun j e => by rw [e]; exact ⟨h.nb, h.xo⟩), hb, h1.stay hs (fun j hj => (n1 j hj).2), h2.stay hs (fun j hj => (n2 j hj).2), h.nb, h.xo, n1, n2⟩

/-- What is new lies beside it. -/
theorem PG.fresh (h : PG w b r xb o L M o' L' M' vi vo q wr) {j : Nat} (hj : wr.heap.size ≤ j) : ¬ q.own j ∧ j ≠ xb :=
  ⟨fun h2 => by have := h.lin.at'.lt j h2; omega, fun e => by have := h.box.lt; omega⟩

theorem PG.len (h : PG w b r xb o L M o' L' M' vi vo q wr) : L.length ≤ r ∧ M.length ≤ r := by
  have h1 := h.lin.at'.l1
  have h2 := h.lin.at'.m1
  rw [h.lin.er] at h1 h2
  exact ⟨h1, h2⟩

/-- The document's line behind an item that came. -/
def RefP (vi vo : Value) (o ok : Bool) (L : List (Int × Int)) (x f : Int) (w : World) (e : Ending) (w' : World) : Prop :=
  ∃ vi2, e = .returned (.tuple #[.agg #[vi2, vo, .bool (!ok)], .bool ok]) ∧ Stay (fun _ => False) w w' ∧ Win w' 2 vi2 (if ok then L ++ [(x, flagB o f)] else L).length (its (if ok then L ++ [(x, flagB o f)] else L)) ∧ ∀ j, vi2.ownBlock = some j → vi.ownBlock = some j ∨ w.heap.size ≤ j

theorem ref_in (x f : Int) (ok : Bool) (h : PG w b r xb o L M o' L M' vi vo q wr) (hr : r ≤ 20) (hl : L.length ≤ r) (hok : decide (L.length < r) = ok) : Calls Try.prog 8 #[.agg #[vi, vo, .bool o], .int .i64 (r : Nat), .int .u8 x, .int .i64 f] wr (RefP vi vo o ok L x f wr) := by
  obtain ⟨ia, ic, hvi, _, _⟩ := h.rin.shape
  obtain ⟨oa, oc, hvo, _, _⟩ := h.rout.shape
  have hrow := h.rin
  rw [hvi] at hrow
  have hr1 := hrow.front (Nat.le_refl _)
  rw [its_take, List.take_length] at hr1
  refine (rreceive8 vi vo o L (r : Nat) x f wr (by rw [hvi]; exact hr1) ⟨_, _, _, hvo⟩ (by omega)).mono ?_
  rintro e w' ⟨hs, hh⟩
  rcases hh with ⟨h1, he⟩ | ⟨h1, v, he, hown⟩
  · have hk : ok = false := by rw [← hok]; simp; omega
    subst hk
    exact ⟨vi, he, hs, h.rin.stay hs (fun _ _ h => h), fun j hj => .inl hj⟩
  · have hk : ok = true := by rw [← hok]; simp; omega
    subst hk
    refine ⟨v, he, hs, ?_, fun j hj => .inr (hown.lt j hj).1⟩
    have := Win.of_owns hown hown.1.symm
    simpa using this

theorem bs_of_win {a : Option Addr} {n k cap : Nat} {K : List Int} (h : Win w 1 (.slice a n cap) n (bys K)) (hk : k ≤ n) : Bs w (.slice a k cap) (K.take k) := by
  have hl : K.length = n := by have := h.1; rw [bys_len] at this; omega
  have hr := h.front hk
  rw [bys_take] at hr
  have ht : (K.take k).length = k := by rw [List.length_take]; omega
  have hc : k ≤ cap := by
    rcases h.2 with ⟨h0, h1⟩ | ⟨g, o, c, h0, h1, _⟩
    · omega
    · cases h0; omega
  refine ⟨a, cap, by rw [ht], by omega, fun hne => ?_⟩
  rcases hr with ⟨_, h0, _⟩ | ⟨ad, c, h1, _, h3⟩
  · exact absurd (List.eq_nil_of_length_eq_zero (by omega)) hne
  · cases h1
    obtain ⟨b, o, sp⟩ := ad
    have hpos : 0 < (K.take k).length := List.length_pos_iff.2 hne
    have hc0 := h3 0 _ (List.getElem?_eq_getElem (by rw [bys_len]; omega))
    have hsp : sp = none := by simpa [Addr.add] using World.cell?_spot hc0
    subst hsp
    exact ⟨b, o, rfl, bs_cell fun j u hu => by have := h3 j u hu; rwa [addr_add] at this⟩

end Go.Proofs.Ytffdkkbinkonbaa
