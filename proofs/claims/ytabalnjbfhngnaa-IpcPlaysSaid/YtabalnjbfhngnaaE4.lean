/-
  What stands at the head of a round of IpcPlays. No conditions.
-/
import Derived.Test.YtabalnjbfhngnaaE2
import Derived.Test.YtabalnjbfhngnaaB2
namespace Go.Proofs.Ytabalnjbfhngnaa
open Go.RowKit

/-- A message that came in: from whom, its bytes' address, its bytes, their room. -/
abbrev Dm := Int × Option Addr × List Int × Nat

/-- Cells of messages. -/
def ds (X : List Dm) : List Value := X.flatMap fun p => [.int .i64 p.1, .slice p.2.1 p.2.2.1.length p.2.2.2]

theorem ds_cons (p : Dm) (X : List Dm) : ds (p :: X) = .int .i64 p.1 :: .slice p.2.1 p.2.2.1.length p.2.2.2 :: ds X := rfl

theorem ds_append (X Y : List Dm) : ds (X ++ Y) = ds X ++ ds Y := by unfold ds; rw [List.flatMap_append]

/-- Messages by their contents. -/
def md (X : List Dm) : List (Int × List Int) := X.map fun p => (p.1, p.2.2.1)

theorem md_len (X : List Dm) : (md X).length = X.length := by unfold md; simp

/-- The ring, and the document's messages beside it. -/
structure PG (w wr : World) (b r : Nat) (q : Rg) (xv : Value) (X : List Dm) : Prop where
  rin : RIn w wr b r q (md X)
  win : Win wr 2 xv X.length (ds X)
  off : ∀ j, xv.ownBlock = some j → w.heap.size ≤ j ∧ ¬ q.own j
  good : ∀ p ∈ X, Bs w (.slice p.2.1 p.2.2.1.length p.2.2.2) p.2.2.1 ∧ p.2.2.1.length ≤ 4096

theorem PG.keep {w wr w1 : World} {b r : Nat} {q : Rg} {xv : Value} {X : List Dm} (h : PG w wr b r q xv X) (hs : Stay (fun _ => False) wr w1) : PG w w1 b r q xv X :=
  ⟨h.rin.keep hs, h.win.stay hs (fun _ _ h => h), h.off, h.good⟩

theorem PG.beside {T : Nat → Prop} {w wr w1 : World} {b r : Nat} {q : Rg} {xv : Value} {X : List Dm} (h : PG w wr b r q xv X) (hs : Stay T wr w1) (hT : ∀ j, T j → w.heap.size ≤ j ∧ ¬ q.own j ∧ ¬ xv.ownBlock = some j) : PG w w1 b r q xv X :=
  ⟨h.rin.beside hs (fun j hj => ⟨(hT j hj).1, (hT j hj).2.1⟩), h.win.stay hs (fun j hj e => (hT j e).2.2 hj), h.off, h.good⟩

theorem PG.len {w wr : World} {b r : Nat} {q : Rg} {xv : Value} {X : List Dm} (h : PG w wr b r q xv X) : X.length ≤ r := by
  have h1 := h.rin.at'.len
  have h2 := h.rin.at'.n1
  rw [md_len] at h1
  have h3 := h.rin.ec
  omega

/-- The ring has turned, the document's messages have not. -/
theorem PG.moved {w wr w1 : World} {b r : Nat} {q q' : Rg} {xv : Value} {X : List Dm} (h : PG w wr b r q xv X) (hm : Moved q q' wr w1) : Win w1 2 xv X.length (ds X) ∧ ∀ j, xv.ownBlock = some j → w.heap.size ≤ j ∧ ¬ q'.own j :=
  ⟨h.win.stay hm.1 (fun j hj => (h.off j hj).2), fun j hj => ⟨(h.off j hj).1, hm.not (h.off j hj).2 (h.win.lt j hj)⟩⟩

/-- The first message is taken from both. -/
theorem PG.took {w wr w1 : World} {b r : Nat} {q q' : Rg} {xa : Option Addr} {xn xc : Nat} {p : Dm} {X : List Dm} (h : PG w wr b r q (.slice xa xn xc) (p :: X)) (hn : (p :: X).length = xn) (hi : RIn w w1 b r q' (md X)) (hm : Moved q q' wr w1) {va : Option Addr} {nl nc : Nat}
    (hv : Value.slice va nl nc = Value.slice (if xc = 1 then xa else xa.map (·.add (1 * 2))) (xn - 1) (xc - 1)) : X.length = nl ∧ PG w w1 b r q' (.slice va nl nc) X := by
  have hl : X.length = nl := by
    rw [List.length_cons] at hn
    cases hv
    omega
  obtain ⟨h1, h2⟩ := h.moved hm
  have hb : ∀ j, (Value.slice va nl nc).ownBlock = some j → (Value.slice xa xn xc).ownBlock = some j := fun j hj => by
    rw [hv] at hj
    exact Win.drop_block j hj
  rw [hn] at h1
  have hd := h1.drop (k := 1) (by rw [← hn, List.length_cons]; omega)
  rw [← hv, ds_cons] at hd
  have e : xn - 1 = X.length := by rw [← hn, List.length_cons]; omega
  rw [e] at hd
  exact ⟨hl, hi, hd, fun j hj => h2 j (hb j hj), fun p hp => h.good p (List.mem_cons_of_mem _ hp)⟩

/-- A message comes behind all, in both. -/
theorem PG.more {w w1 w2 : World} {b r : Nat} {q : Rg} {xv v : Value} {X : List Dm} {p : Dm} (hi : RIn w w1 b r q (md X ++ [(p.1, p.2.2.1)])) (ho : ∀ j, xv.ownBlock = some j → w.heap.size ≤ j ∧ ¬ q.own j) (hg : ∀ p ∈ X, Bs w (.slice p.2.1 p.2.2.1.length p.2.2.2) p.2.2.1 ∧ p.2.2.1.length ≤ 4096)
    (hp : Bs w (.slice p.2.1 p.2.2.1.length p.2.2.2) p.2.2.1 ∧ p.2.2.1.length ≤ 4096) (hs : Stay (fun j => xv.ownBlock = some j) w1 w2) (hw : Win w2 2 v (X.length + 1) (ds X ++ ds [p])) (hv : v.ownBlock = xv.ownBlock ∨ v.ownBlock = some w1.heap.size) : PG w w2 b r q v (X ++ [p]) := by
  refine ⟨?_, ?_, fun j hj => ?_, fun x hx => ?_⟩
  · have e : md (X ++ [p]) = md X ++ [(p.1, p.2.2.1)] := by unfold md; rw [List.map_append]; rfl
    rw [e]
    exact hi.beside hs (fun j hj => ho j hj)
  · rw [ds_append, List.length_append]
    exact hw
  · rcases hv with hv | hv
    · exact ho j (by rw [← hv]; exact hj)
    · rw [hv] at hj
      cases hj
      refine ⟨hi.stay.size, fun e => ?_⟩
      have := hi.at'.lt _ e
      omega
  · rcases List.mem_append.1 hx with h | h
    · exact hg x h
    · rw [List.mem_singleton.1 h]; exact hp

/-- The first message's cells. -/
theorem PG.first {w wr : World} {b r : Nat} {q : Rg} {xa : Option Addr} {xn xc : Nat} {p : Dm} {X : List Dm} (h : PG w wr b r q (.slice xa xn xc) (p :: X)) : ∃ g o, xa = some ⟨g, o, none⟩ ∧ wr.cell? ⟨g, o, none⟩ = some (.int .i64 p.1) ∧ wr.cell? ⟨g, o + 1, none⟩ = some (.slice p.2.1 p.2.2.1.length p.2.2.2) := by
  rcases h.win.2 with ⟨_, h0⟩ | ⟨g, o, cap, e, _, _, _, h3, _⟩
  · cases h0
  · cases e
    exact ⟨g, o, rfl, h3 0 _ rfl, h3 1 _ rfl⟩

/-- Messages that came in, one by one. -/
def Msgs (w : World) (ad : Option Addr) (n : Nat) (D : Nat → Int) (A : Nat → Option Addr) (K : Nat → List Int) (C : Nat → Nat) : Prop :=
  ∀ i, i < n → ∃ g o, ad = some ⟨g, o, none⟩ ∧ w.cell? ⟨g, o + i * 2, none⟩ = some (.int .i64 (D i)) ∧ w.cell? ⟨g, o + i * 2 + 1, none⟩ = some (.slice (A i) (K i).length (C i)) ∧ IArg .u8 w (.slice (A i) (K i).length (C i)) (K i) (A i) (C i)

set_option maxRecDepth 100000 in
theorem plays_long (ad : Option Addr) (n cap : Nat) (x : Int) (w : World) (hle : (n : Int) ≤ 9223372036854775807) (hn : 80 < n) : Calls Try.prog 3 #[.int .i64 x, .slice ad n cap] w (LawTrue w) := by
  have n1 : (80 : Int) < (n : Nat) := by omega
  have HAW := hide' awake7
  go_enter Try.func3, Try.ntmps3
  go_wp2_with fail
  refine (HAW.out _).mono ?_
  rintro e w9 ⟨rfl, hs⟩
  have HE := hide' hs
  clear hs
  go_wp2
  go_ret
  exact ⟨rfl, HE.out⟩

set_option maxRecDepth 100000 in
theorem plays_room (ad : Option Addr) (n cap : Nat) (x : Int) (w : World) (hn : n ≤ 80) (hx : 20 < x) : Calls Try.prog 3 #[.int .i64 x, .slice ad n cap] w (LawTrue w) := by
  have n1 : ¬ (80 : Int) < (n : Nat) := by omega
  have HAW := hide' awake7
  go_enter Try.func3, Try.ntmps3
  go_wp2_with fail
  refine (HAW.out _).mono ?_
  rintro e w9 ⟨rfl, hs⟩
  have HE := hide' hs
  clear hs
  go_wp2
  go_ret
  exact ⟨rfl, HE.out⟩

set_option maxRecDepth 100000 in
theorem plays_none (ad : Option Addr) (n cap : Nat) (x : Int) (w : World) (hn : n ≤ 80) (hx : x < 1) : Calls Try.prog 3 #[.int .i64 x, .slice ad n cap] w (LawTrue w) := by
  have n1 : ¬ (80 : Int) < (n : Nat) := by omega
  have n2 : ¬ (20 : Int) < x := by omega
  have n3 : ¬ (1 : Int) ≤ x := by omega
  have HAW := hide' awake7
  have HNO := hide' (new8_low x w hx)
  go_enter Try.func3, Try.ntmps3
  go_wp2_with fail
  refine HNO.out.mono ?_
  rintro e w1 ⟨rfl, hs⟩
  have HS1 := hide' hs
  clear hs HNO
  go_wp2_with fail
  refine (HAW.out _).mono ?_
  rintro e w9 ⟨rfl, hs⟩
  have HE := hide' (HS1.out.trans hs)
  clear hs
  go_wp2
  go_ret
  exact ⟨rfl, HE.out⟩

end Go.Proofs.Ytabalnjbfhngnaa
