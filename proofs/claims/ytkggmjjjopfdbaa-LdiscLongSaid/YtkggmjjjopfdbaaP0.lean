/-
  Whether bytes are the same; what the program's discipline does, as hypotheses. No conditions.
-/
import Derived.Test.YtkggmjjjopfdbaaM1
import Derived.Test.YtkggmjjjopfdbaaRC
namespace Go.Proofs.Ytkggmjjjopfdbaa
open Go.RowKit
open L17

/-- Bytes that can be read. -/
def Bs (w : World) (v : Value) (l : List Int) : Prop := ∃ a cap, v = .slice a l.length cap ∧ l.length ≤ cap ∧ (l ≠ [] → ∃ b off, a = some ⟨b, off, none⟩ ∧ Ints .u8 w b off l)

theorem Bs.keep {w w' : World} {v : Value} {l : List Int} (h : Bs w v l) (hs : Stay (fun _ => False) w w') : Bs w' v l := by
  obtain ⟨a, cap, h1, h2, h3⟩ := h
  exact ⟨a, cap, h1, h2, fun hn => by obtain ⟨b, o, e, hi⟩ := h3 hn; exact ⟨b, o, e, fun j hj => keep_cell hs (hi j hj)⟩⟩

theorem sameB_nil (a1 a2 : Option Addr) (k1 k2 : Nat) (w : World) : Calls Try.prog 14 #[.slice a1 0 k1, .slice a2 0 k2] w (Gives (.bool true) w) := by
  go_enter Try.func14, Try.ntmps14
  go_wp2_with fail
  go_loopg [5] 0 (fun g i wr => g = 0 ∧ i = .int .i64 0 ∧ wr = w)
  case atStart => exact ⟨rfl, rfl, rfl⟩
  case round =>
    obtain ⟨rfl, rfl, rfl⟩ := hrel
    go_wp2
    go_ret
    exact ⟨rfl, Stay.refl _ _⟩

set_option maxHeartbeats 1000000 in
theorem sameB_some (l : List Int) (b1 o1 k1 b2 o2 k2 n : Nat) (w : World) (hn : n ≤ 5000) (hl : l.length = n) (h1 : Ints .u8 w b1 o1 l) (h2 : Ints .u8 w b2 o2 l) :
    Calls Try.prog 14 #[.slice (some ⟨b1, o1, none⟩) n k1, .slice (some ⟨b2, o2, none⟩) n k2] w (Gives (.bool true) w) := by
  have H1 := hide' h1
  have H2 := hide' h2
  have HL := hide' hl
  have hnz : (n : Int) ≤ 5000 := by omega
  clear h1 h2 hn hl
  go_enter Try.func14, Try.ntmps14
  go_wp2_with fail
  go_loopg [5] n (fun g i wr => ∃ j : Nat, j ≤ n ∧ g = n - j ∧ i = .int .i64 (j : Int) ∧ ∃ q, wr = w.drewN q)
  case atStart => exact ⟨0, Nat.zero_le _, rfl, rfl, 0, rfl⟩
  case round =>
    obtain ⟨j, hj, rfl, rfl, q, rfl⟩ := hrel
    by_cases hlt : j < n
    · have a1 : w.cell? ⟨b1, o1 + j, none⟩ = some (.int .u8 (l.getD j 0)) := H1.out j (by have := HL.out; omega)
      have a2 : w.cell? ⟨b2, o2 + j, none⟩ = some (.int .u8 (l.getD j 0)) := H2.out j (by have := HL.out; omega)
      obtain ⟨x, hx⟩ : ∃ x, x = l.getD j 0 := ⟨_, rfl⟩
      rw [← hx] at a1 a2
      clear hx
      have jz : (j : Int) < n := by omega
      have j0 : (0 : Int) ≤ j := by omega
      go_wp2_with fail
      go_quiet (fail)
      go_wp2
      go_roundg (n - (j + 1))
      case measure => omega
      case rel => exact ⟨j + 1, by omega, rfl, by go_num, _, rfl⟩
    · have : j = n := by omega
      subst this
      go_wp2
      go_ret
      exact ⟨rfl, (Stay.refl _ _).drewN _⟩

theorem sameB (v1 v2 : Value) (l : List Int) (w : World) (h1 : Bs w v1 l) (h2 : Bs w v2 l) (hn : l.length ≤ 5000) : Calls Try.prog 14 #[v1, v2] w (Gives (.bool true) w) := by
  obtain ⟨a1, k1, rfl, _, c1⟩ := h1
  obtain ⟨a2, k2, rfl, _, c2⟩ := h2
  by_cases h : l = []
  · subst h
    exact sameB_nil a1 a2 k1 k2 w
  · obtain ⟨b1, o1, rfl, i1⟩ := c1 h
    obtain ⟨b2, o2, rfl, i2⟩ := c2 h
    exact sameB_some l b1 o1 k1 b2 o2 k2 l.length w hn rfl i1 i2

theorem bs_arg {w : World} {v : Value} {l : List Int} {a : Option Addr} {cap : Nat} (h : IArg .u8 w v l a cap) : Bs w v l := ⟨a, cap, h.shape, h.lenLe, fun hne => by
  obtain ⟨b, o, e, _, hi⟩ := h.cells hne
  exact ⟨b, o, e, hi⟩⟩

theorem Bs.slice {w : World} {v : Value} {l : List Int} (h : Bs w v l) : ∃ a k c, v = .slice a k c := by
  obtain ⟨a, c, h, _⟩ := h
  exact ⟨a, _, c, h⟩



/-- A row of bytes that can be read. -/
def BR (w : World) (v : Value) (l : List Int) : Prop := ∃ a cap, IArg .u8 w v l a cap

theorem BR.bs {w : World} {v : Value} {l : List Int} (h : BR w v l) : Bs w v l := by
  obtain ⟨a, cap, h⟩ := h
  exact bs_arg h

theorem BR.keep {w w1 : World} {v : Value} {l : List Int} (h : BR w v l) (hs : Stay (fun _ => False) w w1) : BR w1 v l := by
  obtain ⟨a, cap, h⟩ := h
  exact ⟨a, cap, h.stay0 hs⟩

theorem BR.shape {w : World} {v : Value} {l : List Int} (h : BR w v l) : ∃ a cap, v = .slice a l.length cap := by
  obtain ⟨a, cap, h⟩ := h
  exact ⟨a, cap, h.shape⟩

theorem BRow.br {w : World} {b : Bx} {v : Value} {l : List Int} (h : BRow w b v l) : BR w v l := by
  obtain ⟨a, cap, h, _⟩ := h
  exact ⟨a, cap, h⟩

theorem Acc.br {W0 w : World} {v : Value} {l : List Int} (h : Acc W0 w v l) : BR w v l := by
  obtain ⟨a, c, h1, _⟩ := owned_arg h.own h.wf
  exact ⟨a, c, h1⟩

theorem br_new (w : World) (cs : Array Value) (l : List Int) (n : Nat) (hl : cs.toList = l.map (.int .u8 ·)) (hn : cs.size = n) (hw : ∀ x ∈ l, (Lit.int .u8 x).wf = true) (hm : n ≤ 1000) : BR (w.alloc (.cells cs 5)) (.slice (some ⟨w.heap.size, 0, none⟩) n n) l := (Acc.new w cs l n hl hn hw hm).br

/-- The blocks are those that were, or new. -/
def Grown (O O' : Nat → Prop) (w : World) : Prop := ∀ k, O' k → O k ∨ w.heap.size ≤ k

section
variable (At : World → Nat → (Nat → Prop) → DS → Prop)

def MadeP (t : Tm) (w : World) (e : Ending) (w' : World) : Prop :=
  ∃ p O, e = .returned (.pointer (some ⟨p, 0, none⟩)) ∧ At w' p O (fresh t) ∧ (∀ k, O k → w.heap.size ≤ k) ∧ Stay (fun _ => False) w w'

/-- A call that turns the discipline. -/
def TurnP (p : Nat) (O : Nat → Prop) (d' : DS) (x : Value) (w : World) (e : Ending) (w' : World) : Prop :=
  ∃ O', e = .returned x ∧ At w' p O' d' ∧ Stay O w w' ∧ Grown O O' w

def InP (p : Nat) (O : Nat → Prop) (d : DS) (c : Int) (w : World) (e : Ending) (w' : World) : Prop :=
  ∃ v O', e = .returned (.tuple #[v, .int .i64 (d.input c).2]) ∧ BR w' v (d.input c).1.ec ∧ At w' p O' (d.input c).1 ∧ Stay O w w' ∧ Grown O O' w

def RdP (p : Nat) (O : Nat → Prop) (d : DS) (n : Int) (w : World) (e : Ending) (w' : World) : Prop :=
  ∃ v O', e = .returned (.tuple #[v, .bool (d.rd n).2]) ∧ BR w' v (d.rd n).1 ∧ At w' p O' (d.rdS n) ∧ Stay O w w' ∧ Grown O O' w

/-- A copy of the line that lies apart. -/
def LineP (O : Nat → Prop) (d : DS) (w : World) (e : Ending) (w' : World) : Prop :=
  ∃ v a cap, e = .returned v ∧ IArg .u8 w' v d.line a cap ∧ (d.line ≠ [] → ∀ ad, a = some ad → ¬ O ad.block) ∧ Stay (fun _ => False) w w'

/-- What the program's discipline does. -/
structure Impl : Prop where
  lt : ∀ {w p O d}, At w p O d → ∀ k, O k → k < w.heap.size
  keep : ∀ {w w1 p O d S}, At w p O d → Stay S w w1 → (∀ k, S k → ¬ O k) → At w1 p O d
  noEc : ∀ {w p O d} l, At w p O d → At w p O (d.setEc l)
  new : ∀ t w, rightB t = true → Calls Try.prog 10 #[.agg #[.int .i64 t.fi, .int .i64 t.fo, .int .i64 t.fl, .int .i64 t.k0, .int .i64 t.k1, .int .i64 t.k2, .int .i64 t.k3, .int .i64 t.k4, .int .i64 t.k5, .int .i64 t.k6, .int .i64 t.k7, .int .i64 t.k8, .int .i64 t.k9, .int .i64 t.k10, .int .i64 t.k11, .int .i64 t.mn, .int .i64 t.ti]] w (MadeP At t w)
  newNil : ∀ t w, rightB t = false → Calls Try.prog 10 #[.agg #[.int .i64 t.fi, .int .i64 t.fo, .int .i64 t.fl, .int .i64 t.k0, .int .i64 t.k1, .int .i64 t.k2, .int .i64 t.k3, .int .i64 t.k4, .int .i64 t.k5, .int .i64 t.k6, .int .i64 t.k7, .int .i64 t.k8, .int .i64 t.k9, .int .i64 t.k10, .int .i64 t.k11, .int .i64 t.mn, .int .i64 t.ti]] w (Gives (.pointer none) w)
  input : ∀ {w p O d N} c, At w p O d → Ok N d → N ≤ 50000 → 0 ≤ c → c < 256 → Calls Try.prog 13 #[.pointer (some ⟨p, 0, none⟩), .int .u8 c] w (InP At p O d c w)
  read : ∀ {w p O d N} n, At w p O d → Ok N d → N ≤ 50000 → n ≤ 9223372036854775807 → Calls Try.prog 16 #[.pointer (some ⟨p, 0, none⟩), .int .i64 n] w (RdP At p O d n w)
  line : ∀ {w p O d N}, At w p O d → Ok N d → N ≤ 50000 → Calls Try.prog 24 #[.pointer (some ⟨p, 0, none⟩)] w (LineP O d w)
  ready : ∀ {w p O d N}, At w p O d → Ok N d → N ≤ 50000 → Calls Try.prog 22 #[.pointer (some ⟨p, 0, none⟩)] w (Gives (.int .i64 (d.cnt : Nat)) w)

/-- .. and what LdiscPlays asks besides. -/
structure Impl2 : Prop where
  set : ∀ {w p O d N} t, At w p O d → Ok N d → N ≤ 50000 → rightB t = true → Calls Try.prog 17 #[.pointer (some ⟨p, 0, none⟩), .agg #[.int .i64 t.fi, .int .i64 t.fo, .int .i64 t.fl, .int .i64 t.k0, .int .i64 t.k1, .int .i64 t.k2, .int .i64 t.k3, .int .i64 t.k4, .int .i64 t.k5, .int .i64 t.k6, .int .i64 t.k7, .int .i64 t.k8, .int .i64 t.k9, .int .i64 t.k10, .int .i64 t.k11, .int .i64 t.mn, .int .i64 t.ti]] w (TurnP At p O (d.set t) (.bool true) w)
  setNot : ∀ {w p O d N} t, At w p O d → Ok N d → N ≤ 50000 → rightB t = false → Calls Try.prog 17 #[.pointer (some ⟨p, 0, none⟩), .agg #[.int .i64 t.fi, .int .i64 t.fo, .int .i64 t.fl, .int .i64 t.k0, .int .i64 t.k1, .int .i64 t.k2, .int .i64 t.k3, .int .i64 t.k4, .int .i64 t.k5, .int .i64 t.k6, .int .i64 t.k7, .int .i64 t.k8, .int .i64 t.k9, .int .i64 t.k10, .int .i64 t.k11, .int .i64 t.mn, .int .i64 t.ti]] w (Gives (.bool false) w)
  flush : ∀ {w p O d N}, At w p O d → Ok N d → N ≤ 50000 → Calls Try.prog 19 #[.pointer (some ⟨p, 0, none⟩)] w (TurnP At p O d.flush (.tuple #[]) w)
  stopped : ∀ {w p O d}, At w p O d → Calls Try.prog 25 #[.pointer (some ⟨p, 0, none⟩)] w (Gives (.bool d.stp) w)
  setting : ∀ {w p O d}, At w p O d → Calls Try.prog 21 #[.pointer (some ⟨p, 0, none⟩)] w (Gives (.agg #[.int .i64 d.t.fi, .int .i64 d.t.fo, .int .i64 d.t.fl, .int .i64 d.t.k0, .int .i64 d.t.k1, .int .i64 d.t.k2, .int .i64 d.t.k3, .int .i64 d.t.k4, .int .i64 d.t.k5, .int .i64 d.t.k6, .int .i64 d.t.k7, .int .i64 d.t.k8, .int .i64 d.t.k9, .int .i64 d.t.k10, .int .i64 d.t.k11, .int .i64 d.t.mn, .int .i64 d.t.ti]) w)
end

end Go.Proofs.Ytkggmjjjopfdbaa
