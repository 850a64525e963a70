/-
  A table of processes: where it lies; what is asked of it: walked. No conditions.
  What is asked of a table: walked. No conditions.
  A table is written: one process told of, deaf, by itself; the group in front: walked. No conditions.
  The group in front is another one; what is told of one process: walked. No conditions.
  Something is done with each process: walked. No conditions.
  Children get another parent; a terminal is nobody's; a session has one: walked. No conditions.
  A session has a terminal: walked. No conditions.
-/
import Derived.Test.YtefpifnfinkbaaaG1
import Derived.BigQuiet
import Derived.ArgAppend
import Derived.Lib.AppendZerosOnto
namespace Go.Proofs.Ytefpifnfinkbaaa
open Go.RowKit

/-- A table: where it lies, its processes' slice, its map. -/
structure Tq where
  b : Nat
  v : Value
  m : Nat

/-- A block of the table's. -/
def Tq.own (q : Tq) (j : Nat) : Prop := j = q.b ∨ q.v.ownBlock = some j ∨ j = q.m

/-- The table in memory: its processes, how many were made, what stands in front; c: how much was done. -/
structure TM (w : World) (q : Tq) (L : List Pr) (md : Int) (f : Int → Int) (c : Nat) : Prop where
  box : TBox w q.b ⟨q.v, md, .map (some q.m)⟩
  row : Wv w q.v L
  mp : ∃ h, MAt w q.m c f h
  vb : ∀ j, q.v.ownBlock = some j → ¬ j = q.b ∧ ¬ j = q.m
  mb : ¬ q.m = q.b
  rb : ∃ g, q.v.ownBlock = some g
  len : L.length ≤ 256
  up : Up L

/-- The table, and what always holds of it. -/
structure TAt (w : World) (q : Tq) (L : List Pr) (md : Int) (f : Int → Int) (c : Nat) : Prop where
  tm : TM w q L md f c
  ok : Ok L md f
  mc : md ≤ c

theorem TM.lt {w : World} {q : Tq} {L : List Pr} {md : Int} {f : Int → Int} {c : Nat} (h : TM w q L md f c) : ∀ j, q.own j → j < w.heap.size := by
  intro j hj
  rcases hj with rfl | hj | rfl
  · exact h.box.lt
  · exact h.row.lt j hj
  · obtain ⟨_, hm⟩ := h.mp; exact hm.lt

theorem TM.stay {T : Nat → Prop} {w w1 : World} {q : Tq} {L : List Pr} {md : Int} {f : Int → Int} {c : Nat} (h : TM w q L md f c) (hs : Stay T w w1) (hn : ∀ j, q.own j → ¬ T j) : TM w1 q L md f c :=
  ⟨h.box.stay hs (hn _ (.inl rfl)), h.row.stay hs (fun j hj => hn j (.inr (.inl hj))), by obtain ⟨k, hm⟩ := h.mp; exact ⟨k, hm.stay hs (hn _ (.inr (.inr rfl)))⟩, h.vb, h.mb, h.rb, h.len, h.up⟩

theorem TM.keep {w w1 : World} {q : Tq} {L : List Pr} {md : Int} {f : Int → Int} {c : Nat} (h : TM w q L md f c) (hs : Stay (fun _ => False) w w1) : TM w1 q L md f c := h.stay hs (fun _ _ h => h)

theorem TM.more {w : World} {q : Tq} {L : List Pr} {md : Int} {f : Int → Int} {c c' : Nat} (h : TM w q L md f c) (hc : c ≤ c') : TM w q L md f c' :=
  ⟨h.box, h.row, by obtain ⟨k, hm⟩ := h.mp; exact ⟨k, hm.mono hc⟩, h.vb, h.mb, h.rb, h.len, h.up⟩

theorem TAt.lt {w : World} {q : Tq} {L : List Pr} {md : Int} {f : Int → Int} {c : Nat} (h : TAt w q L md f c) : ∀ j, q.own j → j < w.heap.size := h.tm.lt

theorem TAt.stay {T : Nat → Prop} {w w1 : World} {q : Tq} {L : List Pr} {md : Int} {f : Int → Int} {c : Nat} (h : TAt w q L md f c) (hs : Stay T w w1) (hn : ∀ j, q.own j → ¬ T j) : TAt w1 q L md f c := ⟨h.tm.stay hs hn, h.ok, h.mc⟩

theorem TAt.keep {w w1 : World} {q : Tq} {L : List Pr} {md : Int} {f : Int → Int} {c : Nat} (h : TAt w q L md f c) (hs : Stay (fun _ => False) w w1) : TAt w1 q L md f c := h.stay hs (fun _ _ h => h)

theorem TAt.more {w : World} {q : Tq} {L : List Pr} {md : Int} {f : Int → Int} {c c' : Nat} (h : TAt w q L md f c) (hc : c ≤ c') : TAt w q L md f c' := ⟨h.tm.more hc, h.ok, by have := h.mc; omega⟩

/-- What turned is the table's; what is new of it is new. -/
def Moved (q q' : Tq) (w w' : World) : Prop := Stay q.own w w' ∧ ∀ j, q'.own j → q.own j ∨ w.heap.size ≤ j

theorem Moved.of_stay {q : Tq} {w w' : World} (h : Stay (fun _ => False) w w') : Moved q q w w' := ⟨h.mono (fun _ _ h => h.elim), fun _ h => .inl h⟩

theorem Moved.not {q q' : Tq} {w w' : World} (hm : Moved q q' w w') {j : Nat} (h1 : ¬ q.own j) (h2 : j < w.heap.size) : ¬ q'.own j := fun e => by
  rcases hm.2 j e with h | h
  · exact h1 h
  · omega

theorem Moved.trans {q q1 q2 : Tq} {w w1 w2 : World} (h : Moved q q1 w w1) (k : Moved q1 q2 w1 w2) : Moved q q2 w w2 :=
  ⟨h.1.trans2 k.1 (fun j hj e => by rcases h.2 j e with h | h; exact h; omega), fun j hj => by
    have hz := h.1.size
    rcases k.2 j hj with h1 | h1
    · exact h.2 j h1
    · exact .inr (by omega)⟩

/-- What is answered, and what the table is then. -/
def Did (q : Tq) (L : List Pr) (md : Int) (f : Int → Int) (c : Nat) (v : Value) (w : World) (e : Ending) (w' : World) : Prop := ∃ q' : Tq, q'.b = q.b ∧ e = .returned v ∧ TAt w' q' L md f c ∧ Moved q q' w w'

theorem Gives.did {w : World} {q : Tq} {L : List Pr} {md : Int} {f : Int → Int} {c : Nat} {v : Value} {g : Nat} {xs : Array Value} (hA : TAt w q L md f c) (h : Calls Try.prog g xs w (Gives v w)) : Calls Try.prog g xs w (Did q L md f c v w) :=
  h.mono (fun _ _ h => ⟨q, rfl, h.1, hA.keep h.2, Moved.of_stay h.2⟩)

theorem w64_of {x : Int} (h0 : 0 ≤ x) (h1 : x ≤ 4096) : W64 x := by unfold W64; omega

variable {q : Tq} {L : List Pr} {md : Int} {f : Int → Int} {c : Nat} {w : World}

theorem front18 (t : Int) (h : TM w q L md f c) (ht : W64 t) : Calls Try.prog 18 #[.pointer (some ⟨q.b, 0, none⟩), .int .i64 t] w (Gives (.int .i64 (f t)) w) := by
  obtain ⟨k, hm⟩ := h.mp
  have HL := hm.look ht
  have HS := hide' (Stay.refl (fun _ => False) w)
  obtain ⟨c0, c1, c2, _⟩ := h.box
  simp only at c0 c1 c2
  clear h hm ht c0 c1
  go_enter Try.func18, Try.ntmps18
  go_wp2
  go_ret
  exact ⟨rfl, HS.out⟩

theorem place49 (x : Int) (h : TM w q L md f c) : Calls Try.prog 49 #[.pointer (some ⟨q.b, 0, none⟩), .int .i64 x] w (FoundP x L w) := by
  obtain ⟨a, cap, hv, hw, _⟩ := h.row
  have HC := hide' (search63 a L.length cap L x w hw.rd rfl (by have := h.len; omega) h.up)
  obtain ⟨c0, c1, c2, _⟩ := h.box
  simp only at c0 c1 c2
  rw [hv] at c0
  obtain ⟨n, hn⟩ : ∃ n, n = L.length := ⟨_, rfl⟩
  rw [← hn] at HC c0
  clear h hw hn hv c1 c2
  go_enter Try.func49, Try.ntmps49
  go_wp2_with fail
  refine HC.out.mono ?_
  rintro _ w1 ⟨i, b, rfl, hr⟩
  have HR := hide' hr
  clear hr HC c0
  go_wp2
  go_returns
  exact ⟨i, b, rfl, HR.out⟩

/-- What a search for a process hands back: where it is. -/
def FindP (x : Int) (L : List Pr) (v : Value) (w : World) (e : Ending) (w' : World) : Prop :=
  ((∃ (i g : Nat) (p : Pr), e = .returned (.pointer (some ⟨g, i * 6, none⟩)) ∧ v.ownBlock = some g ∧ L[i]? = some p ∧ p.pid = x) ∨ (e = .returned (.pointer none) ∧ ∀ p ∈ L, p.pid ≠ x)) ∧ Stay (fun _ => False) w w'

theorem find37 (x : Int) (h : TM w q L md f c) : Calls Try.prog 37 #[.pointer (some ⟨q.b, 0, none⟩), .int .i64 x] w (FindP x L q.v w) := by
  have HP := hide' (place49 x h)
  have HT := hide' h
  clear h
  go_enter Try.func37, Try.ntmps37
  go_wp2_with fail
  refine HP.out.mono ?_
  rintro _ w1 ⟨i, b, rfl, hi, h1, h0, hs⟩
  have HS := hide' hs
  cases b
  · have H0 := hide' (h0 rfl)
    clear h1 h0 hi HP HT hs
    go_wp2
    go_ret
    exact ⟨.inr ⟨rfl, H0.out⟩, HS.out⟩
  · obtain ⟨p, hp, hpx⟩ := h1 rfl
    have hlt : i < L.length := (List.getElem?_eq_some_iff.1 hp).1
    have HT1 := HT.out.keep hs
    obtain ⟨a, cap, hv, hw, _⟩ := HT1.row
    obtain ⟨g, ha, _⟩ := hw.at hp
    have HG : Hid (q.v.ownBlock = some g) := by rw [hv, ha]; exact rfl
    obtain ⟨c0, c1, c2, _⟩ := HT1.box
    simp only at c0 c1 c2
    rw [hv, ha] at c0
    have HX := hide' (show L[i]? = some p ∧ p.pid = x from ⟨hp, hpx⟩)
    obtain ⟨n, hn⟩ : ∃ n, n = L.length := ⟨_, rfl⟩
    rw [← hn] at c0 hlt
    have hl2 : (i : Int) < (n : Nat) := by omega
    clear h1 h0 hi HP HT HT1 hs hw ha hv hn hp hpx c1 c2
    go_wp2
    go_ret
    exact ⟨.inl ⟨i, g, p, rfl, HG.out, HX.out⟩, HS.out⟩

end Go.Proofs.Ytefpifnfinkbaaa

namespace Go.Proofs.Ytefpifnfinkbaaa
open Go.RowKit

variable {q : Tq} {L : List Pr} {md : Int} {f : Int → Int} {c : Nat} {w : World}

/-- What a table's processes lie in. -/
theorem TM.procs (h : TM w q L md f c) : ∃ a cap, q.v = .slice a L.length cap ∧ Ws w a L.length cap L ∧ w.cell? ⟨q.b, 0, none⟩ = some (.slice a L.length cap) ∧ (cap = 0 → a = none) := by
  obtain ⟨a, cap, hv, hw, h0⟩ := h.row
  refine ⟨a, cap, hv, hw, ?_, h0⟩
  rw [← hv]
  exact h.box.c0

theorem hasAny43 (g : Int) (h : TM w q L md f c) : Calls Try.prog 43 #[.pointer (some ⟨q.b, 0, none⟩), .int .i64 g] w (Gives (.bool (L.any (fun p => p.grp == g))) w) := by
  obtain ⟨bx, hbx⟩ : ∃ b, b = w.heap.size := ⟨_, rfl⟩
  obtain ⟨W0, hW0⟩ : ∃ W, W = w.alloc (.cells #[.int .i64 g] 3) := ⟨_, rfl⟩
  have hs : Stay (fun _ => False) w W0 := by rw [hW0]; exact (Stay.refl _ _).alloc _
  have k0 : W0.cell? ⟨bx, 0, none⟩ = some (.int .i64 g) := by rw [hW0, hbx]; simp
  have h1 := h.keep hs
  obtain ⟨a, cap, hv, hw, c0, _⟩ := h1.procs
  have HC := hide' (contains60_61 a L.length cap L (fun p => p.grp == g) bx W0 hw.rd rfl (by have := h.len; omega) (fun w' hs' t => any61 t bx g w' (keep_cell hs' k0)))
  have HS := hide' hs
  obtain ⟨n, hn⟩ : ∃ n, n = L.length := ⟨_, rfl⟩
  rw [← hn] at HC c0
  clear h h1 hw hv hn hs k0
  go_enter Try.func43, Try.ntmps43
  go_upto_region 1 with fail
  rw [← hW0, ← hbx]
  clear hW0 hbx
  go_wp2_with fail
  refine HC.out.mono ?_
  rintro _ w1 ⟨rfl, hs1⟩
  have HS1 := hide' (HS.out.trans hs1)
  clear hs1 HC
  go_wp2
  go_ret
  exact ⟨rfl, HS1.out⟩

theorem has48 (g z : Int) (h : TM w q L md f c) : Calls Try.prog 48 #[.pointer (some ⟨q.b, 0, none⟩), .int .i64 g, .int .i64 z] w (Gives (.bool (L.any (fun p => p.grp == g && p.ses == z))) w) := by
  obtain ⟨bx, hbx⟩ : ∃ b, b = w.heap.size := ⟨_, rfl⟩
  obtain ⟨bz, hby⟩ : ∃ b, b = bx + 1 := ⟨_, rfl⟩
  obtain ⟨W0, hW0⟩ : ∃ W, W = (w.alloc (.cells #[.int .i64 g] 3)).alloc (.cells #[.int .i64 z] 3) := ⟨_, rfl⟩
  have hs : Stay (fun _ => False) w W0 := by rw [hW0]; exact ((Stay.refl _ _).alloc _).alloc _
  have k0 : W0.cell? ⟨bx, 0, none⟩ = some (.int .i64 g) := by
    have h1 : (w.alloc (.cells #[.int .i64 g] 3)).cell? ⟨bx, 0, none⟩ = some (.int .i64 g) := by rw [hbx]; simp
    rw [hW0]; exact keep_cell ((Stay.refl _ _).alloc _) h1
  have k1 : W0.cell? ⟨bz, 0, none⟩ = some (.int .i64 z) := by rw [hW0, hby, hbx]; simp
  have h1 := h.keep hs
  obtain ⟨a, cap, hv, hw, c0, _⟩ := h1.procs
  have HC := hide' (contains60_62 a L.length cap L (fun p => p.grp == g && p.ses == z) bx bz W0 hw.rd rfl (by have := h.len; omega) (fun w' hs' t => in62 t bx bz g z w' (keep_cell hs' k0) (keep_cell hs' k1)))
  have HS := hide' hs
  obtain ⟨n, hn⟩ : ∃ n, n = L.length := ⟨_, rfl⟩
  rw [← hn] at HC c0
  clear h h1 hw hv hn hs k0 k1
  go_enter Try.func48, Try.ntmps48
  go_upto_region 1 with fail
  rw [← hbx, ← hby, ← hW0]
  clear hW0 hbx hby
  go_wp2_with fail
  refine HC.out.mono ?_
  rintro _ w1 ⟨rfl, hs1⟩
  have HS1 := hide' (HS.out.trans hs1)
  clear hs1 HC
  go_wp2
  go_ret
  exact ⟨rfl, HS1.out⟩

theorem size40 : (Try.prog.info? 40).map (·.size) = some 6 := by kernel_rfl

theorem info40 : (Try.prog.info? 40).map (fun i => (i.zero, i.size, i.bytes)) = some (some (.agg #[.int .i64 0, .int .i64 0, .int .i64 0, .int .i64 0, .int .i64 0, .bool false]), 6, 48) := by kernel_rfl

/-- Processes that are handed out, in memory that is new. -/
def NewL (L : List Pr) (w : World) (e : Ending) (w' : World) : Prop := ∃ a c, e = .returned (.slice a L.length c) ∧ Stay (fun _ => False) w w' ∧ Rd w' a L ∧ L.length ≤ c ∧ ∀ k, a.map Addr.block = some k → w.heap.size ≤ k

theorem eql26_nil (a : Addr) (m c : Nat) (w : World) : (binOp .eql 26 (.slice (some a) m c) (.slice none 0 0)).run Try.prog w = .ok (.bool false) w := by
  simp only [binOp]
  simp [run_equal_slice_nil w 26 40 (some a) m c Try.underlying26]

theorem eql26_nils (w : World) : (binOp .eql 26 (.slice none 0 0) (.slice none 0 0)).run Try.prog w = .ok (.bool true) w := by
  simp only [binOp]
  simp [run_equal_slice_nil w 26 40 none 0 0 Try.underlying26]

attribute [local go_sem] eql26_nil eql26_nils

theorem clone42_some (g n c : Nat) (L : List Pr) (w : World) (h : Ws w (some ⟨g, 0, none⟩) n c L) (hm : n ≤ 2048) : Calls Try.prog 42 #[.slice (some ⟨g, 0, none⟩) n c] w (NewL L w) := by
  have HO := hide' (owns_newS w #[] 40 6 0 rfl (by decide))
  have HSRC := hide' (h.row.stay ((Stay.refl (fun _ => False) w).alloc (.cells #[] 40)) (fun _ _ h => h))
  have HS := hide' ((Stay.refl (fun _ => False) w).alloc (.cells #[] 40))
  have HN := hide' h.1
  clear h
  go_enter Try.func42, Try.ntmps42
  go_wp2_with (at_builtin; refine appS rfl _ _ 26 rfl Try.underlying26 info40 rfl (by decide) (by decide) HO.out rfl HSRC.out rfl (wc_one _) (by omega) (by simp) ?_; intro v W1 ho hst hb; have HO2 := hide' ho; have HT2 := hide' hst; clear ho hst hb)
  go_wp2
  go_ret
  have h2 := HO2.out
  rw [Nat.zero_add, show (#[] : Array Value).toList ++ wc L = wc L from rfl] at h2
  obtain ⟨a, cap, rfl, hw, hb⟩ := Ws.of_owns h2
  refine ⟨a, cap, by rw [HN.out]; rfl, HS.out.trans2 HT2.out (fun j hj e => by have e2 : w.heap.size = j := Option.some.inj e; omega), hw.rd, by rw [HN.out]; exact hw.2.1, fun k hk => hb k hk⟩

theorem clone42_nil (w : World) : Calls Try.prog 42 #[.slice none 0 0] w (NewL [] w) := by
  have HS := hide' (Stay.refl (fun _ => False) w)
  go_enter Try.func42, Try.ntmps42
  go_wp2
  go_ret
  exact ⟨none, 0, rfl, HS.out, Rd.nil _ _, Nat.le_refl _, fun k hk => by cases hk⟩

theorem clone42 (a : Option Addr) (n c : Nat) (L : List Pr) (w : World) (h : Ws w a n c L) (hm : n ≤ 2048) : Calls Try.prog 42 #[.slice a n c] w (NewL L w) := by
  rcases h.2.2.2 with ⟨rfl, rfl⟩ | ⟨g, rfl, _⟩
  · have h1 := h.1; have h2 := h.2.1
    obtain rfl : n = 0 := by omega
    obtain rfl : L = [] := List.eq_nil_of_length_eq_zero h1
    exact clone42_nil w
  · exact clone42_some g n c L w h hm

theorem all20 (h : TM w q L md f c) : Calls Try.prog 20 #[.pointer (some ⟨q.b, 0, none⟩)] w (NewL L w) := by
  obtain ⟨a, cap, hv, hw, c0, _⟩ := h.procs
  have HC := hide' (clone42 a L.length cap L w hw (by have := h.len; omega))
  obtain ⟨n, hn⟩ : ∃ n, n = L.length := ⟨_, rfl⟩
  rw [← hn] at HC c0
  clear h hw hn hv
  go_enter Try.func20, Try.ntmps20
  go_wp2_with fail
  refine HC.out.mono ?_
  rintro _ w1 ⟨a1, c1, rfl, hr⟩
  have HR := hide' hr
  clear hr HC c0
  go_wp2
  go_ret
  exact ⟨a1, c1, rfl, HR.out⟩

/-- A new table. -/
def NewT (L : List Pr) (md : Int) (f : Int → Int) (c : Nat) (w : World) (e : Ending) (w' : World) : Prop := ∃ q : Tq, e = .returned (.pointer (some ⟨q.b, 0, none⟩)) ∧ TAt w' q L md f c ∧ Stay (fun _ => False) w w' ∧ ∀ j, q.own j → w.heap.size ≤ j

theorem new8 (w : World) : Calls Try.prog 8 #[] w (NewT [⟨1, 0, 1, 1, 0, false⟩] 1 (fun _ => 0) 1 w) := by
  obtain ⟨W1, hW1⟩ : ∃ W, W = w.alloc (.cells #[.int .i64 1, .int .i64 0, .int .i64 1, .int .i64 1, .int .i64 0, .bool false] 40) := ⟨_, rfl⟩
  have ho := owns_newS w #[.int .i64 1, .int .i64 0, .int .i64 1, .int .i64 1, .int .i64 0, .bool false] 40 6 1 rfl (by decide)
  rw [← hW1] at ho
  have hz1 : W1.heap.size = w.heap.size + 1 := by rw [hW1]; simp
  have hs1 : Stay (fun _ => False) w W1 := by rw [hW1]; exact (Stay.refl _ _).alloc _
  obtain ⟨W2, hW2⟩ : ∃ W, W = W1.alloc (.map #[] 0) := ⟨_, rfl⟩
  have hm := MAt.made W1
  rw [← hW2] at hm
  have hz2 : W2.heap.size = W1.heap.size + 1 := by rw [hW2]; simp
  have hs2 : Stay (fun _ => False) W1 W2 := by rw [hW2]; exact (Stay.refl _ _).alloc _
  obtain ⟨W3, hW3⟩ : ∃ W, W = W2.alloc (.cells #[.slice (some ⟨w.heap.size, 0, none⟩) 1 1, .int .i64 1, .map (some W1.heap.size)] 64) := ⟨_, rfl⟩
  have hs3 : Stay (fun _ => False) W2 W3 := by rw [hW3]; exact (Stay.refl _ _).alloc _
  have hw : Ws W1 (some ⟨w.heap.size, 0, none⟩) 1 1 [⟨1, 0, 1, 1, 0, false⟩] := by
    obtain ⟨a, cap, e, h1, _⟩ := Ws.of_owns (L := [⟨1, 0, 1, 1, 0, false⟩]) (v := .slice (some ⟨w.heap.size, 0, none⟩) 1 1) (n := 1) (e := 40) (base := w.heap.size) ho
    cases e
    exact h1
  have HF : Hid (TAt W3 ⟨W2.heap.size, .slice (some ⟨w.heap.size, 0, none⟩) 1 1, W1.heap.size⟩ [⟨1, 0, 1, 1, 0, false⟩] 1 (fun _ => 0) 1 ∧ Stay (fun _ => False) w W3) := by
    refine ⟨⟨⟨?_, ⟨_, 1, rfl, (hw.keep hs2).keep hs3, fun h => by cases h⟩, ⟨_, (hm.mono (Nat.zero_le 1)).keep hs3⟩, ?_, ?_, ⟨_, rfl⟩, by decide, Ok.new.up⟩, Ok.new, Int.le_refl 1⟩, (hs1.trans hs2).trans hs3⟩
    · rw [hW3]
      exact TBox.new ⟨.slice (some ⟨w.heap.size, 0, none⟩) 1 1, 1, .map (some W1.heap.size)⟩ rfl
    · intro j hj
      have e : w.heap.size = j := Option.some.inj hj
      show ¬ j = W2.heap.size ∧ ¬ j = W1.heap.size
      omega
    · show ¬ W1.heap.size = W2.heap.size
      omega
  have HZ : Hid (w.heap.size ≤ W2.heap.size ∧ w.heap.size ≤ W1.heap.size) := ⟨by omega, by omega⟩
  have HW : Hid (W3 = ((w.alloc (.cells #[.int .i64 1, .int .i64 0, .int .i64 1, .int .i64 1, .int .i64 0, .bool false] 40)).alloc (.map #[] 0)).alloc (.cells #[.slice (some ⟨w.heap.size, 0, none⟩) 1 1, .int .i64 1, .map (some (w.heap.size + 1))] 64)) := by
    rw [hW3, hz1, hW2, hW1]; exact rfl
  have HB : Hid (W2.heap.size = w.heap.size + 1 + 1) := by rw [hz2, hz1]; exact rfl
  have hmm := @run_makeMap Try.prog
  clear ho hm hw hs1 hs2 hs3 hz1 hz2 hW1 hW2 hW3
  go_enter Try.func8, Try.ntmps8
  go_wp2
  go_ret
  refine ⟨⟨W2.heap.size, .slice (some ⟨w.heap.size, 0, none⟩) 1 1, W1.heap.size⟩, ?_, ?_, ?_, ?_⟩
  · rw [HB.out]; rfl
  · rw [← HW.out]; exact HF.out.1
  · rw [← HW.out]; exact HF.out.2
  · intro j hj
    rcases hj with rfl | hj | rfl
    · exact HZ.out.1
    · exact Nat.le_of_eq (Option.some.inj hj)
    · exact HZ.out.2

/-- What is told of one process. -/
theorem results_p_bool {fn : Func} {p t : Tmp} (h : fn.results = #[.cell p 40, .tmp t]) (tmps : Array Value) (w : World) (g : Nat) (r : Pr) (n : Bool) (hp : tmps.getD p undef = .pointer (some ⟨g, 0, none⟩)) (ht : tmps.getD t undef = .bool n) (hb : PBox w g r) :
    (results fn tmps).run Try.prog w = .ok (.tuple #[.agg #[.int .i64 r.pid, .int .i64 r.par, .int .i64 r.grp, .int .i64 r.ses, .int .i64 r.tty, .bool r.df], .bool n]) w := by
  have hp' : tmps[p]?.getD undef = .pointer (some ⟨g, 0, none⟩) := by simpa using hp
  have ht' : tmps[t]?.getD undef = .bool n := by simpa using ht
  simp [results, h, hp', ht', asAddr, run_loadVar_cells w g 0 40 _ _ hb.cells Try.underlying40 rfl (by kernel_rfl)]

end Go.Proofs.Ytefpifnfinkbaaa

namespace Go.Proofs.Ytefpifnfinkbaaa
open Go.RowKit

variable {q : Tq} {L : List Pr} {md : Int} {f : Int → Int} {c : Nat} {w : World} {i g : Nat} {p : Pr}

/-- Where a process's parts are. -/
theorem TM.cellsAt (h : TM w q L md f c) (hg : q.v.ownBlock = some g) (hp : L[i]? = some p) : PBoxAt w g (i * 6) p ∧ ∀ j, j < 6 → w.frozen? ⟨g, i * 6 + j, none⟩ = false := by
  obtain ⟨a, cap, hv, hw, _⟩ := h.row
  have hi : i < L.length := (List.getElem?_eq_some_iff.1 hp).1
  rcases hw.2.2.2 with ⟨rfl, _⟩ | ⟨g', rfl, hlt, hr, ht⟩
  · rw [hv] at hg; cases hg
  · obtain ⟨g2, e, hb⟩ := hw.at hp
    cases e
    rw [hv] at hg
    have e : g' = g := Option.some.inj hg
    subst e
    refine ⟨hb, fun j hj => ?_⟩
    have := (ht (i * 6 + j) (by have := hw.2.1; omega)).2
    rwa [Nat.zero_add] at this

/-- Some parts of a process are written. -/
theorem TM.write (h : TM w q L md f c) (hg : q.v.ownBlock = some g) (hp : L[i]? = some p) {p' : Pr} {k : Nat} {vs : List Value} (hk : k + vs.length ≤ 6) (e : p'.parts = p.parts.take k ++ vs ++ p.parts.drop (k + vs.length)) (hpid : p'.pid = p.pid) :
    TM (w.setCells g (i * 6 + k) vs) q (L.set i p') md f c ∧ Moved q q w (w.setCells g (i * 6 + k) vs) := by
  obtain ⟨a, cap, hv, hw, h0⟩ := h.row
  have hst : Stay (fun j => j = g) w (w.setCells g (i * 6 + k) vs) := (Stay.refl (fun j => j = g) w).setCells g _ _ rfl
  have hvb := h.vb g hg
  have hgo : q.own g := .inr (.inl hg)
  have ha : a = some ⟨g, 0, none⟩ := by
    rcases hw.2.2.2 with ⟨rfl, _⟩ | ⟨g', rfl, _⟩
    · rw [hv] at hg; cases hg
    · rw [hv] at hg
      have e : g' = g := Option.some.inj hg
      rw [e]
  subst ha
  refine ⟨⟨h.box.stay hst (fun e => hvb.1 e.symm), ⟨_, cap, by rw [List.length_set]; exact hv, by rw [List.length_set]; exact hw.part hp hk e, h0⟩, ?_, h.vb, h.mb, h.rb, by rw [List.length_set]; exact h.len, h.up.set hp hpid⟩, hst.mono (fun j _ e => by rw [e]; exact hgo), fun j hj => .inl hj⟩
  obtain ⟨k', hm⟩ := h.mp
  exact ⟨k', hm.stay hst (fun e => hvb.2 e.symm)⟩

theorem TAt.write (h : TAt w q L md f c) (hg : q.v.ownBlock = some g) (hp : L[i]? = some p) {p' : Pr} {k : Nat} {vs : List Value} (hk : k + vs.length ≤ 6) (e : p'.parts = p.parts.take k ++ vs ++ p.parts.drop (k + vs.length)) (hpid : p'.pid = p.pid) (hok : Ok (L.set i p') md f) :
    TAt (w.setCells g (i * 6 + k) vs) q (L.set i p') md f c ∧ Moved q q w (w.setCells g (i * 6 + k) vs) := by
  obtain ⟨h1, h2⟩ := h.tm.write hg hp hk e hpid
  exact ⟨⟨h1, hok, h.mc⟩, h2⟩

/-- The process that was found is the one that is there. -/
theorem at_own {L : List Pr} {i j : Nat} {p p' : Pr} (hu : Up L) (hp : L[i]? = some p) (hp' : L[j]? = some p') (e : p'.pid = p.pid) : j = i ∧ p' = p := by
  have := hu.inj hp' hp e
  subst this
  rw [hp] at hp'
  exact ⟨rfl, (Option.some.inj hp').symm⟩

theorem deaf25 (x : Int) (d : Bool) (h : TAt w q L md f c) (hp : L[i]? = some p) (hx : p.pid = x) : Calls Try.prog 25 #[.pointer (some ⟨q.b, 0, none⟩), .int .i64 x, .bool d] w (Did q (L.set i ⟨p.pid, p.par, p.grp, p.ses, p.tty, d⟩) md f c (.int .i64 0) w) := by
  have HF := hide' (find37 x h.tm)
  have HT := hide' h
  have HP := hide' hp
  have HX := hide' hx
  clear h hp hx
  go_enter Try.func25, Try.ntmps25
  go_wp2_with fail
  refine HF.out.mono ?_
  rintro _ w1 ⟨h1 | h1, hs⟩
  · obtain ⟨j, g, p', rfl, hg, hp', hx'⟩ := h1
    obtain ⟨rfl, rfl⟩ := at_own HT.out.ok.up HP.out hp' (by rw [hx', HX.out])
    have HT1 := hide' (HT.out.keep hs)
    have HM := hide' (Moved.of_stay (q := q) hs)
    obtain ⟨hb, fz⟩ := HT1.out.tm.cellsAt hg hp'
    have f5 := fz 5 (by decide)
    obtain ⟨c0, c1, c2, c3, c4, c5⟩ := hb
    have HG := hide' hg
    clear HT HF hs hp' hx' hg fz c0 c1 c2 c3 c4
    go_wp2
    go_ret
    have h2 := HT1.out.write HG.out HP.out (p' := ⟨p'.pid, p'.par, p'.grp, p'.ses, p'.tty, d⟩) (k := 5) (vs := [.bool d]) (by simp) rfl rfl (HT1.out.ok.deaf HP.out d)
    exact ⟨q, rfl, rfl, h2.1, HM.out.trans h2.2⟩
  · exact absurd HX.out (h1.2 p (mem_at HP.out))

theorem deaf25_no (x : Int) (d : Bool) (h : TAt w q L md f c) (hx : ∀ p ∈ L, p.pid ≠ x) : Calls Try.prog 25 #[.pointer (some ⟨q.b, 0, none⟩), .int .i64 x, .bool d] w (Gives (.int .i64 5) w) := by
  have HF := hide' (find37 x h.tm)
  have HX := hide' hx
  clear h hx
  go_enter Try.func25, Try.ntmps25
  go_wp2_with fail
  refine HF.out.mono ?_
  rintro _ w1 ⟨h1 | h1, hs⟩
  · obtain ⟨j, g, p', rfl, hg, hp', hx'⟩ := h1
    exact absurd hx' (HX.out p' (mem_at hp'))
  · obtain ⟨rfl, _⟩ := h1
    have HS := hide' hs
    clear hs HF
    go_wp2
    go_ret
    exact ⟨rfl, HS.out⟩

theorem setsid22_none (x : Int) (h : TAt w q L md f c) (hx : ∀ p ∈ L, p.pid ≠ x) : Calls Try.prog 22 #[.pointer (some ⟨q.b, 0, none⟩), .int .i64 x] w (Gives (.int .i64 5) w) := by
  have HF := hide' (find37 x h.tm)
  have HX := hide' hx
  clear h hx
  go_enter Try.func22, Try.ntmps22
  go_wp2_with fail
  refine HF.out.mono ?_
  rintro _ w1 ⟨h1 | h1, hs⟩
  · obtain ⟨j, g, p', rfl, hg, hp', hx'⟩ := h1
    exact absurd hx' (HX.out p' (mem_at hp'))
  · obtain ⟨rfl, _⟩ := h1
    have HS := hide' hs
    clear hs HF
    go_wp2
    go_ret
    exact ⟨rfl, HS.out⟩

theorem setsid22_perm (x : Int) (h : TAt w q L md f c) (hp : L[i]? = some p) (hx : p.pid = x) (hn : L.any (fun t => t.grp == x) = true) : Calls Try.prog 22 #[.pointer (some ⟨q.b, 0, none⟩), .int .i64 x] w (Gives (.int .i64 8) w) := by
  have HF := hide' (find37 x h.tm)
  have HT := hide' h
  have HN := hide' hn
  have HX := hide' (show L[i]? = some p ∧ p.pid = x from ⟨hp, hx⟩)
  clear h hp hx hn
  go_enter Try.func22, Try.ntmps22
  go_wp2_with fail
  refine HF.out.mono ?_
  rintro _ w1 ⟨h1 | h1, hs⟩
  · obtain ⟨j, g, p', rfl, hg, hp', hx'⟩ := h1
    have HA := hide' (hasAny43 x (HT.out.tm.keep hs))
    rw [HN.out] at HA
    have HS := hide' hs
    clear hs HF HT hg hp' hx' HX
    go_wp2_with fail
    refine HA.out.mono ?_
    rintro _ w2 ⟨rfl, hs⟩
    have HS2 := hide' (HS.out.trans hs)
    clear hs HA HS
    go_wp2
    go_ret
    exact ⟨rfl, HS2.out⟩
  · exact absurd HX.out.2 (h1.2 p (mem_at HX.out.1))

theorem setsid22 (x : Int) (h : TAt w q L md f c) (hp : L[i]? = some p) (hx : p.pid = x) (hn : L.any (fun t => t.grp == x) = false) : Calls Try.prog 22 #[.pointer (some ⟨q.b, 0, none⟩), .int .i64 x] w (Did q (L.set i ⟨p.pid, p.par, p.pid, p.pid, 0, p.df⟩) md f c (.int .i64 0) w) := by
  have HF := hide' (find37 x h.tm)
  have HT := hide' h
  have HN := hide' hn
  have HP := hide' hp
  have HX := hide' hx
  clear h hp hx hn
  go_enter Try.func22, Try.ntmps22
  go_wp2_with fail
  refine HF.out.mono ?_
  rintro _ w1 ⟨h1 | h1, hs⟩
  · obtain ⟨j, g, p', rfl, hg, hp', hx'⟩ := h1
    obtain ⟨rfl, rfl⟩ := at_own HT.out.ok.up HP.out hp' (by rw [hx', HX.out])
    have HA := hide' (hasAny43 x (HT.out.tm.keep hs))
    rw [HN.out] at HA
    have HS := hide' hs
    have HG := hide' hg
    clear hs HF hp' hx' hg
    go_wp2_with fail
    refine HA.out.mono ?_
    rintro _ w2 ⟨rfl, hs⟩
    have hs2 := HS.out.trans hs
    have HT1 := hide' (HT.out.keep hs2)
    have HM := hide' (Moved.of_stay (q := q) hs2)
    obtain ⟨hb, fz⟩ := HT1.out.tm.cellsAt HG.out HP.out
    have f2 := fz 2 (by decide)
    have f3 := fz 3 (by decide)
    have f4 := fz 4 (by decide)
    obtain ⟨c0, c1, c2, c3, c4, c5⟩ := hb
    clear hs HA HS HT fz c0 c1 c5 hs2
    go_wp2
    go_ret
    have h2 := HT1.out.write HG.out HP.out (p' := ⟨p'.pid, p'.par, p'.pid, p'.pid, 0, p'.df⟩) (k := 2) (vs := [.int .i64 p'.pid, .int .i64 p'.pid, .int .i64 0]) (by simp) rfl rfl (HT1.out.ok.setsid HP.out (fun t ht e => by
      have := List.any_eq_false.1 HN.out t ht
      exact this (beq_iff_eq.2 (by rw [e, HX.out]))))
    rw [← HX.out]
    exact ⟨q, rfl, rfl, h2.1, HM.out.trans h2.2⟩
  · exact absurd HX.out (h1.2 p (mem_at HP.out))

end Go.Proofs.Ytefpifnfinkbaaa

namespace Go.Proofs.Ytefpifnfinkbaaa
open Go.RowKit

variable {q : Tq} {L : List Pr} {md : Int} {f : Int → Int} {c : Nat} {w : World} {i g : Nat} {p : Pr}

/-- What stands in front is another one. -/
theorem TM.front (h : TM w q L md f c) {t v : Int} (ht : W64 t) (hv : W64 v) (hc : c ≤ 4096) : ∃ w', (Instr.mapUpdate 62 (.map (some q.m)) (.int .i64 t) (.int .i64 v)).run Try.prog w = .ok () w' ∧ TM w' q L md (upd f t v) (c + 1) ∧ Moved q q w w' := by
  obtain ⟨k, hm⟩ := h.mp
  obtain ⟨w', hrun, hm', hs⟩ := hm.put ht hv hc
  exact ⟨w', hrun, ⟨h.box.stay hs (fun e => h.mb e.symm), h.row.stay hs (fun j hj => (h.vb j hj).2), ⟨_, hm'⟩, h.vb, h.mb, h.rb, h.len, h.up⟩, hs.mono (fun j _ e => .inr (.inr e)), fun j hj => .inl hj⟩

/-- Nothing stands in front. -/
theorem TM.unfront (h : TM w q L md f c) {t : Int} (ht : W64 t) (ty : TypeId) : ∃ w', (Builtin.delete_ #[62, 3] ty #[.map (some q.m), .int .i64 t]).run Try.prog w = .ok (.tuple #[]) w' ∧ TM w' q L md (upd f t 0) c ∧ Moved q q w w' := by
  obtain ⟨k, hm⟩ := h.mp
  obtain ⟨w', hrun, hm', hs⟩ := hm.drop ht ty
  exact ⟨w', hrun, ⟨h.box.stay hs (fun e => h.mb e.symm), h.row.stay hs (fun j hj => (h.vb j hj).2), ⟨_, hm'⟩, h.vb, h.mb, h.rb, h.len, h.up⟩, hs.mono (fun j _ e => .inr (.inr e)), fun j hj => .inl hj⟩

theorem Ok.w64 {L : List Pr} {md : Int} {f : Int → Int} (h : Ok L md f) (hm : md ≤ 4096) (hp : p ∈ L) : W64 p.pid ∧ W64 p.par ∧ W64 p.grp ∧ W64 p.ses ∧ W64 p.tty := by
  have h1 := h.pd p hp
  have h2 := h.rd p hp
  have h3 := h.gd p hp
  have h4 := h.sd p hp
  have h5 := h.td p hp
  unfold W64
  omega

theorem fore32_none (x t y : Int) (h : TAt w q L md f c) (hx : ∀ p ∈ L, p.pid ≠ x) : Calls Try.prog 32 #[.pointer (some ⟨q.b, 0, none⟩), .int .i64 x, .int .i64 t, .int .i64 y] w (Gives (.int .i64 5) w) := by
  have HF := hide' (find37 x h.tm)
  have HX := hide' hx
  clear h hx
  go_enter Try.func32, Try.ntmps32
  go_wp2_with fail
  refine HF.out.mono ?_
  rintro _ w1 ⟨h1 | h1, hs⟩
  · obtain ⟨j, g, p', rfl, hg, hp', hx'⟩ := h1
    exact absurd hx' (HX.out p' (mem_at hp'))
  · obtain ⟨rfl, _⟩ := h1
    have HS := hide' hs
    clear hs HF
    go_wp2
    go_ret
    exact ⟨rfl, HS.out⟩

theorem fore32_tty (x t y : Int) (h : TAt w q L md f c) (hp : L[i]? = some p) (hx : p.pid = x) (hn : onB p t = false) : Calls Try.prog 32 #[.pointer (some ⟨q.b, 0, none⟩), .int .i64 x, .int .i64 t, .int .i64 y] w (Gives (.int .i64 14) w) := by
  have HN := hide' hn
  clear hn
  have HF := hide' (find37 x h.tm)
  have HT := hide' h
  have HP := hide' hp
  have HX := hide' hx
  clear h hp hx
  go_enter Try.func32, Try.ntmps32
  go_wp2_with fail
  refine HF.out.mono ?_
  rintro _ w1 ⟨h1 | h1, hs⟩
  rotate_left
  · exact absurd HX.out (h1.2 p (mem_at HP.out))
  obtain ⟨j, g, p', rfl, hg, hp', hx'⟩ := h1
  obtain ⟨rfl, rfl⟩ := at_own HT.out.ok.up HP.out hp' (by rw [hx', HX.out])
  have HT1 := hide' (HT.out.keep hs)
  have HS := hide' hs
  have HG := hide' hg
  have HB := hide' (HT1.out.tm.cellsAt hg hp')
  have c0 := HB.out.1.c0
  have c1 := HB.out.1.c1
  have c2 := HB.out.1.c2
  have c3 := HB.out.1.c3
  have c4 := HB.out.1.c4
  have c5 := HB.out.1.c5
  clear HF hs hp' hx' hg
  have HO := hide' (on38 g (j * 6) p' t w1 HB.out.1)
  rw [HN.out] at HO
  clear c0 c1 c2 c3 c4 c5
  go_wp2_with fail
  refine HO.out.mono ?_
  rintro _ w2 ⟨rfl, hs⟩
  have HS2 := hide' (HS.out.trans hs)
  clear hs HO HS
  go_wp2
  go_ret
  exact ⟨rfl, HS2.out⟩

theorem fore32_perm (x t y : Int) (h : TAt w q L md f c) (hp : L[i]? = some p) (hx : p.pid = x) (hn : onB p t = true) (hh : L.any (fun k => k.grp == y && k.ses == p.ses) = false) : Calls Try.prog 32 #[.pointer (some ⟨q.b, 0, none⟩), .int .i64 x, .int .i64 t, .int .i64 y] w (Gives (.int .i64 8) w) := by
  have HN := hide' hn
  have HH := hide' hh
  clear hn hh
  have HF := hide' (find37 x h.tm)
  have HT := hide' h
  have HP := hide' hp
  have HX := hide' hx
  clear h hp hx
  go_enter Try.func32, Try.ntmps32
  go_wp2_with fail
  refine HF.out.mono ?_
  rintro _ w1 ⟨h1 | h1, hs⟩
  rotate_left
  · exact absurd HX.out (h1.2 p (mem_at HP.out))
  obtain ⟨j, g, p', rfl, hg, hp', hx'⟩ := h1
  obtain ⟨rfl, rfl⟩ := at_own HT.out.ok.up HP.out hp' (by rw [hx', HX.out])
  have HT1 := hide' (HT.out.keep hs)
  have HS := hide' hs
  have HG := hide' hg
  have HB := hide' (HT1.out.tm.cellsAt hg hp')
  have c0 := HB.out.1.c0
  have c1 := HB.out.1.c1
  have c2 := HB.out.1.c2
  have c3 := HB.out.1.c3
  have c4 := HB.out.1.c4
  have c5 := HB.out.1.c5
  clear HF hs hp' hx' hg
  have HO := hide' (on38 g (j * 6) p' t w1 HB.out.1)
  rw [HN.out] at HO
  clear c0 c1 c2 c3 c4 c5
  go_wp2_with fail
  refine HO.out.mono ?_
  rintro _ w2 ⟨rfl, hs⟩
  have HS2 := hide' (HS.out.trans hs)
  have HA := hide' (has48 y p'.ses (HT1.out.tm.keep hs))
  rw [HH.out] at HA
  have c3 := (HB.out.1.keep hs).c3
  clear hs HO HS
  go_wp2_with fail
  refine HA.out.mono ?_
  rintro _ w3 ⟨rfl, hs⟩
  have HS3 := hide' (HS2.out.trans hs)
  clear hs HA HS2 c3
  go_wp2
  go_ret
  exact ⟨rfl, HS3.out⟩

theorem fore32 (x t y : Int) (h : TAt w q L md f c) (hp : L[i]? = some p) (hx : p.pid = x) (hn : onB p t = true) (hh : L.any (fun k => k.grp == y && k.ses == p.ses) = true) (hc : c ≤ 4096) : Calls Try.prog 32 #[.pointer (some ⟨q.b, 0, none⟩), .int .i64 x, .int .i64 t, .int .i64 y] w (Did q L md (upd f t y) (c + 1) (.int .i64 0) w) := by
  have HN := hide' hn
  have HH := hide' hh
  have hwt : p.tty = t ∧ t ≠ 0 ∧ ∃ m ∈ L, m.grp = y := by
    unfold onB at hn
    rw [Bool.and_eq_true] at hn
    obtain ⟨m, hm, hm2⟩ := List.any_eq_true.1 hh
    rw [Bool.and_eq_true] at hm2
    exact ⟨beq_iff_eq.1 hn.2, by simpa using hn.1, m, hm, beq_iff_eq.1 hm2.1⟩
  have hok : Ok L md (upd f t y) := by
    obtain ⟨rfl, e2, m, hm, rfl⟩ := hwt
    exact h.ok.fore (mem_at hp) hm e2
  have hw2 : W64 t ∧ W64 y := by
    obtain ⟨rfl, e2, m, hm, rfl⟩ := hwt
    have hmd : md ≤ 4096 := by have := h.mc; omega
    exact ⟨(h.ok.w64 hmd (mem_at hp)).2.2.2.2, (h.ok.w64 hmd hm).2.2.1⟩
  have HOK := hide' hok
  have HW := hide' hw2
  have HCC := hide' hc
  clear hn hh hwt hok hw2 hc
  have HF := hide' (find37 x h.tm)
  have HT := hide' h
  have HP := hide' hp
  have HX := hide' hx
  clear h hp hx
  go_enter Try.func32, Try.ntmps32
  go_wp2_with fail
  refine HF.out.mono ?_
  rintro _ w1 ⟨h1 | h1, hs⟩
  rotate_left
  · exact absurd HX.out (h1.2 p (mem_at HP.out))
  obtain ⟨j, g, p', rfl, hg, hp', hx'⟩ := h1
  obtain ⟨rfl, rfl⟩ := at_own HT.out.ok.up HP.out hp' (by rw [hx', HX.out])
  have HT1 := hide' (HT.out.keep hs)
  have HS := hide' hs
  have HG := hide' hg
  have HB := hide' (HT1.out.tm.cellsAt hg hp')
  have c0 := HB.out.1.c0
  have c1 := HB.out.1.c1
  have c2 := HB.out.1.c2
  have c3 := HB.out.1.c3
  have c4 := HB.out.1.c4
  have c5 := HB.out.1.c5
  clear HF hs hp' hx' hg
  have HO := hide' (on38 g (j * 6) p' t w1 HB.out.1)
  rw [HN.out] at HO
  clear c0 c1 c2 c3 c4 c5
  go_wp2_with fail
  refine HO.out.mono ?_
  rintro _ w2 ⟨rfl, hs⟩
  have HS2 := hide' (HS.out.trans hs)
  have HA := hide' (has48 y p'.ses (HT1.out.tm.keep hs))
  rw [HH.out] at HA
  have c3 := (HB.out.1.keep hs).c3
  clear hs HO HS
  go_wp2_with fail
  refine HA.out.mono ?_
  rintro _ w3 ⟨rfl, hs⟩
  have hs3 := HS2.out.trans hs
  have hT3 := HT.out.keep hs3
  have HM := hide' (Moved.of_stay (q := q) hs3)
  obtain ⟨w4, hrun, hT4, hm4⟩ := hT3.tm.front HW.out.1 HW.out.2 HCC.out
  have c2 := hT3.tm.box.c2
  simp only at c2
  have HT4 : Hid (TAt w4 q L md (upd f t y) (c + 1)) := ⟨hT4, HOK.out, by have := HT1.out.mc; omega⟩
  have HM4 := hide' (HM.out.trans hm4)
  clear hs HA HS2 c3 hT3 hT4 hs3 hm4 HT HT1 HB HM
  go_wp2
  go_ret
  exact ⟨q, rfl, rfl, HT4.out, HM4.out⟩

/-- What is told of one process. -/
theorem get13_none (x : Int) (h : TAt w q L md f c) (hx : ∀ p ∈ L, p.pid ≠ x) : Calls Try.prog 13 #[.pointer (some ⟨q.b, 0, none⟩), .int .i64 x] w (Gives (.tuple #[.agg #[.int .i64 0, .int .i64 0, .int .i64 0, .int .i64 0, .int .i64 0, .bool false], .bool false]) w) := by
  obtain ⟨W0, hW0⟩ : ∃ W, W = w.alloc (.cells #[.int .i64 0, .int .i64 0, .int .i64 0, .int .i64 0, .int .i64 0, .bool false] 40) := ⟨_, rfl⟩
  obtain ⟨bt, hbt⟩ : ∃ b, b = w.heap.size := ⟨_, rfl⟩
  have hs0 : Stay (fun _ => False) w W0 := by rw [hW0]; exact (Stay.refl _ _).alloc _
  have hb : PBox W0 bt ⟨0, 0, 0, 0, 0, false⟩ := by rw [hW0]; exact PBox.new ⟨0, 0, 0, 0, 0, false⟩ hbt.symm
  have HF := hide' (find37 x (h.tm.keep hs0))
  have HX := hide' hx
  have HB := hide' hb
  have HS0 := hide' hs0
  have HBT : Hid (w.heap.size ≤ bt) := Nat.le_of_eq hbt.symm
  clear h hx hs0 hb
  go_enter Try.func13, Try.ntmps13
  go_upto_region 1 with fail
  rw [← hW0, ← hbt]
  clear hW0 hbt
  go_wp2_with fail
  refine HF.out.mono ?_
  rintro _ w1 ⟨h1 | h1, hs⟩
  · obtain ⟨j, g, p', rfl, hg, hp', hx'⟩ := h1
    exact absurd hx' (HX.out p' (mem_at hp'))
  · obtain ⟨rfl, _⟩ := h1
    have HB1 := hide' (HB.out.keep hs)
    have HS := hide' (HS0.out.trans hs)
    have f0 := HB1.out.f0
    have f1 := HB1.out.f1
    have f2 := HB1.out.f2
    have f3 := HB1.out.f3
    have f4 := HB1.out.f4
    have f5 := HB1.out.f5
    have c0 := HB1.out.c0
    have c1 := HB1.out.c1
    have c2 := HB1.out.c2
    have c3 := HB1.out.c3
    have c4 := HB1.out.c4
    have c5 := HB1.out.c5
    clear hs HF HS0 HB
    go_wp2
    exact bodyPost_ret (results_p_bool rfl _ _ bt ⟨0, 0, 0, 0, 0, false⟩ false rfl rfl (HB1.out.put ⟨0, 0, 0, 0, 0, false⟩)) rfl ⟨rfl, PBox.stay_put HS.out HBT.out _ _ _ _ _ _⟩

theorem get13 (x : Int) (h : TAt w q L md f c) (hp : L[i]? = some p) (hx : p.pid = x) : Calls Try.prog 13 #[.pointer (some ⟨q.b, 0, none⟩), .int .i64 x] w (Gives (.tuple #[.agg #[.int .i64 p.pid, .int .i64 p.par, .int .i64 p.grp, .int .i64 p.ses, .int .i64 p.tty, .bool p.df], .bool true]) w) := by
  obtain ⟨W0, hW0⟩ : ∃ W, W = w.alloc (.cells #[.int .i64 0, .int .i64 0, .int .i64 0, .int .i64 0, .int .i64 0, .bool false] 40) := ⟨_, rfl⟩
  obtain ⟨bt, hbt⟩ : ∃ b, b = w.heap.size := ⟨_, rfl⟩
  have hs0 : Stay (fun _ => False) w W0 := by rw [hW0]; exact (Stay.refl _ _).alloc _
  have hb : PBox W0 bt ⟨0, 0, 0, 0, 0, false⟩ := by rw [hW0]; exact PBox.new ⟨0, 0, 0, 0, 0, false⟩ hbt.symm
  have HT := hide' (h.keep hs0)
  have HF := hide' (find37 x HT.out.tm)
  have HX := hide' hx
  have HP := hide' hp
  have HB := hide' hb
  have HS0 := hide' hs0
  have HBT : Hid (w.heap.size ≤ bt) := Nat.le_of_eq hbt.symm
  clear h hx hs0 hb hp
  go_enter Try.func13, Try.ntmps13
  go_upto_region 1 with fail
  rw [← hW0, ← hbt]
  clear hW0 hbt
  go_wp2_with fail
  refine HF.out.mono ?_
  rintro _ w1 ⟨h1 | h1, hs⟩
  · obtain ⟨j, g, p', rfl, hg, hp', hx'⟩ := h1
    obtain ⟨rfl, rfl⟩ := at_own HT.out.ok.up HP.out hp' (by rw [hx', HX.out])
    have HB1 := hide' (HB.out.keep hs)
    have HS := hide' (HS0.out.trans hs)
    obtain ⟨d0, d1, d2, d3, d4, d5⟩ := ((HT.out.keep hs).tm.cellsAt hg hp').1
    have f0 := HB1.out.f0
    have f1 := HB1.out.f1
    have f2 := HB1.out.f2
    have f3 := HB1.out.f3
    have f4 := HB1.out.f4
    have f5 := HB1.out.f5
    have c0 := HB1.out.c0
    have c1 := HB1.out.c1
    have c2 := HB1.out.c2
    have c3 := HB1.out.c3
    have c4 := HB1.out.c4
    have c5 := HB1.out.c5
    clear hs HF HS0 HB hg hp' hx'
    go_wp2
    exact bodyPost_ret (results_p_bool rfl _ _ bt p' true rfl rfl (HB1.out.put p')) rfl ⟨rfl, PBox.stay_put HS.out HBT.out _ _ _ _ _ _⟩
  · exact absurd HX.out (h1.2 p (mem_at HP.out))

end Go.Proofs.Ytefpifnfinkbaaa

namespace Go.Proofs.Ytefpifnfinkbaaa
open Go.RowKit

variable {q : Tq} {L : List Pr} {md : Int} {f : Int → Int} {c : Nat} {w : World} {i g : Nat} {p : Pr}

/-- Where a table's processes are. -/
theorem TM.shape (h : TM w q L md f c) : ∃ g cap, q.v = .slice (some ⟨g, 0, none⟩) L.length cap := by
  obtain ⟨a, cap, hv, hw, _⟩ := h.row
  obtain ⟨g, hg⟩ := h.rb
  rcases hw.2.2.2 with ⟨rfl, _⟩ | ⟨g', rfl, _⟩
  · rw [hv] at hg; cases hg
  · exact ⟨g', cap, hv⟩

/-- What one process is made. -/
def Sets (q : Tq) (L : List Pr) (md : Int) (f : Int → Int) (c i : Nat) (p' : Pr) (w : World) (e : Ending) (w' : World) : Prop := e = .returned (.tuple #[]) ∧ TM w' q (L.set i p') md f c ∧ Stay (fun j => q.v.ownBlock = some j) w w'

theorem set_same {L : List Pr} (hp : L[i]? = some p) : L.set i p = L := by
  apply List.ext_getElem?
  intro k
  rw [List.getElem?_set]
  split
  · rename_i e
    subst e
    have hi := (List.getElem?_eq_some_iff.1 hp).1
    rw [if_pos hi, hp]
  · rfl

/-- The first ones are done with. -/
def mapT (F : Pr → Pr) (k : Nat) (L : List Pr) : List Pr := (L.take k).map F ++ L.drop k

theorem mapT_zero (F : Pr → Pr) (L : List Pr) : mapT F 0 L = L := by simp [mapT]

theorem mapT_all (F : Pr → Pr) {L : List Pr} {k : Nat} (h : L.length ≤ k) : mapT F k L = L.map F := by
  unfold mapT
  rw [List.take_of_length_le h, List.drop_of_length_le h, List.append_nil]

theorem mapT_length (F : Pr → Pr) (L : List Pr) (k : Nat) : (mapT F k L).length = L.length := by
  unfold mapT
  rw [List.length_append, List.length_map, List.length_take, List.length_drop]
  omega

theorem mapT_get (F : Pr → Pr) {L : List Pr} {k : Nat} (hp : L[k]? = some p) : (mapT F k L)[k]? = some p := by
  have hk : k < L.length := (List.getElem?_eq_some_iff.1 hp).1
  unfold mapT
  rw [List.getElem?_append_right (by rw [List.length_map, List.length_take]; omega), List.length_map, List.length_take, Nat.min_eq_left (by omega), Nat.sub_self, List.getElem?_drop, Nat.add_zero, hp]

theorem mapT_set (F : Pr → Pr) {L : List Pr} {k : Nat} (hp : L[k]? = some p) : (mapT F k L).set k (F p) = mapT F (k + 1) L := by
  have hk : k < L.length := (List.getElem?_eq_some_iff.1 hp).1
  have hl : ((L.take k).map F).length = k := by rw [List.length_map, List.length_take]; omega
  unfold mapT
  rw [List.set_append_right _ _ (by omega), hl, Nat.sub_self, List.drop_eq_getElem_cons hk, List.set_cons_zero, List.take_add_one, hp, List.map_append, List.append_assoc]
  rfl

theorem sets46 (bx bz : Nat) (x y : Int) (h : TM w q L md f c) (hg : q.v.ownBlock = some g) (hp : L[i]? = some p) (k0 : w.cell? ⟨bx, 0, none⟩ = some (.int .i64 x)) (k1 : w.cell? ⟨bz, 0, none⟩ = some (.int .i64 y)) : Calls Try.prog 46 #[.pointer (some ⟨g, i * 6, none⟩), .pointer (some ⟨bx, 0, none⟩), .pointer (some ⟨bz, 0, none⟩)] w (Sets q L md f c i (giveS x y p) w) := by
  obtain ⟨hb, fz⟩ := h.cellsAt hg hp
  have f4 := fz 4 (by decide)
  obtain ⟨c0, c1, c2, c3, c4, c5⟩ := hb
  have HT := hide' h
  have HG := hide' hg
  have HP := hide' hp
  have HS := hide' (Stay.refl (fun _ => False) w)
  clear h hg hp fz c0 c1 c2 c5
  by_cases he : p.ses = x
  · have d0 : (p.ses == x) = true := beq_iff_eq.2 he
    rw [giveS_yes he]
    have HE := hide' he
    clear he
    go_enter Try.func46, Try.ntmps46
    go_wp2_with fail
    go_quiet (fail)
    go_wp2
    go_returns
    refine ⟨rfl, ((HT.out.keep ((Stay.refl (fun _ => False) w).drewN _)).write HG.out HP.out (p' := ⟨p.pid, p.par, p.grp, p.ses, y, p.df⟩) (k := 4) (vs := [.int .i64 y]) (by simp) rfl rfl).1, ?_⟩
    exact (((Stay.refl (fun _ => False) w).drewN _).mono (fun _ _ h => h.elim)).setCell (p := ⟨g, i * 6 + 4, none⟩) HG.out _
  · have d0 : (p.ses == x) = false := beq_eq_false_iff_ne.2 he
    rw [giveS_no he]
    clear he
    go_enter Try.func46, Try.ntmps46
    go_wp2_with fail
    go_quiet (fail)
    go_wp2
    go_returns
    exact ⟨rfl, by rw [set_same HP.out]; exact HT.out.keep (HS.out.drewN _), (HS.out.drewN _).mono (fun _ _ h => h.elim)⟩

/-- Who had one parent has another one. -/
def parS (x y : Int) (q : Pr) : Pr := if q.par = x then ⟨q.pid, y, q.grp, q.ses, q.tty, q.df⟩ else q

theorem parS_yes {x y : Int} {q : Pr} (h : q.par = x) : parS x y q = ⟨q.pid, y, q.grp, q.ses, q.tty, q.df⟩ := if_pos h

theorem parS_no {x y : Int} {q : Pr} (h : ¬ q.par = x) : parS x y q = q := if_neg h

theorem parS_adopt (x : Int) : parS x (if x = 1 then 0 else 1) = adopt x := rfl

theorem sets66 (bx bz : Nat) (x y : Int) (h : TM w q L md f c) (hg : q.v.ownBlock = some g) (hp : L[i]? = some p) (k0 : w.cell? ⟨bx, 0, none⟩ = some (.int .i64 x)) (k1 : w.cell? ⟨bz, 0, none⟩ = some (.int .i64 y)) : Calls Try.prog 66 #[.pointer (some ⟨g, i * 6, none⟩), .pointer (some ⟨bx, 0, none⟩), .pointer (some ⟨bz, 0, none⟩)] w (Sets q L md f c i (parS x y p) w) := by
  obtain ⟨hb, fz⟩ := h.cellsAt hg hp
  have f1 := fz 1 (by decide)
  obtain ⟨c0, c1, c2, c3, c4, c5⟩ := hb
  have HT := hide' h
  have HG := hide' hg
  have HP := hide' hp
  have HS := hide' (Stay.refl (fun _ => False) w)
  clear h hg hp fz c0 c2 c3 c4 c5
  by_cases he : p.par = x
  · have d0 : (p.par == x) = true := beq_iff_eq.2 he
    rw [parS_yes he]
    have HE := hide' he
    clear he
    go_enter Try.func66, Try.ntmps66
    go_wp2_with fail
    go_quiet (fail)
    go_wp2
    go_returns
    refine ⟨rfl, ((HT.out.keep ((Stay.refl (fun _ => False) w).drewN _)).write HG.out HP.out (p' := ⟨p.pid, y, p.grp, p.ses, p.tty, p.df⟩) (k := 1) (vs := [.int .i64 y]) (by simp) rfl rfl).1, ?_⟩
    exact (((Stay.refl (fun _ => False) w).drewN _).mono (fun _ _ h => h.elim)).setCell (p := ⟨g, i * 6 + 1, none⟩) HG.out _
  · have d0 : (p.par == x) = false := beq_eq_false_iff_ne.2 he
    rw [parS_no he]
    clear he
    go_enter Try.func66, Try.ntmps66
    go_wp2_with fail
    go_quiet (fail)
    go_wp2
    go_returns
    exact ⟨rfl, by rw [set_same HP.out]; exact HT.out.keep (HS.out.drewN _), (HS.out.drewN _).mono (fun _ _ h => h.elim)⟩

theorem sets67 (bx : Nat) (x : Int) (h : TM w q L md f c) (hg : q.v.ownBlock = some g) (hp : L[i]? = some p) (k0 : w.cell? ⟨bx, 0, none⟩ = some (.int .i64 x)) : Calls Try.prog 67 #[.pointer (some ⟨g, i * 6, none⟩), .pointer (some ⟨bx, 0, none⟩)] w (Sets q L md f c i (freeT x p) w) := by
  obtain ⟨hb, fz⟩ := h.cellsAt hg hp
  have f4 := fz 4 (by decide)
  obtain ⟨c0, c1, c2, c3, c4, c5⟩ := hb
  have HT := hide' h
  have HG := hide' hg
  have HP := hide' hp
  have HS := hide' (Stay.refl (fun _ => False) w)
  clear h hg hp fz c0 c1 c2 c3 c5
  by_cases he : p.tty = x
  · have d0 : (p.tty == x) = true := beq_iff_eq.2 he
    rw [freeT_yes he]
    have HE := hide' he
    clear he
    go_enter Try.func67, Try.ntmps67
    go_wp2_with fail
    go_quiet (fail)
    go_wp2
    go_returns
    refine ⟨rfl, ((HT.out.keep ((Stay.refl (fun _ => False) w).drewN _)).write HG.out HP.out (p' := ⟨p.pid, p.par, p.grp, p.ses, 0, p.df⟩) (k := 4) (vs := [.int .i64 0]) (by simp) rfl rfl).1, ?_⟩
    exact (((Stay.refl (fun _ => False) w).drewN _).mono (fun _ _ h => h.elim)).setCell (p := ⟨g, i * 6 + 4, none⟩) HG.out _
  · have d0 : (p.tty == x) = false := beq_eq_false_iff_ne.2 he
    rw [freeT_no he]
    clear he
    go_enter Try.func67, Try.ntmps67
    go_wp2_with fail
    go_quiet (fail)
    go_wp2
    go_returns
    exact ⟨rfl, by rw [set_same HP.out]; exact HT.out.keep (HS.out.drewN _), (HS.out.drewN _).mono (fun _ _ h => h.elim)⟩

theorem each45_46 (F : Pr → Pr) (bx bz : Nat) (h : TM w q L md f c)
    (hcl : ∀ w' L' i p g, TM w' q L' md f c → Stay (fun j => q.v.ownBlock = some j) w w' → q.v.ownBlock = some g → L'[i]? = some p → Calls Try.prog 46 #[.pointer (some ⟨g, i * 6, none⟩), .pointer (some ⟨bx, 0, none⟩), .pointer (some ⟨bz, 0, none⟩)] w' (Sets q L' md f c i (F p) w')) :
    Calls Try.prog 45 #[.pointer (some ⟨q.b, 0, none⟩), .func (.func 46) #[] #[.pointer (some ⟨bx, 0, none⟩), .pointer (some ⟨bz, 0, none⟩)]] w (fun e w' => e = .returned (.tuple #[]) ∧ TM w' q (L.map F) md f c ∧ Stay (fun j => q.v.ownBlock = some j) w w') := by
  obtain ⟨g, cap, hv⟩ := h.shape
  have HG : Hid (q.v.ownBlock = some g) := by rw [hv]; exact rfl
  have c0 := h.box.c0
  simp only at c0
  rw [hv] at c0
  have HV := hide' hv
  obtain ⟨n, hn⟩ : ∃ n, n = L.length := ⟨_, rfl⟩
  rw [← hn] at c0 HV
  have HN := hide' hn
  have hn1 : (n : Int) ≤ 256 := by have := h.len; omega
  have HL0 : Hid (TM w q (mapT F 0 L) md f c ∧ Stay (fun j => q.v.ownBlock = some j) w w) := by rw [mapT_zero]; exact ⟨h, Stay.refl _ _⟩
  have HCL := hide' hcl
  clear h hcl hv hn
  go_enter Try.func45, Try.ntmps45
  go_wp2
  clear c0
  go_loopg [10] n (fun gg v10 wr => ∃ k : Nat, k ≤ n ∧ gg = n - k ∧ v10 = .int .i64 (k : Int) ∧ Hid (TM wr q (mapT F k L) md f c ∧ Stay (fun j => q.v.ownBlock = some j) w wr))
  case atStart => exact ⟨0, Nat.zero_le _, rfl, rfl, HL0⟩
  case round =>
    clear HL0
    obtain ⟨k, hk, rfl, rfl, HL⟩ := hrel
    by_cases hlt : k < n
    · have kn : (k : Int) < (n : Nat) := by omega
      obtain ⟨t, ht⟩ : ∃ t, L[k]? = some t := ⟨_, List.getElem?_eq_getElem (by rw [← HN.out]; exact hlt)⟩
      have c0 := HL.out.1.box.c0
      simp only at c0
      rw [HV.out] at c0
      have HC := hide' (HCL.out wr (mapT F k L) k t g HL.out.1 HL.out.2 HG.out (mapT_get F ht))
      have HT := hide' ht
      clear ht
      go_wp2_with fail
      refine HC.out.mono ?_
      rintro _ w1 ⟨rfl, hT1, hs1⟩
      rw [mapT_set F HT.out] at hT1
      have HN1 : Hid (TM w1 q (mapT F (k + 1) L) md f c ∧ Stay (fun j => q.v.ownBlock = some j) w w1) := ⟨hT1, HL.out.2.trans hs1⟩
      clear hT1 hs1 HL c0 HC
      go_wp2
      go_roundg (n - (k + 1))
      case measure => omega
      case rel => exact ⟨k + 1, by omega, rfl, by go_num, HN1⟩
    · have e : k = n := by omega
      subst e
      have HE : Hid (TM wr q (L.map F) md f c ∧ Stay (fun j => q.v.ownBlock = some j) w wr) := by
        have := HL.out
        rw [mapT_all F (by rw [← HN.out]; exact Nat.le_refl _)] at this
        exact this
      clear HL
      go_wp2
      go_returns
      exact ⟨rfl, HE.out⟩

theorem each45_66 (F : Pr → Pr) (bx bz : Nat) (h : TM w q L md f c)
    (hcl : ∀ w' L' i p g, TM w' q L' md f c → Stay (fun j => q.v.ownBlock = some j) w w' → q.v.ownBlock = some g → L'[i]? = some p → Calls Try.prog 66 #[.pointer (some ⟨g, i * 6, none⟩), .pointer (some ⟨bx, 0, none⟩), .pointer (some ⟨bz, 0, none⟩)] w' (Sets q L' md f c i (F p) w')) :
    Calls Try.prog 45 #[.pointer (some ⟨q.b, 0, none⟩), .func (.func 66) #[] #[.pointer (some ⟨bx, 0, none⟩), .pointer (some ⟨bz, 0, none⟩)]] w (fun e w' => e = .returned (.tuple #[]) ∧ TM w' q (L.map F) md f c ∧ Stay (fun j => q.v.ownBlock = some j) w w') := by
  obtain ⟨g, cap, hv⟩ := h.shape
  have HG : Hid (q.v.ownBlock = some g) := by rw [hv]; exact rfl
  have c0 := h.box.c0
  simp only at c0
  rw [hv] at c0
  have HV := hide' hv
  obtain ⟨n, hn⟩ : ∃ n, n = L.length := ⟨_, rfl⟩
  rw [← hn] at c0 HV
  have HN := hide' hn
  have hn1 : (n : Int) ≤ 256 := by have := h.len; omega
  have HL0 : Hid (TM w q (mapT F 0 L) md f c ∧ Stay (fun j => q.v.ownBlock = some j) w w) := by rw [mapT_zero]; exact ⟨h, Stay.refl _ _⟩
  have HCL := hide' hcl
  clear h hcl hv hn
  go_enter Try.func45, Try.ntmps45
  go_wp2
  clear c0
  go_loopg [10] n (fun gg v10 wr => ∃ k : Nat, k ≤ n ∧ gg = n - k ∧ v10 = .int .i64 (k : Int) ∧ Hid (TM wr q (mapT F k L) md f c ∧ Stay (fun j => q.v.ownBlock = some j) w wr))
  case atStart => exact ⟨0, Nat.zero_le _, rfl, rfl, HL0⟩
  case round =>
    clear HL0
    obtain ⟨k, hk, rfl, rfl, HL⟩ := hrel
    by_cases hlt : k < n
    · have kn : (k : Int) < (n : Nat) := by omega
      obtain ⟨t, ht⟩ : ∃ t, L[k]? = some t := ⟨_, List.getElem?_eq_getElem (by rw [← HN.out]; exact hlt)⟩
      have c0 := HL.out.1.box.c0
      simp only at c0
      rw [HV.out] at c0
      have HC := hide' (HCL.out wr (mapT F k L) k t g HL.out.1 HL.out.2 HG.out (mapT_get F ht))
      have HT := hide' ht
      clear ht
      go_wp2_with fail
      refine HC.out.mono ?_
      rintro _ w1 ⟨rfl, hT1, hs1⟩
      rw [mapT_set F HT.out] at hT1
      have HN1 : Hid (TM w1 q (mapT F (k + 1) L) md f c ∧ Stay (fun j => q.v.ownBlock = some j) w w1) := ⟨hT1, HL.out.2.trans hs1⟩
      clear hT1 hs1 HL c0 HC
      go_wp2
      go_roundg (n - (k + 1))
      case measure => omega
      case rel => exact ⟨k + 1, by omega, rfl, by go_num, HN1⟩
    · have e : k = n := by omega
      subst e
      have HE : Hid (TM wr q (L.map F) md f c ∧ Stay (fun j => q.v.ownBlock = some j) w wr) := by
        have := HL.out
        rw [mapT_all F (by rw [← HN.out]; exact Nat.le_refl _)] at this
        exact this
      clear HL
      go_wp2
      go_returns
      exact ⟨rfl, HE.out⟩

theorem each45_67 (F : Pr → Pr) (bx : Nat) (h : TM w q L md f c)
    (hcl : ∀ w' L' i p g, TM w' q L' md f c → Stay (fun j => q.v.ownBlock = some j) w w' → q.v.ownBlock = some g → L'[i]? = some p → Calls Try.prog 67 #[.pointer (some ⟨g, i * 6, none⟩), .pointer (some ⟨bx, 0, none⟩)] w' (Sets q L' md f c i (F p) w')) :
    Calls Try.prog 45 #[.pointer (some ⟨q.b, 0, none⟩), .func (.func 67) #[] #[.pointer (some ⟨bx, 0, none⟩)]] w (fun e w' => e = .returned (.tuple #[]) ∧ TM w' q (L.map F) md f c ∧ Stay (fun j => q.v.ownBlock = some j) w w') := by
  obtain ⟨g, cap, hv⟩ := h.shape
  have HG : Hid (q.v.ownBlock = some g) := by rw [hv]; exact rfl
  have c0 := h.box.c0
  simp only at c0
  rw [hv] at c0
  have HV := hide' hv
  obtain ⟨n, hn⟩ : ∃ n, n = L.length := ⟨_, rfl⟩
  rw [← hn] at c0 HV
  have HN := hide' hn
  have hn1 : (n : Int) ≤ 256 := by have := h.len; omega
  have HL0 : Hid (TM w q (mapT F 0 L) md f c ∧ Stay (fun j => q.v.ownBlock = some j) w w) := by rw [mapT_zero]; exact ⟨h, Stay.refl _ _⟩
  have HCL := hide' hcl
  clear h hcl hv hn
  go_enter Try.func45, Try.ntmps45
  go_wp2
  clear c0
  go_loopg [10] n (fun gg v10 wr => ∃ k : Nat, k ≤ n ∧ gg = n - k ∧ v10 = .int .i64 (k : Int) ∧ Hid (TM wr q (mapT F k L) md f c ∧ Stay (fun j => q.v.ownBlock = some j) w wr))
  case atStart => exact ⟨0, Nat.zero_le _, rfl, rfl, HL0⟩
  case round =>
    clear HL0
    obtain ⟨k, hk, rfl, rfl, HL⟩ := hrel
    by_cases hlt : k < n
    · have kn : (k : Int) < (n : Nat) := by omega
      obtain ⟨t, ht⟩ : ∃ t, L[k]? = some t := ⟨_, List.getElem?_eq_getElem (by rw [← HN.out]; exact hlt)⟩
      have c0 := HL.out.1.box.c0
      simp only at c0
      rw [HV.out] at c0
      have HC := hide' (HCL.out wr (mapT F k L) k t g HL.out.1 HL.out.2 HG.out (mapT_get F ht))
      have HT := hide' ht
      clear ht
      go_wp2_with fail
      refine HC.out.mono ?_
      rintro _ w1 ⟨rfl, hT1, hs1⟩
      rw [mapT_set F HT.out] at hT1
      have HN1 : Hid (TM w1 q (mapT F (k + 1) L) md f c ∧ Stay (fun j => q.v.ownBlock = some j) w w1) := ⟨hT1, HL.out.2.trans hs1⟩
      clear hT1 hs1 HL c0 HC
      go_wp2
      go_roundg (n - (k + 1))
      case measure => omega
      case rel => exact ⟨k + 1, by omega, rfl, by go_num, HN1⟩
    · have e : k = n := by omega
      subst e
      have HE : Hid (TM wr q (L.map F) md f c ∧ Stay (fun j => q.v.ownBlock = some j) w wr) := by
        have := HL.out
        rw [mapT_all F (by rw [← HN.out]; exact Nat.le_refl _)] at this
        exact this
      clear HL
      go_wp2
      go_returns
      exact ⟨rfl, HE.out⟩

end Go.Proofs.Ytefpifnfinkbaaa

namespace Go.Proofs.Ytefpifnfinkbaaa
open Go.RowKit

variable {q : Tq} {L : List Pr} {md : Int} {f : Int → Int} {c : Nat} {w : World} {i g : Nat} {p : Pr}

/-- The processes are others. -/
def Maps' (q : Tq) (L : List Pr) (md : Int) (f : Int → Int) (c : Nat) (w : World) (e : Ending) (w' : World) : Prop := e = .returned (.tuple #[]) ∧ TM w' q L md f c ∧ Moved q q w w'

theorem Moved.row {w w' : World} (h : Stay (fun j => q.v.ownBlock = some j) w w') : Moved q q w w' := ⟨h.mono (fun _j _ e => .inr (.inl e)), fun _ h => .inl h⟩

theorem row_lt (h : TM w q L md f c) {j : Nat} (hj : q.v.ownBlock = some j) : j < w.heap.size := h.lt j (.inr (.inl hj))

theorem adopt51 (x : Int) (h : TM w q L md f c) : Calls Try.prog 51 #[.pointer (some ⟨q.b, 0, none⟩), .int .i64 x] w (Maps' q (L.map (adopt x)) md f c w) := by
  obtain ⟨bx, hbx⟩ : ∃ b, b = w.heap.size := ⟨_, rfl⟩
  obtain ⟨y, hy⟩ : ∃ y : Int, y = if x = 1 then 0 else 1 := ⟨_, rfl⟩
  have hC : ∀ W, Stay (fun _ => False) w W → W.cell? ⟨w.heap.size, 0, none⟩ = some (.int .i64 x) → W.cell? ⟨w.heap.size + 1, 0, none⟩ = some (.int .i64 y) → Calls Try.prog 45 #[.pointer (some ⟨q.b, 0, none⟩), .func (.func 66) #[] #[.pointer (some ⟨w.heap.size, 0, none⟩), .pointer (some ⟨w.heap.size + 1, 0, none⟩)]] W (Maps' q (L.map (adopt x)) md f c w) := fun W hs k0 k1 => by
    have hl := h.len
    refine (each45_66 (adopt x) w.heap.size (w.heap.size + 1) (h.keep hs) (fun w' L' i p g hT hS hg hp => ?_)).mono (fun e w' hq => ⟨hq.1, hq.2.1, (Moved.of_stay hs).trans (Moved.row hq.2.2)⟩)
    have hn : ∀ j, q.v.ownBlock = some j → ¬ j = w.heap.size ∧ ¬ j = w.heap.size + 1 := fun j hj => by have := row_lt h hj; omega
    have l0 := World.block_lt_of_cell? _ _ k0
    have l1 := World.block_lt_of_cell? _ _ k1
    have := sets66 (w.heap.size) (w.heap.size + 1) x y hT hg hp ((hS.cell (p := ⟨w.heap.size, 0, none⟩) l0 (fun e => (hn _ e).1 rfl)).trans k0) ((hS.cell (p := ⟨w.heap.size + 1, 0, none⟩) l1 (fun e => (hn _ e).2 rfl)).trans k1)
    rw [show parS x y = adopt x by rw [hy]; exact parS_adopt x] at this
    exact this
  have HC := hide' hC
  clear h hC hbx
  by_cases hx : x = 1
  · have d0 : (x == 1) = true := beq_iff_eq.2 hx
    rw [if_pos hx] at hy
    subst hy
    clear hx
    go_enter Try.func51, Try.ntmps51
    go_wp2_with fail
    refine (HC.out _ ?_ ?_ ?_).mono ?_
    · first | exact ((Stay.refl _ _).alloc _).alloc _ | exact (((Stay.refl _ _).alloc _).alloc _).setNew (by simp) _
    · simp
    · simp
    rintro _ w1 ⟨rfl, hr⟩
    have HR := hide' hr
    clear hr HC
    go_wp2
    go_returns
    exact ⟨rfl, HR.out⟩
  · have d0 : (x == 1) = false := beq_eq_false_iff_ne.2 hx
    rw [if_neg hx] at hy
    subst hy
    clear hx
    go_enter Try.func51, Try.ntmps51
    go_wp2_with fail
    refine (HC.out _ ?_ ?_ ?_).mono ?_
    · first | exact ((Stay.refl _ _).alloc _).alloc _ | exact (((Stay.refl _ _).alloc _).alloc _).setNew (by simp) _
    · simp
    · simp
    rintro _ w1 ⟨rfl, hr⟩
    have HR := hide' hr
    clear hr HC
    go_wp2
    go_returns
    exact ⟨rfl, HR.out⟩

set_option maxRecDepth 100000 in
theorem free52 (t : Int) (h : TM w q L md f c) (ht : W64 t) : Calls Try.prog 52 #[.pointer (some ⟨q.b, 0, none⟩), .int .i64 t] w (Maps' q (L.map (freeT t)) md (upd f t 0) c w) := by
  obtain ⟨bx, hbx⟩ : ∃ b, b = w.heap.size := ⟨_, rfl⟩
  obtain ⟨W0, hW0⟩ : ∃ W, W = w.alloc (.cells #[.int .i64 t] 3) := ⟨_, rfl⟩
  obtain ⟨wd, hwd⟩ : ∃ W, W = W0.drew := ⟨_, rfl⟩
  have hs0 : Stay (fun _ => False) w W0 := by rw [hW0]; exact (Stay.refl _ _).alloc _
  have hsd : Stay (fun _ => False) w wd := by rw [hwd]; exact hs0.drew
  have k0 : W0.cell? ⟨bx, 0, none⟩ = some (.int .i64 t) := by rw [hW0, hbx]; simp
  have kd : wd.cell? ⟨bx, 0, none⟩ = some (.int .i64 t) := by rw [hwd]; exact k0
  have c2 := (h.keep hs0).box.c2
  simp only at c2
  obtain ⟨W1, hrun, hT1, hm1⟩ := (h.keep hsd).unfront ht 0
  have hbn : ¬ q.own bx := fun e => by have := h.lt bx e; omega
  have k1 : W1.cell? ⟨bx, 0, none⟩ = some (.int .i64 t) := (hm1.1.cell (p := ⟨bx, 0, none⟩) (World.block_lt_of_cell? _ _ kd) hbn).trans kd
  have hE : Calls Try.prog 45 #[.pointer (some ⟨q.b, 0, none⟩), .func (.func 67) #[] #[.pointer (some ⟨bx, 0, none⟩)]] W1 (Maps' q (L.map (freeT t)) md (upd f t 0) c w) := by
    refine (each45_67 (freeT t) bx hT1 (fun w' L' i p g hT hS hg hp => ?_)).mono (fun e w' hq => ⟨hq.1, hq.2.1, ((Moved.of_stay hsd).trans hm1).trans (Moved.row hq.2.2)⟩)
    exact sets67 bx t hT hg hp ((hS.cell (p := ⟨bx, 0, none⟩) (World.block_lt_of_cell? _ _ k1) (fun e => hbn (.inr (.inl e)))).trans k1)
  have HE := hide' hE
  clear h hs0 hsd kd hT1 hm1 k1 hE ht hbn
  go_enter Try.func52, Try.ntmps52
  go_upto_region 1 with fail
  rw [← hW0, ← hbx]
  clear hW0 hbx
  go_still_tail 5, (by kernel_rfl)
  change wpList _ _ _ _ _ W0.drew
  rw [← hwd]
  clear k0 c2 hwd
  go_wp2_with fail
  refine HE.out.mono ?_
  rintro _ w1 ⟨rfl, hr⟩
  have HR := hide' hr
  clear hr HE hrun
  go_wp2
  go_returns
  exact ⟨rfl, HR.out⟩

end Go.Proofs.Ytefpifnfinkbaaa

namespace Go.Proofs.Ytefpifnfinkbaaa
open Go.RowKit

variable {q : Tq} {L : List Pr} {md : Int} {f : Int → Int} {c : Nat} {w : World} {i g : Nat} {p : Pr}

theorem attach23_none (x t : Int) (h : TAt w q L md f c) (hx : ∀ p ∈ L, p.pid ≠ x) : Calls Try.prog 23 #[.pointer (some ⟨q.b, 0, none⟩), .int .i64 x, .int .i64 t] w (Gives (.int .i64 5) w) := by
  obtain ⟨bx, hbx⟩ : ∃ b, b = w.heap.size := ⟨_, rfl⟩
  obtain ⟨bz, hby⟩ : ∃ b, b = bx + 1 := ⟨_, rfl⟩
  obtain ⟨W0, hW0⟩ : ∃ W, W = (w.alloc (.cells #[.int .i64 x] 3)).alloc (.cells #[.int .i64 t] 3) := ⟨_, rfl⟩
  have hs0 : Stay (fun _ => False) w W0 := by rw [hW0]; exact ((Stay.refl _ _).alloc _).alloc _
  have k0 : W0.cell? ⟨bx, 0, none⟩ = some (.int .i64 x) := by
    have h1 : (w.alloc (.cells #[.int .i64 x] 3)).cell? ⟨bx, 0, none⟩ = some (.int .i64 x) := by rw [hbx]; simp
    rw [hW0]; exact keep_cell ((Stay.refl _ _).alloc _) h1
  have k1 : W0.cell? ⟨bz, 0, none⟩ = some (.int .i64 t) := by rw [hW0, hby, hbx]; simp
  have HK := hide' (show W0.cell? ⟨bx, 0, none⟩ = some (.int .i64 x) ∧ W0.cell? ⟨bz, 0, none⟩ = some (.int .i64 t) from ⟨k0, k1⟩)
  have HBN : Hid (∀ j, q.own j → ¬ j = bx ∧ ¬ j = bz) := fun j hj => by have := h.lt j hj; omega
  have HT := hide' (h.keep hs0)
  have HF := hide' (find37 x HT.out.tm)
  have HS0 := hide' hs0
  have HX := hide' hx
  clear h hx hs0
  go_enter Try.func23, Try.ntmps23
  go_upto_region 1 with fail
  rw [← hbx, ← hby, ← hW0]
  clear hbx hby hW0
  clear k1
  go_wp2_with fail
  refine HF.out.mono ?_
  rintro _ w1 ⟨h1 | h1, hs⟩
  · obtain ⟨j, g, p', rfl, hg, hp', hx'⟩ := h1
    exact absurd hx' (HX.out p' (mem_at hp'))
  · obtain ⟨rfl, _⟩ := h1
    have HS := hide' (HS0.out.trans hs)
    clear hs HF k0
    go_wp2
    go_ret
    exact ⟨rfl, HS.out⟩

theorem attach23_lo (x t : Int) (h : TAt w q L md f c) (hp : L[i]? = some p) (hx : p.pid = x) (ht : t < 1) : Calls Try.prog 23 #[.pointer (some ⟨q.b, 0, none⟩), .int .i64 x, .int .i64 t] w (Gives (.int .i64 1) w) := by
  obtain ⟨bx, hbx⟩ : ∃ b, b = w.heap.size := ⟨_, rfl⟩
  obtain ⟨bz, hby⟩ : ∃ b, b = bx + 1 := ⟨_, rfl⟩
  obtain ⟨W0, hW0⟩ : ∃ W, W = (w.alloc (.cells #[.int .i64 x] 3)).alloc (.cells #[.int .i64 t] 3) := ⟨_, rfl⟩
  have hs0 : Stay (fun _ => False) w W0 := by rw [hW0]; exact ((Stay.refl _ _).alloc _).alloc _
  have k0 : W0.cell? ⟨bx, 0, none⟩ = some (.int .i64 x) := by
    have h1 : (w.alloc (.cells #[.int .i64 x] 3)).cell? ⟨bx, 0, none⟩ = some (.int .i64 x) := by rw [hbx]; simp
    rw [hW0]; exact keep_cell ((Stay.refl _ _).alloc _) h1
  have k1 : W0.cell? ⟨bz, 0, none⟩ = some (.int .i64 t) := by rw [hW0, hby, hbx]; simp
  have HK := hide' (show W0.cell? ⟨bx, 0, none⟩ = some (.int .i64 x) ∧ W0.cell? ⟨bz, 0, none⟩ = some (.int .i64 t) from ⟨k0, k1⟩)
  have HBN : Hid (∀ j, q.own j → ¬ j = bx ∧ ¬ j = bz) := fun j hj => by have := h.lt j hj; omega
  have HT := hide' (h.keep hs0)
  have HF := hide' (find37 x HT.out.tm)
  have HS0 := hide' hs0
  have HP := hide' hp
  have HX := hide' hx
  clear h hp hx hs0
  go_enter Try.func23, Try.ntmps23
  go_upto_region 1 with fail
  rw [← hbx, ← hby, ← hW0]
  clear hbx hby hW0
  clear k1
  go_wp2_with fail
  refine HF.out.mono ?_
  rintro _ w1 ⟨h1 | h1, hs⟩
  rotate_left
  · exact absurd HX.out (h1.2 p (mem_at HP.out))
  obtain ⟨j, g, p', rfl, hg, hp', hx'⟩ := h1
  obtain ⟨rfl, rfl⟩ := at_own HT.out.ok.up HP.out hp' (by rw [hx', HX.out])
  have HT1 := hide' (HT.out.keep hs)
  have HS := hide' (HS0.out.trans hs)
  have HG := hide' hg
  have HB := hide' (HT1.out.tm.cellsAt hg hp')
  have k1 := keep_cell hs HK.out.2
  have HK1 := hide' (show w1.cell? ⟨bx, 0, none⟩ = some (.int .i64 x) ∧ w1.cell? ⟨bz, 0, none⟩ = some (.int .i64 t) from ⟨keep_cell hs HK.out.1, keep_cell hs HK.out.2⟩)
  clear HF hs hp' hx' hg k0
  go_wp2
  go_ret
  exact ⟨rfl, HS.out⟩

theorem attach23_hi (x t : Int) (h : TAt w q L md f c) (hp : L[i]? = some p) (hx : p.pid = x) (h1 : 1 ≤ t) (ht : 64 < t) : Calls Try.prog 23 #[.pointer (some ⟨q.b, 0, none⟩), .int .i64 x, .int .i64 t] w (Gives (.int .i64 1) w) := by
  obtain ⟨bx, hbx⟩ : ∃ b, b = w.heap.size := ⟨_, rfl⟩
  obtain ⟨bz, hby⟩ : ∃ b, b = bx + 1 := ⟨_, rfl⟩
  obtain ⟨W0, hW0⟩ : ∃ W, W = (w.alloc (.cells #[.int .i64 x] 3)).alloc (.cells #[.int .i64 t] 3) := ⟨_, rfl⟩
  have hs0 : Stay (fun _ => False) w W0 := by rw [hW0]; exact ((Stay.refl _ _).alloc _).alloc _
  have k0 : W0.cell? ⟨bx, 0, none⟩ = some (.int .i64 x) := by
    have h1 : (w.alloc (.cells #[.int .i64 x] 3)).cell? ⟨bx, 0, none⟩ = some (.int .i64 x) := by rw [hbx]; simp
    rw [hW0]; exact keep_cell ((Stay.refl _ _).alloc _) h1
  have k1 : W0.cell? ⟨bz, 0, none⟩ = some (.int .i64 t) := by rw [hW0, hby, hbx]; simp
  have HK := hide' (show W0.cell? ⟨bx, 0, none⟩ = some (.int .i64 x) ∧ W0.cell? ⟨bz, 0, none⟩ = some (.int .i64 t) from ⟨k0, k1⟩)
  have HBN : Hid (∀ j, q.own j → ¬ j = bx ∧ ¬ j = bz) := fun j hj => by have := h.lt j hj; omega
  have HT := hide' (h.keep hs0)
  have HF := hide' (find37 x HT.out.tm)
  have HS0 := hide' hs0
  have HP := hide' hp
  have HX := hide' hx
  clear h hp hx hs0
  go_enter Try.func23, Try.ntmps23
  go_upto_region 1 with fail
  rw [← hbx, ← hby, ← hW0]
  clear hbx hby hW0
  clear k1
  go_wp2_with fail
  refine HF.out.mono ?_
  rintro _ w1 ⟨h1 | h1, hs⟩
  rotate_left
  · exact absurd HX.out (h1.2 p (mem_at HP.out))
  obtain ⟨j, g, p', rfl, hg, hp', hx'⟩ := h1
  obtain ⟨rfl, rfl⟩ := at_own HT.out.ok.up HP.out hp' (by rw [hx', HX.out])
  have HT1 := hide' (HT.out.keep hs)
  have HS := hide' (HS0.out.trans hs)
  have HG := hide' hg
  have HB := hide' (HT1.out.tm.cellsAt hg hp')
  have k1 := keep_cell hs HK.out.2
  have HK1 := hide' (show w1.cell? ⟨bx, 0, none⟩ = some (.int .i64 x) ∧ w1.cell? ⟨bz, 0, none⟩ = some (.int .i64 t) from ⟨keep_cell hs HK.out.1, keep_cell hs HK.out.2⟩)
  clear HF hs hp' hx' hg k0
  go_wp2
  go_ret
  exact ⟨rfl, HS.out⟩

theorem attach23_nolead (x t : Int) (h : TAt w q L md f c) (hp : L[i]? = some p) (hx : p.pid = x) (h1 : 1 ≤ t) (h2 : t ≤ 64) (hl : leadB p = false) : Calls Try.prog 23 #[.pointer (some ⟨q.b, 0, none⟩), .int .i64 x, .int .i64 t] w (Gives (.int .i64 8) w) := by
  have HN := hide' hl
  obtain ⟨bx, hbx⟩ : ∃ b, b = w.heap.size := ⟨_, rfl⟩
  obtain ⟨bz, hby⟩ : ∃ b, b = bx + 1 := ⟨_, rfl⟩
  obtain ⟨W0, hW0⟩ : ∃ W, W = (w.alloc (.cells #[.int .i64 x] 3)).alloc (.cells #[.int .i64 t] 3) := ⟨_, rfl⟩
  have hs0 : Stay (fun _ => False) w W0 := by rw [hW0]; exact ((Stay.refl _ _).alloc _).alloc _
  have k0 : W0.cell? ⟨bx, 0, none⟩ = some (.int .i64 x) := by
    have h1 : (w.alloc (.cells #[.int .i64 x] 3)).cell? ⟨bx, 0, none⟩ = some (.int .i64 x) := by rw [hbx]; simp
    rw [hW0]; exact keep_cell ((Stay.refl _ _).alloc _) h1
  have k1 : W0.cell? ⟨bz, 0, none⟩ = some (.int .i64 t) := by rw [hW0, hby, hbx]; simp
  have HK := hide' (show W0.cell? ⟨bx, 0, none⟩ = some (.int .i64 x) ∧ W0.cell? ⟨bz, 0, none⟩ = some (.int .i64 t) from ⟨k0, k1⟩)
  have HBN : Hid (∀ j, q.own j → ¬ j = bx ∧ ¬ j = bz) := fun j hj => by have := h.lt j hj; omega
  have HT := hide' (h.keep hs0)
  have HF := hide' (find37 x HT.out.tm)
  have HS0 := hide' hs0
  clear hl
  have HP := hide' hp
  have HX := hide' hx
  clear h hp hx hs0
  go_enter Try.func23, Try.ntmps23
  go_upto_region 1 with fail
  rw [← hbx, ← hby, ← hW0]
  clear hbx hby hW0
  clear k1
  go_wp2_with fail
  refine HF.out.mono ?_
  rintro _ w1 ⟨h1 | h1, hs⟩
  rotate_left
  · exact absurd HX.out (h1.2 p (mem_at HP.out))
  obtain ⟨j, g, p', rfl, hg, hp', hx'⟩ := h1
  obtain ⟨rfl, rfl⟩ := at_own HT.out.ok.up HP.out hp' (by rw [hx', HX.out])
  have HT1 := hide' (HT.out.keep hs)
  have HS := hide' (HS0.out.trans hs)
  have HG := hide' hg
  have HB := hide' (HT1.out.tm.cellsAt hg hp')
  have k1 := keep_cell hs HK.out.2
  have HK1 := hide' (show w1.cell? ⟨bx, 0, none⟩ = some (.int .i64 x) ∧ w1.cell? ⟨bz, 0, none⟩ = some (.int .i64 t) from ⟨keep_cell hs HK.out.1, keep_cell hs HK.out.2⟩)
  clear HF hs hp' hx' hg k0
  have HO := hide' (leads44 g (j * 6) p' w1 HB.out.1)
  rw [HN.out] at HO
  go_wp2_with fail
  refine HO.out.mono ?_
  rintro _ w2 ⟨rfl, hs⟩
  have HS2 := hide' (HS.out.trans hs)
  clear hs HO HS
  go_wp2
  go_ret
  exact ⟨rfl, HS2.out⟩

theorem attach23_has (x t : Int) (h : TAt w q L md f c) (hp : L[i]? = some p) (hx : p.pid = x) (h1 : 1 ≤ t) (h2 : t ≤ 64) (hl : leadB p = true) (hy : (p.tty != 0) = true) : Calls Try.prog 23 #[.pointer (some ⟨q.b, 0, none⟩), .int .i64 x, .int .i64 t] w (Gives (.int .i64 8) w) := by
  have HN := hide' hl
  obtain ⟨bx, hbx⟩ : ∃ b, b = w.heap.size := ⟨_, rfl⟩
  obtain ⟨bz, hby⟩ : ∃ b, b = bx + 1 := ⟨_, rfl⟩
  obtain ⟨W0, hW0⟩ : ∃ W, W = (w.alloc (.cells #[.int .i64 x] 3)).alloc (.cells #[.int .i64 t] 3) := ⟨_, rfl⟩
  have hs0 : Stay (fun _ => False) w W0 := by rw [hW0]; exact ((Stay.refl _ _).alloc _).alloc _
  have k0 : W0.cell? ⟨bx, 0, none⟩ = some (.int .i64 x) := by
    have h1 : (w.alloc (.cells #[.int .i64 x] 3)).cell? ⟨bx, 0, none⟩ = some (.int .i64 x) := by rw [hbx]; simp
    rw [hW0]; exact keep_cell ((Stay.refl _ _).alloc _) h1
  have k1 : W0.cell? ⟨bz, 0, none⟩ = some (.int .i64 t) := by rw [hW0, hby, hbx]; simp
  have HK := hide' (show W0.cell? ⟨bx, 0, none⟩ = some (.int .i64 x) ∧ W0.cell? ⟨bz, 0, none⟩ = some (.int .i64 t) from ⟨k0, k1⟩)
  have HBN : Hid (∀ j, q.own j → ¬ j = bx ∧ ¬ j = bz) := fun j hj => by have := h.lt j hj; omega
  have HT := hide' (h.keep hs0)
  have HF := hide' (find37 x HT.out.tm)
  have HS0 := hide' hs0
  clear hl
  have HP := hide' hp
  have HX := hide' hx
  clear h hp hx hs0
  go_enter Try.func23, Try.ntmps23
  go_upto_region 1 with fail
  rw [← hbx, ← hby, ← hW0]
  clear hbx hby hW0
  clear k1
  go_wp2_with fail
  refine HF.out.mono ?_
  rintro _ w1 ⟨h1 | h1, hs⟩
  rotate_left
  · exact absurd HX.out (h1.2 p (mem_at HP.out))
  obtain ⟨j, g, p', rfl, hg, hp', hx'⟩ := h1
  obtain ⟨rfl, rfl⟩ := at_own HT.out.ok.up HP.out hp' (by rw [hx', HX.out])
  have HT1 := hide' (HT.out.keep hs)
  have HS := hide' (HS0.out.trans hs)
  have HG := hide' hg
  have HB := hide' (HT1.out.tm.cellsAt hg hp')
  have k1 := keep_cell hs HK.out.2
  have HK1 := hide' (show w1.cell? ⟨bx, 0, none⟩ = some (.int .i64 x) ∧ w1.cell? ⟨bz, 0, none⟩ = some (.int .i64 t) from ⟨keep_cell hs HK.out.1, keep_cell hs HK.out.2⟩)
  clear HF hs hp' hx' hg k0
  have HO := hide' (leads44 g (j * 6) p' w1 HB.out.1)
  rw [HN.out] at HO
  go_wp2_with fail
  refine HO.out.mono ?_
  rintro _ w2 ⟨rfl, hs⟩
  have HS2 := hide' (HS.out.trans hs)
  have c4 := (HB.out.1.keep hs).c4
  clear hs HO HS
  go_wp2
  go_ret
  exact ⟨rfl, HS2.out⟩

theorem attach23_busy (x t : Int) (h : TAt w q L md f c) (hp : L[i]? = some p) (hx : p.pid = x) (h1 : 1 ≤ t) (h2 : t ≤ 64) (hl : leadB p = true) (hy : (p.tty != 0) = false) (hf : (f t != 0) = true) : Calls Try.prog 23 #[.pointer (some ⟨q.b, 0, none⟩), .int .i64 x, .int .i64 t] w (Gives (.int .i64 8) w) := by
  have HN := hide' hl
  obtain ⟨bx, hbx⟩ : ∃ b, b = w.heap.size := ⟨_, rfl⟩
  obtain ⟨bz, hby⟩ : ∃ b, b = bx + 1 := ⟨_, rfl⟩
  obtain ⟨W0, hW0⟩ : ∃ W, W = (w.alloc (.cells #[.int .i64 x] 3)).alloc (.cells #[.int .i64 t] 3) := ⟨_, rfl⟩
  have hs0 : Stay (fun _ => False) w W0 := by rw [hW0]; exact ((Stay.refl _ _).alloc _).alloc _
  have k0 : W0.cell? ⟨bx, 0, none⟩ = some (.int .i64 x) := by
    have h1 : (w.alloc (.cells #[.int .i64 x] 3)).cell? ⟨bx, 0, none⟩ = some (.int .i64 x) := by rw [hbx]; simp
    rw [hW0]; exact keep_cell ((Stay.refl _ _).alloc _) h1
  have k1 : W0.cell? ⟨bz, 0, none⟩ = some (.int .i64 t) := by rw [hW0, hby, hbx]; simp
  have HK := hide' (show W0.cell? ⟨bx, 0, none⟩ = some (.int .i64 x) ∧ W0.cell? ⟨bz, 0, none⟩ = some (.int .i64 t) from ⟨k0, k1⟩)
  have HBN : Hid (∀ j, q.own j → ¬ j = bx ∧ ¬ j = bz) := fun j hj => by have := h.lt j hj; omega
  have HT := hide' (h.keep hs0)
  have HF := hide' (find37 x HT.out.tm)
  have HS0 := hide' hs0
  clear hl
  have HP := hide' hp
  have HX := hide' hx
  clear h hp hx hs0
  go_enter Try.func23, Try.ntmps23
  go_upto_region 1 with fail
  rw [← hbx, ← hby, ← hW0]
  clear hbx hby hW0
  clear k1
  go_wp2_with fail
  refine HF.out.mono ?_
  rintro _ w1 ⟨h1 | h1, hs⟩
  rotate_left
  · exact absurd HX.out (h1.2 p (mem_at HP.out))
  obtain ⟨j, g, p', rfl, hg, hp', hx'⟩ := h1
  obtain ⟨rfl, rfl⟩ := at_own HT.out.ok.up HP.out hp' (by rw [hx', HX.out])
  have HT1 := hide' (HT.out.keep hs)
  have HS := hide' (HS0.out.trans hs)
  have HG := hide' hg
  have HB := hide' (HT1.out.tm.cellsAt hg hp')
  have k1 := keep_cell hs HK.out.2
  have HK1 := hide' (show w1.cell? ⟨bx, 0, none⟩ = some (.int .i64 x) ∧ w1.cell? ⟨bz, 0, none⟩ = some (.int .i64 t) from ⟨keep_cell hs HK.out.1, keep_cell hs HK.out.2⟩)
  clear HF hs hp' hx' hg k0
  have HO := hide' (leads44 g (j * 6) p' w1 HB.out.1)
  rw [HN.out] at HO
  go_wp2_with fail
  refine HO.out.mono ?_
  rintro _ w2 ⟨rfl, hs⟩
  have HS2 := hide' (HS.out.trans hs)
  have c4 := (HB.out.1.keep hs).c4
  have k1' := keep_cell hs k1
  have HFR := hide' (front18 t (HT1.out.tm.keep hs) (w64_of (by omega) (by omega)))
  clear hs HO HS k1
  go_wp2_with fail
  refine HFR.out.mono ?_
  rintro _ w3 ⟨rfl, hs⟩
  have HS3 := hide' (HS2.out.trans hs)
  clear hs HS2 HFR c4 k1'
  go_wp2
  go_ret
  exact ⟨rfl, HS3.out⟩

set_option maxRecDepth 100000 in
theorem attach23 (x t : Int) (h : TAt w q L md f c) (hp : L[i]? = some p) (hx : p.pid = x) (h1 : 1 ≤ t) (h2 : t ≤ 64) (hl : leadB p = true) (hy : (p.tty != 0) = false) (hf : (f t != 0) = false) (hc : c ≤ 4095) : Calls Try.prog 23 #[.pointer (some ⟨q.b, 0, none⟩), .int .i64 x, .int .i64 t] w (Did q (L.map (giveS x t)) md (upd f t p.grp) (c + 1) (.int .i64 0) w) := by
  have HN := hide' hl
  have hok : Ok (L.map (giveS x t)) md (upd f t p.grp) := by
    have e1 : p.ses = p.pid := by unfold leadB at hl; exact beq_iff_eq.1 hl
    have e2 : p.tty = 0 := by simpa using hy
    have e3 : f t = 0 := by simpa using hf
    rw [← hx]
    exact h.ok.attach (mem_at hp) e1 h1 h2 e2 e3
  have HOK := hide' hok
  have HW : Hid (W64 p.grp ∧ c ≤ 4096 ∧ md ≤ ((c + 1 : Nat) : Int)) := ⟨(h.ok.w64 (by have := h.mc; omega) (mem_at hp)).2.2.1, by omega, by have := h.mc; omega⟩
  obtain ⟨bx, hbx⟩ : ∃ b, b = w.heap.size := ⟨_, rfl⟩
  obtain ⟨bz, hby⟩ : ∃ b, b = bx + 1 := ⟨_, rfl⟩
  obtain ⟨W0, hW0⟩ : ∃ W, W = (w.alloc (.cells #[.int .i64 x] 3)).alloc (.cells #[.int .i64 t] 3) := ⟨_, rfl⟩
  have hs0 : Stay (fun _ => False) w W0 := by rw [hW0]; exact ((Stay.refl _ _).alloc _).alloc _
  have k0 : W0.cell? ⟨bx, 0, none⟩ = some (.int .i64 x) := by
    have h1 : (w.alloc (.cells #[.int .i64 x] 3)).cell? ⟨bx, 0, none⟩ = some (.int .i64 x) := by rw [hbx]; simp
    rw [hW0]; exact keep_cell ((Stay.refl _ _).alloc _) h1
  have k1 : W0.cell? ⟨bz, 0, none⟩ = some (.int .i64 t) := by rw [hW0, hby, hbx]; simp
  have HK := hide' (show W0.cell? ⟨bx, 0, none⟩ = some (.int .i64 x) ∧ W0.cell? ⟨bz, 0, none⟩ = some (.int .i64 t) from ⟨k0, k1⟩)
  have HBN : Hid (∀ j, q.own j → ¬ j = bx ∧ ¬ j = bz) := fun j hj => by have := h.lt j hj; omega
  have HT := hide' (h.keep hs0)
  have HF := hide' (find37 x HT.out.tm)
  have HS0 := hide' hs0
  clear hl hok hc
  have HP := hide' hp
  have HX := hide' hx
  clear h hp hx hs0
  go_enter Try.func23, Try.ntmps23
  go_upto_region 1 with fail
  rw [← hbx, ← hby, ← hW0]
  clear hbx hby hW0
  clear k1
  go_wp2_with fail
  refine HF.out.mono ?_
  rintro _ w1 ⟨h1 | h1, hs⟩
  rotate_left
  · exact absurd HX.out (h1.2 p (mem_at HP.out))
  obtain ⟨j, g, p', rfl, hg, hp', hx'⟩ := h1
  obtain ⟨rfl, rfl⟩ := at_own HT.out.ok.up HP.out hp' (by rw [hx', HX.out])
  have HT1 := hide' (HT.out.keep hs)
  have HS := hide' (HS0.out.trans hs)
  have HG := hide' hg
  have HB := hide' (HT1.out.tm.cellsAt hg hp')
  have k1 := keep_cell hs HK.out.2
  have HK1 := hide' (show w1.cell? ⟨bx, 0, none⟩ = some (.int .i64 x) ∧ w1.cell? ⟨bz, 0, none⟩ = some (.int .i64 t) from ⟨keep_cell hs HK.out.1, keep_cell hs HK.out.2⟩)
  clear HF hs hp' hx' hg k0
  have HO := hide' (leads44 g (j * 6) p' w1 HB.out.1)
  rw [HN.out] at HO
  go_wp2_with fail
  refine HO.out.mono ?_
  rintro _ w2 ⟨rfl, hs⟩
  have HS2 := hide' (HS.out.trans hs)
  have c4 := (HB.out.1.keep hs).c4
  have k1' := keep_cell hs k1
  have HFR := hide' (front18 t (HT1.out.tm.keep hs) (w64_of (by omega) (by omega)))
  have HB2 := hide' (HB.out.1.keep hs)
  have HT2 := hide' (HT1.out.keep hs)
  have HK2 := hide' (show w2.cell? ⟨bx, 0, none⟩ = some (.int .i64 x) ∧ w2.cell? ⟨bz, 0, none⟩ = some (.int .i64 t) from ⟨keep_cell hs HK1.out.1, keep_cell hs HK1.out.2⟩)
  clear hs HO HS k1 HB HT1
  go_wp2_with fail
  refine HFR.out.mono ?_
  rintro _ w3 ⟨rfl, hs⟩
  have hs3 := HS2.out.trans hs
  have k2 := keep_cell hs k1'
  have c2 := (HB2.out.keep hs).c2
  have hT3 := HT2.out.keep hs
  obtain ⟨wd, hwd⟩ : ∃ W, W = w3.drew := ⟨_, rfl⟩
  have hsd : Stay (fun _ => False) w3 wd := by rw [hwd]; exact (Stay.refl _ _).drew
  have e2 := hT3.tm.box.c2
  simp only at e2
  obtain ⟨W1, hrun, hT4, hm4⟩ := (hT3.keep hsd).tm.front (t := t) (w64_of (by omega) (by omega)) HW.out.1 HW.out.2.1
  have hM := (Moved.of_stay (q := q) (hs3.trans hsd)).trans hm4
  have hbn := HBN.out
  have q0 : W1.cell? ⟨bx, 0, none⟩ = some (.int .i64 x) := by
    have l0 := keep_cell (hs.trans hsd) HK2.out.1
    exact (hm4.1.cell (p := ⟨bx, 0, none⟩) (World.block_lt_of_cell? _ _ l0) (fun e => (hbn _ e).1 rfl)).trans l0
  have q1 : W1.cell? ⟨bz, 0, none⟩ = some (.int .i64 t) := by
    have l0 := keep_cell (hs.trans hsd) HK2.out.2
    exact (hm4.1.cell (p := ⟨bz, 0, none⟩) (World.block_lt_of_cell? _ _ l0) (fun e => (hbn _ e).2 rfl)).trans l0
  have hE : Calls Try.prog 45 #[.pointer (some ⟨q.b, 0, none⟩), .func (.func 46) #[] #[.pointer (some ⟨bx, 0, none⟩), .pointer (some ⟨bz, 0, none⟩)]] W1 (Maps' q (L.map (giveS x t)) md (upd f t p'.grp) (c + 1) w) := by
    refine (each45_46 (giveS x t) bx bz hT4 (fun w' L' i p g hT hS hg hp => ?_)).mono (fun e w' hq => ⟨hq.1, hq.2.1, hM.trans (Moved.row hq.2.2)⟩)
    exact sets46 bx bz x t hT hg hp ((hS.cell (p := ⟨bx, 0, none⟩) (World.block_lt_of_cell? _ _ q0) (fun e => (hbn _ (.inr (.inl e))).1 rfl)).trans q0) ((hS.cell (p := ⟨bz, 0, none⟩) (World.block_lt_of_cell? _ _ q1) (fun e => (hbn _ (.inr (.inl e))).2 rfl)).trans q1)
  have HE := hide' hE
  clear hs hs3 hT3 hsd hT4 hm4 hM hbn q0 q1 hE HS2 HFR c4 k1' HB2 HT2 HK2 HK1 HBN HS0 HK
  go_upto_region 8 with fail
  go_still_tail 9, (by kernel_rfl)
  change wpList _ _ _ _ _ w3.drew
  rw [← hwd]
  clear k2 c2 e2 hwd
  go_wp2_with fail
  refine HE.out.mono ?_
  rintro _ w4 ⟨rfl, hT5, hm5⟩
  have HR := hide' (show TAt w4 q (L.map (giveS x t)) md (upd f t p'.grp) (c + 1) ∧ Moved q q w w4 from ⟨⟨hT5, HOK.out, HW.out.2.2⟩, hm5⟩)
  clear hT5 hm5 HE hrun
  go_wp2
  go_ret
  exact ⟨q, rfl, rfl, HR.out⟩

end Go.Proofs.Ytefpifnfinkbaaa
