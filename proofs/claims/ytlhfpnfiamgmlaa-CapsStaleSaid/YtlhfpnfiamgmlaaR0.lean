/-
  A table within a call. No conditions.
-/
import Derived.Test.YtlhfpnfiamgmlaaQ9
namespace Go.Proofs.Ytlhfpnfiamgmlaa
open Go.RowKit

/-- A table that the call itself has made. -/
structure TIn (w0 : World) (T B n : Nat) (q : Int) (f : Nat → Sl) (K : Int) (w : World) : Prop where
  stay : Stay (fun _ => False) w0 w
  at' : TAt w T B n q f
  gb : GB n f K
  newT : w0.heap.size ≤ T
  newB : w0.heap.size ≤ B

variable {w0 w w1 : World} {T B n : Nat} {q K : Int} {f : Nat → Sl}

theorem TIn.keep (h : TIn w0 T B n q f K w) (hs : Stay (fun _ => False) w w1) : TIn w0 T B n q f K w1 := ⟨h.stay.trans hs, h.at'.keep hs, h.gb, h.newT, h.newB⟩

theorem TIn.le {J : Int} (h : TIn w0 T B n q f K w) (hK : K ≤ J) : TIn w0 T B n q f J w := ⟨h.stay, h.at', h.gb.le hK, h.newT, h.newB⟩

/-- Something of its own has turned, which is no part of the table. -/
theorem TIn.beside {S : Nat → Prop} (h : TIn w0 T B n q f K w) (hs : Stay S w w1) (h0 : ∀ k, k < w0.heap.size → ¬ S k) (hT : ¬ S T) (hB : ¬ S B) : TIn w0 T B n q f K w1 :=
  ⟨(h.stay.mono (T := fun k => S k) (fun _ _ h => h.elim) |>.trans hs).mono (fun k hk e => h0 k hk e), h.at'.stay hs hT hB, h.gb, h.newT, h.newB⟩

theorem TIn.turn {f' : Nat → Sl} {J : Int} (h : TIn w0 T B n q f K w) (hs : Stay (fun j => j = B) w w1) (ht : TAt w1 T B n q f') (hg : GB n f' J) : TIn w0 T B n q f' J w1 :=
  ⟨((h.stay.mono (T := fun j => j = B) (fun _ _ h => h.elim)).trans hs).mono (fun k hk e => by have := h.newB; omega), ht, hg, h.newT, h.newB⟩

/-- A new table, within a call. -/
def NIn (w0 : World) (n : Nat) (q : Int) (w : World) (e : Ending) (w' : World) : Prop := ∃ T B, e = .returned (.pointer (some ⟨T, 0, none⟩)) ∧ TIn w0 T B n q (fun _ => Sl.fresh) 1 w' ∧ Stay (fun _ => False) w w' ∧ w.heap.size ≤ T ∧ w.heap.size ≤ B

theorem new_in (n : Nat) (q : Int) (h : Stay (fun _ => False) w0 w) (h1 : 1 ≤ n) (h2 : n ≤ 20) (hq : 1 ≤ q) : Calls Try.prog 8 #[.int .i64 (n : Nat), .int .i64 q] w (NIn w0 n q w) := by
  refine (new8 n q w h1 h2 hq).mono ?_
  rintro e w' ⟨T, B, rfl, hs, ht, hT, hB⟩
  exact ⟨T, B, rfl, ⟨h.trans hs, ht, GB.fresh n, Nat.le_trans h.size hT, Nat.le_trans h.size hB⟩, hs, hT, hB⟩

/-- A name and what is wrong, within a call. -/
def MIn (w0 : World) (T B n : Nat) (q : Int) (r : (Nat → Sl) × Int × Int × Int) (K : Int) (w : World) (e : Ending) (w' : World) : Prop := e = .returned (.tuple #[.agg #[.int .i64 r.2.1, .int .i64 r.2.2.1], .int .i64 r.2.2.2]) ∧ TIn w0 T B n q r.1 K w' ∧ Stay (fun j => j = B) w w'

theorem mint_in (env kind obj rights : Int) (h : TIn w0 T B n q f K w) : Calls Try.prog 12 #[.pointer (some ⟨T, 0, none⟩), .int .i64 env, .int .i64 kind, .int .i64 obj, .int .i64 rights] w (MIn w0 T B n q (mintS n q f env kind obj rights) K w) := by
  refine (mint12 T B n q f env kind obj rights w h.at').mono ?_
  rintro e w' ⟨rfl, hs, ht⟩
  exact ⟨rfl, h.turn hs ht h.gb.mint, hs⟩

theorem share_in (env sl gn tw rights : Int) (h : TIn w0 T B n q f K w) : Calls Try.prog 14 #[.pointer (some ⟨T, 0, none⟩), .int .i64 env, .agg #[.int .i64 sl, .int .i64 gn], .int .i64 tw, .int .i64 rights] w (MIn w0 T B n q (shareS n q f env sl gn tw rights) K w) := by
  refine (share14 T B n q f env sl gn tw rights w h.at').mono ?_
  rintro e w' ⟨rfl, hs, ht⟩
  exact ⟨rfl, h.turn hs ht h.gb.share, hs⟩

theorem check_in (env sl gn kind r : Int) (h : TIn w0 T B n q f K w) (hr : W64 r) : Calls Try.prog 16 #[.pointer (some ⟨T, 0, none⟩), .int .i64 env, .agg #[.int .i64 sl, .int .i64 gn], .int .i64 kind, .int .i64 r] w (fun e w' => e = .returned (.tuple #[.int .i64 (checkR n f env sl gn kind r).1, .int .i64 (checkR n f env sl gn kind r).2]) ∧ Stay (fun _ => False) w w') :=
  check16 T B n q f env sl gn kind r w h.at' hr

theorem count_in (env : Int) (h : TIn w0 T B n q f K w) : Calls Try.prog 23 #[.pointer (some ⟨T, 0, none⟩), .int .i64 env] w (fun e w' => e = .returned (.int .i64 (cnt (isOf f env) n : Nat)) ∧ Stay (fun _ => False) w w') :=
  count23 T B n q f env w h.at'

/-- What comes of Revoke or Drop, within a call. -/
def DIn (w0 : World) (T B n : Nat) (q : Int) (f : Nat → Sl) (K e : Int) (m0 : Nat → Bool) (w : World) (E : Ending) (w' : World) : Prop := ∃ (f' : Nat → Sl) (c : Nat), E = .returned (.tuple #[.int .i64 (c : Nat), .int .i64 e]) ∧ TIn w0 T B n q f' (K + 1) w' ∧ Stay (fun j => j = B) w w' ∧ (e ≠ 0 → f' = f ∧ c = 0) ∧ (e = 0 → ∃ M, (∀ i, M i = true ↔ Bel n f m0 i) ∧ f' = goneF M f ∧ c = cnt (goneB M f) n)

theorem DIn.of {e : Int} {m0 : Nat → Bool} {E : Ending} {w' : World} (h : TIn w0 T B n q f K w) (hd : DOut T B n q f e m0 w E w') : DIn w0 T B n q f K e m0 w E w' := by
  obtain ⟨f', c, rfl, hs, ht, h1, h2⟩ := hd
  refine ⟨f', c, rfl, h.turn hs ht ?_, hs, h1, h2⟩
  by_cases he : e = 0
  · obtain ⟨M, _, rfl, _⟩ := h2 he
    exact h.gb.gone
  · obtain ⟨rfl, _⟩ := h1 he
    exact h.gb.le (by omega)

theorem revoke_in (env sl gn : Int) (h : TIn w0 T B n q f K w) (hK : K ≤ 4611686018427387904) : Calls Try.prog 18 #[.pointer (some ⟨T, 0, none⟩), .int .i64 env, .agg #[.int .i64 sl, .int .i64 gn]] w (DIn w0 T B n q f K (ownE n f env sl gn 0) (madeOf f sl) w) :=
  (revoke18 T B n q f env sl gn w h.at' (h.gb.wf hK)).mono (fun _ _ hd => DIn.of h hd)

theorem drop_in (env sl gn : Int) (h : TIn w0 T B n q f K w) (hK : K ≤ 4611686018427387904) : Calls Try.prog 20 #[.pointer (some ⟨T, 0, none⟩), .int .i64 env, .agg #[.int .i64 sl, .int .i64 gn]] w (DIn w0 T B n q f K (ownE n f env sl gn 4) (fun i => (i : Int) == sl) w) :=
  (drop20 T B n q f env sl gn w h.at' (h.gb.wf hK)).mono (fun _ _ hd => DIn.of h hd)

/-- What comes of Kill, within a call. -/
def LIn (w0 : World) (T B n : Nat) (q : Int) (f : Nat → Sl) (K : Int) (m0 : Nat → Bool) (w : World) (E : Ending) (w' : World) : Prop := ∃ M : Nat → Bool, (∀ i, M i = true ↔ Bel n f m0 i) ∧ E = .returned (.int .i64 (cnt (goneB M f) n : Nat)) ∧ TIn w0 T B n q (goneF M f) (K + 1) w' ∧ Stay (fun j => j = B) w w'

theorem kill_in (env : Int) (h : TIn w0 T B n q f K w) (hK : K ≤ 4611686018427387904) : Calls Try.prog 22 #[.pointer (some ⟨T, 0, none⟩), .int .i64 env] w (LIn w0 T B n q f K (isOf f env) w) := by
  refine (kill22 T B n q f env w h.at' (h.gb.wf hK)).mono ?_
  rintro E w' ⟨M, hM, rfl, hs, ht⟩
  exact ⟨M, hM, rfl, h.turn hs ht h.gb.gone, hs⟩

theorem objects_in (env kind : Int) (h : TIn w0 T B n q f K w) (hn : n ≤ 12) (hb : ∀ i, i < n → (f i).obj < 1000) : Calls Try.prog 26 #[.pointer (some ⟨T, 0, none⟩), .int .i64 env, .int .i64 kind] w (NOut (objs f n env kind 1000) w) :=
  objects26 T B n q f env kind w h.at' hn hb

end Go.Proofs.Ytlhfpnfiamgmlaa
