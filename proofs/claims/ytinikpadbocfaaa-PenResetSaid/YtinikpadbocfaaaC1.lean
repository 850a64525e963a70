/-
  Pens in memory; a parameter's flag in the document; whether a pen is right: walked. No conditions.
-/
import Derived.Test.YtinikpadbocfaaaC0
namespace Go.Proofs.Ytinikpadbocfaaa
open Go.RowKit

/-- What a variable of a struct (or an array) of one-cell parts reads as. -/
theorem run_loadVar_cells {P : Program} (w : World) (g off : Nat) (ty : TypeId) (cs : List Value) (d : TypeDesc) (hc : ∀ j v, cs[j]? = some v → w.cell? ⟨g, off + j, none⟩ = some v)
    (hu : P.underlying ty = some d) (hd : (match d with | .struct _ | .array _ _ => true | _ => false) = true) (hi : (P.info? ty).map (·.size) = some cs.length) :
    (loadVar ty ⟨g, off, none⟩).run P w = .ok (.agg cs.toArray) w := by
  have hl : (loadCells ⟨g, off, none⟩ cs.length).run P w = .ok cs.toArray w :=
    run_loadCells_list (P := P) w ⟨g, off, none⟩ cs (fun j v hv => by
      have hadd : (⟨g, off, none⟩ : Addr).add j = ⟨g, off + j, none⟩ := by unfold Addr.add; split <;> simp_all
      rw [hadd]
      exact hc j v hv)
  cases hq : P.info? ty with
  | none => simp [hq] at hi
  | some i =>
    have hs : i.size = cs.length := by simpa [hq] using hi
    have hagg : (isAgg ty).run P w = .ok true w := by
      unfold isAgg
      rw [Sem.run_bind, run_underlying hu w]
      cases d <;> simp_all
    simp [loadVar, Sem.run_bind, hagg, sizeOf, typeInfo, hq, hs, hl]

/-- A result that lies in memory. -/
theorem results_cells {P : Program} {fn : Func} {p : Tmp} {ty : TypeId} (h : fn.results = #[.cell p ty]) (tmps : Array Value) (w : World) (g off : Nat) (cs : List Value) (d : TypeDesc)
    (hp : tmps.getD p undef = .pointer (some ⟨g, off, none⟩)) (hc : ∀ j v, cs[j]? = some v → w.cell? ⟨g, off + j, none⟩ = some v)
    (hu : P.underlying ty = some d) (hd : (match d with | .struct _ | .array _ _ => true | _ => false) = true) (hi : (P.info? ty).map (·.size) = some cs.length) :
    (results fn tmps).run P w = .ok (.agg cs.toArray) w := by
  have hp' : tmps[p]?.getD undef = .pointer (some ⟨g, off, none⟩) := by simpa using hp
  simp [results, h, hp', asAddr, run_loadVar_cells w g off ty cs d hc hu hd hi]

/-- A box that holds a pen. -/
structure Box (w : World) (b : Nat) (r : Pn) : Prop where
  c0 : w.cell? ⟨b, 0, none⟩ = some (.int .i64 r.fg)
  c1 : w.cell? ⟨b, 1, none⟩ = some (.int .i64 r.bg)
  c2 : w.cell? ⟨b, 2, none⟩ = some (.int .i64 r.fl)
  f0 : w.frozen? ⟨b, 0, none⟩ = false
  f1 : w.frozen? ⟨b, 1, none⟩ = false
  f2 : w.frozen? ⟨b, 2, none⟩ = false

theorem Box.lt {w : World} {b : Nat} {r : Pn} (h : Box w b r) : b < w.heap.size := World.block_lt_of_cell? _ _ h.c0

theorem Box.stay {T : Nat → Prop} {W w1 : World} {b : Nat} {r : Pn} (h : Box W b r) (hs : Stay T W w1) (hn : ¬ T b) : Box w1 b r := by
  have hb : b < W.heap.size := h.lt
  have c : ∀ o, w1.cell? ⟨b, o, none⟩ = W.cell? ⟨b, o, none⟩ := fun o => hs.cell (p := ⟨b, o, none⟩) hb hn
  have f : ∀ o, w1.frozen? ⟨b, o, none⟩ = W.frozen? ⟨b, o, none⟩ := fun o => hs.frozen (p := ⟨b, o, none⟩) hb hn
  exact ⟨(c 0).trans h.c0, (c 1).trans h.c1, (c 2).trans h.c2, (f 0).trans h.f0, (f 1).trans h.f1, (f 2).trans h.f2⟩

theorem Box.keep {W w1 : World} {b : Nat} {r : Pn} (h : Box W b r) (hs : Stay (fun _ => False) W w1) : Box w1 b r := h.stay hs (fun h => h)

theorem Box.alloc {w : World} {b : Nat} {r : Pn} (h : Box w b r) (o : Obj) : Box (w.alloc o) b r := h.keep ((Stay.refl _ _).alloc o)

theorem Box.new {w : World} {b : Nat} (r : Pn) (h : w.heap.size = b) : Box (w.alloc (.cells #[.int .i64 r.fg, .int .i64 r.bg, .int .i64 r.fl] 23)) b r := by
  subst h
  constructor <;> simp

theorem Box.cells {w : World} {b : Nat} {r : Pn} (h : Box w b r) : ∀ (j : Nat) (v : Value), [Value.int .i64 r.fg, .int .i64 r.bg, .int .i64 r.fl][j]? = some v → w.cell? ⟨b, 0 + j, none⟩ = some v := by
  intro j v hj
  match j, hj with
  | 0, hj => cases hj; exact h.c0
  | 1, hj => cases hj; exact h.c1
  | 2, hj => cases hj; exact h.c2

theorem results_box {fn : Func} {p : Tmp} (h : fn.results = #[.cell p 23]) (tmps : Array Value) (w : World) (g : Nat) (r : Pn) (hp : tmps.getD p undef = .pointer (some ⟨g, 0, none⟩)) (hb : Box w g r) :
    (results fn tmps).run Try.prog w = .ok (.agg #[.int .i64 r.fg, .int .i64 r.bg, .int .i64 r.fl]) w := results_cells h tmps w g 0 _ _ hp hb.cells Try.underlying23 rfl (by kernel_rfl)

/-- The world in which a box holds another pen. -/
theorem Box.put {w : World} {b : Nat} {r0 : Pn} (h : Box w b r0) (r : Pn) : Box (((w.setCell ⟨b, 0, none⟩ (.int .i64 r.fg)).setCell ⟨b, 1, none⟩ (.int .i64 r.bg)).setCell ⟨b, 2, none⟩ (.int .i64 r.fl)) b r := by
  obtain ⟨h0, h1, h2, k0, k1, k2⟩ := h
  constructor <;> simp [go_sem, *]

theorem Stay.put {S : Nat → Prop} {w w1 : World} {b : Nat} (h : Stay S w w1) (hb : w.heap.size ≤ b) (v0 v1 v2 : Value) : Stay S w (((w1.setCell ⟨b, 0, none⟩ v0).setCell ⟨b, 1, none⟩ v1).setCell ⟨b, 2, none⟩ v2) :=
  ((h.setNew hb v0).setNew hb v1).setNew hb v2

/-- One part of a box is set. -/
theorem Box.put0 {w : World} {b : Nat} {r : Pn} (h : Box w b r) (x : Int) : Box (w.setCell ⟨b, 0, none⟩ (.int .i64 x)) b ⟨x, r.bg, r.fl⟩ := by
  obtain ⟨h0, h1, h2, k0, k1, k2⟩ := h
  constructor <;> simp [go_sem, *]

theorem Box.put1 {w : World} {b : Nat} {r : Pn} (h : Box w b r) (x : Int) : Box (w.setCell ⟨b, 1, none⟩ (.int .i64 x)) b ⟨r.fg, x, r.fl⟩ := by
  obtain ⟨h0, h1, h2, k0, k1, k2⟩ := h
  constructor <;> simp [go_sem, *]

theorem Box.put2 {w : World} {b : Nat} {r : Pn} (h : Box w b r) (x : Int) : Box (w.setCell ⟨b, 2, none⟩ (.int .i64 x)) b ⟨r.fg, r.bg, x⟩ := by
  obtain ⟨h0, h1, h2, k0, k1, k2⟩ := h
  constructor <;> simp [go_sem, *]

theorem run_load_box {a : Act} {o : Oper} {x : Operand} {w : World} {b : Nat} {r : Pn} (ho : o.op = .load 23 x) (hx : a.eval x = .pointer (some ⟨b, 0, none⟩)) (hb : Box w b r) :
    (execOp a.eval o).run Try.prog w = .ok (.value (.agg #[.int .i64 r.fg, .int .i64 r.bg, .int .i64 r.fl])) w := by
  unfold execOp
  simp only [ho, hx, Instr.loadAt, Instr.sureAddr, Sem.run_bind, Sem.run_pure, Result.andThen_ok]
  rw [run_loadVar_cells w b 0 23 _ _ hb.cells Try.underlying23 rfl (by kernel_rfl)]
  rfl

theorem run_load_int {a : Act} {o : Oper} {x : Operand} {w : World} {p : Addr} {n : Int} (ho : o.op = .load 3 x) (hx : a.eval x = .pointer (some p)) (hc : w.cell? p = some (.int .i64 n)) :
    (execOp a.eval o).run Try.prog w = .ok (.value (.int .i64 n)) w := by
  unfold execOp
  simp only [ho, hx]
  go_simp

theorem right9 (r : Pn) (w : World) : Calls Try.prog 9 #[.agg #[.int .i64 r.fg, .int .i64 r.bg, .int .i64 r.fl]] w (Gives (.bool (rightB r)) w) := by
  have HS := hide' ((Stay.refl (fun _ => False) w).alloc (.cells #[.int .i64 r.fg, .int .i64 r.bg, .int .i64 r.fl] 23))
  have HB := hide' (Box.new (w := w) r rfl)
  obtain ⟨c0, c1, c2, _⟩ := HB.out
  have H1 := hide' (rightColour17 r.fg)
  have H2 := hide' (rightColour17 r.bg)
  unfold rightB
  obtain ⟨b1, hb1⟩ : ∃ b, b = colB r.fg := ⟨_, rfl⟩
  obtain ⟨b2, hb2⟩ : ∃ b, b = colB r.bg := ⟨_, rfl⟩
  rw [← hb1] at H1 ⊢
  rw [← hb2] at H2 ⊢
  clear hb1 hb2
  have H3 := hide' (within20_at r.fl 0 255 (decide (0 ≤ r.fl) && decide (r.fl ≤ 255)) rfl)
  obtain ⟨b3, hb3⟩ : ∃ b, b = (decide (0 ≤ r.fl) && decide (r.fl ≤ 255)) := ⟨_, rfl⟩
  rw [← hb3] at H3 ⊢
  clear hb3
  cases b1
  · go_enter Try.func9, Try.ntmps9
    go_wp2_with fail
    refine (H1.out _).mono ?_
    rintro e w' ⟨rfl, rfl⟩
    go_wp2
    go_ret
    exact ⟨ret_bool (by simp [*]), HS.out⟩
  cases b2
  · go_enter Try.func9, Try.ntmps9
    go_wp2_with fail
    refine (H1.out _).mono ?_
    rintro e w' ⟨rfl, rfl⟩
    go_wp2_with fail
    refine (H2.out _).mono ?_
    rintro e w' ⟨rfl, rfl⟩
    go_wp2
    go_ret
    exact ⟨ret_bool (by simp [*]), HS.out⟩
  · go_enter Try.func9, Try.ntmps9
    go_wp2_with fail
    refine (H1.out _).mono ?_
    rintro e w' ⟨rfl, rfl⟩
    go_wp2_with fail
    refine (H2.out _).mono ?_
    rintro e w' ⟨rfl, rfl⟩
    go_wp2_with fail
    refine (H3.out _).mono ?_
    rintro e w' ⟨rfl, rfl⟩
    go_wp2
    go_ret
    exact ⟨ret_bool (by simp [*]), HS.out⟩

theorem right10 (r : Pn) (w : World) : Calls Try.prog 10 #[.agg #[.int .i64 r.fg, .int .i64 r.bg, .int .i64 r.fl]] w (Gives (.bool (rightB r)) w) := by
  have HS := hide' ((Stay.refl (fun _ => False) w).alloc (.cells #[.int .i64 r.fg, .int .i64 r.bg, .int .i64 r.fl] 23))
  have HB := hide' (Box.new (w := w) r rfl)
  obtain ⟨c0, c1, c2, _⟩ := HB.out
  have H1 := hide' (right21 r.fg)
  have H2 := hide' (right21 r.bg)
  unfold rightB
  obtain ⟨b1, hb1⟩ : ∃ b, b = colB r.fg := ⟨_, rfl⟩
  obtain ⟨b2, hb2⟩ : ∃ b, b = colB r.bg := ⟨_, rfl⟩
  rw [← hb1] at H1 ⊢
  rw [← hb2] at H2 ⊢
  clear hb1 hb2
  cases b1
  · go_enter Try.func10, Try.ntmps10
    go_wp2_with fail
    refine (H1.out _).mono ?_
    rintro e w' ⟨rfl, rfl⟩
    go_wp2
    go_ret
    exact ⟨ret_bool (by simp [*]), HS.out⟩
  cases b2
  · go_enter Try.func10, Try.ntmps10
    go_wp2_with fail
    refine (H1.out _).mono ?_
    rintro e w' ⟨rfl, rfl⟩
    go_wp2_with fail
    refine (H2.out _).mono ?_
    rintro e w' ⟨rfl, rfl⟩
    go_wp2
    go_ret
    exact ⟨ret_bool (by simp [*]), HS.out⟩
  by_cases h1 : 0 ≤ r.fl
  · have d1 : decide (0 ≤ r.fl) = true := by simpa using h1
    clear h1
    go_enter Try.func10, Try.ntmps10
    go_wp2_with fail
    refine (H1.out _).mono ?_
    rintro e w' ⟨rfl, rfl⟩
    go_wp2_with fail
    refine (H2.out _).mono ?_
    rintro e w' ⟨rfl, rfl⟩
    go_wp2
    go_ret
    exact ⟨ret_bool (by simp [*]), HS.out⟩
  
  · have d1 : decide (0 ≤ r.fl) = false := by simpa using h1
    clear h1
    go_enter Try.func10, Try.ntmps10
    go_wp2_with fail
    refine (H1.out _).mono ?_
    rintro e w' ⟨rfl, rfl⟩
    go_wp2_with fail
    refine (H2.out _).mono ?_
    rintro e w' ⟨rfl, rfl⟩
    go_wp2
    go_ret
    exact ⟨ret_bool (by simp [*]), HS.out⟩

set_option maxHeartbeats 2000000 in
theorem value25 (n : Int) (w : World) : Calls Try.prog 25 #[.int .i64 n] w (Gives (.int .i64 (val n)) w) := by
  have HS := hide' ((Stay.refl (fun _ => False) w).alloc (.cells #[.int .i64 0, .int .i64 1, .int .i64 2, .int .i64 4, .int .i64 8, .int .i64 16, .int .i64 0, .int .i64 32, .int .i64 64, .int .i64 128] 3))
  by_cases h : 0 ≤ n ∧ n ≤ 9
  · have hn : n = 0 ∨ n = 1 ∨ n = 2 ∨ n = 3 ∨ n = 4 ∨ n = 5 ∨ n = 6 ∨ n = 7 ∨ n = 8 ∨ n = 9 := by omega
    clear h
    rcases hn with rfl | rfl | rfl | rfl | rfl | rfl | rfl | rfl | rfl | rfl
    all_goals
      go_enter Try.func25, Try.ntmps25
      go_wp2
      go_ret
      exact ⟨ret_int (by decide), HS.out⟩
  · have HV : Hid (val n = 0) := val_off (by omega)
    obtain ⟨v, hv⟩ : ∃ v, v = val n := ⟨_, rfl⟩
    rw [← hv] at HV ⊢
    clear hv
    by_cases h1 : n < 0
    · have d1 : decide (n < 0) = true := by simpa using h1
      clear h h1
      go_enter Try.func25, Try.ntmps25
      go_wp2
      go_ret
      exact ⟨ret_int HV.out.symm, HS.out⟩
    · have d1 : decide (n < 0) = false := by simpa using h1
      have d2 : decide (9 < n) = true := by simp; omega
      clear h h1
      go_enter Try.func25, Try.ntmps25
      go_wp2
      go_ret
      exact ⟨ret_int HV.out.symm, HS.out⟩

end Go.Proofs.Ytinikpadbocfaaa
