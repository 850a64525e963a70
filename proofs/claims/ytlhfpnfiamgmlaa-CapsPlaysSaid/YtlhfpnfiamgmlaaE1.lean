/-
  Rows of the same numbers are the same; the name that an act uses: walked. No conditions.
-/
import Derived.Test.YtlhfpnfiamgmlaaE0
namespace Go.Proofs.Ytlhfpnfiamgmlaa
open Go.RowKit

/-- Ac, as a value. -/
structure Ac where
  d : Int
  env : Int
  tw : Int
  kind : Int
  obj : Int
  rights : Int
  which : Int
  slot : Int
  gen : Int

theorem Ac.same {a0 a1 a2 a3 a4 a5 a6 a7 a8 : _} {r : Ac} (h : r.d = a0 ∧ r.env = a1 ∧ r.tw = a2 ∧ r.kind = a3 ∧ r.obj = a4 ∧ r.rights = a5 ∧ r.which = a6 ∧ r.slot = a7 ∧ r.gen = a8) : r = ⟨a0, a1, a2, a3, a4, a5, a6, a7, a8⟩ := by
  obtain ⟨rfl, rfl, rfl, rfl, rfl, rfl, rfl, rfl, rfl⟩ := h
  rfl

theorem Ac.ret {a b : Ac} (h : a = b) : Ending.returned (.agg #[.int .i64 a.d, .int .i64 a.env, .int .i64 a.tw, .int .i64 a.kind, .int .i64 a.obj, .int .i64 a.rights, .int .i64 a.which, .int .i64 a.slot, .int .i64 a.gen]) = .returned (.agg #[.int .i64 b.d, .int .i64 b.env, .int .i64 b.tw, .int .i64 b.kind, .int .i64 b.obj, .int .i64 b.rights, .int .i64 b.which, .int .i64 b.slot, .int .i64 b.gen]) := by rw [h]

/-- A box that holds a Ac. -/
structure ABox (w : World) (b : Nat) (r : Ac) : Prop where
  c0 : w.cell? ⟨b, 0, none⟩ = some (.int .i64 r.d)
  c1 : w.cell? ⟨b, 1, none⟩ = some (.int .i64 r.env)
  c2 : w.cell? ⟨b, 2, none⟩ = some (.int .i64 r.tw)
  c3 : w.cell? ⟨b, 3, none⟩ = some (.int .i64 r.kind)
  c4 : w.cell? ⟨b, 4, none⟩ = some (.int .i64 r.obj)
  c5 : w.cell? ⟨b, 5, none⟩ = some (.int .i64 r.rights)
  c6 : w.cell? ⟨b, 6, none⟩ = some (.int .i64 r.which)
  c7 : w.cell? ⟨b, 7, none⟩ = some (.int .i64 r.slot)
  c8 : w.cell? ⟨b, 8, none⟩ = some (.int .i64 r.gen)
  f0 : w.frozen? ⟨b, 0, none⟩ = false
  f1 : w.frozen? ⟨b, 1, none⟩ = false
  f2 : w.frozen? ⟨b, 2, none⟩ = false
  f3 : w.frozen? ⟨b, 3, none⟩ = false
  f4 : w.frozen? ⟨b, 4, none⟩ = false
  f5 : w.frozen? ⟨b, 5, none⟩ = false
  f6 : w.frozen? ⟨b, 6, none⟩ = false
  f7 : w.frozen? ⟨b, 7, none⟩ = false
  f8 : w.frozen? ⟨b, 8, none⟩ = false

theorem ABox.lt {w : World} {b : Nat} {r : Ac} (h : ABox w b r) : b < w.heap.size := World.block_lt_of_cell? _ _ h.c0

theorem ABox.stay {T : Nat → Prop} {W w1 : World} {b : Nat} {r : Ac} (h : ABox W b r) (hs : Stay T W w1) (hn : ¬ T b) : ABox w1 b r := by
  have hb : b < W.heap.size := h.lt
  have c : ∀ o, w1.cell? ⟨b, o, none⟩ = W.cell? ⟨b, o, none⟩ := fun o => hs.cell (p := ⟨b, o, none⟩) hb hn
  have f : ∀ o, w1.frozen? ⟨b, o, none⟩ = W.frozen? ⟨b, o, none⟩ := fun o => hs.frozen (p := ⟨b, o, none⟩) hb hn
  exact ⟨(c 0).trans h.c0, (c 1).trans h.c1, (c 2).trans h.c2, (c 3).trans h.c3, (c 4).trans h.c4, (c 5).trans h.c5, (c 6).trans h.c6, (c 7).trans h.c7, (c 8).trans h.c8, (f 0).trans h.f0, (f 1).trans h.f1, (f 2).trans h.f2, (f 3).trans h.f3, (f 4).trans h.f4, (f 5).trans h.f5, (f 6).trans h.f6, (f 7).trans h.f7, (f 8).trans h.f8⟩

theorem ABox.keep {W w1 : World} {b : Nat} {r : Ac} (h : ABox W b r) (hs : Stay (fun _ => False) W w1) : ABox w1 b r := h.stay hs (fun h => h)

theorem ABox.alloc {w : World} {b : Nat} {r : Ac} (h : ABox w b r) (o : Obj) : ABox (w.alloc o) b r := h.keep ((Stay.refl _ _).alloc o)

theorem ABox.new {w : World} {b : Nat} (r : Ac) (h : w.heap.size = b) : ABox (w.alloc (.cells #[.int .i64 r.d, .int .i64 r.env, .int .i64 r.tw, .int .i64 r.kind, .int .i64 r.obj, .int .i64 r.rights, .int .i64 r.which, .int .i64 r.slot, .int .i64 r.gen] 32)) b r := by
  subst h
  constructor <;> simp

theorem ABox.cells {w : World} {b : Nat} {r : Ac} (h : ABox w b r) : ∀ (j : Nat) (v : Value), [Value.int .i64 r.d, .int .i64 r.env, .int .i64 r.tw, .int .i64 r.kind, .int .i64 r.obj, .int .i64 r.rights, .int .i64 r.which, .int .i64 r.slot, .int .i64 r.gen][j]? = some v → w.cell? ⟨b, 0 + j, none⟩ = some v := by
  intro j v hj
  match j, hj with
  | 0, hj => cases hj; exact h.c0
  | 1, hj => cases hj; exact h.c1
  | 2, hj => cases hj; exact h.c2
  | 3, hj => cases hj; exact h.c3
  | 4, hj => cases hj; exact h.c4
  | 5, hj => cases hj; exact h.c5
  | 6, hj => cases hj; exact h.c6
  | 7, hj => cases hj; exact h.c7
  | 8, hj => cases hj; exact h.c8

theorem results_ABox {fn : Func} {p : Tmp} (h : fn.results = #[.cell p 32]) (tmps : Array Value) (w : World) (g : Nat) (r : Ac) (hp : tmps.getD p undef = .pointer (some ⟨g, 0, none⟩)) (hb : ABox w g r) :
    (results fn tmps).run Try.prog w = .ok (.agg #[.int .i64 r.d, .int .i64 r.env, .int .i64 r.tw, .int .i64 r.kind, .int .i64 r.obj, .int .i64 r.rights, .int .i64 r.which, .int .i64 r.slot, .int .i64 r.gen]) w := results_cells h tmps w g 0 _ _ hp hb.cells Try.underlying32 rfl (by kernel_rfl)

/-- What a struct is behind a call, and nothing that was there has turned. -/
theorem ABox.ends {w W : World} {fn : Func} {p : Tmp} (h : fn.results = #[.cell p 32]) {tmps : Array Value} {r q : Ac} {g : Nat} (hp : tmps.getD p undef = .pointer (some ⟨g, 0, none⟩)) (hb : ABox W g r) (hq : r = q) (hs : Stay (fun _ => False) w W)
    {d : List Deferred} (hd : d = []) : bodyPost Try.prog fn (Gives (.agg #[.int .i64 q.d, .int .i64 q.env, .int .i64 q.tw, .int .i64 q.kind, .int .i64 q.obj, .int .i64 q.rights, .int .i64 q.which, .int .i64 q.slot, .int .i64 q.gen]) w) Exit.ret { tmps := tmps, defers := d } W := by
  subst hq hd
  exact bodyPost_ret (results_ABox h _ _ _ r hp hb) rfl ⟨rfl, hs⟩

/-- The world in which a box holds another one. -/
theorem ABox.put {w : World} {b : Nat} {r0 : Ac} (h : ABox w b r0) (r : Ac) : ABox (((((((((w.setCell ⟨b, 0, none⟩ (.int .i64 r.d)).setCell ⟨b, 1, none⟩ (.int .i64 r.env)).setCell ⟨b, 2, none⟩ (.int .i64 r.tw)).setCell ⟨b, 3, none⟩ (.int .i64 r.kind)).setCell ⟨b, 4, none⟩ (.int .i64 r.obj)).setCell ⟨b, 5, none⟩ (.int .i64 r.rights)).setCell ⟨b, 6, none⟩ (.int .i64 r.which)).setCell ⟨b, 7, none⟩ (.int .i64 r.slot)).setCell ⟨b, 8, none⟩ (.int .i64 r.gen)) b r := by
  obtain ⟨h0, h1, h2, h3, h4, h5, h6, h7, h8, k0, k1, k2, k3, k4, k5, k6, k7, k8⟩ := h
  constructor <;> simp [go_sem, *]

theorem ABox.stay_put {S : Nat → Prop} {w w1 : World} {b : Nat} (h : Stay S w w1) (hb : w.heap.size ≤ b) (v0 v1 v2 v3 v4 v5 v6 v7 v8 : Value) : Stay S w (((((((((w1.setCell ⟨b, 0, none⟩ v0).setCell ⟨b, 1, none⟩ v1).setCell ⟨b, 2, none⟩ v2).setCell ⟨b, 3, none⟩ v3).setCell ⟨b, 4, none⟩ v4).setCell ⟨b, 5, none⟩ v5).setCell ⟨b, 6, none⟩ v6).setCell ⟨b, 7, none⟩ v7).setCell ⟨b, 8, none⟩ v8) :=
  (((((((((h.setNew hb v0).setNew hb v1).setNew hb v2).setNew hb v3).setNew hb v4).setNew hb v5).setNew hb v6).setNew hb v7).setNew hb v8)

theorem ABox.put0 {w : World} {b : Nat} {r : Ac} (h : ABox w b r) {x : Int} {q : Ac} (hq : q = ⟨x, r.env, r.tw, r.kind, r.obj, r.rights, r.which, r.slot, r.gen⟩) : ABox (w.setCell ⟨b, 0, none⟩ (.int .i64 x)) b q := by
  subst hq
  obtain ⟨h0, h1, h2, h3, h4, h5, h6, h7, h8, k0, k1, k2, k3, k4, k5, k6, k7, k8⟩ := h
  constructor <;> simp [go_sem, *]

theorem ABox.put1 {w : World} {b : Nat} {r : Ac} (h : ABox w b r) {x : Int} {q : Ac} (hq : q = ⟨r.d, x, r.tw, r.kind, r.obj, r.rights, r.which, r.slot, r.gen⟩) : ABox (w.setCell ⟨b, 1, none⟩ (.int .i64 x)) b q := by
  subst hq
  obtain ⟨h0, h1, h2, h3, h4, h5, h6, h7, h8, k0, k1, k2, k3, k4, k5, k6, k7, k8⟩ := h
  constructor <;> simp [go_sem, *]

theorem ABox.put2 {w : World} {b : Nat} {r : Ac} (h : ABox w b r) {x : Int} {q : Ac} (hq : q = ⟨r.d, r.env, x, r.kind, r.obj, r.rights, r.which, r.slot, r.gen⟩) : ABox (w.setCell ⟨b, 2, none⟩ (.int .i64 x)) b q := by
  subst hq
  obtain ⟨h0, h1, h2, h3, h4, h5, h6, h7, h8, k0, k1, k2, k3, k4, k5, k6, k7, k8⟩ := h
  constructor <;> simp [go_sem, *]

theorem ABox.put3 {w : World} {b : Nat} {r : Ac} (h : ABox w b r) {x : Int} {q : Ac} (hq : q = ⟨r.d, r.env, r.tw, x, r.obj, r.rights, r.which, r.slot, r.gen⟩) : ABox (w.setCell ⟨b, 3, none⟩ (.int .i64 x)) b q := by
  subst hq
  obtain ⟨h0, h1, h2, h3, h4, h5, h6, h7, h8, k0, k1, k2, k3, k4, k5, k6, k7, k8⟩ := h
  constructor <;> simp [go_sem, *]

theorem ABox.put4 {w : World} {b : Nat} {r : Ac} (h : ABox w b r) {x : Int} {q : Ac} (hq : q = ⟨r.d, r.env, r.tw, r.kind, x, r.rights, r.which, r.slot, r.gen⟩) : ABox (w.setCell ⟨b, 4, none⟩ (.int .i64 x)) b q := by
  subst hq
  obtain ⟨h0, h1, h2, h3, h4, h5, h6, h7, h8, k0, k1, k2, k3, k4, k5, k6, k7, k8⟩ := h
  constructor <;> simp [go_sem, *]

theorem ABox.put5 {w : World} {b : Nat} {r : Ac} (h : ABox w b r) {x : Int} {q : Ac} (hq : q = ⟨r.d, r.env, r.tw, r.kind, r.obj, x, r.which, r.slot, r.gen⟩) : ABox (w.setCell ⟨b, 5, none⟩ (.int .i64 x)) b q := by
  subst hq
  obtain ⟨h0, h1, h2, h3, h4, h5, h6, h7, h8, k0, k1, k2, k3, k4, k5, k6, k7, k8⟩ := h
  constructor <;> simp [go_sem, *]

theorem ABox.put6 {w : World} {b : Nat} {r : Ac} (h : ABox w b r) {x : Int} {q : Ac} (hq : q = ⟨r.d, r.env, r.tw, r.kind, r.obj, r.rights, x, r.slot, r.gen⟩) : ABox (w.setCell ⟨b, 6, none⟩ (.int .i64 x)) b q := by
  subst hq
  obtain ⟨h0, h1, h2, h3, h4, h5, h6, h7, h8, k0, k1, k2, k3, k4, k5, k6, k7, k8⟩ := h
  constructor <;> simp [go_sem, *]

theorem ABox.put7 {w : World} {b : Nat} {r : Ac} (h : ABox w b r) {x : Int} {q : Ac} (hq : q = ⟨r.d, r.env, r.tw, r.kind, r.obj, r.rights, r.which, x, r.gen⟩) : ABox (w.setCell ⟨b, 7, none⟩ (.int .i64 x)) b q := by
  subst hq
  obtain ⟨h0, h1, h2, h3, h4, h5, h6, h7, h8, k0, k1, k2, k3, k4, k5, k6, k7, k8⟩ := h
  constructor <;> simp [go_sem, *]

theorem ABox.put8 {w : World} {b : Nat} {r : Ac} (h : ABox w b r) {x : Int} {q : Ac} (hq : q = ⟨r.d, r.env, r.tw, r.kind, r.obj, r.rights, r.which, r.slot, x⟩) : ABox (w.setCell ⟨b, 8, none⟩ (.int .i64 x)) b q := by
  subst hq
  obtain ⟨h0, h1, h2, h3, h4, h5, h6, h7, h8, k0, k1, k2, k3, k4, k5, k6, k7, k8⟩ := h
  constructor <;> simp [go_sem, *]

theorem ABox.other {w : World} {b b' o : Nat} {r : Ac} {v : Value} (h : ABox w b r) (hb : b' ≠ b) : ABox (w.setCell ⟨b', o, none⟩ v) b r :=
  h.stay (T := fun k => k = b') ((Stay.refl (fun k => k = b') w).setCell (S := fun k => k = b') (p := ⟨b', o, none⟩) rfl v) (fun e => hb e.symm)

theorem run_load_ABox {a : Act} {o : Oper} {x : Operand} {w : World} {b : Nat} {r : Ac} (ho : o.op = .load 32 x) (hx : a.eval x = .pointer (some ⟨b, 0, none⟩)) (hb : ABox w b r) :
    (execOp a.eval o).run Try.prog w = .ok (.value (.agg #[.int .i64 r.d, .int .i64 r.env, .int .i64 r.tw, .int .i64 r.kind, .int .i64 r.obj, .int .i64 r.rights, .int .i64 r.which, .int .i64 r.slot, .int .i64 r.gen])) w := by
  unfold execOp
  simp only [ho, hx, Instr.loadAt, Instr.sureAddr, Sem.run_bind, Sem.run_pure, Result.andThen_ok]
  rw [run_loadVar_cells w b 0 32 _ _ hb.cells Try.underlying32 rfl (by kernel_rfl)]
  rfl

/-- One in the midst of a block. -/
structure ABoxAt (w : World) (g o : Nat) (r : Ac) : Prop where
  c0 : w.cell? ⟨g, o, none⟩ = some (.int .i64 r.d)
  c1 : w.cell? ⟨g, o + 1, none⟩ = some (.int .i64 r.env)
  c2 : w.cell? ⟨g, o + 2, none⟩ = some (.int .i64 r.tw)
  c3 : w.cell? ⟨g, o + 3, none⟩ = some (.int .i64 r.kind)
  c4 : w.cell? ⟨g, o + 4, none⟩ = some (.int .i64 r.obj)
  c5 : w.cell? ⟨g, o + 5, none⟩ = some (.int .i64 r.rights)
  c6 : w.cell? ⟨g, o + 6, none⟩ = some (.int .i64 r.which)
  c7 : w.cell? ⟨g, o + 7, none⟩ = some (.int .i64 r.slot)
  c8 : w.cell? ⟨g, o + 8, none⟩ = some (.int .i64 r.gen)

theorem ABoxAt.keep {W w1 : World} {g o : Nat} {r : Ac} (h : ABoxAt W g o r) (hs : Stay (fun _ => False) W w1) : ABoxAt w1 g o r := ⟨keep_cell hs h.c0, keep_cell hs h.c1, keep_cell hs h.c2, keep_cell hs h.c3, keep_cell hs h.c4, keep_cell hs h.c5, keep_cell hs h.c6, keep_cell hs h.c7, keep_cell hs h.c8⟩

theorem ABoxAt.cells {w : World} {g o : Nat} {r : Ac} (h : ABoxAt w g o r) : ∀ (j : Nat) (v : Value), [Value.int .i64 r.d, .int .i64 r.env, .int .i64 r.tw, .int .i64 r.kind, .int .i64 r.obj, .int .i64 r.rights, .int .i64 r.which, .int .i64 r.slot, .int .i64 r.gen][j]? = some v → w.cell? ⟨g, o + j, none⟩ = some v := by
  intro j v hj
  match j, hj with
  | 0, hj => cases hj; exact h.c0
  | 1, hj => cases hj; exact h.c1
  | 2, hj => cases hj; exact h.c2
  | 3, hj => cases hj; exact h.c3
  | 4, hj => cases hj; exact h.c4
  | 5, hj => cases hj; exact h.c5
  | 6, hj => cases hj; exact h.c6
  | 7, hj => cases hj; exact h.c7
  | 8, hj => cases hj; exact h.c8

theorem run_load_ABoxAt {a : Act} {p : Oper} {x : Operand} {w : World} {g o : Nat} {r : Ac} (ho : p.op = .load 32 x) (hx : a.eval x = .pointer (some ⟨g, o, none⟩)) (hb : ABoxAt w g o r) :
    (execOp a.eval p).run Try.prog w = .ok (.value (.agg #[.int .i64 r.d, .int .i64 r.env, .int .i64 r.tw, .int .i64 r.kind, .int .i64 r.obj, .int .i64 r.rights, .int .i64 r.which, .int .i64 r.slot, .int .i64 r.gen])) w := by
  unfold execOp
  simp only [ho, hx, Instr.loadAt, Instr.sureAddr, Sem.run_bind, Sem.run_pure, Result.andThen_ok]
  rw [run_loadVar_cells w g o 32 _ _ hb.cells Try.underlying32 rfl (by kernel_rfl)]
  rfl

theorem same25_some (g1 o1 c1 g2 o2 c2 : Nat) (L : List Int) (w : World) (h1 : IsRowS w 1 (.slice (some ⟨g1, o1, none⟩) L.length c1) L.length (L.map (.int .i64 ·))) (h2 : IsRowS w 1 (.slice (some ⟨g2, o2, none⟩) L.length c2) L.length (L.map (.int .i64 ·))) (hl : L.length ≤ 1000) :
    Calls Try.prog 25 #[.slice (some ⟨g1, o1, none⟩) L.length c1, .slice (some ⟨g2, o2, none⟩) L.length c2] w (Gives (.bool true) w) := by
  obtain ⟨n, hn⟩ : ∃ n, n = L.length := ⟨_, rfl⟩
  have key : ∀ g o c, IsRowS w 1 (.slice (some ⟨g, o, none⟩) L.length c) L.length (L.map (.int .i64 ·)) → ∀ k (hk : k < n), w.cell? ⟨g, o + k, none⟩ = some (.int .i64 (L[k]'(by omega))) := fun g o c h k hk => by
    rcases h with ⟨h, _⟩ | ⟨ad, cc, h, _, h3⟩
    · cases h
    · cases h
      have := h3 k (.int .i64 (L[k]'(by omega))) (by rw [List.getElem?_map, List.getElem?_eq_getElem (by omega)]; rfl)
      rwa [addr_add] at this
  have HB : Hid (∀ k, k < n → ∃ x, ∀ W, Stay (fun _ => False) w W → W.cell? ⟨g1, o1 + k, none⟩ = some (.int .i64 x) ∧ W.cell? ⟨g2, o2 + k, none⟩ = some (.int .i64 x)) := fun k hk => ⟨_, fun W hs => ⟨keep_cell hs (key g1 o1 c1 h1 k hk), keep_cell hs (key g2 o2 c2 h2 k hk)⟩⟩
  have HS := hide' (Stay.refl (fun _ => False) w)
  have hmi : (n : Int) ≤ 1000 := by omega
  rw [← hn]
  clear h1 h2 hn hl key
  go_enter Try.func25, Try.ntmps25
  go_wp2
  go_loopg [5] n (fun g i wr => ∃ k : Nat, k ≤ n ∧ g = n - k ∧ i = .int .i64 (k : Int) ∧ Hid (Stay (fun _ => False) w wr))
  case atStart => exact ⟨0, Nat.zero_le _, rfl, rfl, HS⟩
  case round =>
    obtain ⟨k, hk, rfl, rfl, HSr⟩ := hrel
    by_cases hlt : k < n
    · have kn : (k : Int) < n := by omega
      obtain ⟨x, hx⟩ := HB.out k hlt
      have HX := hide' hx
      have hxx : (x != x) = false := by simp
      clear hx
      go_upto_region 6 with fail
      have hS : (fun w' => Stay (fun _ => False) w w' ∧ w'.cell? ⟨g1, o1 + k, none⟩ = some (.int .i64 x) ∧ w'.cell? ⟨g2, o2 + k, none⟩ = some (.int .i64 x)) wr.drew := ⟨HSr.out.drew, HX.out _ HSr.out.drew⟩
      refine wp_region_mix (fun w' => Stay (fun _ => False) w w' ∧ w'.cell? ⟨g1, o1 + k, none⟩ = some (.int .i64 x) ∧ w'.cell? ⟨g2, o2 + k, none⟩ = some (.int .i64 x)) [(0, true), (1, true), (2, true), (3, true), (4, true), (5, true), (6, true), (7, true), (8, true)] (by kernel_rfl) (by kernel_rfl) (fun _ d _ _ _ h => by cases d <;> exact h) hS ?_
      refine mix_begin (fun K0 hK0 => ?_)
      refine mix_take hK0 (some 17) (.move (.tmp 0)) 53 _ (by kernel_rfl) (by kernel_rfl) (fun w' hS' => by (obtain ⟨_, s1, s2⟩ := hS'; simp only [opr]; go_simp; try with_reducible rfl)) (fun K1 hK1 => ?_)
      clear hK0 K0
      simp only [Act.put, List.setIfInBounds_toArray, List.set_cons_zero, List.set_cons_succ]
      refine mix_take hK1 (some 18) (.move (.tmp 5)) 3 _ (by kernel_rfl) (by kernel_rfl) (fun w' hS' => by (obtain ⟨_, s1, s2⟩ := hS'; simp only [opr]; go_simp; try with_reducible rfl)) (fun K2 hK2 => ?_)
      clear hK1 K1
      simp only [Act.put, List.setIfInBounds_toArray, List.set_cons_zero, List.set_cons_succ]
      refine mix_take hK2 (some 19) (.indexAddr 53 (.tmp 17) (.tmp 18)) 0 _ (by kernel_rfl) (by kernel_rfl) (fun w' hS' => by (obtain ⟨_, s1, s2⟩ := hS'; simp only [opr]; go_simp; try with_reducible rfl)) (fun K3 hK3 => ?_)
      clear hK2 K2
      simp only [Act.put, List.setIfInBounds_toArray, List.set_cons_zero, List.set_cons_succ]
      refine mix_take hK3 (some 20) (.load 3 (.tmp 19)) 3 _ (by kernel_rfl) (by kernel_rfl) (fun w' hS' => by (obtain ⟨_, s1, s2⟩ := hS'; simp only [opr]; go_simp; try with_reducible rfl)) (fun K4 hK4 => ?_)
      clear hK3 K3
      simp only [Act.put, List.setIfInBounds_toArray, List.set_cons_zero, List.set_cons_succ]
      refine mix_take hK4 (some 21) (.move (.tmp 1)) 53 _ (by kernel_rfl) (by kernel_rfl) (fun w' hS' => by (obtain ⟨_, s1, s2⟩ := hS'; simp only [opr]; go_simp; try with_reducible rfl)) (fun K5 hK5 => ?_)
      clear hK4 K4
      simp only [Act.put, List.setIfInBounds_toArray, List.set_cons_zero, List.set_cons_succ]
      refine mix_take hK5 (some 22) (.move (.tmp 5)) 3 _ (by kernel_rfl) (by kernel_rfl) (fun w' hS' => by (obtain ⟨_, s1, s2⟩ := hS'; simp only [opr]; go_simp; try with_reducible rfl)) (fun K6 hK6 => ?_)
      clear hK5 K5
      simp only [Act.put, List.setIfInBounds_toArray, List.set_cons_zero, List.set_cons_succ]
      refine mix_take hK6 (some 23) (.indexAddr 53 (.tmp 21) (.tmp 22)) 0 _ (by kernel_rfl) (by kernel_rfl) (fun w' hS' => by (obtain ⟨_, s1, s2⟩ := hS'; simp only [opr]; go_simp; try with_reducible rfl)) (fun K7 hK7 => ?_)
      clear hK6 K6
      simp only [Act.put, List.setIfInBounds_toArray, List.set_cons_zero, List.set_cons_succ]
      refine mix_take hK7 (some 24) (.load 3 (.tmp 23)) 3 _ (by kernel_rfl) (by kernel_rfl) (fun w' hS' => by (obtain ⟨_, s1, s2⟩ := hS'; simp only [opr]; go_simp; try with_reducible rfl)) (fun K8 hK8 => ?_)
      clear hK7 K7
      simp only [Act.put, List.setIfInBounds_toArray, List.set_cons_zero, List.set_cons_succ]
      refine mix_take hK8 (some 25) (.binOp BinOp.neq 3 (.tmp 20) (.tmp 24) 3) 4 _ (by kernel_rfl) (by kernel_rfl) (fun w' hS' => by (obtain ⟨_, s1, s2⟩ := hS'; simp only [opr]; go_simp; try with_reducible rfl)) (fun K9 hK9 => ?_)
      clear hK8 K8
      simp only [Act.put, List.setIfInBounds_toArray, List.set_cons_zero, List.set_cons_succ]
      refine hK9 _ _ (mix_nil ?_)
      clear hK9 K9
      have HS2 := hide' hS.1
      clear hS HSr HX
      go_wp2
      go_roundg (n - (k + 1))
      case rel => exact ⟨k + 1, by omega, rfl, by go_num, HS2⟩
      case measure => omega
    · have d1 : decide ((k : Int) < n) = false := by simp; omega
      go_wp2
      go_ret
      exact ⟨rfl, HSr.out⟩

theorem same25_nil (a1 a2 : Option Addr) (c1 c2 : Nat) (w : World) : Calls Try.prog 25 #[.slice a1 0 c1, .slice a2 0 c2] w (Gives (.bool true) w) := by
  have HS := hide' (Stay.refl (fun _ => False) w)
  go_enter Try.func25, Try.ntmps25
  go_wp2
  go_loopg [5] 0 (fun g i wr => g = 0 ∧ i = .int .i64 0 ∧ Hid (Stay (fun _ => False) w wr))
  case atStart => exact ⟨rfl, rfl, HS⟩
  case round =>
    obtain ⟨rfl, rfl, HSr⟩ := hrel
    go_wp2
    go_ret
    exact ⟨rfl, HSr.out⟩

/-- Names, one behind the other. -/
def nms (L : List Nm) : List Value := L.flatMap (fun p => [Value.int .i64 p.slot, .int .i64 p.gen])

theorem nms_len (L : List Nm) : (nms L).length = L.length * 2 := by
  induction L with
  | nil => rfl
  | cons p L ih =>
    show ([Value.int .i64 p.slot, .int .i64 p.gen] ++ nms L).length = (L.length + 1) * 2
    rw [List.length_append, ih]
    show 2 + L.length * 2 = _
    omega

theorem nms_append (L M : List Nm) : nms (L ++ M) = nms L ++ nms M := by
  unfold nms
  rw [List.flatMap_append]

theorem nms_one (p : Nm) : nms [p] = [Value.int .i64 p.slot, .int .i64 p.gen] := rfl

theorem nms_cells (L : List Nm) : ∀ u ∈ nms L, u.oneCell' = true := by
  intro u hu
  unfold nms at hu
  obtain ⟨p, _, hp⟩ := List.mem_flatMap.1 hu
  simp only [List.mem_cons, List.not_mem_nil, or_false] at hp
  rcases hp with rfl | rfl <;> rfl

theorem nms_get : ∀ (L : List Nm) (k : Nat) (p : Nm), L[k]? = some p → (nms L)[k * 2]? = some (.int .i64 p.slot) ∧ (nms L)[k * 2 + 1]? = some (.int .i64 p.gen)
  | q :: L, 0, p, h => by
    cases h
    exact ⟨rfl, rfl⟩
  | q :: L, k + 1, p, h => by
    have ih := nms_get L k p (by simpa using h)
    show ([Value.int .i64 q.slot, .int .i64 q.gen] ++ nms L)[(k + 1) * 2]? = _ ∧ ([Value.int .i64 q.slot, .int .i64 q.gen] ++ nms L)[(k + 1) * 2 + 1]? = _
    rw [List.getElem?_append_right (by show 2 ≤ _; omega), List.getElem?_append_right (by show 2 ≤ _; omega), ← ih.1, ← ih.2]
    exact ⟨by congr 1; show (k + 1) * 2 - 2 = _; omega, by congr 1; show (k + 1) * 2 + 1 - 2 = _; omega⟩
  | [], k, p, h => by simp at h

theorem nm_at {w : World} {g o c : Nat} {L : List Nm} {n : Nat} (h : IsRowS w 2 (.slice (some ⟨g, o, none⟩) n c) L.length (nms L)) (k : Nat) (p : Nm) (hp : L[k]? = some p) : NBoxAt w g (o + k * 2) p := by
  rcases h with ⟨h, _⟩ | ⟨ad, cc, h, _, h3⟩
  · cases h
  · cases h
    have hg := nms_get L k p hp
    have k0 := h3 (k * 2) _ hg.1
    have k1 := h3 (k * 2 + 1) _ hg.2
    rw [addr_add] at k0 k1
    exact ⟨k0, k1⟩

theorem info30 : (Try.prog.info? 30).map (fun i => (i.zero, i.size, i.bytes)) = some (some (.agg #[.int .i64 0, .int .i64 0]), 2, 16) := by kernel_rfl

/-- The name that an act uses. -/
def nameR (L : List Nm) (a : Ac) : Nm := if 0 ≤ a.which ∧ a.which < L.length then L.getD a.which.toNat ⟨0, 0⟩ else ⟨a.slot, a.gen⟩

theorem name10_none (ad : Option Addr) (n cap : Nat) (a : Ac) (w : World) (hn : ¬ (0 ≤ a.which ∧ a.which < n)) (_hnl : n ≤ 1000) : Calls Try.prog 10 #[.slice ad n cap, .agg #[.int .i64 a.d, .int .i64 a.env, .int .i64 a.tw, .int .i64 a.kind, .int .i64 a.obj, .int .i64 a.rights, .int .i64 a.which, .int .i64 a.slot, .int .i64 a.gen]] w (Gives (.agg #[.int .i64 a.slot, .int .i64 a.gen]) w) := by
  obtain ⟨W0, hW0⟩ : ∃ W, W = (w.alloc (.cells #[.int .i64 a.d, .int .i64 a.env, .int .i64 a.tw, .int .i64 a.kind, .int .i64 a.obj, .int .i64 a.rights, .int .i64 a.which, .int .i64 a.slot, .int .i64 a.gen] 32)).alloc (.cells #[.int .i64 0, .int .i64 0] 30) := ⟨_, rfl⟩
  obtain ⟨ba, hba⟩ : ∃ b, b = w.heap.size := ⟨_, rfl⟩
  obtain ⟨bn, hbn⟩ : ∃ b, b = ba + 1 := ⟨_, rfl⟩
  have hs0 : Stay (fun _ => False) w W0 := by rw [hW0]; exact ((Stay.refl _ _).alloc _).alloc _
  have HS := hide' hs0
  have HA : Hid (ABox W0 ba a) := by rw [hW0]; exact (ABox.new a hba.symm).alloc _
  have HB : Hid (NBox W0 bn ⟨0, 0⟩) := by rw [hW0]; exact NBox.new ⟨0, 0⟩ (by rw [hbn, hba]; simp)
  have HNB : Hid (bn = w.heap.size + 1) := by show bn = w.heap.size + 1; omega
  obtain ⟨q0, q1, q2, q3, q4, q5, q6, q7, q8, _⟩ := HA.out
  obtain ⟨m0, m1, m2, m3⟩ := HB.out
  simp only at m0 m1
  clear hs0
  go_enter Try.func10, Try.ntmps10
  go_upto_region 1 with fail
  rw [← hW0, ← hba, ← hbn]
  clear hW0 hba hbn
  by_cases h0 : 0 ≤ a.which
  · have h1 : ¬ a.which < (n : Nat) := fun h => hn ⟨h0, h⟩
    have d1 : decide (a.which < (n : Nat)) = false := decide_eq_false h1
    go_wp2
    exact bodyPost_ret (results_NBox rfl _ _ _ ⟨a.slot, a.gen⟩ rfl (HB.out.put ⟨a.slot, a.gen⟩)) rfl ⟨rfl, NBox.stay_put HS.out (by have := HNB.out; omega) _ _⟩
  · have d0 : decide (0 ≤ a.which) = false := decide_eq_false h0
    go_wp2
    exact bodyPost_ret (results_NBox rfl _ _ _ ⟨a.slot, a.gen⟩ rfl (HB.out.put ⟨a.slot, a.gen⟩)) rfl ⟨rfl, NBox.stay_put HS.out (by have := HNB.out; omega) _ _⟩

theorem name10_some (g o n cap k : Nat) (a : Ac) (p : Nm) (w : World) (ha : a.which = k) (hk : k < n) (_hnl : n ≤ 1000) (hp : NBoxAt w g (o + k * 2) p) : Calls Try.prog 10 #[.slice (some ⟨g, o, none⟩) n cap, .agg #[.int .i64 a.d, .int .i64 a.env, .int .i64 a.tw, .int .i64 a.kind, .int .i64 a.obj, .int .i64 a.rights, .int .i64 a.which, .int .i64 a.slot, .int .i64 a.gen]] w (Gives (.agg #[.int .i64 p.slot, .int .i64 p.gen]) w) := by
  obtain ⟨W0, hW0⟩ : ∃ W, W = (w.alloc (.cells #[.int .i64 a.d, .int .i64 a.env, .int .i64 a.tw, .int .i64 a.kind, .int .i64 a.obj, .int .i64 a.rights, .int .i64 a.which, .int .i64 a.slot, .int .i64 a.gen] 32)).alloc (.cells #[.int .i64 0, .int .i64 0] 30) := ⟨_, rfl⟩
  obtain ⟨ba, hba⟩ : ∃ b, b = w.heap.size := ⟨_, rfl⟩
  obtain ⟨bn, hbn⟩ : ∃ b, b = ba + 1 := ⟨_, rfl⟩
  have hs0 : Stay (fun _ => False) w W0 := by rw [hW0]; exact ((Stay.refl _ _).alloc _).alloc _
  have HS := hide' hs0
  have HA : Hid (ABox W0 ba a) := by rw [hW0]; exact (ABox.new a hba.symm).alloc _
  have HB : Hid (NBox W0 bn ⟨0, 0⟩) := by rw [hW0]; exact NBox.new ⟨0, 0⟩ (by rw [hbn, hba]; simp)
  have HNB : Hid (bn = w.heap.size + 1) := by show bn = w.heap.size + 1; omega
  obtain ⟨q0, q1, q2, q3, q4, q5, q6, q7, q8, _⟩ := HA.out
  obtain ⟨m0, m1, m2, m3⟩ := HB.out
  obtain ⟨p0, p1⟩ := hp.keep hs0
  simp only at m0 m1
  rw [ha] at q6
  have kn : (k : Int) < (n : Nat) := by omega
  clear hs0 hp ha
  go_enter Try.func10, Try.ntmps10
  go_upto_region 1 with fail
  rw [← hW0, ← hba, ← hbn]
  clear hW0 hba hbn
  go_wp2
  exact bodyPost_ret (results_NBox rfl _ _ _ ⟨p.slot, p.gen⟩ rfl (HB.out.put ⟨p.slot, p.gen⟩)) rfl ⟨rfl, NBox.stay_put HS.out (by have := HNB.out; omega) _ _⟩

end Go.Proofs.Ytlhfpnfiamgmlaa
