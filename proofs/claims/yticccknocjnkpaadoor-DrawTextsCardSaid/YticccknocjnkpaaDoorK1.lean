/-
  Texts as cells, plain; a pen in a box; bytes of a string. No conditions.
-/
import Derived.Test.YticccknocjnkpaaDoorGF
import Derived.Test.YticccknocjnkpaaDoorE4
import Derived.Test.YticccknocjnkpaaDoorUK
import Derived.Test.YticccknocjnkpaaDoorME
import Derived.Laws.IdiomStrings
import Derived.Lib.Strings
namespace Go.Proofs.YticccknocjnkpaaDoor
open Go.RowKit

/-- Pe, as a value. -/
structure Pe where
  fg : Int
  bg : Int
  fl : Int

theorem Pe.same {a0 a1 a2 : _} {r : Pe} (h : r.fg = a0 ∧ r.bg = a1 ∧ r.fl = a2) : r = ⟨a0, a1, a2⟩ := by
  obtain ⟨rfl, rfl, rfl⟩ := h
  rfl

theorem Pe.ret {a b : Pe} (h : a = b) : Ending.returned (.agg #[.int .i64 a.fg, .int .i64 a.bg, .int .i64 a.fl]) = .returned (.agg #[.int .i64 b.fg, .int .i64 b.bg, .int .i64 b.fl]) := by rw [h]

/-- A box that holds a Pe. -/
structure PeBox (w : World) (b : Nat) (r : Pe) : Prop where
  c0 : w.cell? ⟨b, 0, none⟩ = some (.int .i64 r.fg)
  c1 : w.cell? ⟨b, 1, none⟩ = some (.int .i64 r.bg)
  c2 : w.cell? ⟨b, 2, none⟩ = some (.int .i64 r.fl)
  f0 : w.frozen? ⟨b, 0, none⟩ = false
  f1 : w.frozen? ⟨b, 1, none⟩ = false
  f2 : w.frozen? ⟨b, 2, none⟩ = false

theorem PeBox.lt {w : World} {b : Nat} {r : Pe} (h : PeBox w b r) : b < w.heap.size := World.block_lt_of_cell? _ _ h.c0

theorem PeBox.stay {T : Nat → Prop} {W w1 : World} {b : Nat} {r : Pe} (h : PeBox W b r) (hs : Stay T W w1) (hn : ¬ T b) : PeBox w1 b r := by
  have hb : b < W.heap.size := h.lt
  have c : ∀ o, w1.cell? ⟨b, o, none⟩ = W.cell? ⟨b, o, none⟩ := fun o => hs.cell (p := ⟨b, o, none⟩) hb hn
  have f : ∀ o, w1.frozen? ⟨b, o, none⟩ = W.frozen? ⟨b, o, none⟩ := fun o => hs.frozen (p := ⟨b, o, none⟩) hb hn
  exact ⟨(c 0).trans h.c0, (c 1).trans h.c1, (c 2).trans h.c2, (f 0).trans h.f0, (f 1).trans h.f1, (f 2).trans h.f2⟩

theorem PeBox.keep {W w1 : World} {b : Nat} {r : Pe} (h : PeBox W b r) (hs : Stay (fun _ => False) W w1) : PeBox w1 b r := h.stay hs (fun h => h)

theorem PeBox.alloc {w : World} {b : Nat} {r : Pe} (h : PeBox w b r) (o : Obj) : PeBox (w.alloc o) b r := h.keep ((Stay.refl _ _).alloc o)

theorem PeBox.new {w : World} {b : Nat} (r : Pe) (h : w.heap.size = b) : PeBox (w.alloc (.cells #[.int .i64 r.fg, .int .i64 r.bg, .int .i64 r.fl] 23)) b r := by
  subst h
  constructor <;> simp

theorem PeBox.cells {w : World} {b : Nat} {r : Pe} (h : PeBox w b r) : ∀ (j : Nat) (v : Value), [Value.int .i64 r.fg, .int .i64 r.bg, .int .i64 r.fl][j]? = some v → w.cell? ⟨b, 0 + j, none⟩ = some v := by
  intro j v hj
  match j, hj with
  | 0, hj => cases hj; exact h.c0
  | 1, hj => cases hj; exact h.c1
  | 2, hj => cases hj; exact h.c2

theorem results_PeBox {fn : Func} {p : Tmp} (h : fn.results = #[.cell p 23]) (tmps : Array Value) (w : World) (g : Nat) (r : Pe) (hp : tmps.getD p undef = .pointer (some ⟨g, 0, none⟩)) (hb : PeBox w g r) :
    (results fn tmps).run Tryd.prog w = .ok (.agg #[.int .i64 r.fg, .int .i64 r.bg, .int .i64 r.fl]) w := results_cells h tmps w g 0 _ _ hp hb.cells Tryd.underlying23 rfl (by kernel_rfl)

/-- What a struct is behind a call, and nothing that was there has turned. -/
theorem PeBox.ends {w W : World} {fn : Func} {p : Tmp} (h : fn.results = #[.cell p 23]) {tmps : Array Value} {r q : Pe} {g : Nat} (hp : tmps.getD p undef = .pointer (some ⟨g, 0, none⟩)) (hb : PeBox W g r) (hq : r = q) (hs : Stay (fun _ => False) w W)
    {d : List Deferred} (hd : d = []) : bodyPost Tryd.prog fn (Gives (.agg #[.int .i64 q.fg, .int .i64 q.bg, .int .i64 q.fl]) w) Exit.ret { tmps := tmps, defers := d } W := by
  subst hq hd
  exact bodyPost_ret (results_PeBox h _ _ _ r hp hb) rfl ⟨rfl, hs⟩

/-- The world in which a box holds another one. -/
theorem PeBox.put {w : World} {b : Nat} {r0 : Pe} (h : PeBox w b r0) (r : Pe) : PeBox (((w.setCell ⟨b, 0, none⟩ (.int .i64 r.fg)).setCell ⟨b, 1, none⟩ (.int .i64 r.bg)).setCell ⟨b, 2, none⟩ (.int .i64 r.fl)) b r := by
  obtain ⟨h0, h1, h2, k0, k1, k2⟩ := h
  constructor <;> simp [go_sem, *]

theorem PeBox.stay_put {S : Nat → Prop} {w w1 : World} {b : Nat} (h : Stay S w w1) (hb : w.heap.size ≤ b) (v0 v1 v2 : Value) : Stay S w (((w1.setCell ⟨b, 0, none⟩ v0).setCell ⟨b, 1, none⟩ v1).setCell ⟨b, 2, none⟩ v2) :=
  (((h.setNew hb v0).setNew hb v1).setNew hb v2)

theorem PeBox.put0 {w : World} {b : Nat} {r : Pe} (h : PeBox w b r) {x : Int} {q : Pe} (hq : q = ⟨x, r.bg, r.fl⟩) : PeBox (w.setCell ⟨b, 0, none⟩ (.int .i64 x)) b q := by
  subst hq
  obtain ⟨h0, h1, h2, k0, k1, k2⟩ := h
  constructor <;> simp [go_sem, *]

theorem PeBox.put1 {w : World} {b : Nat} {r : Pe} (h : PeBox w b r) {x : Int} {q : Pe} (hq : q = ⟨r.fg, x, r.fl⟩) : PeBox (w.setCell ⟨b, 1, none⟩ (.int .i64 x)) b q := by
  subst hq
  obtain ⟨h0, h1, h2, k0, k1, k2⟩ := h
  constructor <;> simp [go_sem, *]

theorem PeBox.put2 {w : World} {b : Nat} {r : Pe} (h : PeBox w b r) {x : Int} {q : Pe} (hq : q = ⟨r.fg, r.bg, x⟩) : PeBox (w.setCell ⟨b, 2, none⟩ (.int .i64 x)) b q := by
  subst hq
  obtain ⟨h0, h1, h2, k0, k1, k2⟩ := h
  constructor <;> simp [go_sem, *]

theorem PeBox.other {w : World} {b b' o : Nat} {r : Pe} {v : Value} (h : PeBox w b r) (hb : b' ≠ b) : PeBox (w.setCell ⟨b', o, none⟩ v) b r :=
  h.stay (T := fun k => k = b') ((Stay.refl (fun k => k = b') w).setCell (S := fun k => k = b') (p := ⟨b', o, none⟩) rfl v) (fun e => hb e.symm)

theorem run_load_PeBox {a : Act} {o : Oper} {x : Operand} {w : World} {b : Nat} {r : Pe} (ho : o.op = .load 23 x) (hx : a.eval x = .pointer (some ⟨b, 0, none⟩)) (hb : PeBox w b r) :
    (execOp a.eval o).run Tryd.prog w = .ok (.value (.agg #[.int .i64 r.fg, .int .i64 r.bg, .int .i64 r.fl])) w := by
  unfold execOp
  simp only [ho, hx, Instr.loadAt, Instr.sureAddr, Sem.run_bind, Sem.run_pure, Result.andThen_ok]
  rw [run_loadVar_cells w b 0 23 _ _ hb.cells Tryd.underlying23 rfl (by kernel_rfl)]
  rfl

/-- One in the midst of a block. -/
structure PeBoxAt (w : World) (g o : Nat) (r : Pe) : Prop where
  c0 : w.cell? ⟨g, o, none⟩ = some (.int .i64 r.fg)
  c1 : w.cell? ⟨g, o + 1, none⟩ = some (.int .i64 r.bg)
  c2 : w.cell? ⟨g, o + 2, none⟩ = some (.int .i64 r.fl)

theorem PeBoxAt.keep {W w1 : World} {g o : Nat} {r : Pe} (h : PeBoxAt W g o r) (hs : Stay (fun _ => False) W w1) : PeBoxAt w1 g o r := ⟨keep_cell hs h.c0, keep_cell hs h.c1, keep_cell hs h.c2⟩

theorem PeBoxAt.cells {w : World} {g o : Nat} {r : Pe} (h : PeBoxAt w g o r) : ∀ (j : Nat) (v : Value), [Value.int .i64 r.fg, .int .i64 r.bg, .int .i64 r.fl][j]? = some v → w.cell? ⟨g, o + j, none⟩ = some v := by
  intro j v hj
  match j, hj with
  | 0, hj => cases hj; exact h.c0
  | 1, hj => cases hj; exact h.c1
  | 2, hj => cases hj; exact h.c2

theorem run_load_PeBoxAt {a : Act} {p : Oper} {x : Operand} {w : World} {g o : Nat} {r : Pe} (ho : p.op = .load 23 x) (hx : a.eval x = .pointer (some ⟨g, o, none⟩)) (hb : PeBoxAt w g o r) :
    (execOp a.eval p).run Tryd.prog w = .ok (.value (.agg #[.int .i64 r.fg, .int .i64 r.bg, .int .i64 r.fl])) w := by
  unfold execOp
  simp only [ho, hx, Instr.loadAt, Instr.sureAddr, Sem.run_bind, Sem.run_pure, Result.andThen_ok]
  rw [run_loadVar_cells w g o 23 _ _ hb.cells Tryd.underlying23 rfl (by kernel_rfl)]
  rfl


/-- A rune's cells. -/
def txt (q : Pe) (z : Nat) : List Cl := (if 0 < Wide.wid (z : Int) then [⟨z, q.fg, q.bg, q.fl⟩] else []) ++ (if 1 < Wide.wid (z : Int) then [⟨-1, q.fg, q.bg, q.fl⟩] else [])

def txts (q : Pe) (l : List Nat) : List Cl := l.flatMap (txt q)

theorem txt_len (q : Pe) (z : Nat) : (txt q z).length ≤ 2 := by
  unfold txt
  rw [List.length_append]
  split <;> split <;> simp

theorem txts_len (q : Pe) : ∀ l : List Nat, (txts q l).length ≤ 2 * l.length
  | [] => Nat.le_refl _
  | z :: l => by
    have h1 := txt_len q z
    have h2 := txts_len q l
    show (txt q z ++ txts q l).length ≤ 2 * (l.length + 1)
    rw [List.length_append]
    omega

theorem txts_snoc (q : Pe) (l : List Nat) (k : Nat) (h : k < l.length) : txts q (l.take (k + 1)) = txts q (l.take k) ++ txt q (l.getD k 0) := by
  rw [Utf.take_snoc l k h]
  unfold txts
  rw [List.flatMap_append]
  simp

/-- The parts of cells. -/
def pixs (L : List Cl) : List Value := L.flatMap Cl.parts

theorem pixs_snoc (L : List Cl) (c : Cl) : pixs (L ++ [c]) = pixs L ++ c.parts := by
  unfold pixs
  rw [List.flatMap_append]
  simp

theorem pixs_len : ∀ L : List Cl, (pixs L).length = L.length * 4
  | [] => rfl
  | c :: L => by
    show (c.parts ++ pixs L).length = (L.length + 1) * 4
    rw [List.length_append, pixs_len L, Nat.succ_mul]
    show 4 + _ = _
    omega

theorem pixs_get : ∀ (L : List Cl) (i j : Nat) (c : Cl) (u : Value), L[i]? = some c → c.parts[j]? = some u → (pixs L)[i * 4 + j]? = some u
  | [], i, j, c, u, h, _ => by simp at h
  | d :: L, 0, j, c, u, h, hu => by
    cases h
    have hj : j < 4 := (List.getElem?_eq_some_iff.1 hu).1
    show (d.parts ++ pixs L)[0 * 4 + j]? = some u
    rw [Nat.zero_mul, Nat.zero_add, List.getElem?_append_left hj]
    exact hu
  | d :: L, i + 1, j, c, u, h, hu => by
    have ih := pixs_get L i j c u (by simpa using h) hu
    show (d.parts ++ pixs L)[(i + 1) * 4 + j]? = some u
    rw [List.getElem?_append_right (by show 4 ≤ _; omega), show (i + 1) * 4 + j - d.parts.length = i * 4 + j by show (i + 1) * 4 + j - 4 = _; omega]
    exact ih

theorem info40 : (Tryd.prog.info? 40).map (fun i => (i.zero, i.size, i.bytes)) = some (some (.agg #[.int .i32 0, .int .i64 0, .int .i64 0, .int .i64 0]), 4, 32) := by kernel_rfl

/-- While a text is made into cells. -/
structure TxI (wS wr : World) (v : Value) (L : List Cl) : Prop where
  win : Win wr 4 v L.length (pixs L)
  nl : L = [] → v = .slice none 0 0
  st : Stay (fun _ => False) wS wr
  nw : ∀ j, v.ownBlock = some j → wS.heap.size ≤ j

variable {wS wr wk wk2 : World} {v v1 : Value} {L : List Cl}

theorem TxI.begin (w : World) : TxI w w (.slice none 0 0) [] := ⟨Win.nil _ _, fun _ => rfl, Stay.refl _ _, fun j h => by cases h⟩

theorem TxI.keep (H : TxI wS wr v L) (hs : Stay (fun _ => False) wr wk) : TxI wS wk v L := ⟨H.win.stay hs (fun _ _ h => h), H.nl, H.st.trans hs, H.nw⟩

theorem TxI.app (H : TxI wS wk v L) (c : Cl) (hw : Win wk2 4 v1 (L.length + 1) (pixs L ++ c.parts)) (hsa : Stay (fun j => v.ownBlock = some j) wk wk2) (hba : v1.ownBlock = v.ownBlock ∨ v1.ownBlock = some wk.heap.size) : TxI wS wk2 v1 (L ++ [c]) := by
  refine ⟨by rw [pixs_snoc, List.length_append]; exact hw, fun e => absurd e (by simp), H.st.trans2 hsa (fun j hj e => by have := H.nw j e; omega), fun j hj => ?_⟩
  rcases hba with h | h
  · exact H.nw j (by rw [← h]; exact hj)
  · rw [hj] at h
    cases h
    exact H.st.size

theorem TxI.from_ {w : World} (H : TxI wS wr v L) (hs : Stay (fun _ => False) w wS) : TxI w wr v L := ⟨H.win, H.nl, hs.trans H.st, fun j hj => Nat.le_trans hs.size (H.nw j hj)⟩

theorem TxI.some_ (H : TxI wS wr v L) (h : L ≠ []) : ∃ g o cap, v = .slice (some ⟨g, o, none⟩) L.length cap := by
  rcases H.win.2 with ⟨_, h0⟩ | ⟨g, o, cap, e, _⟩
  · exact absurd (List.eq_nil_of_length_eq_zero h0) h
  · exact ⟨g, o, cap, e⟩

theorem newcell (w : World) (c : Cl) : ∀ ad, some (⟨w.heap.size, 0, none⟩ : Addr) = some ad → ∀ j u, c.parts[j]? = some u → (w.alloc (.cells #[.int .i32 c.r, .int .i64 c.fg, .int .i64 c.bg, .int .i64 c.fl] 40)).cell? (ad.add j) = some u := by
  intro ad e j u hu
  cases e
  rw [addr_add]
  exact (BoxC.new (w := w) c rfl).cells j u hu

/-- What a text gives. -/
def TextO (q : Pe) (l : List Nat) (w : World) (e : Ending) (w' : World) : Prop :=
  ∃ v, e = .returned v ∧ TxI w w' v (txts q l)

/-- The bytes of a string. -/
def bytesN (s : ByteArray) : List Nat := s.data.toList.map UInt8.toNat

theorem bytesN_len (s : ByteArray) : (bytesN s).length = s.size := by
  unfold bytesN
  rw [List.length_map]
  rfl

theorem bytes_made (w : World) (s : ByteArray) (cap : Nat) (fr : Nat × Nat) : Utf.Bytes (w.alloc (.cells (bytesRow s cap) 5 fr)) w.heap.size 0 (bytesN s) := by
  refine ⟨fun j hj => ?_, fun x hx => ?_⟩
  · have hj' : j < s.data.size := by rw [bytesN_len] at hj; exact hj
    rw [Nat.zero_add, World.cell?_alloc_mark, bytesRow_at s cap j hj']
    unfold bytesN
    rw [List.getD_eq_getElem?_getD, List.getElem?_map, List.getElem?_eq_getElem (by simpa using hj')]
    simp
  · unfold bytesN at hx
    obtain ⟨b, _, rfl⟩ := List.mem_map.1 hx
    exact b.toNat_lt

theorem runes_len (l : List Nat) : (Utf.runes l).length ≤ 2 * l.length + 1 := by
  unfold Utf.runes
  rw [List.length_append]
  have h1 := Utf.outP_len [] l
  have h2 := Utf.endP_len (Utf.foldP [] l)
  omega

end Go.Proofs.YticccknocjnkpaaDoor
