/-
  A line that comes in at the plain setting, and what is shown of it: plain; rows of rows beside a pair. No conditions.
-/
import Derived.Test.YtjfhmpjpdcckhaaE2
namespace Go.Proofs.Ytjfhmpjpdcckhaa
open Go.RowKit
open L17 L18

theorem enter_13 (L : List Int) (Ls : List (List Int)) (e : List Int) : (pd 623 L Ls false e).input 13 = (pd 623 L Ls false e).input 10 := by
  have hx : (pd 623 L Ls false e).nxt = false := rfl
  have h1 : mapI (pd 623 L Ls false e).t.fi 13 = 10 := by show mapI 84 13 = 10; decide
  have h2 : mapI (pd 623 L Ls false e).t.fi 10 = 10 := by show mapI 84 10 = 10; decide
  unfold DS.input
  simp only
  simp only [hx, Bool.false_eq_true, if_false, h1, h2]

theorem wr_plain (d : DS) (hd : d.t.fo = 3) (col : Int) (q : List Int) (a b c : Int) (h0 : 0 ≤ col) (h1 : col ≤ 1000) (c0 : 32 ≤ c) (c1 : c ≤ 126) : Pq.wr ⟨d, col, q, a, b⟩ c = ([c], col + 1) := by
  unfold Pq.wr
  rw [show (⟨d, col, q, a, b⟩ : Pq).d.t.fo = 3 from hd, L19.plc_id h0 (by show col ≤ _; omega), L19.addM_plain _ _ _ c0 c1]

theorem wr_enter (d : DS) (hd : d.t.fo = 3) (col : Int) (q : List Int) (a b : Int) : Pq.wr ⟨d, col, q, a, b⟩ 10 = ([13, 10], 0) := by
  unfold Pq.wr
  rw [show (⟨d, col, q, a, b⟩ : Pq).d.t.fo = 3 from hd, show L19.cnt 3 = 3 from by decide]
  unfold L19.addM
  rw [if_neg (by omega), if_pos (by omega), show L19.has 3 2 = true by decide]
  rfl

theorem come_typed (L : List Int) (Ls : List (List Int)) (e : List Int) (col : Int) (q : List Int) (a b c : Int) (h0 : 0 ≤ col) (h1 : col ≤ 1000) (c0 : 32 ≤ c) (c1 : c ≤ 126) (hl : L.length < 254) (hq : q.length + 1 ≤ 4096) :
    Pq.come ⟨pd 623 L Ls false e, col, q, a, b⟩ c = ⟨pd 623 (L ++ [c]) Ls false [c], col + 1, q ++ [c], a, b⟩ := by
  have hi := type_pd 623 fl_623 L Ls e c c0 (by omega) hl
  unfold Pq.come
  rw [show (⟨pd 623 L Ls false e, col, q, a, b⟩ : Pq).d = pd 623 L Ls false e from rfl, hi]
  show Pq.put ⟨pd 623 (L ++ [c]) Ls false [c], col, q, a, b⟩ c = _
  have hw := wr_plain (pd 623 (L ++ [c]) Ls false [c]) rfl col q a b c h0 h1 c0 c1
  have hk : Pq.ok ⟨pd 623 (L ++ [c]) Ls false [c], col, q, a, b⟩ c = true := by
    unfold Pq.ok
    rw [hw]
    exact decide_eq_true (show q.length + 1 ≤ 4096 from hq)
  unfold Pq.put
  rw [if_pos hk, hw]

theorem come_enter (L : List Int) (Ls : List (List Int)) (e : List Int) (col : Int) (q : List Int) (a b : Int) (hl : L.length < 254) (hs : Ls.flatten.length + L.length + 1 ≤ 1024) (hq : q.length + 2 ≤ 4096) :
    Pq.come ⟨pd 623 L Ls false e, col, q, a, b⟩ 13 = ⟨pd 623 [] (Ls ++ [L ++ [10]]) false [10], 0, q ++ [13, 10], a, b⟩ := by
  have hi := newline_pd 623 fl_623 L Ls e hl hs
  rw [← enter_13] at hi
  unfold Pq.come
  rw [show (⟨pd 623 L Ls false e, col, q, a, b⟩ : Pq).d = pd 623 L Ls false e from rfl, hi]
  show Pq.put ⟨pd 623 [] (Ls ++ [L ++ [10]]) false [10], col, q, a, b⟩ 10 = _
  have hw := wr_enter (pd 623 [] (Ls ++ [L ++ [10]]) false [10]) rfl col q a b
  have hk : Pq.ok ⟨pd 623 [] (Ls ++ [L ++ [10]]) false [10], col, q, a, b⟩ 10 = true := by
    unfold Pq.ok
    rw [hw]
    exact decide_eq_true (show q.length + 2 ≤ 4096 from hq)
  unfold Pq.put
  rw [if_pos hk, hw]

/-- A line comes in. -/
theorem line_feed : ∀ (l L : List Int) (Ls : List (List Int)) (e : List Int) (col : Int) (q : List Int) (a b : Int), (∀ c ∈ l, 32 ≤ c ∧ c ≤ 126) → L.length + l.length ≤ 200 → Ls.flatten.length + L.length + l.length + 1 ≤ 1024 → 0 ≤ col → col + l.length ≤ 1000 → q.length + l.length + 2 ≤ 4096 →
    Pq.Calm (l ++ [13]) ⟨pd 623 L Ls false e, col, q, a, b⟩ ∧ Pq.feed (l ++ [13]) ⟨pd 623 L Ls false e, col, q, a, b⟩ = ⟨pd 623 [] (Ls ++ [L ++ l ++ [10]]) false [10], 0, q ++ (l ++ [13, 10]), a, b⟩ := by
  intro l
  induction l with
  | nil =>
    intro L Ls e col q a b _ hl hs _ _ hq
    simp only [List.length_nil] at hl hs hq
    have h := come_enter L Ls e col q a b (by omega) (by omega) (by omega)
    have hi := newline_pd 623 fl_623 L Ls e (by omega) (by omega)
    rw [← enter_13] at hi
    refine ⟨⟨?_, trivial⟩, ?_⟩
    · rw [show (⟨pd 623 L Ls false e, col, q, a, b⟩ : Pq).d = pd 623 L Ls false e from rfl, hi]
      exact ⟨rfl, rfl⟩
    · rw [List.nil_append, feed_cons, h, List.append_nil]
      rfl
  | cons c l ih =>
    intro L Ls e col q a b hp hl hs h0 h1 hq
    rw [List.length_cons] at hl hs h1 hq
    have hc := hp c List.mem_cons_self
    have h := come_typed L Ls e col q a b c h0 (by omega) hc.1 hc.2 (by omega) (by omega)
    have hi := type_pd 623 fl_623 L Ls e c hc.1 (by omega) (by omega)
    obtain ⟨i1, i2⟩ := ih (L ++ [c]) Ls [c] (col + 1) (q ++ [c]) a b (fun x hx => hp x (List.mem_cons_of_mem _ hx)) (by rw [List.length_append, List.length_singleton]; omega) (by rw [List.length_append, List.length_singleton]; omega) (by omega) (by omega) (by rw [List.length_append, List.length_singleton]; omega)
    rw [List.cons_append, calm_cons, feed_cons, h, i2]
    refine ⟨⟨?_, i1⟩, by simp⟩
    rw [show (⟨pd 623 L Ls false e, col, q, a, b⟩ : Pq).d = pd 623 L Ls false e from rfl, hi]
    exact ⟨rfl, rfl⟩

/-- The lines that are read; what is shown of them. -/
def rowsOf (LS : List (List Int)) : List (List Int) := LS.map (fun x => x.map ltr ++ [10])
def wantOf (LS : List (List Int)) : List Int := (LS.map (fun x => x.map ltr ++ [13, 10])).flatten

theorem rows_step (L : List (List Int)) (i : Nat) (h : i < L.length) : rowsOf (L.take (i + 1)) = rowsOf (L.take i) ++ [(L.getD i []).map ltr ++ [10]] := by
  unfold rowsOf
  rw [List.take_add_one, List.getElem?_eq_getElem h, List.map_append, List.getD_eq_getElem?_getD, List.getElem?_eq_getElem h]
  rfl

theorem want_step (L : List (List Int)) (i : Nat) (h : i < L.length) : wantOf (L.take (i + 1)) = wantOf (L.take i) ++ ((L.getD i []).map ltr ++ [13, 10]) := by
  unfold wantOf
  rw [List.take_add_one, List.getElem?_eq_getElem h, List.map_append, List.flatten_append, List.getD_eq_getElem?_getD, List.getElem?_eq_getElem h]
  simp

theorem rows_len : ∀ (L : List (List Int)), (∀ l ∈ L, l.length ≤ 30) → (rowsOf L).flatten.length ≤ 31 * L.length
  | [], _ => by simp [rowsOf]
  | l :: L, h => by
    have h1 := h l (by simp)
    have h2 := rows_len L (fun x hx => h x (by simp [hx]))
    show ((l.map ltr ++ [10]) :: rowsOf L).flatten.length ≤ _
    simp only [List.flatten_cons, List.length_append, List.length_cons, List.length_nil, List.length_map]
    omega

theorem want_len : ∀ (L : List (List Int)), (∀ l ∈ L, l.length ≤ 30) → (wantOf L).length ≤ 32 * L.length
  | [], _ => by simp [wantOf]
  | l :: L, h => by
    have h1 := h l (by simp)
    have h2 := want_len L (fun x hx => h x (by simp [hx]))
    show ((l.map ltr ++ [13, 10]) ++ wantOf L).length ≤ _
    simp only [List.length_append, List.length_cons, List.length_nil, List.length_map]
    omega

theorem want_more : ∀ (L : List (List Int)), 2 * L.length ≤ (wantOf L).length
  | [] => by simp [wantOf]
  | l :: L => by
    have h2 := want_more L
    show _ ≤ ((l.map ltr ++ [13, 10]) ++ wantOf L).length
    simp only [List.length_append, List.length_cons, List.length_nil, List.length_map]
    omega

theorem rows_count (L : List (List Int)) : (rowsOf L).length = L.length := by unfold rowsOf; rw [List.length_map]

theorem rows_drop (L : List (List Int)) (i : Nat) (h : i < L.length) : (rowsOf L).drop i = (rowsOf L).getD i [] :: (rowsOf L).drop (i + 1) := getD_drop (rowsOf L) i (by rw [rows_count]; exact h)

theorem rows_get (L : List (List Int)) (i : Nat) (h : i < L.length) : (rowsOf L).getD i [] = (L.getD i []).map ltr ++ [10] := by
  unfold rowsOf
  rw [List.getD_eq_getElem?_getD, List.getElem?_map, List.getD_eq_getElem?_getD, List.getElem?_eq_getElem h]
  rfl

theorem infoL2 : (Try.prog.info? 22).map (fun i => (i.zero, i.size, i.bytes)) = some (some (.slice none 0 0), 1, 24) := by kernel_rfl

/-- A pair, lines that were laid down, and bytes that were. -/
structure LR (w0 wr : World) (g p : Nat) (U : Nat → Prop) (s : Pq) (VS : List Value) (R : List (List Int)) (vl vw : Value) (Q : List Int) : Prop where
  own : Own w0 wr g p U s
  len : VS.length = R.length
  ln : wr.ownsRow w0.heap.size 22 1 vl VS.length VS
  one : ∀ u ∈ VS, u.oneCell' = true
  rows : ∀ j, j < R.length → BR wr (VS.getD j undef) (R.getD j [])
  rf : ∀ j, j < R.length → ∀ k, (VS.getD j undef).ownBlock = some k → k < wr.heap.size ∧ ¬ U k ∧ vl.ownBlock ≠ some k ∧ vw.ownBlock ≠ some k
  wn : Mine w0.heap.size wr vw Q
  wu : ∀ k, vw.ownBlock = some k → ¬ U k
  lu : ∀ k, vl.ownBlock = some k → ¬ U k
  wl : ∀ k, vw.ownBlock = some k → vl.ownBlock ≠ some k

section
variable {w0 w w1 : World} {g p : Nat} {U U' : Nat → Prop} {s s' : Pq} {VS : List Value} {R : List (List Int)} {vl vw : Value} {Q : List Int}

theorem LR.step (h : LR w0 w g p U s VS R vl vw Q) (ho : Own w0 w1 g p U' s') (hs : Stay U w w1) (hg : Grown U U' w) : LR w0 w1 g p U' s' VS R vl vw Q := by
  have old : ∀ k, k < w.heap.size → ¬ U k → ¬ U' k := fun k hk hn hu => by
    rcases hg k hu with e | e
    · exact hn e
    · omega
  exact ⟨ho, h.len, hs.owns h.ln h.lu, h.one, fun j hj => (h.rows j hj).stay hs (fun _ k hk => (h.rf j hj k hk).2.1), fun j hj k hk => ⟨Nat.lt_of_lt_of_le (h.rf j hj k hk).1 hs.size, old k (h.rf j hj k hk).1 (h.rf j hj k hk).2.1, (h.rf j hj k hk).2.2⟩, h.wn.stay hs h.wu, fun k hk => old k (h.wn.lt k hk).2 (h.wu k hk), fun k hk => old k (h.ln.lt k hk).2 (h.lu k hk), h.wl⟩

theorem LR.calm (h : LR w0 w g p U s VS R vl vw Q) (hs : Stay (fun _ => False) w w1) : LR w0 w1 g p U s VS R vl vw Q :=
  h.step (h.own.keep hs) (hs.mono (fun _ _ h => h.elim)) (fun _ hk => .inl hk)

/-- The bytes have grown. -/
theorem LR.addW (h : LR w0 w g p U s VS R vl vw Q) {v : Value} {Z : List Int} (hm : Mine w0.heap.size w1 v Z) (hs : Stay (fun k => vw.ownBlock = some k) w w1) (hb : v.ownBlock = vw.ownBlock ∨ v.ownBlock = some w.heap.size) : LR w0 w1 g p U s VS R vl v Z := by
  refine ⟨⟨h.own.at_.stay hs (fun k hu hk => h.wu k hk hu), h.own.stay.trans2 hs (fun j hj e => by have := (h.wn.lt j e).1; omega), h.own.new⟩, h.len, hs.owns h.ln (fun k hk hx => h.wl k hx hk), h.one, fun j hj => (h.rows j hj).stay hs (fun _ k hk hx => (h.rf j hj k hk).2.2.2 hx), fun j hj k hk => ⟨Nat.lt_of_lt_of_le (h.rf j hj k hk).1 hs.size, (h.rf j hj k hk).2.1, (h.rf j hj k hk).2.2.1, fun e => ?_⟩, hm, fun k hk => ?_, h.lu, fun k hk => ?_⟩
  · rcases hb with hb | hb
    · rw [hb] at e; exact (h.rf j hj k hk).2.2.2 e
    · rw [hb] at e; cases e; exact absurd (h.rf j hj _ hk).1 (Nat.lt_irrefl _)
  · rcases hb with hb | hb
    · exact h.wu k (hb ▸ hk)
    · rw [hb] at hk; cases hk
      exact fun hu => absurd (h.own.at_.lt _ hu) (Nat.lt_irrefl _)
  · rcases hb with hb | hb
    · exact h.wl k (hb ▸ hk)
    · rw [hb] at hk; cases hk
      exact fun hu => absurd (h.ln.lt _ hu).2 (Nat.lt_irrefl _)

/-- A line more. -/
theorem LR.addL (h : LR w0 w g p U s VS R vl vw Q) {v u : Value} {r : List Int} (hm : w1.ownsRow w0.heap.size 22 1 v (VS.length + 1) (VS ++ [u])) (hs : Stay (fun k => vl.ownBlock = some k) w w1) (hb : v.ownBlock = vl.ownBlock ∨ v.ownBlock = some w.heap.size)
    (h1 : u.oneCell' = true) (hr : BR w u r) (hf : ∀ k, u.ownBlock = some k → k < w.heap.size ∧ ¬ U k ∧ vl.ownBlock ≠ some k ∧ vw.ownBlock ≠ some k) : LR w0 w1 g p U s (VS ++ [u]) (R ++ [r]) v vw Q := by
  have hlen : (VS ++ [u]).length = VS.length + 1 := by rw [List.length_append, List.length_singleton]
  have gl : ∀ j, j < (R ++ [r]).length → (j < R.length ∧ (VS ++ [u]).getD j undef = VS.getD j undef ∧ (R ++ [r]).getD j [] = R.getD j []) ∨ ((VS ++ [u]).getD j undef = u ∧ (R ++ [r]).getD j [] = r) := fun j hj => by
    rw [List.length_append, List.length_singleton] at hj
    by_cases hlt : j < R.length
    · left
      refine ⟨hlt, ?_, ?_⟩
      · rw [List.getD_eq_getElem?_getD, List.getElem?_append_left (by rw [h.len]; exact hlt), ← List.getD_eq_getElem?_getD]
      · rw [List.getD_eq_getElem?_getD, List.getElem?_append_left hlt, ← List.getD_eq_getElem?_getD]
    · right
      have e1 : j = R.length := by omega
      have e2 : j = VS.length := by rw [h.len]; exact e1
      refine ⟨?_, ?_⟩
      · rw [e2, List.getD_eq_getElem?_getD, List.getElem?_append_right (Nat.le_refl _)]; simp
      · rw [e1, List.getD_eq_getElem?_getD, List.getElem?_append_right (Nat.le_refl _)]; simp
  have nv : ∀ k, k < w.heap.size → vl.ownBlock ≠ some k → v.ownBlock ≠ some k := fun k hk hn e => by
    rcases hb with hb | hb
    · rw [hb] at e; exact hn e
    · rw [hb] at e; cases e; exact absurd hk (Nat.lt_irrefl _)
  refine ⟨⟨h.own.at_.stay hs (fun k hu hk => h.lu k hk hu), h.own.stay.trans2 hs (fun j hj e => by have := (h.ln.lt j e).1; omega), h.own.new⟩, ?_, ?_, ?_, ?_, ?_, h.wn.stay hs (fun k hk hx => h.wl k hk hx), h.wu, fun k hk => ?_, fun k hk => ?_⟩
  · rw [hlen, List.length_append, List.length_singleton, h.len]
  · rw [hlen]; exact hm
  · intro y hy
    rcases List.mem_append.1 hy with hy | hy
    · exact h.one y hy
    · rw [List.mem_singleton] at hy; rw [hy]; exact h1
  · intro j hj
    rcases gl j hj with ⟨e0, e1, e2⟩ | ⟨e1, e2⟩
    · rw [e1, e2]; exact (h.rows j e0).stay hs (fun _ k hk hx => (h.rf j e0 k hk).2.2.1 hx)
    · rw [e1, e2]; exact hr.stay hs (fun _ k hk hx => (hf k hk).2.2.1 hx)
  · intro j hj k hk
    rcases gl j hj with ⟨e0, e1, _⟩ | ⟨e1, _⟩
    · rw [e1] at hk
      obtain ⟨z1, z2, z3, z4⟩ := h.rf j e0 k hk
      exact ⟨Nat.lt_of_lt_of_le z1 hs.size, z2, nv k z1 z3, z4⟩
    · rw [e1] at hk
      obtain ⟨z1, z2, z3, z4⟩ := hf k hk
      exact ⟨Nat.lt_of_lt_of_le z1 hs.size, z2, nv k z1 z3, z4⟩
  · rcases hb with hb | hb
    · exact h.lu k (hb ▸ hk)
    · rw [hb] at hk; cases hk
      exact fun hu => absurd (h.own.at_.lt _ hu) (Nat.lt_irrefl _)
  · exact nv k (h.wn.lt k hk).2 (h.wl k hk)

/-- A line, to be read. -/
theorem LR.cell (h : LR w0 w g p U s VS R vl vw Q) (i : Nat) (hi : i < R.length) : ∃ b c, vl = .slice (some ⟨b, 0, none⟩) R.length c ∧ w.cell? ⟨b, 0 + i, none⟩ = some (VS.getD i undef) := by
  rcases h.ln.2 with ⟨_, h0⟩ | ⟨b, cap, cur, e, _⟩
  · have := h.len; omega
  · refine ⟨b, cap, by rw [e, h.len], ?_⟩
    have hv : VS[i]? = some (VS.getD i undef) := by rw [List.getD_eq_getElem?_getD, List.getElem?_eq_getElem (by rw [h.len]; exact hi)]; rfl
    have h1 := h.ln.cells (g := b) (by rw [e]; rfl) i _ hv
    rwa [addr_add] at h1

theorem LR.shape (h : LR w0 w g p U s VS R vl vw Q) : ∃ a c, vl = .slice a R.length c := by
  obtain ⟨a, c, e, _⟩ := ownsRow_shape h.ln
  exact ⟨a, c, by rw [e, h.len]⟩
end

end Go.Proofs.Ytjfhmpjpdcckhaa
