/-
  A raw pair: plain; what the master reads, whatever there is. No conditions.
-/
import Derived.Test.YtjfhmpjpdcckhaaE0
import Derived.BigQuiet
namespace Go.Proofs.Ytjfhmpjpdcckhaa
open Go.RowKit
open L17 L18

/-- The raw setting of the statement. -/
def rwT : Tm := ⟨0, 0, 0, 0, 0, 0, 0, 0, 0, 0, 0, 0, 0, 0, 0, 1, 0⟩
def rw (R e : List Int) : DS := ⟨rwT, [], [], R, false, false, e⟩

theorem has0 (f : Int) : hasB 0 f = false := by
  unfold hasB
  have : bits .and .i64 0 f = 0 := by
    show IntKind.i64.wrap ((BitVec.ofInt 64 0 &&& BitVec.ofInt 64 f).toNat : Nat) = 0
    rw [show BitVec.ofInt 64 0 = 0#64 by decide]
    simp
    decide
  rw [this]; rfl

theorem rw_right : rightB rwT = true := by decide +kernel

theorem rw_fresh : (freshQ rwT).d = rw [] [] := rfl

theorem rw_loc (R e : List Int) (f : Int) : (rw R e).loc f = false := has0 f
theorem rw_inp (R e : List Int) (f : Int) : (rw R e).inp f = false := has0 f

theorem rw_map (c : Int) : mapI 0 c = c := by
  unfold mapI low
  rw [has0, has0, has0, has0]
  simp

theorem rw_put (R e : List Int) (c : Int) (h : R.length < 1024) : (rw R e).put c = rw (R ++ [c]) e := by
  have hr : (rw R e).room c = true := by
    unfold DS.room
    rw [rw_loc]
    have : decide ((rw R e).raw.length < 1024) = true := decide_eq_true h
    rw [this]; rfl
  unfold DS.put
  rw [hr, if_pos rfl]
  have hlay : (rw R e).lay c = rw (R ++ [c]) e := by unfold DS.lay; rw [if_neg (by rw [rw_loc]; simp)]; rfl
  have hnl : (rw (R ++ [c]) e).nl c = rw (R ++ [c]) e := by unfold DS.nl; rw [if_neg (fun k => by have := k.2.1; rw [rw_loc] at this; cases this)]
  have hsh : (rw (R ++ [c]) e).shw c = rw (R ++ [c]) e := by unfold DS.shw; rw [if_neg (by rw [rw_loc]; simp)]
  rw [hlay, hnl, hsh]

theorem rw_in (R e : List Int) (c : Int) (h : R.length < 1024) (hc : 0 ≤ c) : (rw R e).input c = (rw (R ++ [c]) [], 0) := by
  have hx : (rw R e).nxt = false := rfl
  unfold DS.input
  simp only
  rw [if_neg (by rw [hx]; simp)]
  have hm2 : mapI (rw R e).t.fi c = c := rw_map c
  rw [hm2, if_neg (by omega)]
  show (rw R []).mapped c = _
  unfold DS.mapped
  rw [if_neg (fun k => by have := k.1; rw [rw_inp] at this; cases this), if_neg (fun k => by have := k.1; rw [rw_inp] at this; cases this)]
  have hsg : (rw R []).sigOf c = 3 := by unfold DS.sigOf; rw [if_pos (rw_loc _ _ _)]
  unfold DS.plainIn
  rw [hsg, if_neg (by omega), if_pos (rw_loc _ _ _), rw_put R [] c h]

/-- Raw bytes come in. -/
theorem rw_feed : ∀ (l R e : List Int) (col a b : Int) (q : List Int), R.length + l.length ≤ 1024 → (∀ c ∈ l, 0 ≤ c) →
    Pq.Calm l ⟨rw R e, col, q, a, b⟩ ∧ ∃ e', Pq.feed l ⟨rw R e, col, q, a, b⟩ = ⟨rw (R ++ l) e', col, q, a, b⟩ := by
  intro l
  induction l with
  | nil => intro R e col a b q _ _; exact ⟨trivial, e, by rw [List.append_nil]; rfl⟩
  | cons c l ih =>
    intro R e col a b q h hc
    rw [List.length_cons] at h
    have h1 := rw_in R e c (by omega) (hc c List.mem_cons_self)
    have h2 : Pq.come ⟨rw R e, col, q, a, b⟩ c = ⟨rw (R ++ [c]) [], col, q, a, b⟩ := by
      unfold Pq.come
      rw [show (⟨rw R e, col, q, a, b⟩ : Pq).d = rw R e from rfl, h1]
      rfl
    obtain ⟨h3, e', h4⟩ := ih (R ++ [c]) [] col a b q (by rw [List.length_append, List.length_singleton]; omega) (fun x hx => hc x (List.mem_cons_of_mem _ hx))
    rw [calm_cons, feed_cons, h2, h4]
    refine ⟨⟨?_, h3⟩, e', by rw [List.append_assoc]; rfl⟩
    rw [show (⟨rw R e, col, q, a, b⟩ : Pq).d = rw R e from rfl, h1]
    exact ⟨rfl, rfl⟩

/-- Raw bytes go out. -/
theorem rw_puts : ∀ (l R e : List Int) (col a b : Int) (q : List Int), q.length + l.length ≤ 4096 →
    Pq.Fits l ⟨rw R e, col, q, a, b⟩ ∧ ∃ col', Pq.puts l ⟨rw R e, col, q, a, b⟩ = ⟨rw R e, col', q ++ l, a, b⟩ := by
  intro l
  induction l with
  | nil => intro R e col a b q _; exact ⟨trivial, col, by rw [List.append_nil]; rfl⟩
  | cons c l ih =>
    intro R e col a b q h
    rw [List.length_cons] at h
    have h1 : (Pq.wr ⟨rw R e, col, q, a, b⟩ c).1 = [c] := by
      unfold Pq.wr
      rw [show (⟨rw R e, col, q, a, b⟩ : Pq).d.t.fo = 0 from rfl, show L19.cnt 0 = 0 from by decide]
      exact L19.addM_zero _ c
    have h2 : Pq.ok ⟨rw R e, col, q, a, b⟩ c = true := by
      unfold Pq.ok
      rw [h1]
      exact decide_eq_true (by show q.length + 1 ≤ 4096; omega)
    have h3 : Pq.put ⟨rw R e, col, q, a, b⟩ c = ⟨rw R e, (Pq.wr ⟨rw R e, col, q, a, b⟩ c).2, q ++ [c], a, b⟩ := by
      unfold Pq.put
      rw [if_pos h2, h1]
    obtain ⟨h4, col', h5⟩ := ih R e (Pq.wr ⟨rw R e, col, q, a, b⟩ c).2 a b (q ++ [c]) (by rw [List.length_append, List.length_singleton]; omega)
    rw [fits_cons, puts_cons, h3, h5]
    exact ⟨⟨h2, h4⟩, col', by rw [List.append_assoc]; rfl⟩

theorem rw_rd (R e : List Int) (n : Int) (hn : 1 ≤ n) : (rw R e).rd n = (R.take n.toNat, false) ∧ (rw R e).rdS n = rw (R.drop n.toNat) e := by
  exact rd_raw (rw R e) n (by omega) (rw_loc _ _ _)

theorem rw_ok (R e : List Int) (h : R.length ≤ 1024) : Ok 0 (rw R e) := ⟨rw_right, Nat.zero_le _, by show R.length ≤ 1279; omega, Nat.zero_le _, Nat.le_refl _, fun k => (by rw [rw_loc] at k; cases k), fun _ => ⟨rfl, rfl⟩⟩

/-- What the master reads, whatever there is: at most one cell that was there has turned. -/
def ReadM (g p : Nat) (U : Nat → Prop) (s' : Pq) (l : List Int) (h : Int) (w : World) (e : Ending) (w' : World) : Prop :=
  ∃ v w1 U', e = .returned (.tuple #[v, .int .i64 h]) ∧ BR w' v l ∧ (l ≠ [] → ∀ k, v.ownBlock = some k → w.heap.size ≤ k ∧ ¬ U' k) ∧ Stay (fun _ => False) w w1 ∧ (w' = w1 ∨ ∃ x, w' = w1.setCell ⟨g, 2, none⟩ x) ∧ PAt w' g p U' s' ∧ Grown U U' w

theorem mread_any {w : World} {g p : Nat} {U : Nat → Prop} {s : Pq} (n : Int) (h : PAt w g p U s) (hq : s.q.length ≤ 4096) (hn : 1 ≤ n) : Calls Try.prog 11 #[.pointer (some ⟨g, 0, none⟩), .int .i64 n] w (ReadM g p U (s.setQ (s.q.drop n.toNat)) (s.q.take n.toNat) (if s.q = [] then 12 else 0) w) := by
  by_cases hz : s.q = []
  · refine (mread11_none n h hn hz).mono ?_
    rintro e w1 ⟨rfl, hs⟩
    rw [if_pos hz]
    have e1 : s.setQ (s.q.drop n.toNat) = s := by
      rw [hz, List.drop_nil]
      obtain ⟨d, col, q, a, b⟩ := s
      cases hz
      rfl
    rw [e1, hz, List.take_nil]
    exact ⟨_, w1, U, rfl, (BRow.nil w1 ⟨0, fun _ => True, trivial⟩).br, fun e => absurd rfl e, hs, .inl rfl, h.keep hs, fun k hk => .inl hk⟩
  · refine (mread11 n h hq hn hz).mono ?_
    rintro e w2 ⟨v, w1, x, U', rfl, h1, h2, h3, h4, h5, h6⟩
    rw [if_neg hz]
    exact ⟨v, w1, U', rfl, h1, fun _ => h2, h3, .inr ⟨x, h4⟩, h5, h6⟩

/-- Bytes that were read stay, though what goes out turns. -/
theorem br_set {w w1 : World} {g p : Nat} {U : Nat → Prop} {s : Pq} {v : Value} {l : List Int} (h : BR w v l) (hp : PAt w g p U s) (hs : Stay (fun _ => False) w w1) (x : Value) : BR (w1.setCell ⟨g, 2, none⟩ x) v l := by
  obtain ⟨a, cap, hi⟩ := h
  obtain ⟨O, ov, hb, _⟩ := hp
  have hc : w1.cell? ⟨g, 2, none⟩ = some ov := (hb.keep hs).box.c2
  obtain ⟨oa, oc, hov, _⟩ := hb.win.shape
  have hi := hi.stay0 hs
  refine ⟨a, cap, hi.shape, fun hne => ?_, hi.nilCap, hi.lenLe, hi.capLe, hi.wf⟩
  obtain ⟨b, off, e, hlt, hin⟩ := hi.cells hne
  refine ⟨b, off, e, by simpa using hlt, fun j hj => ?_⟩
  have h1 := hin j hj
  have hne2 : (⟨b, off + j, none⟩ : Addr) ≠ ⟨g, 2, none⟩ := fun e2 => by
    rw [e2, hc, hov] at h1
    cases h1
  rw [← h1]
  by_cases hbg : b = g
  · subst hbg
    have hoff : off + j ≠ 2 := fun e => hne2 (by rw [e])
    simp [go_sem]
  · exact (at_g w1 g 2 x).cell (p := ⟨b, off + j, none⟩) hlt hbg

theorem Own.readM {w0 w w1 w2 : World} {g p : Nat} {U U' : Nat → Prop} {s s' : Pq} (h : Own w0 w g p U s) (hp : PAt w1 g p U' s') (hs : Stay (fun _ => False) w w2) (he : w1 = w2 ∨ ∃ x, w1 = w2.setCell ⟨g, 2, none⟩ x) (hg : Grown U U' w) : Own w0 w1 g p U' s' ∧ Stay U w w1 := by
  rcases he with he | ⟨x, he⟩
  · subst he
    exact ⟨h.step hp (hs.mono (fun _ _ h => h.elim)) hg, hs.mono (fun _ _ h => h.elim)⟩
  · exact h.read hp hs he hg

end Go.Proofs.Ytjfhmpjpdcckhaa
