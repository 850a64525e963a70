/-
  A byte comes in; what the master writes: walked. No conditions.
-/
import Derived.Test.YtjfhmpjpdcckhaaC1
import Derived.BigQuiet
import Derived.Lib.MinMax
import Derived.Deep.CutBlock
namespace Go.Proofs.Ytjfhmpjpdcckhaa
open Go.RowKit
open L17 L18

theorem take_snoc (S : List Int) (i : Nat) (h : i < S.length) : S.take (i + 1) = S.take i ++ [S.getD i 0] := by
  rw [List.take_add_one, List.getD_eq_getElem?_getD, List.getElem?_eq_getElem h]
  rfl

/-- Bytes that can be read, and lie apart from a pair. -/
structure Free (w : World) (U : Nat → Prop) (v : Value) (l : List Int) : Prop where
  br : BR w v l
  fr : l ≠ [] → ∀ k, v.ownBlock = some k → ¬ U k

theorem Free.keep {w w1 : World} {U : Nat → Prop} {v : Value} {l : List Int} (h : Free w U v l) (hs : Stay (fun _ => False) w w1) : Free w1 U v l := ⟨h.br.keep hs, h.fr⟩

theorem L18.BR.stay {w w1 : World} {S : Nat → Prop} {v : Value} {l : List Int} (h : BR w v l) (hs : Stay S w w1) (hn : l ≠ [] → ∀ k, v.ownBlock = some k → ¬ S k) : BR w1 v l := by
  obtain ⟨a, cap, h⟩ := h
  by_cases hl : l = []
  · subst hl
    exact ⟨a, cap, h.shape, fun e => absurd rfl e, h.nilCap, h.lenLe, h.capLe, h.wf⟩
  · have e := h.shape
    exact ⟨a, cap, h.stay hs (fun b off ha hS => hn hl b (by rw [e, ha]; rfl) hS)⟩

theorem L18.BR.lt {w : World} {v : Value} {l : List Int} (h : BR w v l) (hne : l ≠ []) : ∀ k, v.ownBlock = some k → k < w.heap.size := by
  intro k hk
  obtain ⟨a, cap, h⟩ := h
  obtain ⟨b, off, e, hb, _⟩ := h.cells hne
  rw [h.shape, e] at hk
  cases hk
  exact hb

/-- The pair has turned: what lies apart still does. -/
theorem Free.step {w w1 : World} {U U' : Nat → Prop} {v : Value} {l : List Int} (h : Free w U v l) (hs : Stay U w w1) (hg : Grown U U' w) : Free w1 U' v l :=
  ⟨h.br.stay hs h.fr, fun hne k hk hu => by
    rcases hg k hu with e | e
    · exact h.fr hne k hk e
    · have := h.br.lt hne k hk
      omega⟩

theorem Free.byte {w : World} {U : Nat → Prop} {a : Option Addr} {n cap : Nat} {l : List Int} (h : Free w U (.slice a n cap) l) (hn : n = l.length) (k : Nat) (hk : k < n) : ∃ g o, a = some ⟨g, o, none⟩ ∧ w.cell? ⟨g, o + k, none⟩ = some (.int .u8 (l.getD k 0)) ∧ 0 ≤ l.getD k 0 ∧ l.getD k 0 < 256 := by
  subst hn
  obtain ⟨a', cap', hi⟩ := h.br
  have e := hi.shape
  have e1 : a = a' ∧ cap = cap' := by cases e; exact ⟨rfl, rfl⟩
  obtain ⟨rfl, rfl⟩ := e1
  exact iarg_byte hi (Stay.refl _ _) k hk

theorem Free.len {w : World} {U : Nat → Prop} {v : Value} {l : List Int} (h : Free w U v l) : (l.length : Int) ≤ 9223372036854775807 := by
  obtain ⟨a, cap, hi⟩ := h.br
  have h1 := hi.lenLe
  have h2 := hi.capLe
  unfold maxLen at h2
  omega

section
variable {w : World} {g p : Nat} {U : Nat → Prop} {s : Pq}

def InQ (p : Nat) (O : Nat → Prop) (d' : DS) (w : World) (e : Ending) (w' : World) : Prop :=
  ∃ v O', e = .returned (.tuple #[v, .int .i64 0]) ∧ BR w' v d'.ec ∧ At w' p O' d' ∧ Stay O w w' ∧ Grown O O' w ∧ ∀ j, v.ownBlock = some j → (O j ∨ w.heap.size ≤ j) ∧ ¬ O' j

theorem in_calm {O : Nat → Prop} {d : DS} {N : Nat} (c : Int) (h : At w p O d) (hO : Ok N d) (hN : N ≤ 50000) (hc0 : 0 ≤ c) (hc1 : c < 256) (hsg : (d.input c).2 = 0) : Calls Try.prog 27 #[.pointer (some ⟨p, 0, none⟩), .int .u8 c] w (InQ p O (d.input c).1 w) := by
  have h1 := a_input c h hO (by omega) hc0 hc1
  unfold InP at h1
  rw [hsg] at h1
  exact h1

set_option maxRecDepth 100000 in
set_option maxHeartbeats 2000000 in
theorem come19 {N : Nat} (c : Int) (h : PAt w g p U s) (hO : Ok N s.d) (hN : N ≤ 50000) (hq : s.q.length ≤ 4096) (hc0 : 0 ≤ c) (hc1 : c < 256) (hsg : (s.d.input c).2 = 0) (hp0 : s.d.stp = false) (hp1 : (s.d.input c).1.stp = false) :
    Calls Try.prog 19 #[.pointer (some ⟨g, 0, none⟩), .int .u8 c] w (TurnQ g p U (s.come c) (.int .i64 0) w) := by
  obtain ⟨O, v, hb, hU, _⟩ := h
  have HI := hide' (fun w' (hs : Stay (fun _ => False) w w') => in_calm c (hb.dat.keep hs (fun _ h => h.elim)) hO hN hc0 hc1 hsg)
  have HT : Hid (∀ w', Stay (fun _ => False) w w' → Calls Try.prog 20 #[.pointer (some ⟨p, 0, none⟩)] w' (Gives (.bool false) w')) := fun w' hs => by rw [← hp0]; exact a_stopped (hb.dat.keep hs (fun _ h => h.elim))
  obtain ⟨d', hd'⟩ : ∃ X, X = (s.d.input c).1 := ⟨_, rfl⟩
  have HCM : Hid (s.come c = Pq.puts d'.ec (s.setD d')) := by rw [hd']; rfl
  rw [← hd'] at HI hp1
  have HP1 := hide' hp1
  have HB := hide' hb
  have HU := hide' hU
  have HQ := hide' hq
  obtain ⟨s', hs'⟩ : ∃ X, X = s.come c := ⟨_, rfl⟩
  rw [← hs'] at HCM ⊢
  have c0 := hb.box.c0
  simp only at c0
  clear hb hU hO hN hq hc0 hc1 hsg hp0 hp1 hd' hs'
  have HS0 := hide' (Stay.refl (fun _ => False) w)
  go_enter Try.func19, Try.ntmps19
  go_wp2_with fail
  refine (HT.out _ HS0.out).mono ?_
  rintro e w1 ⟨rfl, hs⟩
  have HS1 := hide' (HS0.out.trans hs)
  clear hs c0 HT
  have c0 := (HB.out.keep HS1.out).box.c0
  simp only at c0
  go_wp2_with fail
  refine (HI.out _ HS1.out).mono ?_
  rintro e w2 ⟨vs, O', rfl, hbr, hat, hs, hg, hfr⟩
  obtain ⟨va, vc, hvs⟩ := hbr.shape
  obtain ⟨n, hn⟩ : ∃ n, n = d'.ec.length := ⟨_, rfl⟩
  rw [← hn] at hvs
  subst hvs
  have HN := hide' hn
  have HB2 := hide' ((HB.out.keep HS1.out).disc hat hs hg)
  have HFR : Hid (Free w2 (PU g O' v) (.slice va n vc) d'.ec) := ⟨hbr, fun _ k hk hu => by
    have h1 := hfr k hk
    rcases hu with rfl | hu | hu
    · rcases h1.1 with e | e
      · exact HB.out.gO e
      · have := HB.out.box.lt; have := HS1.out.size; omega
    · exact h1.2 hu
    · rcases h1.1 with e | e
      · exact HB.out.vO k hu e
      · have := HB.out.win.lt k hu; have := HS1.out.size; omega⟩
  have HF2 : Hid (From w U w2 (PU g O' v)) := ⟨(HS1.out.mono (T := U) (fun _ _ h => h.elim)).trans (hs.mono (fun k _ hk => HU.out k (.inr (.inl hk)))), fun k hk => by
    rcases PB.disc_grown HU.out hg k hk with e | e
    · exact .inl e
    · exact .inr (Nat.le_trans HS1.out.size e)⟩
  have hnz := HFR.out.len
  rw [← hn] at hnz
  clear hbr hat hs hg hfr hn HI c0
  go_wp2
  go_loopg [26] n (fun gg v6 wr => ∃ j : Nat, j ≤ n ∧ gg = n - j ∧ v6 = .int .i64 (j : Int) ∧ ∃ U' : Nat → Prop, Hid (PAt wr g p U' (Pq.puts (d'.ec.take j) (s.setD d')) ∧ From w U wr U' ∧ Free wr U' (.slice va n vc) d'.ec))
  case atStart => exact ⟨0, Nat.zero_le _, rfl, rfl, PU g O' v, ⟨O', v, HB2.out, fun _ h => h, HB2.out.lt⟩, HF2.out, HFR.out⟩
  case round =>
    clear HB2 HF2 HFR
    obtain ⟨j, hj, rfl, rfl, U', HRL⟩ := hrel
    obtain ⟨w3, hw3⟩ : ∃ W, W = wr := ⟨_, rfl⟩
    rw [← hw3] at HRL ⊢
    clear hw3
    by_cases hlt : j < n
    · have kj : decide ((j : Int) < n) = true := by simp; omega
      have kj2 : (j : Int) < n := by omega
      obtain ⟨gb, ob, eb, hby, y0, y1⟩ := HRL.out.2.2.byte HN.out j hlt
      subst eb
      have HTS := hide' (take_snoc d'.ec j (by rw [← HN.out]; exact hlt))
      obtain ⟨y, hy⟩ : ∃ y, y = d'.ec.getD j 0 := ⟨_, rfl⟩
      rw [← hy] at hby y0 y1 HTS
      have HPU := hide' (put21 y HRL.out.1 (Pq.puts_len _ (s := s.setD d') HQ.out) y0 y1)
      clear hy y0 y1
      go_wp2_with fail
      refine HPU.out.mono ?_
      rintro e w4 ⟨U2, rfl, hat, hs, hg⟩
      have HA4 : Hid (PAt w4 g p U2 (Pq.puts (d'.ec.take (j + 1)) (s.setD d'))) := by rw [HTS.out, Pq.puts_append]; exact hat
      have HF4 := hide' (HRL.out.2.1.step hs hg)
      have HR4 := hide' (HRL.out.2.2.step hs hg)
      clear hat hs hg HPU HRL HTS hby
      go_wp2
      go_roundg (n - (j + 1))
      case measure => omega
      case rel => exact ⟨j + 1, by omega, rfl, by go_num, U2, HA4.out, HF4.out, HR4.out⟩
    · have kj : decide ((j : Int) < n) = false := by simp; omega
      have hjn : j = n := by omega
      have HA3 : Hid (PAt w3 g p U' s') := by
        have h := HRL.out.1
        rw [List.take_of_length_le (by rw [← HN.out]; omega)] at h
        rw [HCM.out]; exact h
      have HF3 := hide' HRL.out.2.1
      have HD3 : Hid (s'.d.stp = false) := by rw [HCM.out, Pq.puts_d]; exact HP1.out
      clear HRL hjn
      obtain ⟨O3, v3, hb3, hU3, _⟩ := HA3.out
      have HT3 : Hid (Calls Try.prog 20 #[.pointer (some ⟨p, 0, none⟩)] w3 (Gives (.bool false) w3)) := by rw [← HD3.out]; exact a_stopped hb3.dat
      have c0 := hb3.box.c0
      simp only at c0
      clear hb3 hU3
      go_wp2_with fail
      refine HT3.out.mono ?_
      rintro e w4 ⟨rfl, hs⟩
      have HA4 := hide' (HA3.out.keep hs)
      have HF4 := hide' (HF3.out.calm hs)
      clear hs HT3 HA3 HF3 c0
      go_wp2
      go_returns
      exact ⟨U', rfl, HA4.out, HF4.out.stay, HF4.out.own⟩

/-- What the master may write without a signal: step by step. -/
theorem calm_cons (c : Int) (l : List Int) (s : Pq) : Pq.Calm (c :: l) s = (((s.d.input c).2 = 0 ∧ (s.d.input c).1.stp = false) ∧ Pq.Calm l (s.come c)) := rfl

theorem feed_cons (c : Int) (l : List Int) (s : Pq) : Pq.feed (c :: l) s = Pq.feed l (s.come c) := rfl

theorem calm_at : ∀ (l : List Int) (s : Pq) (j : Nat), Pq.Calm l s → s.d.stp = false → j < l.length → (Pq.feed (l.take j) s).d.stp = false ∧ ((Pq.feed (l.take j) s).d.input (l.getD j 0)).2 = 0 ∧ ((Pq.feed (l.take j) s).d.input (l.getD j 0)).1.stp = false := by
  intro l
  induction l with
  | nil => intro s j _ _ hj; simp at hj
  | cons c l ih =>
    intro s j h hp hj
    rw [calm_cons] at h
    cases j with
    | zero =>
      rw [List.take_zero, List.getD_cons_zero]
      exact ⟨hp, h.1⟩
    | succ j =>
      rw [List.take_succ_cons, List.getD_cons_succ, feed_cons]
      exact ih (s.come c) j h.2 (by rw [Pq.come_d]; exact h.1.2) (by simpa using hj)

theorem feed_ok : ∀ (l : List Int) {s : Pq} {N : Nat}, Ok N s.d → Ok (N + l.length) (Pq.feed l s).d
  | [], _, _, h => h
  | c :: l, s, N, h => by
    have h1 := feed_ok l (s := s.come c) (N := N + 1) (by rw [Pq.come_d]; exact h.input c)
    rw [List.length_cons, show N + (l.length + 1) = N + 1 + l.length by omega]
    exact h1

theorem feed_len : ∀ (l : List Int) {s : Pq}, s.q.length ≤ 4096 → (Pq.feed l s).q.length ≤ 4096
  | [], _, h => h
  | c :: l, _s, h => feed_len l (Pq.come_len h c)

set_option maxRecDepth 100000 in
set_option maxHeartbeats 2000000 in
theorem mwrite8 {N n vc : Nat} {va : Option Addr} (l : List Int) (h : PAt w g p U s) (hF : Free w U (.slice va n vc) l) (hn : n = l.length) (hO : Ok N s.d) (hN : N + n ≤ 50000) (hq : s.q.length ≤ 4096) (hC : Pq.Calm l s) (hp : s.d.stp = false) :
    Calls Try.prog 8 #[.pointer (some ⟨g, 0, none⟩), .slice va n vc] w (TurnQ g p U (Pq.feed l s) (.tuple #[.int .i64 (n : Nat), .slice none 0 0, .int .i64 0]) w) := by
  have HP := hide' h
  have HFR := hide' hF
  have HN := hide' hn
  have HO := hide' hO
  have HNN := hide' hN
  have HQ := hide' hq
  have HC := hide' hC
  have HPP := hide' hp
  have hnz := hF.len
  rw [← hn] at hnz
  have HS0 := hide' (Stay.refl (fun _ => False) w)
  have HEN : Hid (∀ w', Stay (fun _ => False) w w' → Calls Try.prog 17 #[.pointer (some ⟨g, 0, none⟩)] w' (Gives (.tuple #[.bool true, .bool true]) w')) := fun w' hs => ends17 (HP.out.keep hs)
  have HMY := hide' mayWrite18
  clear h hF hn hO hN hq hC hp
  go_enter Try.func8, Try.ntmps8
  go_wp2_with fail
  refine (HEN.out _ HS0.out).mono ?_
  rintro e w1 ⟨rfl, hs⟩
  have HS1 := hide' (HS0.out.trans hs)
  clear hs HEN
  go_wp2_with fail
  refine (HMY.out _).mono ?_
  rintro e w2 ⟨rfl, hs⟩
  have HS2 := hide' (HS1.out.trans hs)
  have HP2 := hide' (HP.out.keep HS2.out)
  have HF2 := hide' (HFR.out.keep HS2.out)
  have HM2 := hide' ((From.refl w U).calm HS2.out)
  clear hs HMY HP HFR HS0 HS1
  go_wp2
  go_loopg [5, 26] n (fun gg v5 v6 wr => ∃ j : Nat, j ≤ n ∧ gg = n - j ∧ v5 = .slice none 0 0 ∧ v6 = .int .i64 (j : Int) ∧ ∃ U' : Nat → Prop, Hid (PAt wr g p U' (Pq.feed (l.take j) s) ∧ From w U wr U' ∧ Free wr U' (.slice va n vc) l))
  case atStart => exact ⟨0, Nat.zero_le _, rfl, rfl, rfl, U, HP2.out, HM2.out, HF2.out⟩
  case round =>
    clear HP2 HM2 HF2
    obtain ⟨j, hj, rfl, rfl, rfl, U', HRL⟩ := hrel
    obtain ⟨w3, hw3⟩ : ∃ W, W = wr := ⟨_, rfl⟩
    rw [← hw3] at HRL ⊢
    clear hw3
    by_cases hlt : j < n
    · have kj : decide ((j : Int) < n) = true := by simp; omega
      have kj2 : (j : Int) < n := by omega
      obtain ⟨gb, ob, eb, hby, y0, y1⟩ := HRL.out.2.2.byte HN.out j hlt
      subst eb
      have hjl : j < l.length := by rw [← HN.out]; exact hlt
      have HTS := hide' (take_snoc l j hjl)
      obtain ⟨z0, z1, z2⟩ := calm_at l s j HC.out HPP.out hjl
      obtain ⟨y, hy⟩ : ∃ y, y = l.getD j 0 := ⟨_, rfl⟩
      rw [← hy] at hby y0 y1 HTS z1 z2
      have hok := feed_ok (l.take j) HO.out
      have HPU := hide' (come19 y HRL.out.1 hok (by rw [List.length_take]; have := HNN.out; have := HN.out; omega) (feed_len _ HQ.out) y0 y1 z1 z0 z2)
      clear hy y0 y1 z0 z1 z2 hok hjl
      go_wp2_with fail
      refine HPU.out.mono ?_
      rintro e w4 ⟨U2, rfl, hat, hs, hg⟩
      have HA4 : Hid (PAt w4 g p U2 (Pq.feed (l.take (j + 1)) s)) := by rw [HTS.out, Pq.feed_append]; exact hat
      have HF4 := hide' (HRL.out.2.1.step hs hg)
      have HR4 := hide' (HRL.out.2.2.step hs hg)
      clear hat hs hg HPU HRL HTS hby
      go_wp2
      go_roundg (n - (j + 1))
      case measure => omega
      case rel => exact ⟨j + 1, by omega, rfl, rfl, by go_num, U2, HA4.out, HF4.out, HR4.out⟩
    · have kj : decide ((j : Int) < n) = false := by simp; omega
      have HA3 : Hid (PAt w3 g p U' (Pq.feed l s)) := by
        have h := HRL.out.1
        rw [List.take_of_length_le (by rw [← HN.out]; omega)] at h
        exact h
      have HF3 := hide' HRL.out.2.1
      clear HRL
      go_wp2
      go_returns
      exact ⟨U', rfl, HA3.out, HF3.out.stay, HF3.out.own⟩

end

end Go.Proofs.Ytjfhmpjpdcckhaa
