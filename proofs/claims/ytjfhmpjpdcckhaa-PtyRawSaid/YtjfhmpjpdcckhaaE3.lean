/-
  PtyRaw walked: true of any arguments. No conditions.
-/
import Derived.Test.YtjfhmpjpdcckhaaE2
import Derived.BigQuiet
import Derived.Deep.Grids
import Derived.Lib.SmallJoins
namespace Go.Proofs.Ytjfhmpjpdcckhaa
open Go.RowKit
open L17 L18

attribute [local go_sem] eqlG_nil

theorem raw_long (da ua : Option Addr) (nd dc nu uc : Nat) (z : Int) (w : World) (h1 : (nd : Int) ≤ 9223372036854775807) (h2 : (nu : Int) ≤ 9223372036854775807) (h : 500 < nd ∨ 500 < nu) : Calls Try.prog 3 #[.slice da nd dc, .slice ua nu uc, .int .u8 z] w (LawTrue w) := by
  have HAW := hide' awake6
  have HS := hide' (Stay.refl (fun _ => False) w)
  have HH := hide' h
  clear h
  by_cases k : 500 < nd
  · have k1 : decide ((500 : Int) < (nd : Int)) = true := decide_eq_true (by omega)
    go_enter Try.func3, Try.ntmps3
    go_wp2_with fail
    refine (HAW.out _).mono ?_
    rintro e w1 ⟨rfl, hs⟩
    have HE := hide' (HS.out.trans hs)
    clear hs
    go_wp2
    go_ret
    exact ⟨rfl, HE.out⟩
  · have k1 : decide ((500 : Int) < (nd : Int)) = false := decide_eq_false (by omega)
    have k2 : decide ((500 : Int) < (nu : Int)) = true := decide_eq_true (by have := HH.out; omega)
    clear k
    go_enter Try.func3, Try.ntmps3
    go_wp2_with fail
    refine (HAW.out _).mono ?_
    rintro e w1 ⟨rfl, hs⟩
    have HE := hide' (HS.out.trans hs)
    clear hs
    go_wp2
    go_ret
    exact ⟨rfl, HE.out⟩

/-- A pair and two rows of one's own; a pair's call turns none of them. -/
structure TR (w0 wr : World) (g p : Nat) (U : Nat → Prop) (s : Pq) (X Y : List Int) (vx vy : Value) : Prop where
  own : Own w0 wr g p U s
  x : Mine w0.heap.size wr vx X
  y : Mine w0.heap.size wr vy Y
  xu : ∀ k, vx.ownBlock = some k → ¬ U k
  yu : ∀ k, vy.ownBlock = some k → ¬ U k
  xy : ∀ k, vx.ownBlock = some k → vy.ownBlock ≠ some k

section
variable {w0 w w1 : World} {g p : Nat} {U U' : Nat → Prop} {s s' : Pq} {X Y : List Int} {vx vy : Value}

theorem TR.step (h : TR w0 w g p U s X Y vx vy) (ho : Own w0 w1 g p U' s') (hs : Stay U w w1) (hg : Grown U U' w) : TR w0 w1 g p U' s' X Y vx vy :=
  ⟨ho, h.x.stay hs h.xu, h.y.stay hs h.yu, fun k hk hu => by
    rcases hg k hu with e | e
    · exact h.xu k hk e
    · have := (h.x.lt k hk).2; omega, fun k hk hu => by
    rcases hg k hu with e | e
    · exact h.yu k hk e
    · have := (h.y.lt k hk).2; omega, h.xy⟩

/-- The first row has grown. -/
theorem TR.addX (h : TR w0 w g p U s X Y vx vy) {v : Value} {Z : List Int} (hm : Mine w0.heap.size w1 v Z) (hs : Stay (fun k => vx.ownBlock = some k) w w1) (hb : v.ownBlock = vx.ownBlock ∨ v.ownBlock = some w.heap.size) : TR w0 w1 g p U s Z Y v vy := by
  refine ⟨⟨h.own.at_.stay hs (fun k hu hk => h.xu k hk hu), h.own.stay.trans2 hs (fun j hj e => by have := (h.x.lt j e).1; omega), h.own.new⟩, hm, h.y.stay hs (fun k hk hx => h.xy k hx hk), fun k hk => ?_, h.yu, fun k hk => ?_⟩
  · rcases hb with hb | hb
    · exact h.xu k (hb ▸ hk)
    · rw [hb] at hk
      cases hk
      exact fun hu => absurd (h.own.at_.lt _ hu) (Nat.lt_irrefl _)
  · rcases hb with hb | hb
    · exact h.xy k (hb ▸ hk)
    · rw [hb] at hk
      cases hk
      exact fun hu => absurd (h.y.lt _ hu).2 (Nat.lt_irrefl _)

theorem TR.swap (h : TR w0 w g p U s X Y vx vy) : TR w0 w g p U s Y X vy vx := ⟨h.own, h.y, h.x, h.yu, h.xu, fun k hk e => h.xy k e hk⟩

theorem TR.addY (h : TR w0 w g p U s X Y vx vy) {v : Value} {Z : List Int} (hm : Mine w0.heap.size w1 v Z) (hs : Stay (fun k => vy.ownBlock = some k) w w1) (hb : v.ownBlock = vy.ownBlock ∨ v.ownBlock = some w.heap.size) : TR w0 w1 g p U s X Z vx v := (h.swap.addX hm hs hb).swap
end

/-- A round takes as many as there are left. -/
theorem left_end (D : List Int) (m K : Nat) (hK : 1 ≤ K) : ((D.drop m).take K = []) ↔ (D.take m).length = D.length := by
  rw [List.length_take]
  constructor
  · intro h
    have h1 := congrArg List.length h
    rw [List.length_take, List.length_drop] at h1
    simp only [List.length_nil] at h1
    omega
  · intro h
    apply List.eq_nil_of_length_eq_zero
    rw [List.length_take, List.length_drop]
    omega

theorem left_code (D : List Int) (m K : Nat) (hK : 1 ≤ K) : ((if (D.drop m).take K = [] then (12 : Int) else 0) == 12) = (((D.take m).length : Int) == (D.length : Int)) := by
  by_cases h : (D.drop m).take K = []
  · have h1 := (left_end D m K hK).1 h
    rw [if_pos h, h1]
    simp
  · have h1 : ¬ (D.take m).length = D.length := fun e => h ((left_end D m K hK).2 e)
    rw [if_neg h]
    have h2 : (((D.take m).length : Int) == (D.length : Int)) = false := by simp only [beq_eq_false_iff_ne, ne_eq]; omega
    rw [h2]
    decide

theorem left_code2 (D : List Int) (m K : Nat) (hK : 1 ≤ K) : ((if D.drop m = [] then (12 : Int) else 0) == 12) = (((D.take m).length : Int) == (D.length : Int)) := by
  rw [← left_code D m K hK]
  have h : (D.drop m = []) ↔ ((D.drop m).take K = []) := by
    constructor
    · intro h; rw [h, List.take_nil]
    · intro h
      apply List.eq_nil_of_length_eq_zero
      have h1 := congrArg List.length h
      rw [List.length_take] at h1
      simp only [List.length_nil] at h1
      omega
  by_cases hd : D.drop m = []
  · rw [if_pos hd, if_pos (h.1 hd)]
  · rw [if_neg hd, if_neg (fun e => hd (h.2 e))]

theorem left_next (D : List Int) (m K : Nat) : D.take m ++ (D.drop m).take K = D.take (m + K) := by rw [List.take_add]

theorem left_drop (D : List Int) (m K : Nat) : (D.drop m).drop K = D.drop (m + K) := by rw [List.drop_drop]

section
variable {w0 w : World} {g p : Nat} {U : Nat → Prop}

theorem raw_sread (D Q : List Int) (e : List Int) (col : Int) (m K : Nat) (hK : 1 ≤ K) (hK2 : K ≤ 256) (hD : D.length ≤ 500) (h : PAt w g p U ⟨rw (D.drop m) e, col, Q, 80, 24⟩) :
    Calls Try.prog 10 #[.pointer (some ⟨g, 0, none⟩), .int .i64 (K : Nat)] w (ReadQ g p U ⟨rw (D.drop (m + K)) e, col, Q, 80, 24⟩ ((D.drop m).take K) (if (D.drop m).take K = [] then 12 else 0) w) := by
  have hr := rw_rd (D.drop m) e (K : Int) (by omega)
  have h1 := sread10 (N := 0) (K : Int) h (rw_ok (D.drop m) e (by rw [List.length_drop]; omega)) (by omega) (by omega) (by omega) (by show ((rw (D.drop m) e).rd (K : Int)).2 = false; rw [hr.1])
  have e1 : ((⟨rw (D.drop m) e, col, Q, 80, 24⟩ : Pq).d.rd (K : Int)).1 = (D.drop m).take K := by show ((rw (D.drop m) e).rd (K : Int)).1 = _; rw [hr.1, Int.toNat_natCast]
  have e2 : (⟨rw (D.drop m) e, col, Q, 80, 24⟩ : Pq).d.rdS (K : Int) = rw (D.drop (m + K)) e := by show (rw (D.drop m) e).rdS (K : Int) = _; rw [hr.2, Int.toNat_natCast, left_drop]
  rw [e1, e2] at h1
  exact h1

theorem raw_mread (P : List Int) (d : DS) (col : Int) (m K : Nat) (hK : 1 ≤ K) (hP : P.length ≤ 500) (h : PAt w g p U ⟨d, col, P.drop m, 80, 24⟩) :
    Calls Try.prog 11 #[.pointer (some ⟨g, 0, none⟩), .int .i64 (K : Nat)] w (ReadM g p U ⟨d, col, P.drop (m + K), 80, 24⟩ ((P.drop m).take K) (if P.drop m = [] then 12 else 0) w) := by
  have h1 := mread_any (K : Int) h (by show (P.drop m).length ≤ 4096; rw [List.length_drop]; omega) (by omega)
  have e1 : (⟨d, col, P.drop m, 80, 24⟩ : Pq).setQ ((⟨d, col, P.drop m, 80, 24⟩ : Pq).q.drop (K : Int).toNat) = ⟨d, col, P.drop (m + K), 80, 24⟩ := by
    show (⟨d, col, (P.drop m).drop (K : Int).toNat, 80, 24⟩ : Pq) = _
    rw [Int.toNat_natCast, left_drop]
  have e2 : (⟨d, col, P.drop m, 80, 24⟩ : Pq).q.take (K : Int).toNat = (P.drop m).take K := by
    show (P.drop m).take (K : Int).toNat = _
    rw [Int.toNat_natCast]
  rw [e1, e2] at h1
  exact h1
end

set_option maxRecDepth 100000 in
set_option maxHeartbeats 4000000 in
theorem raw_walk (D P : List Int) (da ua : Option Addr) (nd dc nu uc : Nat) (z : Int) (w : World) (hD : IArg .u8 w (.slice da nd dc) D da dc) (hP : IArg .u8 w (.slice ua nu uc) P ua uc) (hnd : nd = D.length) (hnu : nu = P.length) (h1 : nd ≤ 500) (h2 : nu ≤ 500) (hz0 : 0 ≤ z) (hz1 : z < 256) :
    Calls Try.prog 3 #[.slice da nd dc, .slice ua nu uc, .int .u8 z] w (LawTrue w) := by
  have HAW := hide' awake6
  have HDA := hide' hD
  have HPA := hide' hP
  have HND := hide' hnd
  have HNU := hide' hnu
  have HN5 : Hid (D.length ≤ 500 ∧ P.length ≤ 500) := ⟨by omega, by omega⟩
  have HNW : Hid (∀ w', Calls Try.prog 7 #[.agg #[.int .i64 0, .int .i64 0, .int .i64 0, .int .i64 0, .int .i64 0, .int .i64 0, .int .i64 0, .int .i64 0, .int .i64 0, .int .i64 0, .int .i64 0, .int .i64 0, .int .i64 0, .int .i64 0, .int .i64 0, .int .i64 1, .int .i64 0]] w' (MadeQ rwT w')) := fun w' => new7 rwT rw_right w'
  have k1 : decide ((500 : Int) < (nd : Int)) = false := decide_eq_false (by omega)
  have k2 : decide ((500 : Int) < (nu : Int)) = false := decide_eq_false (by omega)
  obtain ⟨K, hK⟩ : ∃ K : Nat, (K : Int) = 1 + z := ⟨(1 + z).toNat, by omega⟩
  have HK : Hid (1 ≤ K ∧ K ≤ 256) := ⟨by omega, by omega⟩
  have ew : wrap64 z = z := by unfold wrap64; omega
  have ew2 : wrap64 (1 + z) = (K : Int) := by unfold wrap64; omega
  have ek : 1 + z = (K : Int) := hK.symm
  clear hD hP hnd hnu hK
  go_enter Try.func3, Try.ntmps3
  go_wp2_with fail
  refine (HNW.out _).mono ?_
  rintro e w2 ⟨g, p, U, rfl, hp, hU, hs⟩
  have HO2 : Hid (Own w w2 g p U ⟨rw [] [], 0, [], 80, 24⟩) := ⟨hp, hs, hU⟩
  have HF2 : Hid (Free w2 U (.slice da nd dc) D) := ⟨⟨da, dc, HDA.out.stay0 hs⟩, fun hne k hk hu => by
    obtain ⟨b, off, e, hb, _⟩ := HDA.out.cells hne
    subst e
    cases hk
    have := hU b hu
    omega⟩
  have HF2P : Hid (Free w2 U (.slice ua nu uc) P) := ⟨⟨ua, uc, HPA.out.stay0 hs⟩, fun hne k hk hu => by
    obtain ⟨b, off, e, hb, _⟩ := HPA.out.cells hne
    subst e
    cases hk
    have := hU b hu
    omega⟩
  clear hp hU hs HNW
  obtain ⟨hcalm, e1, hfd⟩ := rw_feed D [] [] 0 80 24 [] (by have := HN5.out; simp; omega) (fun c hc => (wf_u8 (HDA.out.wf c hc)).1)
  have HMW : Hid (Calls Try.prog 8 #[.pointer (some ⟨g, 0, none⟩), .slice da nd dc] w2 (TurnQ g p U ⟨rw D e1, 0, [], 80, 24⟩ (.tuple #[.int .i64 (nd : Nat), .slice none 0 0, .int .i64 0]) w2)) := by
    have h := mwrite8 (N := 0) D HO2.out.at_ HF2.out HND.out (rw_ok [] [] (by simp)) (by omega) (by show 0 ≤ 4096; omega) hcalm rfl
    rw [hfd, List.nil_append] at h
    exact h
  clear hcalm hfd
  go_wp2_with fail
  refine HMW.out.mono ?_
  rintro e w3 ⟨U3, rfl, hp, hs, hg⟩
  have HO3 := hide' (HO2.out.step hp hs hg)
  have HF3P := hide' (HF2P.out.step hs hg)
  clear hp hs hg HMW HO2 HF2 HF2P
  obtain ⟨hfits, col, hpt⟩ := rw_puts P D e1 0 80 24 [] (by have := HN5.out; simp; omega)
  have HSW : Hid (Calls Try.prog 9 #[.pointer (some ⟨g, 0, none⟩), .slice ua nu uc] w3 (TurnQ g p U3 ⟨rw D e1, col, P, 80, 24⟩ (.tuple #[.int .i64 (nu : Nat), .int .i64 0]) w3)) := by
    have h := swrite9 P HO3.out.at_ HF3P.out HNU.out (by show 0 ≤ 4096; omega) hfits rfl
    rw [hpt, List.nil_append] at h
    exact h
  clear hfits hpt
  go_wp2_with fail
  refine HSW.out.mono ?_
  rintro e w4 ⟨U4, rfl, hp, hs, hg⟩
  have HT4 : Hid (TR w w4 g p U4 ⟨rw (D.drop (0 * K)) e1, col, P.drop (0 * K), 80, 24⟩ (D.take (0 * K)) (P.take (0 * K)) (.slice none 0 0) (.slice none 0 0)) := by
    have ho := HO3.out.step hp hs hg
    rw [Nat.zero_mul]
    exact ⟨ho, Mine.nil _ _, Mine.nil _ _, fun k hk => (by cases hk), fun k hk => (by cases hk), fun k hk => (by cases hk)⟩
  clear hp hs hg HSW HO3 HF3P
  go_wp2
  go_loopg [14, 15, 16] 600 (fun gg vx vy vi wr => ∃ i : Nat, i ≤ 600 ∧ gg = 600 - i ∧ vi = .int .i64 (i : Int) ∧ ∃ U' : Nat → Prop, Hid (TR w wr g p U' ⟨rw (D.drop (i * K)) e1, col, P.drop (i * K), 80, 24⟩ (D.take (i * K)) (P.take (i * K)) vx vy))
  case atStart => exact ⟨0, Nat.zero_le _, rfl, rfl, U4, HT4.out⟩
  case round =>
    clear HT4
    obtain ⟨i, hi, rfl, rfl, U', HRL⟩ := hrel
    obtain ⟨w5, hw5⟩ : ∃ W, W = wr := ⟨_, rfl⟩
    rw [← hw5] at HRL ⊢
    clear hw5
    obtain ⟨m, hm⟩ : ∃ m, m = i * K := ⟨_, rfl⟩
    have HM := hide' hm
    rw [← hm] at HRL
    clear hm
    obtain ⟨xa, xc, ex⟩ := HRL.out.x.br.shape
    obtain ⟨ya, yc, ey⟩ := HRL.out.y.br.shape
    obtain ⟨nx, hnx⟩ : ∃ n, n = (D.take m).length := ⟨_, rfl⟩
    obtain ⟨ny, hny⟩ : ∃ n, n = (P.take m).length := ⟨_, rfl⟩
    rw [← hnx] at ex
    rw [← hny] at ey
    subst ex ey
    have HNX := hide' hnx
    have HNY := hide' hny
    clear hnx hny
    by_cases hlt : i < 600
    · have ki : decide ((i : Int) < 600) = true := by simp; omega
      have ei : wrap64 ((i : Int) + 1) = ((i + 1 : Nat) : Int) := by unfold wrap64; omega
      obtain ⟨gx, hgx⟩ : ∃ x : Int, x = (if (D.drop m).take K = [] then 12 else 0) := ⟨_, rfl⟩
      obtain ⟨gy, hgy⟩ : ∃ x : Int, x = (if P.drop m = [] then 12 else 0) := ⟨_, rfl⟩
      have ex12 : (gx == 12) = ((nx : Int) == (nd : Int)) := by rw [hgx, HNX.out, HND.out]; exact left_code D m K HK.out.1
      have ey12 : (gy == 12) = ((ny : Int) == (nu : Int)) := by rw [hgy, HNY.out, HNU.out]; exact left_code2 P m K HK.out.1
      obtain ⟨bx, hbx⟩ : ∃ b, b = ((nx : Int) == (nd : Int)) := ⟨_, rfl⟩
      obtain ⟨bY, hbY⟩ : ∃ b, b = ((ny : Int) == (nu : Int)) := ⟨_, rfl⟩
      rw [← hbx] at ex12
      rw [← hbY] at ey12
      have ex13 := hbx.symm
      have ey13 := hbY.symm
      have eb : ∀ b : Bool, (b != b) = false := fun b => by cases b <;> rfl
      have HSR : Hid (Calls Try.prog 10 #[.pointer (some ⟨g, 0, none⟩), .int .i64 (K : Nat)] w5 (ReadQ g p U' ⟨rw (D.drop (m + K)) e1, col, P.drop m, 80, 24⟩ ((D.drop m).take K) gx w5)) := by rw [hgx]; exact raw_sread D (P.drop m) e1 col m K HK.out.1 HK.out.2 HN5.out.1 HRL.out.own.at_
      have HMR : Hid (∀ w' U'', PAt w' g p U'' ⟨rw (D.drop (m + K)) e1, col, P.drop m, 80, 24⟩ → Calls Try.prog 11 #[.pointer (some ⟨g, 0, none⟩), .int .i64 (K : Nat)] w' (ReadM g p U'' ⟨rw (D.drop (m + K)) e1, col, P.drop (m + K), 80, 24⟩ ((P.drop m).take K) gy w')) := fun w' U'' h => by rw [hgy]; exact raw_mread P _ col m K HK.out.1 HN5.out.2 h
      clear hgx hgy hbx hbY
      go_wp2_with fail
      refine HSR.out.mono ?_
      rintro e w6 ⟨vc, U6, rfl, hbr, hp, hs, hg⟩
      have HT6 := hide' (HRL.out.step (HRL.out.own.step hp hs hg) hs hg)
      have HXL := hide' (fun k hk => (HRL.out.x.lt k hk).2)
      have HYL := hide' (fun k hk => (HRL.out.y.lt k hk).2)
      have HSZ := hide' hs.size
      have HC6 := hide' hbr
      have HMR6 := hide' (HMR.out w6 U6 hp)
      clear hbr hp hs hg HSR HMR HRL
      go_wp2_with fail
      refine HMR6.out.mono ?_
      rintro e w8 ⟨vd, w7, U8, rfl, hbd, hfd, hs, he, hp, hg⟩
      have HT8 := hide' (HT6.out.step (HT6.out.own.readM hp hs he hg).1 (HT6.out.own.readM hp hs he hg).2 hg)
      have HC8 : Hid (BR w8 vc ((D.drop m).take K)) := by
        rcases he with he | ⟨x, he⟩
        · rw [he]; exact HC6.out.keep hs
        · rw [he]; exact br_set HC6.out HT6.out.own.at_ hs x
      have HD8 := hide' hbd
      have HDF := hide' hfd
      obtain ⟨ca, cc, ec⟩ := HC8.out.shape
      obtain ⟨ea, ecp, ed⟩ := hbd.shape
      obtain ⟨nc, hnc⟩ : ∃ n, n = ((D.drop m).take K).length := ⟨_, rfl⟩
      obtain ⟨ne, hne⟩ : ∃ n, n = ((P.drop m).take K).length := ⟨_, rfl⟩
      rw [← hnc] at ec
      rw [← hne] at ed
      subst ec ed
      have kc : decide ((K : Int) < (nc : Int)) = false := decide_eq_false (by rw [hnc, List.length_take]; omega)
      have kd : decide ((K : Int) < (ne : Int)) = false := decide_eq_false (by rw [hne, List.length_take]; omega)
      have HNX1 : Hid ((D.take m).length + ((D.drop m).take K).length ≤ 1000000) := by have := HN5.out; show _ ≤ _; rw [List.length_take, List.length_take, List.length_drop]; omega
      have HNY1 : Hid ((P.take m).length + ((P.drop m).take K).length ≤ 1000000) := by have := HN5.out; show _ ≤ _; rw [List.length_take, List.length_take, List.length_drop]; omega
      have HB8 : Hid (w.heap.size ≤ w8.heap.size) := HT8.out.own.stay.size
      have kc2 : decide (K < nc) = false := decide_eq_false (by rw [hnc, List.length_take]; omega)
      have kd2 : decide (K < ne) = false := decide_eq_false (by rw [hne, List.length_take]; omega)
      clear hbd hfd hs he hp hg HMR6 HT6 HC6 hnc hne
      go_upto_region 19 with fail
      have hn1 := HNX1.out
      have hb1 := HB8.out
      go_upto_region 20 with (at_builtin; go_must (refine mine_app rfl _ _ rfl HT8.out.x rfl HC8.out rfl hn1 hb1 ?_; intro v9 w9 hM hs9 hl9; have HT9 := hide' (HT8.out.addX hM hs9 hl9); have HS9 := hide' hs9; clear hM hs9 hl9 hn1 hb1))
      have HD9 : Hid (BR w9 (.slice ea ne ecp) ((P.drop m).take K)) := HD8.out.stay HS9.out (fun hne k hk hx => by
        have h1 := (HDF.out hne k hk).1
        have h2 := HXL.out k hx
        have h3 := HSZ.out
        omega)
      have hn1 := HNY1.out
      have hb1 : w.heap.size ≤ w9.heap.size := Nat.le_trans HB8.out HS9.out.size
      clear HD8 HT8 HC8 HS9 HDF HXL HYL HSZ
      go_wp2_with (at_builtin; go_must (refine mine_app rfl _ _ rfl HT9.out.y rfl HD9.out rfl hn1 hb1 ?_; intro v10 w10 hM hs9 hl9; have HT10 := hide' (HT9.out.addY hM hs9 hl9); clear hM hs9 hl9 hn1 hb1))
      go_roundg (600 - (i + 1))
      case measure => omega
      case rel =>
        refine ⟨i + 1, by omega, rfl, by go_num, U8, ?_⟩
        have e2 : (i + 1) * K = m + K := by rw [HM.out, Nat.add_mul, Nat.one_mul]
        rw [e2, ← left_next D m K, ← left_next P m K]
        exact HT10.out
    · have ki : decide ((i : Int) < 600) = false := by simp; omega
      have hi6 : i = 600 := by omega
      have hKm : 500 < m := by have h := HM.out; have := HK.out.1; rw [hi6] at h; omega
      have hdx : D.take m = D := List.take_of_length_le (by have := HN5.out.1; omega)
      have hpx : P.take m = P := List.take_of_length_le (by have := HN5.out.2; omega)
      have HBX : Hid (Bs w5 (.slice xa nx xc) D) := by have h := HRL.out.x.br.bs; rw [hdx] at h; exact h
      have HBY : Hid (Bs w5 (.slice ya ny yc) P) := by have h := HRL.out.y.br.bs; rw [hpx] at h; exact h
      have HST := hide' HRL.out.own.stay
      have HSD := hide' (sameB _ (.slice da nd dc) D w5 HBX.out (show BR w5 (.slice da nd dc) D from ⟨da, dc, HDA.out.stay0 HST.out⟩).bs (by have := HN5.out.1; omega))
      have HSP := hide' (fun w' (hs : Stay (fun _ => False) w5 w') => sameB _ (.slice ua nu uc) P w' (HBY.out.keep hs) (show BR w' (.slice ua nu uc) P from ⟨ua, uc, HPA.out.stay0 (HST.out.trans hs)⟩).bs (by have := HN5.out.2; omega))
      clear hdx hpx hKm hi6 HRL HBX HBY HM HNX HNY
      go_wp2_with fail
      refine HSD.out.mono ?_
      rintro e w6 ⟨rfl, hs⟩
      have HS6 := hide' hs
      clear hs HSD
      go_wp2_with fail
      refine (HSP.out _ HS6.out).mono ?_
      rintro e w7 ⟨rfl, hs⟩
      have HS7 := hide' (HS6.out.trans hs)
      clear hs HSP
      go_wp2_with fail
      refine (HAW.out _).mono ?_
      rintro e w8 ⟨rfl, hs⟩
      have HE := hide' ((HST.out.trans HS7.out).trans hs)
      clear hs
      go_wp2
      go_ret
      exact ⟨rfl, HE.out⟩

end Go.Proofs.Ytjfhmpjpdcckhaa
