/-
  PtyLines walked: true of any lines. No conditions.
-/
import Derived.Test.YtjfhmpjpdcckhaaE4
import Derived.BigQuiet
import Derived.Deep.Grids
import Derived.Lib.SmallJoins
namespace Go.Proofs.Ytjfhmpjpdcckhaa
open Go.RowKit
open L17 L18

attribute [local go_sem] eqlG_nil

theorem lines_long (ad : Option Addr) (n ca : Nat) (w : World) (ha : (n : Int) ≤ 9223372036854775807) (h : 8 < n) : Calls Try.prog 5 #[.slice ad n ca] w (LawTrue w) := by
  have HAW := hide' awake6
  have HS := hide' (Stay.refl (fun _ => False) w)
  have k1 : decide ((8 : Int) < (n : Int)) = true := decide_eq_true (by omega)
  have k2 : decide (8 < n) = true := decide_eq_true h
  go_enter Try.func5, Try.ntmps5
  go_wp2_with fail
  refine (HAW.out _).mono ?_
  rintro e w1 ⟨rfl, hs⟩
  have HE := hide' (HS.out.trans hs)
  clear hs
  go_wp2
  go_ret
  exact ⟨rfl, HE.out⟩

section
variable {w : World} {g p : Nat} {U : Nat → Prop}

theorem ok_rows (R : List (List Int)) (e : List Int) (h1 : R.flatten.length ≤ 1024) (h2 : R.length ≤ 8) : Ok 8 (pd 623 [] R false e) := ok_pd 623 fl_623 right_623 [] R false e 8 (by decide) h1 h2

/-- The slave reads a line. -/
theorem line_sread (x : List Int) (Rs : List (List Int)) (e : List Int) (col : Int) (q : List Int) (h0 : 0 < x.length) (h1 : x.length ≤ 100) (h2 : (x :: Rs).flatten.length ≤ 1024) (h3 : (x :: Rs).length ≤ 8) (h : PAt w g p U ⟨pd 623 [] (x :: Rs) false e, col, q, 80, 24⟩) :
    Calls Try.prog 10 #[.pointer (some ⟨g, 0, none⟩), .int .i64 100] w (ReadQ g p U ⟨pd 623 [] Rs false e, col, q, 80, 24⟩ x 0 w) := by
  have hr := rd_left x 0 Rs e 100 h0 (by omega)
  have e0 : lefts x 0 Rs = x :: Rs := by unfold lefts; rw [if_pos h0]; rfl
  have e1 : lefts x (0 + min 100 (x.length - 0)) Rs = Rs := by unfold lefts; rw [if_neg (by omega)]
  rw [e0, e1] at hr
  have e2 : (x.drop 0).take 100 = x := by rw [List.drop_zero, List.take_of_length_le h1]
  rw [e2] at hr
  have h4 := sread10 (N := 8) 100 h (ok_rows (x :: Rs) e h2 h3) (by omega) (by decide) (by decide) (by show ((pd 623 [] (x :: Rs) false e).rd ((100 : Nat) : Int)).2 = false; rw [hr.1])
  have e3 : ((⟨pd 623 [] (x :: Rs) false e, col, q, 80, 24⟩ : Pq).d.rd 100).1 = x := by show ((pd 623 [] (x :: Rs) false e).rd ((100 : Nat) : Int)).1 = _; rw [hr.1]
  have e4 : (⟨pd 623 [] (x :: Rs) false e, col, q, 80, 24⟩ : Pq).d.rdS 100 = pd 623 [] Rs false e := by show (pd 623 [] (x :: Rs) false e).rdS ((100 : Nat) : Int) = _; rw [hr.2]
  rw [e3, e4, if_neg (fun e => by rw [e] at h0; simp at h0)] at h4
  exact h4

/-- .. there is none. -/
theorem none_sread (e : List Int) (col : Int) (q : List Int) (h : PAt w g p U ⟨pd 623 [] [] false e, col, q, 80, 24⟩) :
    Calls Try.prog 10 #[.pointer (some ⟨g, 0, none⟩), .int .i64 1] w (ReadQ g p U ⟨pd 623 [] [] false e, col, q, 80, 24⟩ [] 12 w) := by
  have hr := rd_done e 1 (by omega)
  have h4 := sread10 (N := 8) 1 h (ok_rows [] e (by simp) (by simp)) (by omega) (by decide) (by decide) (by show ((pd 623 [] [] false e).rd ((1 : Nat) : Int)).2 = false; rw [hr.1])
  have e3 : ((⟨pd 623 [] [] false e, col, q, 80, 24⟩ : Pq).d.rd 1).1 = [] := by show ((pd 623 [] [] false e).rd ((1 : Nat) : Int)).1 = _; rw [hr.1]
  have e4 : (⟨pd 623 [] [] false e, col, q, 80, 24⟩ : Pq).d.rdS 1 = pd 623 [] [] false e := by show (pd 623 [] [] false e).rdS ((1 : Nat) : Int) = _; rw [hr.2]
  rw [e3, e4, if_pos rfl] at h4
  exact h4

/-- The master writes a line. -/
theorem line_mwrite (l : List Int) (Ls : List (List Int)) (e : List Int) (q : List Int) {va : Option Addr} {n vc : Nat} (hp : ∀ c ∈ l, 32 ≤ c ∧ c ≤ 126) (h1 : l.length ≤ 30) (h2 : Ls.flatten.length ≤ 400) (h3 : Ls.length ≤ 8) (h4 : q.length ≤ 1000) (hF : Free w U (.slice va n vc) (l ++ [13])) (hn : n = (l ++ [13]).length) (h : PAt w g p U ⟨pd 623 [] Ls false e, 0, q, 80, 24⟩) :
    Calls Try.prog 8 #[.pointer (some ⟨g, 0, none⟩), .slice va n vc] w (TurnQ g p U ⟨pd 623 [] (Ls ++ [l ++ [10]]) false [10], 0, q ++ (l ++ [13, 10]), 80, 24⟩ (.tuple #[.int .i64 (n : Nat), .slice none 0 0, .int .i64 0]) w) := by
  obtain ⟨h5, h6⟩ := line_feed l [] Ls e 0 q 80 24 hp (by rw [List.length_nil]; omega) (by rw [List.length_nil]; omega) (by omega) (by omega) (by omega)
  have h7 := mwrite8 (N := 8) (l ++ [13]) h hF hn (ok_rows Ls e (by omega) h3) (by rw [hn, List.length_append, List.length_singleton]; omega) (by show q.length ≤ 4096; omega) h5 rfl
  rw [h6, List.nil_append] at h7
  exact h7
end

set_option maxRecDepth 100000 in
set_option maxHeartbeats 8000000 in
theorem lines_walk (LS : List (List Int)) (ad : Option Addr) (n ca : Nat) (w : World) (hA : LArg w ad n LS) (hn : n ≤ 8) : Calls Try.prog 5 #[.slice ad n ca] w (LawTrue w) := by
  have HAW := hide' awake6
  have HPL := hide' (L17.plain13 w)
  have HNW := hide' (fun w' => new7 plainT plain_right w')
  have HA := hide' hA
  have HNA := hide' hA.1
  have k1 : decide ((8 : Int) < (n : Int)) = false := decide_eq_false (by omega)
  have k2 : decide (8 < n) = false := decide_eq_false (by omega)
  obtain ⟨t, ht⟩ : ∃ t, t = plainT := ⟨_, rfl⟩
  have HT := hide' ht
  rw [← ht] at HPL HNW
  clear ht hA
  go_enter Try.func5, Try.ntmps5
  go_wp2_with fail
  refine (HPL.out).mono ?_
  rintro e w1 ⟨rfl, hs⟩
  have HS1 := hide' hs
  clear hs
  go_wp2_with fail
  refine (HNW.out _).mono ?_
  rintro e w2 ⟨g, p, U, rfl, hp, hU, hs⟩
  have HO2 : Hid (LR w w2 g p U ⟨pd 623 [] (rowsOf (LS.take 0)) false [], 0, wantOf (LS.take 0), 80, 24⟩ [] (rowsOf (LS.take 0)) (.slice none 0 0) (.slice none 0 0) (wantOf (LS.take 0))) := by
    rw [HT.out] at hp
    exact ⟨⟨hp, HS1.out.trans hs, fun k hk => Nat.le_trans HS1.out.size (hU k hk)⟩, rfl, ⟨by simp, .inl ⟨rfl, rfl⟩⟩, fun u hu => (by cases hu), fun j hj => absurd hj (Nat.not_lt_zero _), fun j hj => absurd hj (Nat.not_lt_zero _), Mine.nil _ _, fun k hk => (by cases hk), fun k hk => (by cases hk), fun k hk => (by cases hk)⟩
  clear hp hU hs HPL HNW HS1
  go_wp2
  go_loopg [4, 5, 6] n (fun gg v4 v5 v6 wr => ∃ i : Nat, i ≤ n ∧ gg = n - i ∧ v6 = .int .i64 (i : Int) ∧ ∃ (U' : Nat → Prop) (VS : List Value) (e : List Int), Hid (LR w wr g p U' ⟨pd 623 [] (rowsOf (LS.take i)) false e, 0, wantOf (LS.take i), 80, 24⟩ VS (rowsOf (LS.take i)) v4 v5 (wantOf (LS.take i)) ∧ ∀ j, j < i → (LS.getD j []).length ≤ 30))
  case atStart => exact ⟨0, Nat.zero_le _, rfl, rfl, U, [], [], HO2.out, fun j hj => by omega⟩
  case round =>
    clear HO2
    obtain ⟨i, hi, rfl, rfl, U', VS, e0, HRL⟩ := hrel
    obtain ⟨w3, hw3⟩ : ∃ W, W = wr := ⟨_, rfl⟩
    rw [← hw3] at HRL ⊢
    clear hw3
    by_cases hlt : i < n
    · have kn : decide ((i : Int) < (n : Int)) = true := by simp; omega
      have kn2 : (i : Int) < n := by omega
      obtain ⟨g9, o9, a9, c9, ea, hcell, hIA⟩ := HA.out.at HRL.out.1.own.stay i hlt
      subst ea
      have HRS := hide' (rows_step LS i (by rw [← HNA.out]; exact hlt))
      have HWS := hide' (want_step LS i (by rw [← HNA.out]; exact hlt))
      have HRN : Hid ((rowsOf (LS.take i)).flatten.length ≤ 300 ∧ (rowsOf (LS.take i)).length ≤ 8 ∧ (wantOf (LS.take i)).length ≤ 300) := by
        have hb : ∀ l ∈ LS.take i, l.length ≤ 30 := fun y hy => by obtain ⟨q, hq, _, rfl⟩ := mem_take_getD hy; exact HRL.out.2 q hq
        have h1 := rows_len (LS.take i) hb
        have h2 := want_len (LS.take i) hb
        have h3 := rows_count (LS.take i)
        have h4 : (LS.take i).length ≤ 8 := by rw [List.length_take]; omega
        exact ⟨by omega, by omega, by omega⟩
      obtain ⟨l, hl⟩ : ∃ l, l = LS.getD i [] := ⟨_, rfl⟩
      rw [← hl] at hcell hIA HRS HWS
      have HLL := hide' hl
      have HIA := hide' hIA
      obtain ⟨m, hm⟩ : ∃ m, m = l.length := ⟨_, rfl⟩
      rw [← hm] at hcell HIA
      have HM := hide' hm
      have hmx : (m : Int) ≤ 9223372036854775807 := by have := hIA.lenLe; have := hIA.capLe; unfold maxLen at this; omega
      clear hIA hl hm
      by_cases h30 : 30 < m
      · have k30 : decide ((30 : Int) < (m : Int)) = true := decide_eq_true (by omega)
        have k31 : decide (30 < m) = true := decide_eq_true h30
        go_wp2_with fail
        refine (HAW.out _).mono ?_
        rintro e w4 ⟨rfl, hs⟩
        have HS4 := hide' (HRL.out.1.own.stay.trans hs)
        clear hs
        go_wp2
        go_ret
        exact ⟨by simp, HS4.out⟩
      · have k30 : decide ((30 : Int) < (m : Int)) = false := decide_eq_false (by omega)
        have k31 : decide (30 < m) = false := decide_eq_false h30
        go_wp2
        go_loopg [7, 8] m (fun gg v7 v8 wx => ∃ j : Nat, j ≤ m ∧ gg = m - j ∧ v8 = .int .i64 (j : Int) ∧ Hid (Stay (fun _ => False) w3 wx ∧ Mine w3.heap.size wx v7 ((l.take j).map ltr)))
        case atStart => exact ⟨0, Nat.zero_le _, rfl, rfl, Stay.refl _ _, Mine.nil _ _⟩
        case round =>
          obtain ⟨j, hj, rfl, rfl, HSM⟩ := hrel
          obtain ⟨w4, hw4⟩ : ∃ W, W = wr := ⟨_, rfl⟩
          rw [← hw4] at HSM ⊢
          clear hw4
          have hcell4 := keep_cell HSM.out.1 hcell
          obtain ⟨sa, sc, es⟩ := HSM.out.2.br.shape
          obtain ⟨sn, hsn⟩ : ∃ n, n = ((l.take j).map ltr).length := ⟨_, rfl⟩
          rw [← hsn] at es
          subst es
          have HSN := hide' hsn
          clear hsn
          by_cases hjl : j < m
          · have kj : decide ((j : Int) < (m : Int)) = true := by simp; omega
            have kj2 : (j : Int) < m := by omega
            obtain ⟨gb, ob, eb, hby, y0, y1⟩ := iarg_byte HIA.out HSM.out.1 j hjl
            subst eb
            have HST := hide' (ltr_step l j (by rw [← HM.out]; exact hjl))
            obtain ⟨x, hx⟩ : ∃ x, x = l.getD j 0 := ⟨_, rfl⟩
            rw [← hx] at hby y0 y1 HST
            have htm : x.tmod 26 = x % 26 := Int.tmod_eq_emod_of_nonneg y0
            obtain ⟨y, hy⟩ : ∃ y, y = x % 26 := ⟨_, rfl⟩
            have hyr : 0 ≤ y ∧ y < 26 := by omega
            rw [← hy] at htm
            obtain ⟨c, hc⟩ : ∃ c, c = 97 + y := ⟨_, rfl⟩
            have h256 : (97 + y) % 256 = c := by omega
            have hcr : 97 ≤ c ∧ c < 123 := by omega
            have HC := hide' hcr
            have HLT : Hid (ltr x = c) := by show ltr x = c; unfold ltr; omega
            rw [HLT.out] at HST
            have HX := hide' (br_new w4 #[.int .u8 c] [c] 1 rfl rfl (fun z hz => by simp at hz; subst hz; exact wf_u8_of (by omega) (by omega)) (by omega))
            have HMM := hide' (HSM.out.2.stay ((Stay.refl (fun _ => False) w4).alloc (.cells #[.int .u8 c] 5)) (fun _ _ h => h))
            have hn1 : ((l.take j).map ltr).length + [c].length ≤ 1000000 := by rw [List.length_map, List.length_take]; simp; omega
            have hb1 : w3.heap.size ≤ (w4.alloc (.cells #[.int .u8 c] 5)).heap.size := (HSM.out.1.alloc (.cells #[.int .u8 c] 5)).size
            have HW4 : Hid (Stay (fun _ => False) w3 (w4.alloc (.cells #[.int .u8 c] 5))) := HSM.out.1.alloc _
            clear hx y0 y1 hy hyr hc hcr HLT
            go_wp2_with (at_builtin; go_must (refine mine_app rfl _ _ rfl HMM.out rfl HX.out rfl hn1 hb1 ?_; intro v5 w5 hM5 hs5 hl5; have HM5 := hide' hM5; have HS5 : Hid (Stay (fun _ => False) w3 w5) := HW4.out.trans2 hs5 (fun j hj e => by have := (HMM.out.lt j e).1; omega); clear hM5 hs5 hl5 hn1 hb1 hby hcell4))
            go_roundg (m - (j + 1))
            case measure => omega
            case rel => exact ⟨j + 1, by omega, rfl, by go_num, HS5.out, by rw [HST.out]; exact HM5.out⟩
          · have kj : decide ((j : Int) < (m : Int)) = false := by simp; omega
            have hjm : j = m := by omega
            have hlk : l.take j = l := List.take_of_length_le (by rw [← HM.out]; omega)
            obtain ⟨L0, hL0⟩ : ∃ L, L = l.map ltr := ⟨_, rfl⟩
            have HSL : Hid (Mine w3.heap.size w4 (.slice sa sn sc) L0) := by have h := HSM.out.2; rw [hlk, ← hL0] at h; exact h
            have HS4 := hide' HSM.out.1
            have HLN : Hid (L0.length ≤ 30) := by show _ ≤ _; rw [hL0, List.length_map, ← HM.out]; omega
            have HLP : Hid (∀ c ∈ L0, 32 ≤ c ∧ c ≤ 126) := fun c hc => by
              rw [hL0] at hc
              obtain ⟨z, _, rfl⟩ := List.mem_map.1 hc
              have := ltr_range z
              omega
            rw [← hL0] at HRS HWS
            clear hL0 hlk hjm HSM HSN
            go_upto_region 18 with fail
            clear hcell4
            have HSO : Hid (∀ k, (Value.slice sa sn sc).ownBlock = some k → w3.heap.size ≤ k ∧ k < w4.heap.size) := fun k hk => HSL.out.lt k hk
            have HVL : Hid (∀ k, (u4.ownBlock = some k → k < w3.heap.size) ∧ (u5.ownBlock = some k → k < w3.heap.size)) := fun k => ⟨fun hk => (HRL.out.1.ln.lt k hk).2, fun hk => (HRL.out.1.wn.lt k hk).2⟩
            have HUL : Hid (∀ k, U' k → k < w3.heap.size) := HRL.out.1.own.at_.lt
            have HJS := hide' HRL.out.2
            have HLR4 := hide' (HRL.out.1.calm HS4.out)
            have H34 : Hid (w3.heap.size ≤ w4.heap.size) := HS4.out.size
            have HMB := hide' (mine_begin w4)
            have HSA := hide' (HSL.out.br.keep ((Stay.refl (fun _ => False) w4).alloc (.cells #[] 5)))
            have hn1 : ([] : List Int).length + L0.length ≤ 1000000 := by have := HLN.out; simp; omega
            have HN2 : Hid (([] ++ L0 : List Int).length + [(10 : Int)].length ≤ 1000000) := by have := HLN.out; show _ ≤ _; simp; omega
            have HN3 : Hid (VS.length + 1 ≤ 1000000) := by have := HRL.out.1.len; have := HRN.out; show _ ≤ _; omega
            have hb1 : w4.heap.size ≤ (w4.alloc (.cells #[] 5)).heap.size := ((Stay.refl (fun _ => False) w4).alloc (.cells #[] 5)).size
            clear HRL HS4
            go_upto_region 19 with (at_builtin; go_must (refine mine_app rfl _ _ rfl HMB.out rfl HSA.out rfl hn1 hb1 ?_; intro v5 w5 hM5 hs5 hl5; have HM5 := hide' (hM5.stay ((Stay.refl (fun _ => False) w5).alloc (.cells #[.int .u8 10] 5)) (fun _ _ h => h)); have HS5 : Hid (Stay (fun _ => False) w4 w5) := ((Stay.refl (fun _ => False) w4).alloc (.cells #[] 5)).trans2 hs5 (fun j hj e => by have := (HMB.out.lt j e).1; omega); have HX5 := hide' (br_new w5 #[.int .u8 10] [10] 1 rfl rfl (by decide) (by omega)); have hf5 := hM5.form; obtain ⟨a5, n5, c5, e5⟩ := hf5; clear hM5 hs5 hl5 hn1 hb1 HMB HSA; subst e5; have hn2 := HN2.out; have hb2 : w4.heap.size ≤ (w5.alloc (.cells #[.int .u8 10] 5)).heap.size := (HS5.out.alloc (.cells #[.int .u8 10] 5)).size; go_upto_region 19 with (at_builtin; go_must (refine mine_app rfl _ _ rfl HM5.out rfl HX5.out rfl hn2 hb2 ?_; intro v6 w6 hM6 hs6 hl6; have HM6 := hide' hM6; have HS6 : Hid (Stay (fun _ => False) w4 w6) := (HS5.out.alloc (.cells #[.int .u8 10] 5)).trans2 hs6 (fun j hj e => by have := (HM5.out.lt j e).1; omega); have hf6 := hM6.form; obtain ⟨a6, n6, c6, e6⟩ := hf6; clear hM6 hs6 hl6 hn2 hb2 HM5 HX5 HS5; subst e6; have HLR6 := hide' (HLR4.out.calm (HS6.out.alloc (.cells #[.slice a6 n6 c6] 22))); have HI6 := hide' (isRowS_new w6 #[.slice a6 n6 c6] 22 1 1 rfl); have hn3 := HN3.out; have hb3 : w.heap.size ≤ (w6.alloc (.cells #[.slice a6 n6 c6] 22)).heap.size := HLR6.out.own.stay.size; have ho3 : ∀ u ∈ [Value.slice a6 n6 c6], u.oneCell' = true := (fun u hu => by rw [List.mem_singleton] at hu; rw [hu]; rfl); go_upto_region 19 with (at_builtin; go_must (refine appS rfl _ _ 45 rfl Try.underlying45 infoL2 rfl (by decide) (by decide) HLR6.out.ln rfl HI6.out rfl ho3 hn3 hb3 ?_; intro v7 w7 h1 h2 h3; have HA7 := hide' (And.intro h1 (And.intro h2 h3)); clear h1 h2 h3 hn3 hb3 ho3))))))
            have HR6 : Hid (BR (w6.alloc (.cells #[.slice a6 n6 c6] 22)) (.slice a6 n6 c6) (L0 ++ [10])) := by have h := HM6.out.br.keep ((Stay.refl (fun _ => False) w6).alloc (.cells #[.slice a6 n6 c6] 22)); rw [List.nil_append] at h; exact h
            have HLR7 := hide' (HLR6.out.addL HA7.out.1 HA7.out.2.1 HA7.out.2.2 rfl HR6.out (fun k hk => by
              obtain ⟨z1, z2⟩ := HM6.out.lt k hk
              have z3 : k < (w6.alloc (.cells #[.slice a6 n6 c6] 22)).heap.size := by simp; omega
              have z4 := H34.out
              exact ⟨z3, fun hu => by have := HUL.out k hu; omega, fun e => by have := (HVL.out k).1 e; omega, fun e => by have := (HVL.out k).2 e; omega⟩))
            have HSB7 : Hid (BR w7 (.slice sa sn sc) L0) := (HSL.out.br.keep (HS6.out.alloc (.cells #[.slice a6 n6 c6] 22))).stay HA7.out.2.1 (fun _ k hk e => by
              have h1 := (HSO.out k hk).1
              have h2 := (HVL.out k).1 e
              omega)
            have H47 : Hid (w4.heap.size ≤ w7.heap.size) := Nat.le_trans (HS6.out.alloc (.cells #[.slice a6 n6 c6] 22)).size HA7.out.2.1.size
            have hn4 : (wantOf (LS.take i)).length + L0.length ≤ 1000000 := by have := HRN.out; have := HLN.out; omega
            have HN5 : Hid ((wantOf (LS.take i) ++ L0).length + [(13 : Int), 10].length ≤ 1000000) := by have := HRN.out; have := HLN.out; show _ ≤ _; rw [List.length_append]; simp; omega
            have hb4 : w.heap.size ≤ w7.heap.size := HLR7.out.own.stay.size
            clear HA7 HR6 HLR6 HI6 HM6 HS6 HLR4 HSL
            go_upto_region 20 with (at_builtin; go_must (refine mine_app rfl _ _ rfl HLR7.out.wn rfl HSB7.out rfl hn4 hb4 ?_; intro v8 w8 hM8 hs8 hl8; have HLR8 := hide' ((HLR7.out.addW hM8 hs8 hl8).calm ((Stay.refl (fun _ => False) w8).alloc (.cells #[.int .u8 13, .int .u8 10] 5))); have HSB8 : Hid (BR w8 (.slice sa sn sc) L0) := HSB7.out.stay hs8 (fun _ k hk e => by have h1 := (HSO.out k hk).1; have h2 := (HVL.out k).2 e; omega); have HV8 : Hid (∀ k, (Value.slice sa sn sc).ownBlock = some k → v8.ownBlock ≠ some k) := (fun k hk e => hl8.elim (fun h => (by rw [h] at e; have h1 := (HSO.out k hk).1; have h2 := (HVL.out k).2 e; omega)) (fun h => (by rw [h] at e; cases e; have h1 := (HSO.out _ hk).2; have h2 := H47.out; omega))); have HX8 := hide' (br_new w8 #[.int .u8 13, .int .u8 10] [13, 10] 2 rfl rfl (by decide) (by omega)); clear hM8 hs8 hl8 hn4 hb4; have hn5 := HN5.out; have hb5 : w.heap.size ≤ (w8.alloc (.cells #[.int .u8 13, .int .u8 10] 5)).heap.size := HLR8.out.own.stay.size; go_upto_region 20 with (at_builtin; go_must (refine mine_app rfl _ _ rfl HLR8.out.wn rfl HX8.out rfl hn5 hb5 ?_; intro v9 w9 hM9 hs9 hl9; have HA9 := hide' (And.intro hM9 (And.intro hs9 hl9)); clear hM9 hs9 hl9 hn5 hb5))))
            have HLR9 := hide' (HLR8.out.addW HA9.out.1 HA9.out.2.1 HA9.out.2.2)
            have HSB9 : Hid (BR w9 (.slice sa sn sc) L0) := (HSB8.out.keep ((Stay.refl (fun _ => False) w8).alloc (.cells #[.int .u8 13, .int .u8 10] 5))).stay HA9.out.2.1 (fun _ k hk e => HV8.out k hk e)
            have HMB := hide' (mine_begin w9)
            have HSA := hide' (HSB9.out.keep ((Stay.refl (fun _ => False) w9).alloc (.cells #[] 5)))
            have hn6 : ([] : List Int).length + L0.length ≤ 1000000 := by have := HLN.out; simp; omega
            have HN7 : Hid (([] ++ L0 : List Int).length + [(13 : Int)].length ≤ 1000000) := by have := HLN.out; show _ ≤ _; simp; omega
            have hb6 : w9.heap.size ≤ (w9.alloc (.cells #[] 5)).heap.size := ((Stay.refl (fun _ => False) w9).alloc (.cells #[] 5)).size
            clear HA9 HX8 HV8 HLR8 HSB8 HLR7 HSB7 H47
            go_wp2_with (at_builtin; go_must (refine mine_app rfl _ _ rfl HMB.out rfl HSA.out rfl hn6 hb6 ?_; intro v10 w10 hM5 hs5 hl5; have HM5 := hide' (hM5.stay ((Stay.refl (fun _ => False) w10).alloc (.cells #[.int .u8 13] 5)) (fun _ _ h => h)); have HS5 : Hid (Stay (fun _ => False) w9 w10) := ((Stay.refl (fun _ => False) w9).alloc (.cells #[] 5)).trans2 hs5 (fun j hj e => by have := (HMB.out.lt j e).1; omega); have HX5 := hide' (br_new w10 #[.int .u8 13] [13] 1 rfl rfl (by decide) (by omega)); have hf5 := hM5.form; obtain ⟨a10, n10, c10, e5⟩ := hf5; clear hM5 hs5 hl5 hn6 hb6 HMB HSA; subst e5; have hn7 := HN7.out; have hb7 : w9.heap.size ≤ (w10.alloc (.cells #[.int .u8 13] 5)).heap.size := (HS5.out.alloc (.cells #[.int .u8 13] 5)).size; go_wp2_with (at_builtin; go_must (refine mine_app rfl _ _ rfl HM5.out rfl HX5.out rfl hn7 hb7 ?_; intro v11 w11 hM6 hs6 hl6; have HM6 := hide' hM6; have HS6 : Hid (Stay (fun _ => False) w9 w11) := (HS5.out.alloc (.cells #[.int .u8 13] 5)).trans2 hs6 (fun j hj e => by have := (HM5.out.lt j e).1; omega); have hf6 := hM6.br.shape; obtain ⟨a11, c11, e6⟩ := hf6; clear hM6 hs6 hl6 hn7 hb7 HM5 HX5 HS5; obtain ⟨n11, hn11⟩ : ∃ z, z = ([] ++ L0 ++ [13] : List Int).length := ⟨_, rfl⟩; rw [← hn11] at e6; have HN11 := hide' hn11; clear hn11; subst e6; go_wp2_with fail))))
            have HLR11 := hide' (HLR9.out.calm HS6.out)
            have HFR : Hid (Free w11 U' (.slice a11 n11 c11) (L0 ++ [13])) := ⟨HM6.out.br, fun _ k hk hu => by
              have h1 := (HM6.out.lt k hk).1
              have h2 := HLR9.out.own.at_.lt k hu
              omega⟩
            have HMW := hide' (line_mwrite L0 (rowsOf (LS.take i)) e0 (wantOf (LS.take i)) HLP.out HLN.out (by have := HRN.out; omega) HRN.out.2.1 (by have := HRN.out; omega) HFR.out HN11.out HLR11.out.own.at_)
            refine HMW.out.mono ?_
            rintro e w12 ⟨U12, rfl, hp, hs, hg⟩
            have HLR12 := hide' (HLR11.out.step (HLR11.out.own.step hp hs hg) hs hg)
            have HJ12 : Hid (∀ q, q < i + 1 → (LS.getD q []).length ≤ 30) := fun q hq => by
              by_cases e : q = i
              · rw [e, ← HLL.out, ← HM.out]; omega
              · exact HJS.out q (by omega)
            clear hp hs hg HMW HFR HLR11 HM6 HS6 HLR9 HSB9 HJS
            go_wp2
            go_roundg (n - (i + 1))
            case measure => omega
            case rel =>
              refine ⟨i + 1, by omega, rfl, by go_num, U12, VS ++ [.slice a6 n6 c6], [10], ?_, HJ12.out⟩
              rw [HRS.out, HWS.out, ← List.append_assoc]
              have h := HLR12.out
              rw [← List.append_assoc] at h
              exact h

    · have kn : decide ((i : Int) < (n : Int)) = false := by simp; omega
      have HTA : LS.take i = LS := List.take_of_length_le (by rw [← HNA.out]; omega)
      have HLB : Hid (∀ y ∈ LS, y.length ≤ 30) := fun y hy => by
        obtain ⟨q, hq, rfl⟩ := List.getElem_of_mem hy
        have h := HRL.out.2 q (by have := HNA.out; omega)
        rw [List.getD_eq_getElem?_getD, List.getElem?_eq_getElem hq] at h
        exact h
      have HL3 : Hid (LR w w3 g p U' ⟨pd 623 [] ((rowsOf LS).drop 0) false e0, 0, wantOf LS, 80, 24⟩ VS (rowsOf LS) u4 u5 (wantOf LS)) := by have h := HRL.out.1; rw [HTA] at h; exact h
      have HRC : Hid ((rowsOf LS).length = n) := by show _ = n; rw [rows_count, HNA.out]
      have HWM : Hid ((wantOf LS).length ≤ 256 ∧ 2 * n ≤ (wantOf LS).length) := by
        have h1 := want_len LS HLB.out
        have h2 := want_more LS
        have h3 := HNA.out
        exact ⟨by omega, by omega⟩
      obtain ⟨la, lc, el⟩ := HL3.out.shape
      obtain ⟨wa, wc, ew⟩ := HL3.out.wn.br.shape
      obtain ⟨wn, hwn⟩ : ∃ z, z = (wantOf LS).length := ⟨_, rfl⟩
      rw [HRC.out] at el
      rw [← hwn] at ew
      subst el ew
      have HWN := hide' hwn
      clear HTA HRL hwn
      go_wp2
      go_loopg [9] n (fun gg v9 wr => ∃ z : Nat, z ≤ n ∧ gg = n - z ∧ v9 = .int .i64 (z : Int) ∧ ∃ U2 : Nat → Prop, Hid (LR w wr g p U2 ⟨pd 623 [] ((rowsOf LS).drop z) false e0, 0, wantOf LS, 80, 24⟩ VS (rowsOf LS) (.slice la n lc) (.slice wa wn wc) (wantOf LS)))
      case atStart => exact ⟨0, Nat.zero_le _, rfl, rfl, U', HL3.out⟩
      case round =>
        clear HL3
        obtain ⟨z, hz, rfl, rfl, U2, HRL⟩ := hrel
        obtain ⟨w4, hw4⟩ : ∃ W, W = wr := ⟨_, rfl⟩
        rw [← hw4] at HRL ⊢
        clear hw4
        by_cases hlz : z < n
        · have kz : decide ((z : Int) < (n : Int)) = true := by simp; omega
          have kz2 : (z : Int) < n := by omega
          have hzl : z < LS.length := by rw [← HNA.out]; exact hlz
          have HDR := hide' (rows_drop LS z hzl)
          have hfl : ((rowsOf LS).drop z).flatten.length ≤ 1024 ∧ ((rowsOf LS).drop z).length ≤ 8 := by
            have e : (rowsOf LS).drop z = rowsOf (LS.drop z) := by unfold rowsOf; rw [List.map_drop]
            have h1 := rows_len (LS.drop z) (fun y hy => HLB.out y (List.mem_of_mem_drop hy))
            have h2 := rows_count (LS.drop z)
            have h3 : (LS.drop z).length ≤ 8 := by rw [List.length_drop, ← HNA.out]; omega
            rw [e]
            exact ⟨by omega, by omega⟩
          have hxl : 0 < ((rowsOf LS).getD z []).length ∧ ((rowsOf LS).getD z []).length ≤ 100 := by
            rw [rows_get LS z hzl, List.length_append, List.length_map, List.length_singleton]
            have h1 := HLB.out (LS.getD z []) (by rw [List.getD_eq_getElem?_getD, List.getElem?_eq_getElem hzl]; exact List.getElem_mem hzl)
            exact ⟨by omega, by omega⟩
          obtain ⟨x, hx⟩ : ∃ x, x = (rowsOf LS).getD z [] := ⟨_, rfl⟩
          rw [← hx] at HDR hxl
          rw [HDR.out] at hfl
          have HPT : Hid (PAt w4 g p U2 ⟨pd 623 [] (x :: (rowsOf LS).drop (z + 1)) false e0, 0, wantOf LS, 80, 24⟩) := by have h := HRL.out.own.at_; rw [HDR.out] at h; exact h
          have HSR := hide' (line_sread x ((rowsOf LS).drop (z + 1)) e0 0 (wantOf LS) hxl.1 hxl.2 hfl.1 hfl.2 HPT.out)
          have HXX := hide' hx
          have HXL : Hid (x.length ≤ 5000) := by show _ ≤ _; omega
          clear hx hxl hfl hzl HDR HPT
          go_wp2_with fail
          refine HSR.out.mono ?_
          rintro e w5 ⟨v5, U5, rfl, hbr, hp, hs, hg⟩
          have HL5 := hide' (HRL.out.step (HRL.out.own.step hp hs hg) hs hg)
          have HB5 := hide' hbr
          clear hbr hp hs hg HSR HRL
          obtain ⟨lb, lcc, elb, hcellL⟩ := HL5.out.cell z (by rw [HRC.out]; exact hlz)
          have HRW := hide' (HL5.out.rows z (by rw [HRC.out]; exact hlz))
          rw [← HXX.out] at HRW
          injection elb with e1 e2 e3
          subst e1
          rw [Nat.zero_add] at hcellL
          obtain ⟨vi, hvi⟩ : ∃ v, v = VS.getD z undef := ⟨_, rfl⟩
          rw [← hvi] at hcellL HRW
          have HSM := hide' (sameB v5 vi x w5 HB5.out.bs HRW.out.bs HXL.out)
          clear hvi e2 e3
          go_wp2_with fail
          refine HSM.out.mono ?_
          rintro e w6 ⟨rfl, hs⟩
          have HL6 := hide' (HL5.out.calm hs)
          clear hs HSM HL5 HB5 HRW hcellL HXX HXL
          go_wp2
          go_roundg (n - (z + 1))
          case measure => omega
          case rel => exact ⟨z + 1, by omega, rfl, by go_num, U5, HL6.out⟩
        · have kz : decide ((z : Int) < (n : Int)) = false := by simp; omega
          have hzn : z = n := by omega
          have hdn : (rowsOf LS).drop z = [] := List.drop_eq_nil_of_le (by rw [HRC.out]; omega)
          have HL4 : Hid (LR w w4 g p U2 ⟨pd 623 [] [] false e0, 0, wantOf LS, 80, 24⟩ VS (rowsOf LS) (.slice la n lc) (.slice wa wn wc) (wantOf LS)) := by have h := HRL.out; rw [hdn] at h; exact h
          clear HRL hdn hzn
          by_cases hz0 : wn = 0
          · subst hz0
            go_wp2_with fail
            refine (HAW.out _).mono ?_
            rintro e w5 ⟨rfl, hs⟩
            have HE := hide' (HL4.out.own.stay.trans hs)
            clear hs
            go_wp2
            go_ret
            exact ⟨rfl, HE.out⟩
          · have kw : ((wn : Int) == 0) = false := by simp; omega
            have kw2 : (wn == 0) = false := by simp; omega
            have HMR := hide' (mread11 4096 HL4.out.own.at_ (by show (wantOf LS).length ≤ 4096; have := HWM.out.1; omega) (by decide) (fun e => hz0 (by have h : wantOf LS = [] := e; rw [HWN.out, h]; rfl)))
            go_wp2_with fail
            refine HMR.out.mono ?_
            rintro e w6 ⟨va, w5, x, U5, rfl, hbr, hfr, hs, he, hp, hg⟩
            have HL6 := hide' (HL4.out.step (HL4.out.own.read hp hs he hg).1 (HL4.out.own.read hp hs he hg).2 hg)
            have HB6 : Hid (BR w6 va (wantOf LS)) := by
              have h : BR w6 va ((wantOf LS).take (4096 : Int).toNat) := hbr
              rw [List.take_of_length_le (by show (wantOf LS).length ≤ 4096; have := HWM.out.1; omega)] at h
              exact h
            have HFA := hide' (fun k hk => (hfr k hk).2)
            have HSR := hide' (none_sread e0 0 ((wantOf LS).drop (4096 : Int).toNat) hp)
            clear hbr hfr hs he hp hg HMR HL4
            go_wp2_with fail
            refine HSR.out.mono ?_
            rintro e w7 ⟨vb, U7, rfl, _, hp, hs, hg⟩
            have HL7 := hide' (HL6.out.step (HL6.out.own.step hp hs hg) hs hg)
            have HB7 := hide' (HB6.out.stay hs (fun _ k hk => HFA.out k hk))
            have HSM := hide' (sameB va (.slice wa wn wc) (wantOf LS) w7 HB7.out.bs HL7.out.wn.br.bs (by have := HWM.out.1; omega))
            clear hp hs hg HSR HL6 HB6 HFA
            go_wp2_with fail
            refine HSM.out.mono ?_
            rintro e w8 ⟨rfl, hs⟩
            have HS8 := hide' (HL7.out.own.stay.trans hs)
            clear hs HSM
            go_wp2_with fail
            refine (HAW.out _).mono ?_
            rintro e w9 ⟨rfl, hs⟩
            have HE := hide' (HS8.out.trans hs)
            clear hs
            go_wp2
            go_ret
            exact ⟨rfl, HE.out⟩


end Go.Proofs.Ytjfhmpjpdcckhaa
