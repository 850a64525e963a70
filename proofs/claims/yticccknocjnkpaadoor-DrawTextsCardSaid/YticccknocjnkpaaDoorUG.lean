/-
  A decoder is handed a byte that doesn't go on with what waits, walked. No conditions.
-/
import Derived.Test.YticccknocjnkpaaDoorUF
namespace Go.Proofs.YticccknocjnkpaaDoor.Utf
open Go.RowKit

/-- A byte that doesn't go on with what waits. -/
theorem feedP_new {p : List Nat} {b : Nat} (h : p = [] ∨ beg (p ++ [b]) = false) : feedP p b =
    if b < 128 then ([], endP p ++ [b]) else if lead b = true then ([b], endP p ++ []) else ([], endP p ++ [65533]) := by
  unfold feedP endP
  rw [if_neg (by rcases h with h | h <;> simp [h])]
  simp

theorem Dec.set0 {w : World} {D f k v : Nat} (h : Dec w D f k v) (f' : Nat) : Dec (w.setCell ⟨D, 0, none⟩ (.int .i64 (f' : Nat))) D f' k v :=
  (h.set 0 _).congr fun i hi => by
    have : i = 0 ∨ i = 1 ∨ i = 2 := by omega
    rcases this with rfl | rfl | rfl <;> rfl

theorem stay1 {w : World} {D : Nat} (a : Value) {S : Nat → Prop} (h : S D) : Stay S w (w.setCell ⟨D, 0, none⟩ a) := (Stay.refl S w).setCell (p := ⟨D, 0, none⟩) h _

/-- What the code does behind the end of what waited, of a byte b: out is told, q waits. -/
structure NewB (b : Nat) (q out : List Nat) : Prop where
  go : ∀ (D base n : Nat) (t : Value) (xs : List Value) (w : World), Tbl w → DecP w D [] → 1 < D → D < base → base ≤ w.heap.size → w.ownsRow base 21 1 t n xs → n < 999995 →
    ∀ f s : Nat, formE b = .returned (.tuple #[.int .i64 (f : Nat), .bool true]) → f < 9 → tabN.getD (9 * f) 0 = s →
    Calls Tryd.prog 47 #[.pointer (some ⟨D, 0, none⟩), t, .int .u8 ((b % 2 ^ (8 - s) : Nat) : Int)] (w.setCell ⟨D, 0, none⟩ (.int .i64 (f : Nat))) fun e w' =>
      ∃ t', e = .returned t' ∧ w'.ownsRow base 21 1 t' (n + out.length) (xs ++ out.map rv) ∧ DecP w' D q ∧ Stay (fun k => k = D ∨ base ≤ k) w w'

theorem ret_tuple {x y : Int} {a b : Bool} (h : Ending.returned (.tuple #[.int .i64 x, .bool a]) = Ending.returned (.tuple #[.int .i64 y, .bool b])) : x = y ∧ a = b := by
  simpa using h

theorem new_ascii {b : Nat} (h : b < 128) : NewB b [] [b] := by
  refine ⟨fun D base n t xs w hT hD h0 hb hbw ht hn f s hf h9 hs => ?_⟩
  have e := formE_yes (b := b) (k := 0) (idx_ascii h) (by decide)
  rw [e] at hf
  have e2 : f = 0 := by have := (ret_tuple hf).1; omega
  subst e2
  have hs1 : s = 1 := by rw [← hs]; rfl
  subst hs1
  have st := stay1 (w := w) (D := D) (.int .i64 ((0 : Nat) : Int)) (S := fun k => k = D) rfl
  refine (take_full D 0 0 0 base n _ b 1 t xs _ (st.tbl hT (by omega) (by omega)) (hD.set0 0) h0 hb (by simpa using hbw) (st.owns ht (own_ne ht hb)) (by omega) (by decide) rfl rfl (by decide) (by decide) (by omega) ?_).mono
    fun e w' ⟨t', he, h1, h2, h3⟩ => ⟨t', he, h1, h2, (st.mono fun k _ h => Or.inl h).trans h3⟩
  rw [show b % 2 ^ (8 - 1) = b by omega]
  exact bits_or0 b (by omega)

theorem new_lead {b : Nat} (h : lead b = true) : NewB b [b] [] := by
  refine ⟨fun D base n t xs w hT hD h0 hb hbw ht hn f s hf h9 hs => ?_⟩
  obtain ⟨i1, i2, _⟩ := idx_lead h
  have e := formE_yes (b := b) rfl i1
  rw [e] at hf
  have e2 : f = idx b := by have := (ret_tuple hf).1; omega
  subst e2
  have hs1 : s = long b := by rw [← hs, i2]
  subst hs1
  have hl := long_bd b
  have hm : b % 2 ^ (8 - long b) < 256 := Nat.lt_of_lt_of_le (Nat.mod_lt _ (Nat.two_pow_pos _)) (Nat.pow_le_pow_right (by decide) (by omega : 8 - long b ≤ 8))
  have st := stay1 (w := w) (D := D) (.int .i64 ((idx b : Nat) : Int)) (S := fun k => k = D) rfl
  refine (take_more D (idx b) 0 0 _ (b % 2 ^ (8 - long b)) (long b) t _ (st.tbl hT (by omega) (by omega)) (hD.set0 _) h0 i1 i2 (by omega) (by decide) (by decide) hm (bits_or0 _ hm)).mono
    fun e w' ⟨he, h1, h2⟩ => ⟨t, he, ?_, h1, (st.trans h2).mono fun k _ h => Or.inl h⟩
  have := (st.trans h2).owns ht (own_ne ht hb)
  simpa using this

theorem endP_len (p : List Nat) : (endP p).length ≤ 1 := by unfold endP; split <;> simp

set_option maxHeartbeats 2000000 in
theorem feed_bad (p : List Nat) (b D base n : Nat) (t : Value) (xs : List Value) (w : World) (hp : Right p) (hT : Tbl w) (hD : DecP w D p) (h0 : 1 < D) (hb : D < base)
    (hbw : base ≤ w.heap.size) (ht : w.ownsRow base 21 1 t n xs) (hn : n < 999990) (hst : p = [] ∨ beg (p ++ [b]) = false)
    (hq : feedP p b = ([], endP p ++ [65533])) (hF : formE b = .returned (.tuple #[.int .i64 0, .bool false])) :
    Calls Tryd.prog 26 #[.pointer (some ⟨D, 0, none⟩), t, .int .u8 (b : Nat)] w (Fed D base n xs p b w) := by
  have HE := hide' (fun W (h : Stay (fun _ => False) w W) => end_all p D base n t xs W (right_len hp) (h.row hD (fun h => h)) hb (Nat.le_trans hbw h.size) (h.owns ht (fun _ _ h => h)) (by omega))
  have HTB := hide' hT
  have HQ := hide' hq
  have HF := hide' hF
  clear hq hF
  by_cases hne : p = []
  · have c1 : w.cell? ⟨D, 1, none⟩ = some (.int .i64 0) := by
      rw [hne] at hD
      exact World.rowIs.cell (decP_nil ▸ hD) (i := 1) (by decide)
    clear hT hD ht hp hst hne
    go_enter Tryd.func26, Tryd.ntmps26
    go_wp2_with fail
    go_quiet (fail)
    go_wp2_with fail
    have HS : Hid (Stay (fun _ => False) w (w.drewN nq)) := (Stay.refl _ w).drewN nq
    generalize w.drewN nq = w1 at *
    refine (HE.out w1 HS.out).mono ?_
    rintro e w2 ⟨t2, rfl, ho2, hd2, hs2⟩
    have HO2 := hide' ho2
    have HD2 := hide' hd2
    have HS2 : Hid (Stay (fun k => k = D ∨ base ≤ k) w w2) := (HS.out.mono fun k _ h => h.elim).trans hs2
    have HT2 : Hid (Tbl w2) := HS2.out.tbl HTB.out (by omega) (by omega)
    have z0 : 1 < w2.heap.size := by have := HS2.out.size; omega
    have HFO := hide' (formOf_any b w2 HT2.out z0)
    clear ho2 hd2 hs2 z0
    go_wp2_with fail
    refine HFO.out.mono ?_
    rintro e w3 ⟨rfl, hb3⟩
    rw [HF.out]
    have HS3 : Hid (Stay (fun _ => False) w2 w3) := Stay.of_below hb3 (fun k h1 h2 => by omega)
    have HO3 := hide' (HS3.out.owns HO2.out (fun _ _ h => h))
    have HD3 : Hid (DecP w3 D []) := HS3.out.row HD2.out (fun h => h)
    have hw3 : base ≤ w3.heap.size := by have := HS2.out.size; have := HS3.out.size; omega
    have hn3 : n + (endP p).length < 1000000 := by have := endP_len p; omega
    clear hb3
    go_wp2_with (at_builtin; refine app1 rfl _ _ rfl 65533 rfl HO3.out rfl (by simp) hn3 hw3 ?_; intro t' w4 ho4 hs4)
    have HR : Hid (Fed D base n xs p b w (.returned t') w4) := by
      refine ⟨t', rfl, ?_, ?_, (HS2.out.trans (HS3.out.mono fun k _ h => h.elim)).trans (hs4.mono fun k _ h => Or.inr h)⟩
      · rw [HQ.out, List.length_append, List.map_append, ← List.append_assoc, ← Nat.add_assoc]; exact ho4
      · rw [HQ.out]; exact hs4.row HD3.out (by omega)
    clear ho4 hs4
    go_ret
    exact HR.out
  · skip
    have hg : beg (p ++ [b]) = false := hst.resolve_left hne
    have hd := decP_pend hD hne
    have hle : lead (p.headD 0) = true := by
      rcases hp with rfl | ⟨h1, h2⟩
      · exact absurd rfl hne
      · have := beg_take h1 0 (List.length_pos_iff.2 hne)
        cases p with
        | nil => exact absurd rfl hne
        | cons c r => simpa [beg] using this
    obtain ⟨i1, _⟩ := idx_lead hle
    have hk3 := right_len hp
    have hk0 := List.length_pos_iff.2 hne
    have hh := next_holds hp hne b
    rw [hg] at hh
    obtain ⟨k, hk⟩ : ∃ k, k = p.length := ⟨_, rfl⟩
    obtain ⟨g, hgi⟩ : ∃ f, f = idx (p.headD 0) := ⟨_, rfl⟩
    obtain ⟨v, hv⟩ : ∃ v, v = valF p := ⟨_, rfl⟩
    rw [← hk, ← hgi, ← hv] at hd
    rw [← hk, ← hgi] at hh
    rw [← hk] at hk3 hk0
    rw [← hgi] at i1
    have c1 : w.cell? ⟨D, 1, none⟩ = some (.int .i64 (k : Nat)) := hd.cell (i := 1) (by decide)
    have c0 : w.cell? ⟨D, 0, none⟩ = some (.int .i64 (g : Nat)) := hd.cell (i := 0) (by decide)
    have t1 : w.cell? ⟨1, g * 9 + 1 + k * 2, none⟩ = some (.int .u8 (tabN.getD (9 * g + 1 + 2 * k) 0 : Nat)) := by
      rw [show g * 9 + 1 + k * 2 = 9 * g + 1 + 2 * k by omega, hT _ (by omega)]; unfold tabV; rw [if_neg (by omega)]
    have t2 : w.cell? ⟨1, g * 9 + 1 + k * 2 + 1, none⟩ = some (.int .u8 (tabN.getD (9 * g + 2 + 2 * k) 0 : Nat)) := by
      rw [show g * 9 + 1 + k * 2 + 1 = 9 * g + 2 + 2 * k by omega, hT _ (by omega)]; unfold tabV; rw [if_neg (by omega)]
    obtain ⟨lo, hlo⟩ : ∃ x, x = tabN.getD (9 * g + 1 + 2 * k) 0 := ⟨_, rfl⟩
    obtain ⟨hi, hhi⟩ : ∃ x, x = tabN.getD (9 * g + 2 + 2 * k) 0 := ⟨_, rfl⟩
    rw [← hlo] at t1 hh
    rw [← hhi] at t2 hh
    have HH := hide' (fun W => hold_any (lo : Nat) (hi : Nat) (b : Nat) false W (by rw [← hh, Bool.eq_iff_iff]; simp))
    have y1 : (0 : Int) ≤ g := by omega
    have y2 : (g : Int) < 9 := by omega
    have y3 : (0 : Int) < k := by omega
    have y4 : (k : Int) < 4 := by omega
    have kd : decide ((0 : Int) < k) = true := by simp; omega
    clear hk hgi hv hlo hhi hh hd hT hD hg hp hle ht hne hst
    go_enter Tryd.func26, Tryd.ntmps26
    go_wp2_with fail
    refine wp_region_still_tail 19 (by kernel_rfl) (by kernel_rfl) ?_
    simp only [List.take_succ_cons, List.take_zero, List.drop_succ_cons, List.drop_zero]
    refine still_begin (fun K hK => ?_)
    iterate 19 (refine next_want hK ?_ ?_; kernel_rfl; clear hK K; intro K hK; go_simp)
    refine hK _ (wpStill_nil ?_)
    clear hK K
    go_wp2_with fail
    refine (HH.out _).mono ?_
    rintro e w1 ⟨rfl, hb1⟩
    have HS : Hid (Stay (fun _ => False) w w1) := ((Stay.refl _ w).drew).trans (Stay.of_below hb1 (fun k h1 h2 => by omega))
    clear hb1 c0 c1 t1 t2 HH
    go_wp2_with fail
    refine (HE.out w1 HS.out).mono ?_
    rintro e w2 ⟨t2, rfl, ho2, hd2, hs2⟩
    have HO2 := hide' ho2
    have HD2 := hide' hd2
    have HS2 : Hid (Stay (fun k => k = D ∨ base ≤ k) w w2) := (HS.out.mono fun k _ h => h.elim).trans hs2
    have HT2 : Hid (Tbl w2) := HS2.out.tbl HTB.out (by omega) (by omega)
    have z0 : 1 < w2.heap.size := by have := HS2.out.size; omega
    have HFO := hide' (formOf_any b w2 HT2.out z0)
    clear ho2 hd2 hs2 z0
    go_wp2_with fail
    refine HFO.out.mono ?_
    rintro e w3 ⟨rfl, hb3⟩
    rw [HF.out]
    have HS3 : Hid (Stay (fun _ => False) w2 w3) := Stay.of_below hb3 (fun k h1 h2 => by omega)
    have HO3 := hide' (HS3.out.owns HO2.out (fun _ _ h => h))
    have HD3 : Hid (DecP w3 D []) := HS3.out.row HD2.out (fun h => h)
    have hw3 : base ≤ w3.heap.size := by have := HS2.out.size; have := HS3.out.size; omega
    have hn3 : n + (endP p).length < 1000000 := by have := endP_len p; omega
    clear hb3
    go_wp2_with (at_builtin; refine app1 rfl _ _ rfl 65533 rfl HO3.out rfl (by simp) hn3 hw3 ?_; intro t' w4 ho4 hs4)
    have HR : Hid (Fed D base n xs p b w (.returned t') w4) := by
      refine ⟨t', rfl, ?_, ?_, (HS2.out.trans (HS3.out.mono fun k _ h => h.elim)).trans (hs4.mono fun k _ h => Or.inr h)⟩
      · rw [HQ.out, List.length_append, List.map_append, ← List.append_assoc, ← Nat.add_assoc]; exact ho4
      · rw [HQ.out]; exact hs4.row HD3.out (by omega)
    clear ho4 hs4
    go_ret
    exact HR.out

set_option maxHeartbeats 2000000 in
theorem feed_new1 (p : List Nat) (b D base n : Nat) (q out : List Nat) (f : Nat) (t : Value) (xs : List Value) (w : World) (hb256 : b < 256) (hp : Right p) (hT : Tbl w) (hD : DecP w D p) (h0 : 1 < D) (hb : D < base)
    (hbw : base ≤ w.heap.size) (ht : w.ownsRow base 21 1 t n xs) (hn : n < 999990) (hst : p = [] ∨ beg (p ++ [b]) = false)
    (hN : NewB b q out) (hq : feedP p b = (q, endP p ++ out)) (hF : formE b = .returned (.tuple #[.int .i64 (f : Nat), .bool true])) (hf : f < 9) (hs : tabN.getD (9 * f) 0 = 1) :
    Calls Tryd.prog 26 #[.pointer (some ⟨D, 0, none⟩), t, .int .u8 (b : Nat)] w (Fed D base n xs p b w) := by
  have HE := hide' (fun W (h : Stay (fun _ => False) w W) => end_all p D base n t xs W (right_len hp) (h.row hD (fun h => h)) hb (Nat.le_trans hbw h.size) (h.owns ht (fun _ _ h => h)) (by omega))
  have HTB := hide' hT
  have HQ := hide' hq
  have HF := hide' hF
  clear hq hF
  have HSS := hide' hs
  have HB : Hid (bits .and .u8 (b : Int) 127 = ((b % 2 ^ (8 - 1) : Nat) : Int)) := by
    show bits .and .u8 (b : Int) 127 = ((b % 2 ^ (8 - 1) : Nat) : Int)
    have := bits_mask .u8 8 (by decide) wraps_u8 7 (by decide) (b : Int) (by omega) (by omega)
    rw [show ((2 : Int) ^ 7 - 1) = 127 by decide] at this
    rw [this]; omega
  have z1 : (0 : Int) ≤ f := by omega
  have z2 : (f : Int) < 9 := by omega
  have n1 : ¬ D = 1 := by omega
  have n2 : ¬ 0 = D := by omega
  clear hs
  by_cases hne : p = []
  · have c1 : w.cell? ⟨D, 1, none⟩ = some (.int .i64 0) := by
      rw [hne] at hD
      exact World.rowIs.cell (decP_nil ▸ hD) (i := 1) (by decide)
    clear hT hD ht hp hst hne
    go_enter Tryd.func26, Tryd.ntmps26
    go_wp2_with fail
    go_quiet (fail)
    go_wp2_with fail
    have HS : Hid (Stay (fun _ => False) w (w.drewN nq)) := (Stay.refl _ w).drewN nq
    generalize w.drewN nq = w1 at *
    refine (HE.out w1 HS.out).mono ?_
    rintro e w2 ⟨t2, rfl, ho2, hd2, hs2⟩
    have HO2 := hide' ho2
    have HD2 := hide' hd2
    have HS2 : Hid (Stay (fun k => k = D ∨ base ≤ k) w w2) := (HS.out.mono fun k _ h => h.elim).trans hs2
    have HT2 : Hid (Tbl w2) := HS2.out.tbl HTB.out (by omega) (by omega)
    have z0 : 1 < w2.heap.size := by have := HS2.out.size; omega
    have HFO := hide' (formOf_any b w2 HT2.out z0)
    clear ho2 hd2 hs2 z0
    go_wp2_with fail
    refine HFO.out.mono ?_
    rintro e w3 ⟨rfl, hb3⟩
    rw [HF.out]
    have HS3 : Hid (Stay (fun _ => False) w2 w3) := Stay.of_below hb3 (fun k h1 h2 => by omega)
    have HO3 := hide' (HS3.out.owns HO2.out (fun _ _ h => h))
    have HD3 : Hid (DecP w3 D []) := HS3.out.row HD2.out (fun h => h)
    have HT3 : Hid (Tbl w3) := HS3.out.tbl HT2.out (fun h => h) (by have := HS2.out.size; omega)
    have ct := HT3.out.size hf HSS.out
    have d0 : w3.cell? ⟨D, 0, none⟩ = some (.int .i64 (0 : Nat)) := World.rowIs.cell (decP_nil ▸ HD3.out) (i := 0) (by decide)
    have f0 : w3.frozen? ⟨D, 0, none⟩ = false := World.rowIs.frozen (decP_nil ▸ HD3.out) 0
    have hw3 : base ≤ w3.heap.size := by have := HS2.out.size; have := HS3.out.size; omega
    have HG := hide' (hN.go D base _ t2 _ w3 HT3.out HD3.out h0 hb hw3 HO3.out (by have := endP_len p; omega) f _ HF.out hf HSS.out)
    clear hb3 hw3
    go_wp2_with fail
    rw [HB.out]
    refine HG.out.mono ?_
    rintro e w4 ⟨t4, rfl, ho4, hd4, hs4⟩
    have HR : Hid (Fed D base n xs p b w (.returned t4) w4) := by
      refine ⟨t4, rfl, ?_, ?_, (HS2.out.trans (HS3.out.mono fun k _ h => h.elim)).trans hs4⟩
      · rw [HQ.out, List.length_append, List.map_append, ← List.append_assoc, ← Nat.add_assoc]; exact ho4
      · rw [HQ.out]; exact hd4
    clear ho4 hd4 hs4
    go_wp2
    go_ret
    exact HR.out
  · skip
    have hg : beg (p ++ [b]) = false := hst.resolve_left hne
    have hd := decP_pend hD hne
    have hle : lead (p.headD 0) = true := by
      rcases hp with rfl | ⟨h1, h2⟩
      · exact absurd rfl hne
      · have := beg_take h1 0 (List.length_pos_iff.2 hne)
        cases p with
        | nil => exact absurd rfl hne
        | cons c r => simpa [beg] using this
    obtain ⟨i1, _⟩ := idx_lead hle
    have hk3 := right_len hp
    have hk0 := List.length_pos_iff.2 hne
    have hh := next_holds hp hne b
    rw [hg] at hh
    obtain ⟨k, hk⟩ : ∃ k, k = p.length := ⟨_, rfl⟩
    obtain ⟨g, hgi⟩ : ∃ f, f = idx (p.headD 0) := ⟨_, rfl⟩
    obtain ⟨v, hv⟩ : ∃ v, v = valF p := ⟨_, rfl⟩
    rw [← hk, ← hgi, ← hv] at hd
    rw [← hk, ← hgi] at hh
    rw [← hk] at hk3 hk0
    rw [← hgi] at i1
    have c1 : w.cell? ⟨D, 1, none⟩ = some (.int .i64 (k : Nat)) := hd.cell (i := 1) (by decide)
    have c0 : w.cell? ⟨D, 0, none⟩ = some (.int .i64 (g : Nat)) := hd.cell (i := 0) (by decide)
    have t1 : w.cell? ⟨1, g * 9 + 1 + k * 2, none⟩ = some (.int .u8 (tabN.getD (9 * g + 1 + 2 * k) 0 : Nat)) := by
      rw [show g * 9 + 1 + k * 2 = 9 * g + 1 + 2 * k by omega, hT _ (by omega)]; unfold tabV; rw [if_neg (by omega)]
    have t2 : w.cell? ⟨1, g * 9 + 1 + k * 2 + 1, none⟩ = some (.int .u8 (tabN.getD (9 * g + 2 + 2 * k) 0 : Nat)) := by
      rw [show g * 9 + 1 + k * 2 + 1 = 9 * g + 2 + 2 * k by omega, hT _ (by omega)]; unfold tabV; rw [if_neg (by omega)]
    obtain ⟨lo, hlo⟩ : ∃ x, x = tabN.getD (9 * g + 1 + 2 * k) 0 := ⟨_, rfl⟩
    obtain ⟨hi, hhi⟩ : ∃ x, x = tabN.getD (9 * g + 2 + 2 * k) 0 := ⟨_, rfl⟩
    rw [← hlo] at t1 hh
    rw [← hhi] at t2 hh
    have HH := hide' (fun W => hold_any (lo : Nat) (hi : Nat) (b : Nat) false W (by rw [← hh, Bool.eq_iff_iff]; simp))
    have y1 : (0 : Int) ≤ g := by omega
    have y2 : (g : Int) < 9 := by omega
    have y3 : (0 : Int) < k := by omega
    have y4 : (k : Int) < 4 := by omega
    have kd : decide ((0 : Int) < k) = true := by simp; omega
    clear hk hgi hv hlo hhi hh hd hT hD hg hp hle ht hne hst
    go_enter Tryd.func26, Tryd.ntmps26
    go_wp2_with fail
    refine wp_region_still_tail 19 (by kernel_rfl) (by kernel_rfl) ?_
    simp only [List.take_succ_cons, List.take_zero, List.drop_succ_cons, List.drop_zero]
    refine still_begin (fun K hK => ?_)
    iterate 19 (refine next_want hK ?_ ?_; kernel_rfl; clear hK K; intro K hK; go_simp)
    refine hK _ (wpStill_nil ?_)
    clear hK K
    go_wp2_with fail
    refine (HH.out _).mono ?_
    rintro e w1 ⟨rfl, hb1⟩
    have HS : Hid (Stay (fun _ => False) w w1) := ((Stay.refl _ w).drew).trans (Stay.of_below hb1 (fun k h1 h2 => by omega))
    clear hb1 c0 c1 t1 t2 HH
    go_wp2_with fail
    refine (HE.out w1 HS.out).mono ?_
    rintro e w2 ⟨t2, rfl, ho2, hd2, hs2⟩
    have HO2 := hide' ho2
    have HD2 := hide' hd2
    have HS2 : Hid (Stay (fun k => k = D ∨ base ≤ k) w w2) := (HS.out.mono fun k _ h => h.elim).trans hs2
    have HT2 : Hid (Tbl w2) := HS2.out.tbl HTB.out (by omega) (by omega)
    have z0 : 1 < w2.heap.size := by have := HS2.out.size; omega
    have HFO := hide' (formOf_any b w2 HT2.out z0)
    clear ho2 hd2 hs2 z0
    go_wp2_with fail
    refine HFO.out.mono ?_
    rintro e w3 ⟨rfl, hb3⟩
    rw [HF.out]
    have HS3 : Hid (Stay (fun _ => False) w2 w3) := Stay.of_below hb3 (fun k h1 h2 => by omega)
    have HO3 := hide' (HS3.out.owns HO2.out (fun _ _ h => h))
    have HD3 : Hid (DecP w3 D []) := HS3.out.row HD2.out (fun h => h)
    have HT3 : Hid (Tbl w3) := HS3.out.tbl HT2.out (fun h => h) (by have := HS2.out.size; omega)
    have ct := HT3.out.size hf HSS.out
    have d0 : w3.cell? ⟨D, 0, none⟩ = some (.int .i64 (0 : Nat)) := World.rowIs.cell (decP_nil ▸ HD3.out) (i := 0) (by decide)
    have f0 : w3.frozen? ⟨D, 0, none⟩ = false := World.rowIs.frozen (decP_nil ▸ HD3.out) 0
    have hw3 : base ≤ w3.heap.size := by have := HS2.out.size; have := HS3.out.size; omega
    have HG := hide' (hN.go D base _ t2 _ w3 HT3.out HD3.out h0 hb hw3 HO3.out (by have := endP_len p; omega) f _ HF.out hf HSS.out)
    clear hb3 hw3
    go_wp2_with fail
    rw [HB.out]
    refine HG.out.mono ?_
    rintro e w4 ⟨t4, rfl, ho4, hd4, hs4⟩
    have HR : Hid (Fed D base n xs p b w (.returned t4) w4) := by
      refine ⟨t4, rfl, ?_, ?_, (HS2.out.trans (HS3.out.mono fun k _ h => h.elim)).trans hs4⟩
      · rw [HQ.out, List.length_append, List.map_append, ← List.append_assoc, ← Nat.add_assoc]; exact ho4
      · rw [HQ.out]; exact hd4
    clear ho4 hd4 hs4
    go_wp2
    go_ret
    exact HR.out

set_option maxHeartbeats 2000000 in
theorem feed_new2 (p : List Nat) (b D base n : Nat) (q out : List Nat) (f : Nat) (t : Value) (xs : List Value) (w : World) (hb256 : b < 256) (hp : Right p) (hT : Tbl w) (hD : DecP w D p) (h0 : 1 < D) (hb : D < base)
    (hbw : base ≤ w.heap.size) (ht : w.ownsRow base 21 1 t n xs) (hn : n < 999990) (hst : p = [] ∨ beg (p ++ [b]) = false)
    (hN : NewB b q out) (hq : feedP p b = (q, endP p ++ out)) (hF : formE b = .returned (.tuple #[.int .i64 (f : Nat), .bool true])) (hf : f < 9) (hs : tabN.getD (9 * f) 0 = 2) :
    Calls Tryd.prog 26 #[.pointer (some ⟨D, 0, none⟩), t, .int .u8 (b : Nat)] w (Fed D base n xs p b w) := by
  have HE := hide' (fun W (h : Stay (fun _ => False) w W) => end_all p D base n t xs W (right_len hp) (h.row hD (fun h => h)) hb (Nat.le_trans hbw h.size) (h.owns ht (fun _ _ h => h)) (by omega))
  have HTB := hide' hT
  have HQ := hide' hq
  have HF := hide' hF
  clear hq hF
  have HSS := hide' hs
  have HB : Hid ((b : Int) % 64 = ((b % 2 ^ (8 - 2) : Nat) : Int)) := by show (b : Int) % 64 = ((b % 2 ^ (8 - 2) : Nat) : Int); omega
  have z1 : (0 : Int) ≤ f := by omega
  have z2 : (f : Int) < 9 := by omega
  have n1 : ¬ D = 1 := by omega
  have n2 : ¬ 0 = D := by omega
  clear hs
  by_cases hne : p = []
  · have c1 : w.cell? ⟨D, 1, none⟩ = some (.int .i64 0) := by
      rw [hne] at hD
      exact World.rowIs.cell (decP_nil ▸ hD) (i := 1) (by decide)
    clear hT hD ht hp hst hne
    go_enter Tryd.func26, Tryd.ntmps26
    go_wp2_with fail
    go_quiet (fail)
    go_wp2_with fail
    have HS : Hid (Stay (fun _ => False) w (w.drewN nq)) := (Stay.refl _ w).drewN nq
    generalize w.drewN nq = w1 at *
    refine (HE.out w1 HS.out).mono ?_
    rintro e w2 ⟨t2, rfl, ho2, hd2, hs2⟩
    have HO2 := hide' ho2
    have HD2 := hide' hd2
    have HS2 : Hid (Stay (fun k => k = D ∨ base ≤ k) w w2) := (HS.out.mono fun k _ h => h.elim).trans hs2
    have HT2 : Hid (Tbl w2) := HS2.out.tbl HTB.out (by omega) (by omega)
    have z0 : 1 < w2.heap.size := by have := HS2.out.size; omega
    have HFO := hide' (formOf_any b w2 HT2.out z0)
    clear ho2 hd2 hs2 z0
    go_wp2_with fail
    refine HFO.out.mono ?_
    rintro e w3 ⟨rfl, hb3⟩
    rw [HF.out]
    have HS3 : Hid (Stay (fun _ => False) w2 w3) := Stay.of_below hb3 (fun k h1 h2 => by omega)
    have HO3 := hide' (HS3.out.owns HO2.out (fun _ _ h => h))
    have HD3 : Hid (DecP w3 D []) := HS3.out.row HD2.out (fun h => h)
    have HT3 : Hid (Tbl w3) := HS3.out.tbl HT2.out (fun h => h) (by have := HS2.out.size; omega)
    have ct := HT3.out.size hf HSS.out
    have d0 : w3.cell? ⟨D, 0, none⟩ = some (.int .i64 (0 : Nat)) := World.rowIs.cell (decP_nil ▸ HD3.out) (i := 0) (by decide)
    have f0 : w3.frozen? ⟨D, 0, none⟩ = false := World.rowIs.frozen (decP_nil ▸ HD3.out) 0
    have hw3 : base ≤ w3.heap.size := by have := HS2.out.size; have := HS3.out.size; omega
    have HG := hide' (hN.go D base _ t2 _ w3 HT3.out HD3.out h0 hb hw3 HO3.out (by have := endP_len p; omega) f _ HF.out hf HSS.out)
    clear hb3 hw3
    go_wp2_with fail
    rw [HB.out]
    refine HG.out.mono ?_
    rintro e w4 ⟨t4, rfl, ho4, hd4, hs4⟩
    have HR : Hid (Fed D base n xs p b w (.returned t4) w4) := by
      refine ⟨t4, rfl, ?_, ?_, (HS2.out.trans (HS3.out.mono fun k _ h => h.elim)).trans hs4⟩
      · rw [HQ.out, List.length_append, List.map_append, ← List.append_assoc, ← Nat.add_assoc]; exact ho4
      · rw [HQ.out]; exact hd4
    clear ho4 hd4 hs4
    go_wp2
    go_ret
    exact HR.out
  · skip
    have hg : beg (p ++ [b]) = false := hst.resolve_left hne
    have hd := decP_pend hD hne
    have hle : lead (p.headD 0) = true := by
      rcases hp with rfl | ⟨h1, h2⟩
      · exact absurd rfl hne
      · have := beg_take h1 0 (List.length_pos_iff.2 hne)
        cases p with
        | nil => exact absurd rfl hne
        | cons c r => simpa [beg] using this
    obtain ⟨i1, _⟩ := idx_lead hle
    have hk3 := right_len hp
    have hk0 := List.length_pos_iff.2 hne
    have hh := next_holds hp hne b
    rw [hg] at hh
    obtain ⟨k, hk⟩ : ∃ k, k = p.length := ⟨_, rfl⟩
    obtain ⟨g, hgi⟩ : ∃ f, f = idx (p.headD 0) := ⟨_, rfl⟩
    obtain ⟨v, hv⟩ : ∃ v, v = valF p := ⟨_, rfl⟩
    rw [← hk, ← hgi, ← hv] at hd
    rw [← hk, ← hgi] at hh
    rw [← hk] at hk3 hk0
    rw [← hgi] at i1
    have c1 : w.cell? ⟨D, 1, none⟩ = some (.int .i64 (k : Nat)) := hd.cell (i := 1) (by decide)
    have c0 : w.cell? ⟨D, 0, none⟩ = some (.int .i64 (g : Nat)) := hd.cell (i := 0) (by decide)
    have t1 : w.cell? ⟨1, g * 9 + 1 + k * 2, none⟩ = some (.int .u8 (tabN.getD (9 * g + 1 + 2 * k) 0 : Nat)) := by
      rw [show g * 9 + 1 + k * 2 = 9 * g + 1 + 2 * k by omega, hT _ (by omega)]; unfold tabV; rw [if_neg (by omega)]
    have t2 : w.cell? ⟨1, g * 9 + 1 + k * 2 + 1, none⟩ = some (.int .u8 (tabN.getD (9 * g + 2 + 2 * k) 0 : Nat)) := by
      rw [show g * 9 + 1 + k * 2 + 1 = 9 * g + 2 + 2 * k by omega, hT _ (by omega)]; unfold tabV; rw [if_neg (by omega)]
    obtain ⟨lo, hlo⟩ : ∃ x, x = tabN.getD (9 * g + 1 + 2 * k) 0 := ⟨_, rfl⟩
    obtain ⟨hi, hhi⟩ : ∃ x, x = tabN.getD (9 * g + 2 + 2 * k) 0 := ⟨_, rfl⟩
    rw [← hlo] at t1 hh
    rw [← hhi] at t2 hh
    have HH := hide' (fun W => hold_any (lo : Nat) (hi : Nat) (b : Nat) false W (by rw [← hh, Bool.eq_iff_iff]; simp))
    have y1 : (0 : Int) ≤ g := by omega
    have y2 : (g : Int) < 9 := by omega
    have y3 : (0 : Int) < k := by omega
    have y4 : (k : Int) < 4 := by omega
    have kd : decide ((0 : Int) < k) = true := by simp; omega
    clear hk hgi hv hlo hhi hh hd hT hD hg hp hle ht hne hst
    go_enter Tryd.func26, Tryd.ntmps26
    go_wp2_with fail
    refine wp_region_still_tail 19 (by kernel_rfl) (by kernel_rfl) ?_
    simp only [List.take_succ_cons, List.take_zero, List.drop_succ_cons, List.drop_zero]
    refine still_begin (fun K hK => ?_)
    iterate 19 (refine next_want hK ?_ ?_; kernel_rfl; clear hK K; intro K hK; go_simp)
    refine hK _ (wpStill_nil ?_)
    clear hK K
    go_wp2_with fail
    refine (HH.out _).mono ?_
    rintro e w1 ⟨rfl, hb1⟩
    have HS : Hid (Stay (fun _ => False) w w1) := ((Stay.refl _ w).drew).trans (Stay.of_below hb1 (fun k h1 h2 => by omega))
    clear hb1 c0 c1 t1 t2 HH
    go_wp2_with fail
    refine (HE.out w1 HS.out).mono ?_
    rintro e w2 ⟨t2, rfl, ho2, hd2, hs2⟩
    have HO2 := hide' ho2
    have HD2 := hide' hd2
    have HS2 : Hid (Stay (fun k => k = D ∨ base ≤ k) w w2) := (HS.out.mono fun k _ h => h.elim).trans hs2
    have HT2 : Hid (Tbl w2) := HS2.out.tbl HTB.out (by omega) (by omega)
    have z0 : 1 < w2.heap.size := by have := HS2.out.size; omega
    have HFO := hide' (formOf_any b w2 HT2.out z0)
    clear ho2 hd2 hs2 z0
    go_wp2_with fail
    refine HFO.out.mono ?_
    rintro e w3 ⟨rfl, hb3⟩
    rw [HF.out]
    have HS3 : Hid (Stay (fun _ => False) w2 w3) := Stay.of_below hb3 (fun k h1 h2 => by omega)
    have HO3 := hide' (HS3.out.owns HO2.out (fun _ _ h => h))
    have HD3 : Hid (DecP w3 D []) := HS3.out.row HD2.out (fun h => h)
    have HT3 : Hid (Tbl w3) := HS3.out.tbl HT2.out (fun h => h) (by have := HS2.out.size; omega)
    have ct := HT3.out.size hf HSS.out
    have d0 : w3.cell? ⟨D, 0, none⟩ = some (.int .i64 (0 : Nat)) := World.rowIs.cell (decP_nil ▸ HD3.out) (i := 0) (by decide)
    have f0 : w3.frozen? ⟨D, 0, none⟩ = false := World.rowIs.frozen (decP_nil ▸ HD3.out) 0
    have hw3 : base ≤ w3.heap.size := by have := HS2.out.size; have := HS3.out.size; omega
    have HG := hide' (hN.go D base _ t2 _ w3 HT3.out HD3.out h0 hb hw3 HO3.out (by have := endP_len p; omega) f _ HF.out hf HSS.out)
    clear hb3 hw3
    go_wp2_with fail
    rw [HB.out]
    refine HG.out.mono ?_
    rintro e w4 ⟨t4, rfl, ho4, hd4, hs4⟩
    have HR : Hid (Fed D base n xs p b w (.returned t4) w4) := by
      refine ⟨t4, rfl, ?_, ?_, (HS2.out.trans (HS3.out.mono fun k _ h => h.elim)).trans hs4⟩
      · rw [HQ.out, List.length_append, List.map_append, ← List.append_assoc, ← Nat.add_assoc]; exact ho4
      · rw [HQ.out]; exact hd4
    clear ho4 hd4 hs4
    go_wp2
    go_ret
    exact HR.out

set_option maxHeartbeats 2000000 in
theorem feed_new3 (p : List Nat) (b D base n : Nat) (q out : List Nat) (f : Nat) (t : Value) (xs : List Value) (w : World) (hb256 : b < 256) (hp : Right p) (hT : Tbl w) (hD : DecP w D p) (h0 : 1 < D) (hb : D < base)
    (hbw : base ≤ w.heap.size) (ht : w.ownsRow base 21 1 t n xs) (hn : n < 999990) (hst : p = [] ∨ beg (p ++ [b]) = false)
    (hN : NewB b q out) (hq : feedP p b = (q, endP p ++ out)) (hF : formE b = .returned (.tuple #[.int .i64 (f : Nat), .bool true])) (hf : f < 9) (hs : tabN.getD (9 * f) 0 = 3) :
    Calls Tryd.prog 26 #[.pointer (some ⟨D, 0, none⟩), t, .int .u8 (b : Nat)] w (Fed D base n xs p b w) := by
  have HE := hide' (fun W (h : Stay (fun _ => False) w W) => end_all p D base n t xs W (right_len hp) (h.row hD (fun h => h)) hb (Nat.le_trans hbw h.size) (h.owns ht (fun _ _ h => h)) (by omega))
  have HTB := hide' hT
  have HQ := hide' hq
  have HF := hide' hF
  clear hq hF
  have HSS := hide' hs
  have HB : Hid ((b : Int) % 32 = ((b % 2 ^ (8 - 3) : Nat) : Int)) := by show (b : Int) % 32 = ((b % 2 ^ (8 - 3) : Nat) : Int); omega
  have z1 : (0 : Int) ≤ f := by omega
  have z2 : (f : Int) < 9 := by omega
  have n1 : ¬ D = 1 := by omega
  have n2 : ¬ 0 = D := by omega
  clear hs
  by_cases hne : p = []
  · have c1 : w.cell? ⟨D, 1, none⟩ = some (.int .i64 0) := by
      rw [hne] at hD
      exact World.rowIs.cell (decP_nil ▸ hD) (i := 1) (by decide)
    clear hT hD ht hp hst hne
    go_enter Tryd.func26, Tryd.ntmps26
    go_wp2_with fail
    go_quiet (fail)
    go_wp2_with fail
    have HS : Hid (Stay (fun _ => False) w (w.drewN nq)) := (Stay.refl _ w).drewN nq
    generalize w.drewN nq = w1 at *
    refine (HE.out w1 HS.out).mono ?_
    rintro e w2 ⟨t2, rfl, ho2, hd2, hs2⟩
    have HO2 := hide' ho2
    have HD2 := hide' hd2
    have HS2 : Hid (Stay (fun k => k = D ∨ base ≤ k) w w2) := (HS.out.mono fun k _ h => h.elim).trans hs2
    have HT2 : Hid (Tbl w2) := HS2.out.tbl HTB.out (by omega) (by omega)
    have z0 : 1 < w2.heap.size := by have := HS2.out.size; omega
    have HFO := hide' (formOf_any b w2 HT2.out z0)
    clear ho2 hd2 hs2 z0
    go_wp2_with fail
    refine HFO.out.mono ?_
    rintro e w3 ⟨rfl, hb3⟩
    rw [HF.out]
    have HS3 : Hid (Stay (fun _ => False) w2 w3) := Stay.of_below hb3 (fun k h1 h2 => by omega)
    have HO3 := hide' (HS3.out.owns HO2.out (fun _ _ h => h))
    have HD3 : Hid (DecP w3 D []) := HS3.out.row HD2.out (fun h => h)
    have HT3 : Hid (Tbl w3) := HS3.out.tbl HT2.out (fun h => h) (by have := HS2.out.size; omega)
    have ct := HT3.out.size hf HSS.out
    have d0 : w3.cell? ⟨D, 0, none⟩ = some (.int .i64 (0 : Nat)) := World.rowIs.cell (decP_nil ▸ HD3.out) (i := 0) (by decide)
    have f0 : w3.frozen? ⟨D, 0, none⟩ = false := World.rowIs.frozen (decP_nil ▸ HD3.out) 0
    have hw3 : base ≤ w3.heap.size := by have := HS2.out.size; have := HS3.out.size; omega
    have HG := hide' (hN.go D base _ t2 _ w3 HT3.out HD3.out h0 hb hw3 HO3.out (by have := endP_len p; omega) f _ HF.out hf HSS.out)
    clear hb3 hw3
    go_wp2_with fail
    rw [HB.out]
    refine HG.out.mono ?_
    rintro e w4 ⟨t4, rfl, ho4, hd4, hs4⟩
    have HR : Hid (Fed D base n xs p b w (.returned t4) w4) := by
      refine ⟨t4, rfl, ?_, ?_, (HS2.out.trans (HS3.out.mono fun k _ h => h.elim)).trans hs4⟩
      · rw [HQ.out, List.length_append, List.map_append, ← List.append_assoc, ← Nat.add_assoc]; exact ho4
      · rw [HQ.out]; exact hd4
    clear ho4 hd4 hs4
    go_wp2
    go_ret
    exact HR.out
  · skip
    have hg : beg (p ++ [b]) = false := hst.resolve_left hne
    have hd := decP_pend hD hne
    have hle : lead (p.headD 0) = true := by
      rcases hp with rfl | ⟨h1, h2⟩
      · exact absurd rfl hne
      · have := beg_take h1 0 (List.length_pos_iff.2 hne)
        cases p with
        | nil => exact absurd rfl hne
        | cons c r => simpa [beg] using this
    obtain ⟨i1, _⟩ := idx_lead hle
    have hk3 := right_len hp
    have hk0 := List.length_pos_iff.2 hne
    have hh := next_holds hp hne b
    rw [hg] at hh
    obtain ⟨k, hk⟩ : ∃ k, k = p.length := ⟨_, rfl⟩
    obtain ⟨g, hgi⟩ : ∃ f, f = idx (p.headD 0) := ⟨_, rfl⟩
    obtain ⟨v, hv⟩ : ∃ v, v = valF p := ⟨_, rfl⟩
    rw [← hk, ← hgi, ← hv] at hd
    rw [← hk, ← hgi] at hh
    rw [← hk] at hk3 hk0
    rw [← hgi] at i1
    have c1 : w.cell? ⟨D, 1, none⟩ = some (.int .i64 (k : Nat)) := hd.cell (i := 1) (by decide)
    have c0 : w.cell? ⟨D, 0, none⟩ = some (.int .i64 (g : Nat)) := hd.cell (i := 0) (by decide)
    have t1 : w.cell? ⟨1, g * 9 + 1 + k * 2, none⟩ = some (.int .u8 (tabN.getD (9 * g + 1 + 2 * k) 0 : Nat)) := by
      rw [show g * 9 + 1 + k * 2 = 9 * g + 1 + 2 * k by omega, hT _ (by omega)]; unfold tabV; rw [if_neg (by omega)]
    have t2 : w.cell? ⟨1, g * 9 + 1 + k * 2 + 1, none⟩ = some (.int .u8 (tabN.getD (9 * g + 2 + 2 * k) 0 : Nat)) := by
      rw [show g * 9 + 1 + k * 2 + 1 = 9 * g + 2 + 2 * k by omega, hT _ (by omega)]; unfold tabV; rw [if_neg (by omega)]
    obtain ⟨lo, hlo⟩ : ∃ x, x = tabN.getD (9 * g + 1 + 2 * k) 0 := ⟨_, rfl⟩
    obtain ⟨hi, hhi⟩ : ∃ x, x = tabN.getD (9 * g + 2 + 2 * k) 0 := ⟨_, rfl⟩
    rw [← hlo] at t1 hh
    rw [← hhi] at t2 hh
    have HH := hide' (fun W => hold_any (lo : Nat) (hi : Nat) (b : Nat) false W (by rw [← hh, Bool.eq_iff_iff]; simp))
    have y1 : (0 : Int) ≤ g := by omega
    have y2 : (g : Int) < 9 := by omega
    have y3 : (0 : Int) < k := by omega
    have y4 : (k : Int) < 4 := by omega
    have kd : decide ((0 : Int) < k) = true := by simp; omega
    clear hk hgi hv hlo hhi hh hd hT hD hg hp hle ht hne hst
    go_enter Tryd.func26, Tryd.ntmps26
    go_wp2_with fail
    refine wp_region_still_tail 19 (by kernel_rfl) (by kernel_rfl) ?_
    simp only [List.take_succ_cons, List.take_zero, List.drop_succ_cons, List.drop_zero]
    refine still_begin (fun K hK => ?_)
    iterate 19 (refine next_want hK ?_ ?_; kernel_rfl; clear hK K; intro K hK; go_simp)
    refine hK _ (wpStill_nil ?_)
    clear hK K
    go_wp2_with fail
    refine (HH.out _).mono ?_
    rintro e w1 ⟨rfl, hb1⟩
    have HS : Hid (Stay (fun _ => False) w w1) := ((Stay.refl _ w).drew).trans (Stay.of_below hb1 (fun k h1 h2 => by omega))
    clear hb1 c0 c1 t1 t2 HH
    go_wp2_with fail
    refine (HE.out w1 HS.out).mono ?_
    rintro e w2 ⟨t2, rfl, ho2, hd2, hs2⟩
    have HO2 := hide' ho2
    have HD2 := hide' hd2
    have HS2 : Hid (Stay (fun k => k = D ∨ base ≤ k) w w2) := (HS.out.mono fun k _ h => h.elim).trans hs2
    have HT2 : Hid (Tbl w2) := HS2.out.tbl HTB.out (by omega) (by omega)
    have z0 : 1 < w2.heap.size := by have := HS2.out.size; omega
    have HFO := hide' (formOf_any b w2 HT2.out z0)
    clear ho2 hd2 hs2 z0
    go_wp2_with fail
    refine HFO.out.mono ?_
    rintro e w3 ⟨rfl, hb3⟩
    rw [HF.out]
    have HS3 : Hid (Stay (fun _ => False) w2 w3) := Stay.of_below hb3 (fun k h1 h2 => by omega)
    have HO3 := hide' (HS3.out.owns HO2.out (fun _ _ h => h))
    have HD3 : Hid (DecP w3 D []) := HS3.out.row HD2.out (fun h => h)
    have HT3 : Hid (Tbl w3) := HS3.out.tbl HT2.out (fun h => h) (by have := HS2.out.size; omega)
    have ct := HT3.out.size hf HSS.out
    have d0 : w3.cell? ⟨D, 0, none⟩ = some (.int .i64 (0 : Nat)) := World.rowIs.cell (decP_nil ▸ HD3.out) (i := 0) (by decide)
    have f0 : w3.frozen? ⟨D, 0, none⟩ = false := World.rowIs.frozen (decP_nil ▸ HD3.out) 0
    have hw3 : base ≤ w3.heap.size := by have := HS2.out.size; have := HS3.out.size; omega
    have HG := hide' (hN.go D base _ t2 _ w3 HT3.out HD3.out h0 hb hw3 HO3.out (by have := endP_len p; omega) f _ HF.out hf HSS.out)
    clear hb3 hw3
    go_wp2_with fail
    rw [HB.out]
    refine HG.out.mono ?_
    rintro e w4 ⟨t4, rfl, ho4, hd4, hs4⟩
    have HR : Hid (Fed D base n xs p b w (.returned t4) w4) := by
      refine ⟨t4, rfl, ?_, ?_, (HS2.out.trans (HS3.out.mono fun k _ h => h.elim)).trans hs4⟩
      · rw [HQ.out, List.length_append, List.map_append, ← List.append_assoc, ← Nat.add_assoc]; exact ho4
      · rw [HQ.out]; exact hd4
    clear ho4 hd4 hs4
    go_wp2
    go_ret
    exact HR.out

set_option maxHeartbeats 2000000 in
theorem feed_new4 (p : List Nat) (b D base n : Nat) (q out : List Nat) (f : Nat) (t : Value) (xs : List Value) (w : World) (hb256 : b < 256) (hp : Right p) (hT : Tbl w) (hD : DecP w D p) (h0 : 1 < D) (hb : D < base)
    (hbw : base ≤ w.heap.size) (ht : w.ownsRow base 21 1 t n xs) (hn : n < 999990) (hst : p = [] ∨ beg (p ++ [b]) = false)
    (hN : NewB b q out) (hq : feedP p b = (q, endP p ++ out)) (hF : formE b = .returned (.tuple #[.int .i64 (f : Nat), .bool true])) (hf : f < 9) (hs : tabN.getD (9 * f) 0 = 4) :
    Calls Tryd.prog 26 #[.pointer (some ⟨D, 0, none⟩), t, .int .u8 (b : Nat)] w (Fed D base n xs p b w) := by
  have HE := hide' (fun W (h : Stay (fun _ => False) w W) => end_all p D base n t xs W (right_len hp) (h.row hD (fun h => h)) hb (Nat.le_trans hbw h.size) (h.owns ht (fun _ _ h => h)) (by omega))
  have HTB := hide' hT
  have HQ := hide' hq
  have HF := hide' hF
  clear hq hF
  have HSS := hide' hs
  have HB : Hid ((b : Int) % 16 = ((b % 2 ^ (8 - 4) : Nat) : Int)) := by show (b : Int) % 16 = ((b % 2 ^ (8 - 4) : Nat) : Int); omega
  have z1 : (0 : Int) ≤ f := by omega
  have z2 : (f : Int) < 9 := by omega
  have n1 : ¬ D = 1 := by omega
  have n2 : ¬ 0 = D := by omega
  clear hs
  by_cases hne : p = []
  · have c1 : w.cell? ⟨D, 1, none⟩ = some (.int .i64 0) := by
      rw [hne] at hD
      exact World.rowIs.cell (decP_nil ▸ hD) (i := 1) (by decide)
    clear hT hD ht hp hst hne
    go_enter Tryd.func26, Tryd.ntmps26
    go_wp2_with fail
    go_quiet (fail)
    go_wp2_with fail
    have HS : Hid (Stay (fun _ => False) w (w.drewN nq)) := (Stay.refl _ w).drewN nq
    generalize w.drewN nq = w1 at *
    refine (HE.out w1 HS.out).mono ?_
    rintro e w2 ⟨t2, rfl, ho2, hd2, hs2⟩
    have HO2 := hide' ho2
    have HD2 := hide' hd2
    have HS2 : Hid (Stay (fun k => k = D ∨ base ≤ k) w w2) := (HS.out.mono fun k _ h => h.elim).trans hs2
    have HT2 : Hid (Tbl w2) := HS2.out.tbl HTB.out (by omega) (by omega)
    have z0 : 1 < w2.heap.size := by have := HS2.out.size; omega
    have HFO := hide' (formOf_any b w2 HT2.out z0)
    clear ho2 hd2 hs2 z0
    go_wp2_with fail
    refine HFO.out.mono ?_
    rintro e w3 ⟨rfl, hb3⟩
    rw [HF.out]
    have HS3 : Hid (Stay (fun _ => False) w2 w3) := Stay.of_below hb3 (fun k h1 h2 => by omega)
    have HO3 := hide' (HS3.out.owns HO2.out (fun _ _ h => h))
    have HD3 : Hid (DecP w3 D []) := HS3.out.row HD2.out (fun h => h)
    have HT3 : Hid (Tbl w3) := HS3.out.tbl HT2.out (fun h => h) (by have := HS2.out.size; omega)
    have ct := HT3.out.size hf HSS.out
    have d0 : w3.cell? ⟨D, 0, none⟩ = some (.int .i64 (0 : Nat)) := World.rowIs.cell (decP_nil ▸ HD3.out) (i := 0) (by decide)
    have f0 : w3.frozen? ⟨D, 0, none⟩ = false := World.rowIs.frozen (decP_nil ▸ HD3.out) 0
    have hw3 : base ≤ w3.heap.size := by have := HS2.out.size; have := HS3.out.size; omega
    have HG := hide' (hN.go D base _ t2 _ w3 HT3.out HD3.out h0 hb hw3 HO3.out (by have := endP_len p; omega) f _ HF.out hf HSS.out)
    clear hb3 hw3
    go_wp2_with fail
    rw [HB.out]
    refine HG.out.mono ?_
    rintro e w4 ⟨t4, rfl, ho4, hd4, hs4⟩
    have HR : Hid (Fed D base n xs p b w (.returned t4) w4) := by
      refine ⟨t4, rfl, ?_, ?_, (HS2.out.trans (HS3.out.mono fun k _ h => h.elim)).trans hs4⟩
      · rw [HQ.out, List.length_append, List.map_append, ← List.append_assoc, ← Nat.add_assoc]; exact ho4
      · rw [HQ.out]; exact hd4
    clear ho4 hd4 hs4
    go_wp2
    go_ret
    exact HR.out
  · skip
    have hg : beg (p ++ [b]) = false := hst.resolve_left hne
    have hd := decP_pend hD hne
    have hle : lead (p.headD 0) = true := by
      rcases hp with rfl | ⟨h1, h2⟩
      · exact absurd rfl hne
      · have := beg_take h1 0 (List.length_pos_iff.2 hne)
        cases p with
        | nil => exact absurd rfl hne
        | cons c r => simpa [beg] using this
    obtain ⟨i1, _⟩ := idx_lead hle
    have hk3 := right_len hp
    have hk0 := List.length_pos_iff.2 hne
    have hh := next_holds hp hne b
    rw [hg] at hh
    obtain ⟨k, hk⟩ : ∃ k, k = p.length := ⟨_, rfl⟩
    obtain ⟨g, hgi⟩ : ∃ f, f = idx (p.headD 0) := ⟨_, rfl⟩
    obtain ⟨v, hv⟩ : ∃ v, v = valF p := ⟨_, rfl⟩
    rw [← hk, ← hgi, ← hv] at hd
    rw [← hk, ← hgi] at hh
    rw [← hk] at hk3 hk0
    rw [← hgi] at i1
    have c1 : w.cell? ⟨D, 1, none⟩ = some (.int .i64 (k : Nat)) := hd.cell (i := 1) (by decide)
    have c0 : w.cell? ⟨D, 0, none⟩ = some (.int .i64 (g : Nat)) := hd.cell (i := 0) (by decide)
    have t1 : w.cell? ⟨1, g * 9 + 1 + k * 2, none⟩ = some (.int .u8 (tabN.getD (9 * g + 1 + 2 * k) 0 : Nat)) := by
      rw [show g * 9 + 1 + k * 2 = 9 * g + 1 + 2 * k by omega, hT _ (by omega)]; unfold tabV; rw [if_neg (by omega)]
    have t2 : w.cell? ⟨1, g * 9 + 1 + k * 2 + 1, none⟩ = some (.int .u8 (tabN.getD (9 * g + 2 + 2 * k) 0 : Nat)) := by
      rw [show g * 9 + 1 + k * 2 + 1 = 9 * g + 2 + 2 * k by omega, hT _ (by omega)]; unfold tabV; rw [if_neg (by omega)]
    obtain ⟨lo, hlo⟩ : ∃ x, x = tabN.getD (9 * g + 1 + 2 * k) 0 := ⟨_, rfl⟩
    obtain ⟨hi, hhi⟩ : ∃ x, x = tabN.getD (9 * g + 2 + 2 * k) 0 := ⟨_, rfl⟩
    rw [← hlo] at t1 hh
    rw [← hhi] at t2 hh
    have HH := hide' (fun W => hold_any (lo : Nat) (hi : Nat) (b : Nat) false W (by rw [← hh, Bool.eq_iff_iff]; simp))
    have y1 : (0 : Int) ≤ g := by omega
    have y2 : (g : Int) < 9 := by omega
    have y3 : (0 : Int) < k := by omega
    have y4 : (k : Int) < 4 := by omega
    have kd : decide ((0 : Int) < k) = true := by simp; omega
    clear hk hgi hv hlo hhi hh hd hT hD hg hp hle ht hne hst
    go_enter Tryd.func26, Tryd.ntmps26
    go_wp2_with fail
    refine wp_region_still_tail 19 (by kernel_rfl) (by kernel_rfl) ?_
    simp only [List.take_succ_cons, List.take_zero, List.drop_succ_cons, List.drop_zero]
    refine still_begin (fun K hK => ?_)
    iterate 19 (refine next_want hK ?_ ?_; kernel_rfl; clear hK K; intro K hK; go_simp)
    refine hK _ (wpStill_nil ?_)
    clear hK K
    go_wp2_with fail
    refine (HH.out _).mono ?_
    rintro e w1 ⟨rfl, hb1⟩
    have HS : Hid (Stay (fun _ => False) w w1) := ((Stay.refl _ w).drew).trans (Stay.of_below hb1 (fun k h1 h2 => by omega))
    clear hb1 c0 c1 t1 t2 HH
    go_wp2_with fail
    refine (HE.out w1 HS.out).mono ?_
    rintro e w2 ⟨t2, rfl, ho2, hd2, hs2⟩
    have HO2 := hide' ho2
    have HD2 := hide' hd2
    have HS2 : Hid (Stay (fun k => k = D ∨ base ≤ k) w w2) := (HS.out.mono fun k _ h => h.elim).trans hs2
    have HT2 : Hid (Tbl w2) := HS2.out.tbl HTB.out (by omega) (by omega)
    have z0 : 1 < w2.heap.size := by have := HS2.out.size; omega
    have HFO := hide' (formOf_any b w2 HT2.out z0)
    clear ho2 hd2 hs2 z0
    go_wp2_with fail
    refine HFO.out.mono ?_
    rintro e w3 ⟨rfl, hb3⟩
    rw [HF.out]
    have HS3 : Hid (Stay (fun _ => False) w2 w3) := Stay.of_below hb3 (fun k h1 h2 => by omega)
    have HO3 := hide' (HS3.out.owns HO2.out (fun _ _ h => h))
    have HD3 : Hid (DecP w3 D []) := HS3.out.row HD2.out (fun h => h)
    have HT3 : Hid (Tbl w3) := HS3.out.tbl HT2.out (fun h => h) (by have := HS2.out.size; omega)
    have ct := HT3.out.size hf HSS.out
    have d0 : w3.cell? ⟨D, 0, none⟩ = some (.int .i64 (0 : Nat)) := World.rowIs.cell (decP_nil ▸ HD3.out) (i := 0) (by decide)
    have f0 : w3.frozen? ⟨D, 0, none⟩ = false := World.rowIs.frozen (decP_nil ▸ HD3.out) 0
    have hw3 : base ≤ w3.heap.size := by have := HS2.out.size; have := HS3.out.size; omega
    have HG := hide' (hN.go D base _ t2 _ w3 HT3.out HD3.out h0 hb hw3 HO3.out (by have := endP_len p; omega) f _ HF.out hf HSS.out)
    clear hb3 hw3
    go_wp2_with fail
    rw [HB.out]
    refine HG.out.mono ?_
    rintro e w4 ⟨t4, rfl, ho4, hd4, hs4⟩
    have HR : Hid (Fed D base n xs p b w (.returned t4) w4) := by
      refine ⟨t4, rfl, ?_, ?_, (HS2.out.trans (HS3.out.mono fun k _ h => h.elim)).trans hs4⟩
      · rw [HQ.out, List.length_append, List.map_append, ← List.append_assoc, ← Nat.add_assoc]; exact ho4
      · rw [HQ.out]; exact hd4
    clear ho4 hd4 hs4
    go_wp2
    go_ret
    exact HR.out

end Go.Proofs.YticccknocjnkpaaDoor.Utf
