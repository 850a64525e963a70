/-
  A decoder is handed a byte, walked. No conditions.
-/
import Derived.Test.YticccknocjnkpaaDoorGH
import Derived.Laws.BitsLemmas
namespace Go.Proofs.YticccknocjnkpaaDoor.Utf
open Go.RowKit

/-- What the table holds of a byte: one fact for each of the 256. -/
def tabOk (b : Nat) : Bool :=
  if b < 128 then idx b == 0
  else if lead b then decide (idx b < 9) && (tabN.getD (9 * idx b) 0 == long b) && (tabN.getD (9 * idx b + 3) 0 == (if b = 224 then 160 else if b = 240 then 144 else 128)) &&
    (tabN.getD (9 * idx b + 4) 0 == (if b = 237 then 159 else if b = 244 then 143 else 191)) && (decide (b < 224) || ((tabN.getD (9 * idx b + 5) 0 == 128) && (tabN.getD (9 * idx b + 6) 0 == 191))) &&
    (decide (b < 240) || ((tabN.getD (9 * idx b + 7) 0 == 128) && (tabN.getD (9 * idx b + 8) 0 == 191)))
  else idx b == 9

theorem tab_ok {b : Nat} (h : b < 256) : tabOk b = true := by
  have : ((List.range 256).all tabOk) = true := by decide +kernel
  exact List.all_eq_true.1 this b (by simpa using h)

theorem idx_ascii {b : Nat} (h : b < 128) : idx b = 0 := by
  have := tab_ok (b := b) (by omega)
  unfold tabOk at this
  rw [if_pos h] at this
  simpa using this

theorem idx_bad {b : Nat} (h : b < 256) (h1 : ¬ b < 128) (h2 : lead b = false) : idx b = 9 := by
  have := tab_ok h
  unfold tabOk at this
  rw [if_neg h1, h2] at this
  simpa using this

theorem idx_lead {b : Nat} (h2 : lead b = true) : idx b < 9 ∧ tabN.getD (9 * idx b) 0 = long b ∧ tabN.getD (9 * idx b + 3) 0 = (if b = 224 then 160 else if b = 240 then 144 else 128) ∧
    tabN.getD (9 * idx b + 4) 0 = (if b = 237 then 159 else if b = 244 then 143 else 191) ∧ (224 ≤ b → tabN.getD (9 * idx b + 5) 0 = 128 ∧ tabN.getD (9 * idx b + 6) 0 = 191) ∧
    (240 ≤ b → tabN.getD (9 * idx b + 7) 0 = 128 ∧ tabN.getD (9 * idx b + 8) 0 = 191) := by
  have hb := lead_iff.1 h2
  have := tab_ok (b := b) (by omega)
  unfold tabOk at this
  rw [if_neg (by omega), if_pos h2] at this
  simp only [Bool.and_eq_true, beq_iff_eq, decide_eq_true_eq, Bool.or_eq_true] at this
  obtain ⟨⟨⟨⟨⟨a, b1⟩, c⟩, d⟩, e⟩, f⟩ := this
  exact ⟨a, b1, c, d, fun h => by omega, fun h => by omega⟩

/-- The bounds of the next byte say whether what waits goes on. -/
theorem next_holds {p : List Nat} (hp : Right p) (hne : p ≠ []) (b : Nat) :
    (decide (tabN.getD (9 * idx (p.headD 0) + 1 + 2 * p.length) 0 ≤ b) && decide (b ≤ tabN.getD (9 * idx (p.headD 0) + 2 + 2 * p.length) 0)) = beg (p ++ [b]) := by
  rcases hp with rfl | ⟨hb, hl⟩
  · exact absurd rfl hne
  · match p, hb, hl with
    | [c], hb, hl =>
      obtain ⟨_, _, h3, h4, _⟩ := idx_lead (b := c) hb
      have hb' : lead c = true := hb
      show (decide (tabN.getD (9 * idx c + 3) 0 ≤ b) && decide (b ≤ tabN.getD (9 * idx c + 4) 0)) = (lead c && second c b)
      rw [h3, h4, hb']
      rfl
    | [c, d], hb, hl =>
      simp only [beg, Bool.and_eq_true] at hb
      have h2 : 224 ≤ c := by
        have : 2 < long c := hl
        unfold long at this; split at this <;> (try split at this) <;> omega
      obtain ⟨_, _, _, _, h5, _⟩ := idx_lead hb.1
      have := h5 h2
      show (decide (tabN.getD (9 * idx c + 5) 0 ≤ b) && decide (b ≤ tabN.getD (9 * idx c + 6) 0)) = (lead c && decide (224 ≤ c) && second c d && cont b)
      rw [this.1, this.2, hb.1, hb.2, decide_eq_true h2]
      rfl
    | [c, d, e], hb, hl =>
      simp only [beg, Bool.and_eq_true, decide_eq_true_eq] at hb
      have h2 : 240 ≤ c := by
        have : 3 < long c := hl
        unfold long at this; split at this <;> (try split at this) <;> omega
      obtain ⟨_, _, _, _, _, h6⟩ := idx_lead hb.1.1.1
      have := h6 h2
      show (decide (tabN.getD (9 * idx c + 7) 0 ≤ b) && decide (b ≤ tabN.getD (9 * idx c + 8) 0)) = (lead c && decide (240 ≤ c) && second c d && cont e && cont b)
      rw [this.1, this.2, hb.1.1.1, hb.1.2, hb.2, decide_eq_true h2]
      rfl
    | [], hb, _ => simp [beg] at hb
    | _ :: _ :: _ :: _ :: r, hb, hl =>
      have := right_len (Or.inr ⟨hb, hl⟩ : Right _)
      simp at this

theorem still_begin {P : Program} {ops : Array Oper} {w : World} {Q : Act → Prop} {a : Act} {l : List Oper} (h : ∀ K : Act → Prop, (∀ a, wpStill P ops w Q l a → K a) → K a) : wpStill P ops w Q l a := h _ fun _ h => h

/-- The next operation of a region's forced head is passed over. -/
theorem next_skip {P : Program} {ops : Array Oper} {w : World} {Q K : Act → Prop} {a : Act} {o : Oper} {rest : List Oper} (hK : ∀ a, wpStill P ops w Q (o :: rest) a → K a) (hg : Region.wanted o (yielded ops a.tmps) = false)
    (h : ∀ K2 : Act → Prop, (∀ a, wpStill P ops w Q rest a → K2 a) → K2 (a.put o.dst undef)) : K a := by
  refine hK a ?_
  unfold wpStill
  rw [if_neg (by rw [hg]; decide)]
  exact h _ fun _ h => h

/-- The next operation of a region's forced head is run. -/
theorem next_want {P : Program} {ops : Array Oper} {w : World} {Q K : Act → Prop} {a : Act} {o : Oper} {rest : List Oper} (hK : ∀ a, wpStill P ops w Q (o :: rest) a → K a) (hg : Region.wanted o (yielded ops a.tmps) = true)
    (h : ∀ K2 : Act → Prop, (∀ a, wpStill P ops w Q rest a → K2 a) → o.still P a w K2) : K a := by
  refine hK a ?_
  unfold wpStill
  rw [if_pos hg]
  exact h _ fun _ h => h

/-- The state of what waits. -/
def DecP (w : World) (D : Nat) (p : List Nat) : Prop := Dec w D (if p = [] then 0 else idx (p.headD 0)) p.length (valF p)

def rv (z : Nat) : Value := .int .i32 (z : Nat)

theorem _root_.Go.Proofs.YticccknocjnkpaaDoor.Stay.tbl {S : Nat → Prop} {w w' : World} (h : Stay S w w') (hT : Tbl w) (hs : ¬ S 1) (hl : 1 < w.heap.size) : Tbl w' := fun i hi => (h.cell (p := ⟨1, i, none⟩) hl hs).trans (hT i hi)

theorem _root_.Go.Proofs.YticccknocjnkpaaDoor.Stay.dec {S : Nat → Prop} {w w' : World} (h : Stay S w w') {D f k v : Nat} (hD : Dec w D f k v) (hs : ¬ S D) : Dec w' D f k v := h.row hD hs

theorem decP_pend {w : World} {D : Nat} {p : List Nat} (h : DecP w D p) (hne : p ≠ []) : Dec w D (idx (p.headD 0)) p.length (valF p) := by
  unfold DecP at h
  rwa [if_neg hne] at h

theorem decP_nil {w : World} {D : Nat} : DecP w D [] = Dec w D 0 0 0 := rfl

theorem end_all (p : List Nat) (D base n : Nat) (t : Value) (xs : List Value) (w : World) (hp : p.length ≤ 3) (hD : DecP w D p) (hb : D < base) (hbw : base ≤ w.heap.size) (ht : w.ownsRow base 21 1 t n xs) (hn : n < 1000000) :
    Calls Tryd.prog 27 #[.pointer (some ⟨D, 0, none⟩), t] w fun e w' => ∃ t', e = .returned t' ∧ w'.ownsRow base 21 1 t' (n + (endP p).length) (xs ++ (endP p).map rv) ∧ DecP w' D [] ∧ Stay (fun k => k = D ∨ base ≤ k) w w' := by
  by_cases hne : p = []
  · subst hne
    refine (end_none D 0 0 t w hD).mono fun e w' ⟨he, hw⟩ => ?_
    subst hw
    exact ⟨t, he, by simpa [endP] using ht, hD, Stay.refl _ _⟩
  · refine (end_any D _ _ _ base n t xs w (decP_pend hD hne) hb hbw ht hn (List.length_pos_iff.2 hne) hp).mono fun e w' ⟨t', he, h1, h2, h3⟩ => ?_
    refine ⟨t', he, ?_, h2, h3⟩
    unfold endP
    rw [if_neg hne]
    exact h1

theorem valF_one (b : Nat) : valF [b] = b % 2 ^ (8 - long b) := rfl

theorem valF_snoc {p : List Nat} (hne : p ≠ []) (b : Nat) : valF (p ++ [b]) = valF p * 64 + b % 64 := by
  cases p with
  | nil => exact absurd rfl hne
  | cons c r => simp [valF, List.foldl_append]

theorem fold_bd : ∀ (r : List Nat) (v : Nat), r.foldl (fun v d => v * 64 + d % 64) v < (v + 1) * 64 ^ r.length
  | [], v => by simp
  | d :: r, v => by
    have := fold_bd r (v * 64 + d % 64)
    have h2 : (v * 64 + d % 64 + 1) * 64 ^ r.length ≤ (v + 1) * 64 * 64 ^ r.length := Nat.mul_le_mul_right _ (by omega)
    rw [List.foldl_cons, List.length_cons, Nat.pow_succ]
    calc _ < _ := this
      _ ≤ _ := h2
      _ = _ := by rw [Nat.mul_assoc, Nat.mul_comm 64]

/-- What waits brings few bits. -/
theorem valF_bd {p : List Nat} (hp : Right p) : valF p < 65536 := by
  rcases hp with rfl | ⟨hb, hl⟩
  · decide
  · match p, hb, hl with
    | [c], _, _ =>
      have : c % 2 ^ (8 - long c) < 2 ^ (8 - long c) := Nat.mod_lt _ (Nat.two_pow_pos _)
      have : 2 ^ (8 - long c) ≤ 2 ^ 6 := Nat.pow_le_pow_right (by decide) (by have := long_bd c; omega)
      show c % 2 ^ (8 - long c) < 65536
      omega
    | [c, d], _, hl =>
      have h3 : 3 ≤ long c := hl
      have h1 : c % 2 ^ (8 - long c) < 2 ^ (8 - long c) := Nat.mod_lt _ (Nat.two_pow_pos _)
      have h2 : 2 ^ (8 - long c) ≤ 2 ^ 5 := Nat.pow_le_pow_right (by decide) (by omega)
      show c % 2 ^ (8 - long c) * 64 + d % 64 < 65536
      omega
    | [c, d, e], _, hl =>
      have h3 : 4 ≤ long c := hl
      have h1 : c % 2 ^ (8 - long c) < 2 ^ (8 - long c) := Nat.mod_lt _ (Nat.two_pow_pos _)
      have h2 : 2 ^ (8 - long c) ≤ 2 ^ 4 := Nat.pow_le_pow_right (by decide) (by omega)
      show (c % 2 ^ (8 - long c) * 64 + d % 64) * 64 + e % 64 < 65536
      omega
    | [], hb, _ => simp [beg] at hb
    | _ :: _ :: _ :: _ :: r, hb, hl =>
      have := right_len (Or.inr ⟨hb, hl⟩ : Right _)
      simp at this

theorem bits_or6 (v x : Nat) (hv : v < 65536) (hx : x < 64) : bits .or .i32 ((v : Int) * 64) (x : Int) = ((v * 64 + x : Nat) : Int) := by
  rw [i32_or6 _ _ (by omega) (by omega) (by omega) (by omega) (by omega)]; omega

theorem bits_or0 (x : Nat) (hx : x < 256) : bits .or .i32 (((0 : Nat) : Int) * 64) (x : Int) = (x : Int) := by
  rw [i32_or12 _ _ (by omega) (by omega) (by omega) (by omega) (by omega)]; omega

theorem feedP_go {p : List Nat} {b : Nat} (hne : p ≠ []) (hg : beg (p ++ [b]) = true) : feedP p b = if p.length + 1 < long (p.headD 0) then (p ++ [b], []) else ([], [valF (p ++ [b])]) := by
  unfold feedP; rw [if_pos ⟨hne, hg⟩]

/-- What feed does of what waits. -/
def Fed (D base n : Nat) (xs : List Value) (p : List Nat) (b : Nat) (w : World) (e : Ending) (w' : World) : Prop :=
  ∃ t', e = .returned t' ∧ w'.ownsRow base 21 1 t' (n + (feedP p b).2.length) (xs ++ (feedP p b).2.map rv) ∧ DecP w' D (feedP p b).1 ∧ Stay (fun k => k = D ∨ base ≤ k) w w'

/-- The byte goes on with what waits. -/
theorem take_all (p : List Nat) (b : Nat) (D base n : Nat) (t : Value) (xs : List Value) (w : World) (_hb256 : b < 256) (hp : Right p) (hne : p ≠ []) (hg : beg (p ++ [b]) = true) (hT : Tbl w) (hD : DecP w D p) (h0 : 1 < D) (hb : D < base)
    (hbw : base ≤ w.heap.size) (ht : w.ownsRow base 21 1 t n xs) (hn : n < 999990) :
    Calls Tryd.prog 47 #[.pointer (some ⟨D, 0, none⟩), t, .int .u8 ((b % 64 : Nat) : Int)] w (Fed D base n xs p b w) := by
  have hd := decP_pend hD hne
  have hle : lead (p.headD 0) = true := by
    rcases hp with rfl | ⟨h1, h2⟩
    · exact absurd rfl hne
    · have := beg_take h1 0 (List.length_pos_iff.2 hne)
      cases p with
      | nil => exact absurd rfl hne
      | cons c r => simpa [beg] using this
  obtain ⟨i1, i2, _⟩ := idx_lead hle
  have hlen := right_len hp
  have hv := valF_bd hp
  have hs := valF_snoc hne b
  have hgo := feedP_go hne hg
  have hL := beg_len hg
  rw [headD_snoc hne, List.length_append] at hL
  have hL1 : p.length + 1 ≤ long (p.headD 0) := hL.1
  unfold Fed
  by_cases hlt : p.length + 1 < long (p.headD 0)
  · rw [if_pos hlt] at hgo
    rw [hgo]
    refine (take_more D _ _ _ _ _ _ t w hT hd h0 i1 i2 hlt (by omega) hv (by omega) (bits_or6 _ _ hv (by omega))).mono fun e w' ⟨he, h1, h2⟩ => ?_
    refine ⟨t, he, by simpa using h2.owns ht (own_ne ht hb), ?_, h2.mono fun k _ h => Or.inl h⟩
    unfold DecP
    rw [if_neg (by simp), headD_snoc hne, hs, List.length_append]
    exact h1
  · rw [if_neg hlt] at hgo
    rw [hgo]
    refine (take_full D _ _ _ base n _ _ _ t xs w hT hd h0 hb hbw ht (by omega) i1 i2 (by omega) (by omega) hv (by omega) (bits_or6 _ _ hv (by omega))).mono fun e w' ⟨t', he, h1, h2, h3⟩ => ?_
    exact ⟨t', he, by rw [hs]; exact h1, h2, h3⟩

set_option maxHeartbeats 1000000 in
theorem feed_go (p : List Nat) (b D base n : Nat) (t : Value) (xs : List Value) (w : World) (hb256 : b < 256) (hp : Right p) (hne : p ≠ []) (hg : beg (p ++ [b]) = true) (hT : Tbl w) (hD : DecP w D p) (h0 : 1 < D) (hb : D < base)
    (hbw : base ≤ w.heap.size) (ht : w.ownsRow base 21 1 t n xs) (hn : n < 999990) :
    Calls Tryd.prog 26 #[.pointer (some ⟨D, 0, none⟩), t, .int .u8 (b : Nat)] w (Fed D base n xs p b w) := by
  have hd := decP_pend hD hne
  have hle : lead (p.headD 0) = true := by
    rcases hp with rfl | ⟨h1, h2⟩
    · exact absurd rfl hne
    · have := beg_take h1 0 (List.length_pos_iff.2 hne)
      cases p with
      | nil => exact absurd rfl hne
      | cons c r => simpa [beg] using this
  obtain ⟨i1, _⟩ := idx_lead hle
  have hk3 := right_len hp
  have hk0 := List.length_pos_iff.2 hne
  have hh := next_holds hp hne b
  rw [hg] at hh
  have ht1 := fun W (h : Stay (fun _ => False) w W) => take_all p b D base n t xs W hb256 hp hne hg (h.tbl hT (fun h => h) (by omega)) (h.row hD (fun h => h)) h0 hb (Nat.le_trans hbw h.size) (h.owns ht (fun _ _ h => h)) hn
  have HTK := hide' ht1
  obtain ⟨k, hk⟩ : ∃ k, k = p.length := ⟨_, rfl⟩
  obtain ⟨f, hf⟩ : ∃ f, f = idx (p.headD 0) := ⟨_, rfl⟩
  obtain ⟨v, hv⟩ : ∃ v, v = valF p := ⟨_, rfl⟩
  rw [← hk, ← hf, ← hv] at hd
  rw [← hk, ← hf] at hh
  rw [← hk] at hk3 hk0
  rw [← hf] at i1
  have c1 : w.cell? ⟨D, 1, none⟩ = some (.int .i64 (k : Nat)) := hd.cell (i := 1) (by decide)
  have c0 : w.cell? ⟨D, 0, none⟩ = some (.int .i64 (f : Nat)) := hd.cell (i := 0) (by decide)
  have t1 : w.cell? ⟨1, f * 9 + 1 + k * 2, none⟩ = some (.int .u8 (tabN.getD (9 * f + 1 + 2 * k) 0 : Nat)) := by
    rw [show f * 9 + 1 + k * 2 = 9 * f + 1 + 2 * k by omega, hT _ (by omega)]; unfold tabV; rw [if_neg (by omega)]
  have t2 : w.cell? ⟨1, f * 9 + 1 + k * 2 + 1, none⟩ = some (.int .u8 (tabN.getD (9 * f + 2 + 2 * k) 0 : Nat)) := by
    rw [show f * 9 + 1 + k * 2 + 1 = 9 * f + 2 + 2 * k by omega, hT _ (by omega)]; unfold tabV; rw [if_neg (by omega)]
  obtain ⟨lo, hlo⟩ : ∃ x, x = tabN.getD (9 * f + 1 + 2 * k) 0 := ⟨_, rfl⟩
  obtain ⟨hi, hhi⟩ : ∃ x, x = tabN.getD (9 * f + 2 + 2 * k) 0 := ⟨_, rfl⟩
  rw [← hlo] at t1 hh
  rw [← hhi] at t2 hh
  have HH := hide' (fun W => hold_any (lo : Nat) (hi : Nat) (b : Nat) true W (by rw [← hh, Bool.eq_iff_iff]; simp))
  have HB : Hid ((b : Int) % 64 = ((b % 64 : Nat) : Int)) := by show (b : Int) % 64 = ((b % 64 : Nat) : Int); omega
  have z1 : (0 : Int) ≤ f := by omega
  have z2 : (f : Int) < 9 := by omega
  have z3 : (0 : Int) < k := by omega
  have z4 : (k : Int) < 4 := by omega
  have kd : decide ((0 : Int) < k) = true := by simp; omega
  clear hk hf hv hlo hhi hh hd ht1 hT hD hg hp hle ht hne
  go_enter Tryd.func26, Tryd.ntmps26
  go_wp2_with fail
  refine wp_region_still_tail 19 (by kernel_rfl) (by kernel_rfl) ?_
  simp only [List.take_succ_cons, List.take_zero, List.drop_succ_cons, List.drop_zero]
  refine still_begin (fun K hK => ?_)
  iterate 19 (refine next_want hK ?_ ?_; kernel_rfl; clear hK K; intro K hK; go_simp)
  refine hK _ (wpStill_nil ?_)
  clear hK K
  go_wp2_with fail
  refine (HH.out _).mono ?_
  rintro e w1 ⟨rfl, hb1⟩
  have HS : Hid (Stay (fun _ => False) w w1) := ((Stay.refl _ w).drew).trans (Stay.of_below hb1 (fun k h1 h2 => by omega))
  clear hb1
  go_wp2_with fail
  rw [HB.out]
  refine (HTK.out w1 HS.out).mono ?_
  rintro e w2 ⟨t', rfl, h1, h2, h3⟩
  have HR : Hid (Fed D base n xs p b w (.returned t') w2) := ⟨t', rfl, h1, h2, (HS.out.mono fun k _ h => h.elim).trans h3⟩
  clear h1 h2 h3
  go_wp2
  go_ret
  exact HR.out

end Go.Proofs.YticccknocjnkpaaDoor.Utf
