/-
  ClockOnce walked: true of any arguments. No conditions.
-/
import Derived.Test.YtihciknbmhadjaaG1
namespace Go.Proofs.Ytihciknbmhadjaa
open Go.RowKit

theorem tmod3 (x : Nat) : ((x : Nat) : Int).tmod 3 = ((x % 3 : Nat) : Int) := by
  rw [Int.tmod_eq_emod_of_nonneg (by omega)]; rfl

theorem tmod4 (x : Nat) : ((x : Nat) : Int).tmod 4 = ((x % 4 : Nat) : Int) := by
  rw [Int.tmod_eq_emod_of_nonneg (by omega)]; rfl

/-- A timer of the law's. -/
def fT (l : List Int) (j : Nat) : Tm := ⟨((j % 3 : Nat) : Int), (j : Nat), 1 + l.getD j 0 % 20⟩

/-- All are timers of the law's, of the first ones. -/
def OnceI (l : List Int) (n : Nat) (L : List Tm) : Prop := ∀ t ∈ L, ∃ j : Nat, j < n ∧ t = fT l j

theorem outL_all {p : Tm → Bool} {L : List Tm} (h : ∀ t ∈ L, p t = false) : outL p L = L := by
  unfold outL
  rw [List.filter_eq_self]
  intro a ha
  rw [h a ha]
  rfl

theorem once_set {l : List Int} {i : Nat} {L : List Tm} (hl : L.length = i) (h : OnceI l i L) : outL (isB ((i % 3 : Nat) : Int) (i : Nat)) L = L ∧ (insT (fT l i) L).length = i + 1 ∧ OnceI l (i + 1) (insT (fT l i) L) := by
  refine ⟨outL_all (fun t ht => ?_), by rw [insT_len, hl], fun t ht => ?_⟩
  · obtain ⟨j, hj, rfl⟩ := h t ht
    unfold isB fT
    simp only [Bool.and_eq_false_iff, beq_eq_false_iff_ne]
    right
    omega
  · rcases insT_mem.1 ht with rfl | ht
    · exact ⟨i, by omega, rfl⟩
    · obtain ⟨j, hj, e⟩ := h t ht
      exact ⟨j, by omega, e⟩

/-- While ticks go by. -/
structure OnceR (l : List Int) (n env m : Nat) (nw td : Nat) (R : List Tm) : Prop where
  own : ∀ t ∈ R, ∃ j : Nat, j < n ∧ t = fT l j ∧ ¬ j % 3 = env
  due : ∀ t ∈ R, (nw : Int) - 1 < t.du
  sum : td + R.length = m

theorem once_kill {l : List Int} {n env : Nat} {L : List Tm} (h : OnceI l n L) : OnceR l n env (outL (ofB (env : Nat)) L).length 1 0 (outL (ofB (env : Nat)) L) := by
  refine ⟨fun t ht => ?_, fun t ht => ?_, by omega⟩
  · have hm := List.mem_filter.1 ht
    obtain ⟨j, hj, rfl⟩ := h t hm.1
    refine ⟨j, hj, rfl, fun e => ?_⟩
    have h2 := hm.2
    unfold ofB fT at h2
    simp only [Bool.not_eq_true', beq_eq_false_iff_ne] at h2
    exact h2 (by omega)
  · have hm := List.mem_filter.1 ht
    obtain ⟨j, hj, rfl⟩ := h t hm.1
    unfold fT
    show _ < 1 + _
    omega

theorem OnceR.next {l : List Int} {n env m nw td : Nat} {R : List Tm} (h : OnceR l n env m nw td R) (hs : Srt R) : OnceR l n env m (nw + 1) (td + dueN (nw : Nat) R) (R.drop (dueN (nw : Nat) R)) := by
  refine ⟨fun t ht => h.own t (List.mem_of_mem_drop ht), fun t ht => ?_, ?_⟩
  · have := due_rest hs t ht
    omega
  · have h1 := h.sum
    have h2 := dueN_le (nw : Nat) R
    rw [List.length_drop]
    omega

/-- One that is told is due now. -/
theorem OnceR.told {l : List Int} {n env m nw td k : Nat} {R : List Tm} {t : Tm} (h : OnceR l n env m nw td R) (hk : (R.take (dueN (nw : Nat) R))[k]? = some t) : ∃ j : Nat, j < n ∧ t = fT l j ∧ ¬ j % 3 = env ∧ 1 + l.getD j 0 % 20 = (nw : Nat) := by
  have hm := List.mem_of_getElem? hk
  have h1 := due_first t hm
  have hm2 := List.mem_of_mem_take hm
  have h2 := h.due t hm2
  obtain ⟨j, hj, rfl, hne⟩ := h.own t hm2
  refine ⟨j, hj, rfl, hne, ?_⟩
  have e : (fT l j).du = 1 + l.getD j 0 % 20 := rfl
  rw [e] at h1 h2
  omega

theorem OnceR.last {l : List Int} {n env m td : Nat} {R : List Tm} (h : OnceR l n env m 21 td R) : R = [] := by
  cases R with
  | nil => rfl
  | cons t R =>
    have h1 := h.due t List.mem_cons_self
    obtain ⟨j, _, rfl, _⟩ := h.own t List.mem_cons_self
    have e : (fT l j).du = 1 + l.getD j 0 % 20 := rfl
    rw [e] at h1
    omega

set_option maxRecDepth 100000 in
theorem once_long (a : Option Addr) (n cap : Nat) (K : Int) (w : World) (hle : (n : Int) ≤ 9223372036854775807) (hn : 40 < n) : Calls Try.prog 5 #[.slice a n cap, .int .u8 K] w (LawTrue w) := by
  have n1 : (40 : Int) < (n : Nat) := by omega
  have HAW := hide' awake7
  go_enter Try.func5, Try.ntmps5
  go_wp2_with fail
  refine (HAW.out _).mono ?_
  rintro e w9 ⟨rfl, hs⟩
  have HE := hide' hs
  clear hs
  go_wp2
  go_ret
  exact ⟨rfl, HE.out⟩

set_option maxRecDepth 100000 in
set_option maxHeartbeats 8000000 in
theorem once_go (a : Option Addr) (n cap K : Nat) (l : List Int) (w : World) (hA : IArg .u8 w (.slice a n cap) l a cap) (hln : l.length = n) (hby : ∀ j, j < l.length → 0 ≤ l.getD j 0 ∧ l.getD j 0 < 256) (hn : n ≤ 40) (hK : K < 256) : Calls Try.prog 5 #[.slice a n cap, .int .u8 (K : Nat)] w (LawTrue w) := by
  have HAW := hide' awake7
  have n1 : ¬ (40 : Int) < (n : Nat) := by omega
  have n2 : (n : Int) ≤ 40 := by omega
  have HLN : Hid (l.length = n) := hln
  have HA := hide' hA
  have HBY := hide' hby
  have HN := hide' (new_in (w0 := w) (Stay.refl _ w))
  have kw : IntKind.i64.wrap ((K : Nat) : Int) = (K : Nat) := by rw [IntKind.wrap_i64]; omega
  have kt := tmod4 K
  obtain ⟨env, henv⟩ : ∃ e, e = K % 4 := ⟨_, rfl⟩
  rw [← henv] at kt
  have kv : IntKind.i64.wrap ((env : Nat) : Int) = (env : Nat) := by rw [IntKind.wrap_i64]; omega
  have HKT : Hid (((K : Nat) : Int).tmod 4 = ((env : Nat) : Int)) := kt
  have HEN : Hid (env < 4) := by show env < 4; omega
  clear henv hln hA hby
  go_enter Try.func5, Try.ntmps5
  go_wp2_with fail
  refine HN.out.mono ?_
  rintro e w1 ⟨q0, rfl, hi, _⟩
  obtain ⟨b, hb⟩ : ∃ b, b = q0.b := ⟨_, rfl⟩
  rw [← hb] at hi
  rw [← hb]
  have HI0 : Hid (∃ q L, CIn w w1 b q 0 L ∧ L.length = 0 ∧ OnceI l 0 L) := ⟨q0, [], hi, rfl, fun t ht => by cases ht⟩
  clear hi hb HN
  go_wp2_with fail
  go_loopg [6] n (fun gg v6 wr => ∃ i : Nat, i ≤ n ∧ gg = n - i ∧ v6 = .int .i64 (i : Int) ∧ Hid (∃ q L, CIn w wr b q 0 L ∧ L.length = i ∧ OnceI l i L))
  case atStart => exact ⟨0, Nat.zero_le _, rfl, rfl, HI0⟩
  case round =>
    clear HI0 kw kt kv
    obtain ⟨i, hin, rfl, rfl, HX⟩ := hrel
    obtain ⟨q, L, hX, hL, hO⟩ := HX.out
    clear HX
    by_cases hlt : i < n
    · have i_n : (i : Int) < (n : Nat) := by omega
      have ITM := tmod3 i
      obtain ⟨e3, he3⟩ : ∃ e, e = i % 3 := ⟨_, rfl⟩
      rw [← he3] at ITM
      have e3b : e3 < 3 := by omega
      have ew : IntKind.i64.wrap ((e3 : Nat) : Int) = (e3 : Nat) := by rw [IntKind.wrap_i64]; omega
      obtain ⟨g, o, rfl, hg, hints⟩ := HA.out.cells (by intro e; rw [e] at HLN; have := HLN.out; simp at this; omega)
      obtain ⟨x, hx⟩ : ∃ x, x = l.getD i 0 := ⟨_, rfl⟩
      have hc := hints i (by rw [HLN.out]; exact hlt)
      rw [← hx] at hc
      have hcw := hc
      have hxb : 0 ≤ x ∧ x < 256 := by rw [hx]; exact HBY.out i (by rw [HLN.out]; exact hlt)
      have hc2 : wr.cell? ⟨g, o + i, none⟩ = some (.int .u8 x) := keep_cell hX.stay hcw
      obtain ⟨y, hy⟩ : ∃ y, y = x % 20 := ⟨_, rfl⟩
      have xw : IntKind.i64.wrap x = x := by rw [IntKind.wrap_i64]; omega
      have xt : x.tmod 20 = y := by rw [Int.tmod_eq_emod_of_nonneg (by omega), hy]
      have yb : 0 ≤ y ∧ y < 20 := by omega
      have yw : IntKind.i64.wrap y = y := by rw [IntKind.wrap_i64]; omega
      have yk : IntKind.i64.wrap (1 + y) = 1 + y := by rw [IntKind.wrap_i64]; omega
      obtain ⟨e1, e2, e3'⟩ := once_set hL hO
      have hft : fT l i = ⟨((e3 : Nat) : Int), (i : Nat), 1 + y⟩ := by unfold fT; rw [← he3, ← hx, ← hy]
      rw [← he3] at e1
      have HS := hide' (set_in (M := insT (fT l i) L) (e3 : Nat) (i : Nat) (1 + y) hX (by omega) (by omega) (by omega) (by omega) (.inl (by omega)) (by rw [e1, hft, Int.zero_add]))
      have HNX : Hid ((insT (fT l i) L).length = i + 1 ∧ OnceI l (i + 1) (insT (fT l i) L)) := ⟨e2, e3'⟩
      clear hX hL hO hg hints hx hc hcw hy e1 e2 e3' hft he3
      go_wp2_with fail
      refine HS.out.mono ?_
      rintro e w2 ⟨q2, rfl, hi, _⟩
      have HN2 : Hid (∃ q L, CIn w w2 b q 0 L ∧ L.length = i + 1 ∧ OnceI l (i + 1) L) := ⟨q2, _, hi, HNX.out⟩
      clear hi HS hc2 HNX
      go_wp2
      go_roundg (n - (i + 1))
      case measure => omega
      case rel => exact ⟨i + 1, by omega, rfl, by go_num, HN2⟩
    · have e : i = n := by omega
      subst e
      have kw : IntKind.i64.wrap ((K : Nat) : Int) = (K : Nat) := by rw [IntKind.wrap_i64]; omega
      have kt : ((K : Nat) : Int).tmod 4 = ((env : Nat) : Int) := HKT.out
      have kv : IntKind.i64.wrap ((env : Nat) : Int) = (env : Nat) := by rw [IntKind.wrap_i64]; have := HEN.out; omega
      obtain ⟨M, hM⟩ : ∃ M, M = outL (ofB (env : Nat)) L := ⟨_, rfl⟩
      obtain ⟨z, hz⟩ : ∃ z, z = goneI (ofB (env : Nat)) L := ⟨_, rfl⟩
      have HKI := hide' (kill_in (M := M) (z := z) (env : Nat) hX hM hz)
      obtain ⟨m, hm⟩ : ∃ m, m = M.length := ⟨_, rfl⟩
      have HR0 : Hid (OnceR l i env m 1 0 M) := by rw [hm, hM]; exact once_kill hO
      have HZ : Hid (z = (i : Nat) - (m : Nat) ∧ m ≤ i) := by
        have h1 := outL_len (ofB (env : Nat)) L
        rw [← hM] at h1
        rw [hz, hm]
        unfold goneI
        rw [← hM, hL]
        exact ⟨rfl, by omega⟩
      clear hX hL hO hM hz hm
      go_wp2_with fail
      refine HKI.out.mono ?_
      rintro e w2 ⟨q2, rfl, hi, _⟩
      have HI2 : Hid (∃ q R, CIn w w2 b q (((1 : Nat) : Int) - 1) R ∧ OnceR l i env m 1 0 R) := ⟨q2, M, hi, HR0.out⟩
      clear hi HKI HR0 kw kt kv
      go_wp2_with fail
      go_loopg [9, 10] 20 (fun gg v9 v10 wr => ∃ nw td : Nat, 1 ≤ nw ∧ nw ≤ 21 ∧ td ≤ m ∧ gg = 21 - nw ∧ v9 = .int .i64 (td : Int) ∧ v10 = .int .i64 (nw : Int) ∧ Hid (∃ q R, CIn w wr b q ((nw : Int) - 1) R ∧ OnceR l i env m nw td R))
      case atStart => exact ⟨1, 0, by omega, by omega, by omega, rfl, rfl, rfl, HI2⟩
      case round =>
        clear HI2
        obtain ⟨nw, td, hn1, hn21, htm, rfl, rfl, rfl, HX⟩ := hrel
        obtain ⟨q, R, hX, hO⟩ := HX.out
        clear HX
        have mi : m ≤ i := HZ.out.2
        by_cases hlt : nw ≤ 20
        · have i20 : (nw : Int) ≤ 20 := by omega
          obtain ⟨d, hd⟩ : ∃ d, d = dueN (nw : Nat) R := ⟨_, rfl⟩
          have HO := hide' hO
          have HT := hide' (tick_in (x := (nw : Nat)) (n := d) (D := R.take d) (R := R.drop d) hX (by omega) (by omega) hd.symm rfl rfl)
          have HNX : Hid (OnceR l i env m (nw + 1) (td + d) (R.drop d)) := by rw [hd]; exact hO.next hX.at'.srt
          have HD := hide' hd
          have HDL : Hid ((R.take d).length = d) := by show (R.take d).length = d; rw [List.length_take, hd]; have := dueN_le (nw : Nat) R; omega
          have hdm : td + d ≤ m := by have := HNX.out.sum; omega
          clear hX hO hd
          go_wp2_with fail
          refine HT.out.mono ?_
          rintro e w5 ⟨q5, a5, c5, rfl, hi5, _, ho5⟩
          have HC5 := hide' hi5
          have HO5 := hide' ho5.rd
          have HL5 : Hid (Stay (fun _ => False) w5 w5) := Stay.refl _ _
          clear hi5 ho5 HT
          go_wp2_with fail
          go_loopg [9, 12] d (fun gg v9 v12 wr => ∃ k : Nat, k ≤ d ∧ gg = d - k ∧ v9 = .int .i64 ((td + k : Nat) : Int) ∧ v12 = .int .i64 (k : Int) ∧ Hid (Stay (fun _ => False) w5 wr))
          case atStart => exact ⟨0, Nat.zero_le _, rfl, rfl, rfl, HL5⟩
          case round =>
            clear HL5
            obtain ⟨k, hkd, rfl, rfl, rfl, HS⟩ := hrel
            by_cases hkl : k < d
            · have k_d : (k : Int) < (d : Nat) := by omega
              obtain ⟨t, ht⟩ : ∃ t, (R.take d)[k]? = some t := ⟨_, List.getElem?_eq_getElem (by rw [HDL.out]; exact hkl)⟩
              obtain ⟨g5, o5, rfl, hb⟩ := HO5.out k t ht
              have ht2 := ht
              rw [HD.out] at ht2
              obtain ⟨j, hj, rfl, hne, hnw⟩ := HO.out.told ht2
              obtain ⟨c0, c1, c2⟩ := hb.keep HS.out
              have j_n : (j : Int) < (i : Nat) := by omega
              have JTM := tmod3 j
              obtain ⟨e3, he3⟩ : ∃ e, e = j % 3 := ⟨_, rfl⟩
              rw [← he3] at JTM hne
              have e3b : e3 < 3 := by omega
              have ew : IntKind.i64.wrap ((e3 : Nat) : Int) = (e3 : Nat) := by rw [IntKind.wrap_i64]; omega
              obtain ⟨x, hx⟩ : ∃ x, x = l.getD j 0 := ⟨_, rfl⟩
              simp only [fT] at c0 c1 c2
              rw [hnw] at c2
              rw [← he3] at c0
              rw [← hx] at hnw
              obtain ⟨g, o, rfl, hg, hints⟩ := HA.out.cells (by intro e; rw [e] at HLN; have := HLN.out; simp at this; omega)
              have hc := hints j (by rw [HLN.out]; exact hj)
              rw [← hx] at hc
              have hxb : 0 ≤ x ∧ x < 256 := by rw [hx]; exact HBY.out j (by rw [HLN.out]; exact hj)
              have hc2 : wr.cell? ⟨g, o + j, none⟩ = some (.int .u8 x) := keep_cell HS.out (keep_cell HC5.out.stay hc)
              obtain ⟨y, hy⟩ : ∃ y, y = x % 20 := ⟨_, rfl⟩
              rw [← hy] at hnw
              have xw : IntKind.i64.wrap x = x := by rw [IntKind.wrap_i64]; omega
              have xt : x.tmod 20 = y := by rw [Int.tmod_eq_emod_of_nonneg (by omega), hy]
              have yb : 0 ≤ y ∧ y < 20 := by omega
              have yw : IntKind.i64.wrap y = y := by rw [IntKind.wrap_i64]; omega
              have yk : IntKind.i64.wrap (1 + y) = (nw : Nat) := by rw [IntKind.wrap_i64]; omega
              have ene : ¬ ((e3 : Nat) : Int) = (env : Nat) := by omega
              have ene2 : (((e3 : Nat) : Int) == ((env : Nat) : Int)) = false := beq_eq_false_iff_ne.2 ene
              clear hb ht ht2 hne hg hints hx hc hy hnw he3
              go_wp2
              go_roundg (d - (k + 1))
              case measure => omega
              case rel => exact ⟨k + 1, by omega, rfl, by go_num, by go_num, HS⟩
            · have e : k = d := by omega
              subst e
              have HN2 : Hid (∃ q R, CIn w wr b q (((nw + 1 : Nat) : Int) - 1) R ∧ OnceR l i env m (nw + 1) (td + k) R) := ⟨q5, R.drop k, (by rw [show (((nw + 1 : Nat) : Int) - 1) = ((nw : Nat) : Int) by omega]; exact HC5.out.keep HS.out), HNX.out⟩
              clear HS HC5 HO5 HNX HD HDL HO
              go_wp2
              go_roundg (21 - (nw + 1))
              case measure => omega
              case rel => exact ⟨nw + 1, td + k, by omega, by omega, hdm, rfl, rfl, by go_num, HN2⟩
        · have e : nw = 21 := by omega
          subst e
          have hR := hO.last
          subst hR
          have hsum : td = m := by have := hO.sum; simpa using this
          have hz : z = (i : Nat) - (m : Nat) := HZ.out.1
          have HAL := hide' (all_in (n := 0) hX rfl)
          have zw : IntKind.i64.wrap (((td : Nat) : Int) + z) = (i : Nat) := by rw [IntKind.wrap_i64]; omega
          clear hX hO hsum hz
          go_wp2_with fail
          refine HAL.out.mono ?_
          rintro e w5 ⟨q5, a5, c5, rfl, hi5, _, _⟩
          have HS5 := hide' hi5.stay
          clear hi5 HAL zw
          go_wp2_with fail
          refine (HAW.out _).mono ?_
          rintro e w9 ⟨rfl, hs⟩
          have HE := hide' (HS5.out.trans hs)
          clear hs
          go_wp2
          go_ret
          exact ⟨rfl, HE.out⟩

end Go.Proofs.Ytihciknbmhadjaa
