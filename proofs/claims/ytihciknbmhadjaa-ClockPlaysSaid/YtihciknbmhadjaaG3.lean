/-
  ClockFull walked: true of any arguments. No conditions.
-/
import Derived.Test.YtihciknbmhadjaaG2
namespace Go.Proofs.Ytihciknbmhadjaa
open Go.RowKit

/-- A timer of the law's. -/
def gT (j : Nat) : Tm := ⟨((j % 4 : Nat) : Int), (j : Nat), 5 + ((j % 3 : Nat) : Int)⟩

/-- The first ones of the law's timers, and no others. -/
def FullI (n : Nat) (L : List Tm) : Prop := ∀ t, t ∈ L ↔ ∃ j : Nat, j < n ∧ t = gT j

theorem full_set {i : Nat} {L : List Tm} (hl : L.length = i) (h : FullI i L) : outL (isB ((i % 4 : Nat) : Int) (i : Nat)) L = L ∧ (insT (gT i) L).length = i + 1 ∧ FullI (i + 1) (insT (gT i) L) := by
  refine ⟨outL_all (fun t ht => ?_), by rw [insT_len, hl], fun t => ?_⟩
  · obtain ⟨j, hj, rfl⟩ := (h t).1 ht
    unfold isB gT
    simp only [Bool.and_eq_false_iff, beq_eq_false_iff_ne]
    right
    omega
  · rw [insT_mem, h t]
    constructor
    · rintro (rfl | ⟨j, hj, e⟩)
      · exact ⟨i, by omega, rfl⟩
      · exact ⟨j, by omega, e⟩
    · rintro ⟨j, hj, e⟩
      by_cases hji : j = i
      · left; rw [e, hji]
      · right; exact ⟨j, by omega, e⟩

theorem out_sum (p : Tm → Bool) : ∀ L : List Tm, (outL p L).length + (L.filter p).length = L.length
  | [] => rfl
  | a :: L => by
    have h := out_sum p L
    unfold outL at h ⊢
    rw [List.filter_cons, List.filter_cons, List.length_cons]
    cases hp : p a
    · simp only [Bool.not_false, if_true, Bool.false_eq_true, if_false, List.length_cons]; omega
    · simp only [Bool.not_true, if_true, Bool.false_eq_true, if_false, List.length_cons]; omega

/-- In their order the same one stands but once. -/
theorem srt_one {u : Tm} : ∀ {L : List Tm}, Srt L → (∀ t ∈ L, t = u) → L.length ≤ 1
  | [], _, _ => by simp
  | [_], _, _ => by simp
  | a :: b :: L, h, hu => by
    have h1 := (List.pairwise_cons.1 h).1 b (by simp)
    have ea := hu a (by simp)
    have eb := hu b (by simp)
    rw [ea, eb] at h1
    have := ah_asymm h1
    rw [h1] at this
    cases this

theorem full_none {n k : Nat} {L : List Tm} (h : FullI n L) : L.any (isB 9 (k : Nat)) = false := by
  rw [List.any_eq_false]
  intro t ht
  obtain ⟨j, _, rfl⟩ := (h t).1 ht
  unfold isB gT
  simp only [Bool.and_eq_true, beq_iff_eq]
  omega

/-- One that is set anew is there but once. -/
theorem full_again {n k : Nat} {L : List Tm} (h : FullI n L) (hs : Srt L) (hk : k < n) (hl : L.length = n) : L.any (isB ((k % 4 : Nat) : Int) (k : Nat)) = true ∧ (outL (isB ((k % 4 : Nat) : Int) (k : Nat)) L).length + 1 = n := by
  have hm : gT k ∈ L := (h _).2 ⟨k, hk, rfl⟩
  have hp : isB ((k % 4 : Nat) : Int) (k : Nat) (gT k) = true := by unfold isB gT; simp
  have ha : L.any (isB ((k % 4 : Nat) : Int) (k : Nat)) = true := List.any_eq_true.2 ⟨_, hm, hp⟩
  refine ⟨ha, ?_⟩
  have h1 := out_sum (isB ((k % 4 : Nat) : Int) (k : Nat)) L
  have h2 := out_lt ha
  have h3 : (L.filter (isB ((k % 4 : Nat) : Int) (k : Nat))).length ≤ 1 := srt_one (u := gT k) (hs.filter _) (fun t ht => by
    obtain ⟨h4, h5⟩ := List.mem_filter.1 ht
    obtain ⟨j, _, rfl⟩ := (h t).1 h4
    unfold isB gT at h5
    simp only [Bool.and_eq_true, beq_iff_eq] at h5
    have : j = k := by omega
    rw [this])
  omega

/-- At the first tick that one alone is due. -/
theorem full_tick {n k : Nat} {L M : List Tm} (h : FullI n L) (hM : M = insT ⟨((k % 4 : Nat) : Int), (k : Nat), 0 + 1⟩ (outL (isB ((k % 4 : Nat) : Int) (k : Nat)) L)) (hs : Srt M) : dueN 1 M = 1 := by
  have hx : ∀ t ∈ M, t.du ≤ 1 → t = ⟨((k % 4 : Nat) : Int), (k : Nat), 0 + 1⟩ := fun t ht hd => by
    rw [hM] at ht
    rcases insT_mem.1 ht with e | ht
    · exact e
    · obtain ⟨j, _, e⟩ := (h t).1 (List.mem_filter.1 ht).1
      rw [e] at hd
      have : (gT j).du = 5 + ((j % 3 : Nat) : Int) := rfl
      omega
  have h1 : (M.take (dueN 1 M)).length ≤ 1 := srt_one (u := ⟨((k % 4 : Nat) : Int), (k : Nat), 0 + 1⟩) (List.Pairwise.sublist (List.take_sublist _ M) hs) (fun t ht => hx t (List.mem_of_mem_take ht) (due_first t ht))
  have h2 := dueN_le 1 M
  rw [List.length_take] at h1
  have h3 : dueN 1 M ≠ 0 := fun e => by
    have hm : (⟨((k % 4 : Nat) : Int), (k : Nat), 0 + 1⟩ : Tm) ∈ M := by rw [hM]; exact insT_mem.2 (.inl rfl)
    have h4 := due_rest (now := 1) hs ⟨((k % 4 : Nat) : Int), (k : Nat), 0 + 1⟩ (by rw [e, List.drop_zero]; exact hm)
    simp only at h4
    omega
  omega

set_option maxRecDepth 100000 in
set_option maxHeartbeats 4000000 in
theorem full4 (K : Nat) (w : World) (hK : K < 256) : Calls Try.prog 4 #[.int .u8 (K : Nat)] w (LawTrue w) := by
  have HAW := hide' awake7
  have HN := hide' (new_in (w0 := w) (Stay.refl _ w))
  have kw : IntKind.i64.wrap ((K : Nat) : Int) = (K : Nat) := by rw [IntKind.wrap_i64]; omega
  have kt := tmod4 K
  obtain ⟨k4, hk4⟩ : ∃ e, e = K % 4 := ⟨_, rfl⟩
  rw [← hk4] at kt
  have HK4 := hide' hk4
  have HKT := hide' kt
  have k4b : k4 < 4 := by omega
  clear hk4 kt
  go_enter Try.func4, Try.ntmps4
  go_wp2_with fail
  refine HN.out.mono ?_
  rintro e w1 ⟨q0, rfl, hi, _⟩
  obtain ⟨b, hb⟩ : ∃ b, b = q0.b := ⟨_, rfl⟩
  rw [← hb] at hi
  rw [← hb]
  have HI0 : Hid (∃ q L, CIn w w1 b q 0 L ∧ L.length = 0 ∧ FullI 0 L) := ⟨q0, [], hi, rfl, fun t => ⟨(fun h => by cases h), (fun ⟨j, hj, _⟩ => by omega)⟩⟩
  clear hi hb HN
  go_wp2_with fail
  go_loopg [4] 1024 (fun gg v4 wr => ∃ i : Nat, i ≤ 1024 ∧ gg = 1024 - i ∧ v4 = .int .i64 (i : Int) ∧ Hid (∃ q L, CIn w wr b q 0 L ∧ L.length = i ∧ FullI i L))
  case atStart => exact ⟨0, Nat.zero_le _, rfl, rfl, HI0⟩
  case round =>
    clear HI0 kw
    obtain ⟨i, hin, rfl, rfl, HX⟩ := hrel
    obtain ⟨q, L, hX, hL, hO⟩ := HX.out
    clear HX
    by_cases hlt : i < 1024
    · have i_n : (i : Int) < 1024 := by omega
      have i4 := tmod4 i
      have i3 := tmod3 i
      obtain ⟨e4, he4⟩ : ∃ e, e = i % 4 := ⟨_, rfl⟩
      obtain ⟨e3, he3⟩ : ∃ e, e = i % 3 := ⟨_, rfl⟩
      rw [← he4] at i4
      rw [← he3] at i3
      have e4b : e4 < 4 := by omega
      have e3b : e3 < 3 := by omega
      have ew : IntKind.i64.wrap ((e3 : Nat) : Int) = (e3 : Nat) := by rw [IntKind.wrap_i64]; omega
      have ew4 : IntKind.i64.wrap ((e4 : Nat) : Int) = (e4 : Nat) := by rw [IntKind.wrap_i64]; omega
      have ek : IntKind.i64.wrap (5 + ((e3 : Nat) : Int)) = 5 + (e3 : Nat) := by rw [IntKind.wrap_i64]; omega
      obtain ⟨e1, e2, e5⟩ := full_set hL hO
      have hft : gT i = ⟨((e4 : Nat) : Int), (i : Nat), 5 + (e3 : Nat)⟩ := by unfold gT; rw [← he3, ← he4]
      rw [← he4] at e1
      have HS := hide' (set_in (M := insT (gT i) L) (e4 : Nat) (i : Nat) (5 + (e3 : Nat)) hX (by omega) (by omega) (by omega) (by omega) (.inl (by omega)) (by rw [e1, hft, Int.zero_add]))
      have HNX : Hid ((insT (gT i) L).length = i + 1 ∧ FullI (i + 1) (insT (gT i) L)) := ⟨e2, e5⟩
      clear hX hL hO e1 e2 e5 hft he3 he4
      go_wp2_with fail
      refine HS.out.mono ?_
      rintro e w2 ⟨q2, rfl, hi, _⟩
      have HN2 : Hid (∃ q L, CIn w w2 b q 0 L ∧ L.length = i + 1 ∧ FullI (i + 1) L) := ⟨q2, _, hi, HNX.out⟩
      clear hi HS HNX
      go_wp2
      go_roundg (1024 - (i + 1))
      case measure => omega
      case rel => exact ⟨i + 1, by omega, rfl, by go_num, HN2⟩
    · have e : i = 1024 := by omega
      subst e
      have kw : IntKind.i64.wrap ((K : Nat) : Int) = (K : Nat) := by rw [IntKind.wrap_i64]; omega
      have kt : ((K : Nat) : Int).tmod 4 = ((k4 : Nat) : Int) := HKT.out
      have kv : IntKind.i64.wrap ((k4 : Nat) : Int) = (k4 : Nat) := by rw [IntKind.wrap_i64]; omega
      obtain ⟨h1, h2⟩ := full_again (k := K) hO hX.at'.srt (by omega) hL
      rw [← HK4.out] at h1 h2
      obtain ⟨M, hM⟩ : ∃ M, M = insT ⟨((k4 : Nat) : Int), (K : Nat), 0 + 1⟩ (outL (isB (k4 : Nat) (K : Nat)) L) := ⟨_, rfl⟩
      have hml : M.length = 1024 := by rw [hM, insT_len]; exact h2
      have HFT : Hid (Srt M → dueN 1 M = 1) := fun hs => full_tick hO (by rw [hM, HK4.out]) hs
      have HML := hide' hml
      have HS1 := hide' (set_full 9 (K : Nat) 1 hX (by decide) (by omega) (by decide) (by decide) hL (full_none hO))
      have HX2 : Hid (∀ W q, CIn w W b q 0 L → Calls Try.prog 10 #[.pointer (some ⟨b, 0, none⟩), .int .i64 ((k4 : Nat) : Int), .int .i64 ((K : Nat) : Int), .int .i64 1] W (Gave w b q 0 M (.int .i64 0) W)) := fun W q h => set_in (M := M) (k4 : Nat) (K : Nat) 1 h (by omega) (by omega) (by decide) (by decide) (.inr h1) hM
      clear hX hL hO h1 h2 hM hml
      go_wp2_with fail
      refine HS1.out.mono ?_
      rintro e w2 ⟨rfl, hi, _⟩
      have HS2 := hide' (HX2.out w2 q hi)
      clear hi HS1 HX2
      go_wp2_with fail
      refine HS2.out.mono ?_
      rintro e w3 ⟨q3, rfl, hi, _⟩
      have HAL := hide' (all_in (n := 1024) hi HML.out)
      clear hi HS2 kt kv
      go_wp2_with fail
      refine HAL.out.mono ?_
      rintro e w4 ⟨q4, a4, c4, rfl, hi, _, _⟩
      have HT := hide' (tick_in (x := 1) (n := 1) hi (by decide) (by decide) (HFT.out hi.at'.srt) rfl rfl)
      clear hi HAL
      go_wp2_with fail
      refine HT.out.mono ?_
      rintro e w5 ⟨q5, a5, c5, rfl, hi, _, _⟩
      have HS5 := hide' (set_in 9 (K : Nat) 1 hi (by decide) (by omega) (by decide) (by decide) (.inl (by rw [List.length_drop, HML.out]; decide)) rfl)
      clear hi HT
      go_wp2_with fail
      refine HS5.out.mono ?_
      rintro e w6 ⟨q6, rfl, hi, _⟩
      have HS6 := hide' hi.stay
      clear hi HS5
      go_wp2_with fail
      refine (HAW.out _).mono ?_
      rintro e w9 ⟨rfl, hs⟩
      have HE := hide' (HS6.out.trans hs)
      clear hs
      go_wp2
      go_ret
      exact ⟨rfl, HE.out⟩

end Go.Proofs.Ytihciknbmhadjaa
