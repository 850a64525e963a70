/-
  ClockAgain walked: true of any arguments. No conditions.
-/
import Derived.Test.YtihciknbmhadjaaG0
namespace Go.Proofs.Ytihciknbmhadjaa
open Go.RowKit

/-- The timers ahead of a tick. -/
def again (cn : Bool) (B i : Nat) : List Tm := if cn = true then [] else if i ≤ B then [⟨1, 1, ((B : Nat) : Int)⟩] else []

theorem tmod50 (x : Nat) : ((x : Nat) : Int).tmod 50 = ((x % 50 : Nat) : Int) := by
  rw [Int.tmod_eq_emod_of_nonneg (by omega)]; rfl

theorem again_f (B i : Nat) : again false B i = if i ≤ B then [⟨1, 1, ((B : Nat) : Int)⟩] else [] := rfl

/-- What is told at a tick, and what is left. -/
theorem again_tick (cn : Bool) (B i : Nat) : (cn = false ∧ i = B ∧ dueN (i : Nat) (again cn B i) = 1 ∧ (again cn B i).drop 1 = again cn B (i + 1)) ∨ (¬ (cn = false ∧ i = B) ∧ dueN (i : Nat) (again cn B i) = 0 ∧ again cn B i = again cn B (i + 1)) := by
  cases cn with
  | true => right; exact ⟨fun h => by simp at h, rfl, rfl⟩
  | false =>
    rw [again_f, again_f]
    by_cases h1 : i = B
    · left
      rw [if_pos (by omega), if_neg (by omega)]
      refine ⟨rfl, h1, ?_, rfl⟩
      unfold dueN
      rw [if_pos (by show ((B : Nat) : Int) ≤ (i : Nat); omega)]
      rfl
    · right
      refine ⟨fun h => h1 h.2, ?_, ?_⟩
      · split
        · unfold dueN
          rw [if_neg (by show ¬ ((B : Nat) : Int) ≤ (i : Nat); omega)]
        · rfl
      · split
        · rw [if_pos (by omega)]
        · rw [if_neg (by omega)]

set_option maxRecDepth 100000 in
set_option maxHeartbeats 2000000 in
theorem again6 (A B : Nat) (cn : Bool) (w : World) (hA : A < 256) (hB : B < 256) : Calls Try.prog 6 #[.int .u8 (A : Nat), .int .u8 (B : Nat), .bool cn] w (LawTrue w) := by
  have HAW := hide' awake7
  have xaw : IntKind.i64.wrap ((A : Nat) : Int) = (A : Nat) := by rw [IntKind.wrap_i64]; omega
  have xat := tmod50 A
  obtain ⟨ra, hra⟩ : ∃ n, n = A % 50 := ⟨_, rfl⟩
  rw [← hra] at xat
  have xav : IntKind.i64.wrap ((ra : Nat) : Int) = (ra : Nat) := by rw [IntKind.wrap_i64]; omega
  obtain ⟨ka, hka⟩ : ∃ k, k = 1 + ra := ⟨_, rfl⟩
  have xak : IntKind.i64.wrap (1 + ((ra : Nat) : Int)) = (ka : Nat) := by rw [IntKind.wrap_i64]; omega
  have xab : 1 ≤ ka ∧ ka ≤ 50 := by omega
  have xbw : IntKind.i64.wrap ((B : Nat) : Int) = (B : Nat) := by rw [IntKind.wrap_i64]; omega
  have xbt := tmod50 B
  obtain ⟨rb, hrb⟩ : ∃ n, n = B % 50 := ⟨_, rfl⟩
  rw [← hrb] at xbt
  have xbv : IntKind.i64.wrap ((rb : Nat) : Int) = (rb : Nat) := by rw [IntKind.wrap_i64]; omega
  obtain ⟨kb, hkb⟩ : ∃ k, k = 1 + rb := ⟨_, rfl⟩
  have xbk : IntKind.i64.wrap (1 + ((rb : Nat) : Int)) = (kb : Nat) := by rw [IntKind.wrap_i64]; omega
  have xbb : 1 ≤ kb ∧ kb ≤ 50 := by omega
  have HN := hide' (new_in (w0 := w) (Stay.refl _ w))
  clear hra hrb hka hkb
  go_enter Try.func6, Try.ntmps6
  go_wp2_with fail
  refine HN.out.mono ?_
  rintro e w1 ⟨q0, rfl, hi, _⟩
  obtain ⟨b, hb⟩ : ∃ b, b = q0.b := ⟨_, rfl⟩
  rw [← hb] at hi
  rw [← hb]
  have HS := hide' (set_in (M := [⟨1, 1, ((ka : Nat) : Int)⟩]) 1 1 ((ka : Nat) : Int) hi (by decide) (by decide) (by omega) (by omega) (.inl (by decide)) (by simp only [Int.zero_add]; rfl))
  clear hi hb HN
  go_wp2_with fail
  refine HS.out.mono ?_
  rintro e w2 ⟨q1, rfl, hi, _⟩
  have HS2 := hide' (set_in (M := [⟨1, 1, ((kb : Nat) : Int)⟩]) 1 1 ((kb : Nat) : Int) hi (by decide) (by decide) (by omega) (by omega) (.inl (by simp)) (by simp only [Int.zero_add]; rfl))
  clear hi HS
  go_wp2_with fail
  refine HS2.out.mono ?_
  rintro e w3 ⟨q2, rfl, hi, _⟩
  have HAL := hide' (all_in (n := 1) hi rfl)
  clear hi HS2
  go_wp2_with fail
  refine HAL.out.mono ?_
  rintro e w4 ⟨q3, a4, c4, rfl, hi, _, _⟩
  have HI4 := hide' hi
  clear hi HAL
  cases cn
  · have HI : Hid (∃ q, CIn w w4 b q (((1 : Nat) : Int) - 1) (again false kb 1)) := ⟨q3, by
      have e : again false kb 1 = [⟨1, 1, ((kb : Nat) : Int)⟩] := by rw [again_f, if_pos (by omega)]
      rw [e]; exact HI4.out⟩
    clear HI4 xaw xav xak xab
    go_wp2_with fail
    go_loopg [8] 60 (fun gg v8 wr => ∃ i : Nat, 1 ≤ i ∧ i ≤ 61 ∧ gg = 61 - i ∧ v8 = .int .i64 (i : Int) ∧ Hid (∃ q, CIn w wr b q ((i : Int) - 1) (again false kb i)))
    case atStart => exact ⟨1, by omega, by omega, rfl, rfl, HI⟩
    case round =>
      clear HI
      obtain ⟨i, hi1, hi, rfl, rfl, HX⟩ := hrel
      obtain ⟨q, hX⟩ := HX.out
      have HC := hide' hX
      clear HX hX
      by_cases hlt : i ≤ 60
      · have i60 : (i : Int) ≤ 60 := by omega
        rcases again_tick false kb i with ⟨hcn, hib, hd, hr⟩ | ⟨hne, hd, hr⟩
        · have hq2 : (((i : Nat) : Int) == ((kb : Nat) : Int)) = true := beq_iff_eq.2 (by omega)
          have HT := hide' (tick_in (x := (i : Nat)) (n := 1) (R := again false kb (i + 1)) HC.out (by omega) (by omega) hd rfl hr)
          have HIB := hide' hib
          clear HC hd hr hib hcn
          go_wp2_with fail
          refine HT.out.mono ?_
          rintro e w5 ⟨q5, a5, c5, rfl, hi5, _, _⟩
          have HN : Hid (∃ q, CIn w w5 b q (((i + 1 : Nat) : Int) - 1) (again false kb (i + 1))) := ⟨q5, (by rw [show (((i + 1 : Nat) : Int) - 1) = ((i : Nat) : Int) by omega]; exact hi5)⟩
          clear hi5 HT
          go_wp2
          go_roundg (61 - (i + 1))
          case measure => omega
          case rel => exact ⟨i + 1, by omega, by omega, rfl, by go_num, HN⟩
        · have HT := hide' (tick_in (x := (i : Nat)) (n := 0) (D := []) (R := again false kb (i + 1)) HC.out (by omega) (by omega) hd rfl (by rw [List.drop_zero]; exact hr))
          have hq : ¬ ((i : Nat) : Int) = (kb : Nat) := fun e => hne ⟨rfl, by omega⟩
          have hq2 : (((i : Nat) : Int) == ((kb : Nat) : Int)) = false := beq_eq_false_iff_ne.2 hq
          clear HC hd hr hne
          go_wp2_with fail
          refine HT.out.mono ?_
          rintro e w5 ⟨q5, a5, c5, rfl, hi5, _, _⟩
          have HN : Hid (∃ q, CIn w w5 b q (((i + 1 : Nat) : Int) - 1) (again false kb (i + 1))) := ⟨q5, (by rw [show (((i + 1 : Nat) : Int) - 1) = ((i : Nat) : Int) by omega]; exact hi5)⟩
          clear hi5 HT
          go_wp2
          go_roundg (61 - (i + 1))
          case measure => omega
          case rel => exact ⟨i + 1, by omega, by omega, rfl, by go_num, HN⟩
      · have e : i = 61 := by omega
        subst e
        have HW := hide' (now_in HC.out)
        clear HC
        go_wp2_with fail
        refine HW.out.mono ?_
        rintro e w5 ⟨rfl, hi5, _⟩
        have HS5 := hide' hi5.stay
        clear hi5 HW
        go_wp2_with fail
        refine (HAW.out _).mono ?_
        rintro e w9 ⟨rfl, hs⟩
        have HE := hide' (HS5.out.trans hs)
        clear hs
        go_wp2
        go_ret
        exact ⟨rfl, HE.out⟩
  · have HC1 := hide' (cancel_in (M := []) (z := true) 1 1 HI4.out rfl rfl)
    clear HI4 xaw xav xak xab
    go_wp2_with fail
    refine HC1.out.mono ?_
    rintro e w5 ⟨q4, rfl, hi, _⟩
    have HC2 := hide' (cancel_in (M := []) (z := false) 1 1 hi rfl rfl)
    clear hi HC1
    go_wp2_with fail
    refine HC2.out.mono ?_
    rintro e w6 ⟨q5, rfl, hi, _⟩
    have HI : Hid (∃ q, CIn w w6 b q (((1 : Nat) : Int) - 1) (again true kb 1)) := ⟨q5, hi⟩
    clear hi HC2
    go_wp2_with fail
    go_loopg [8] 60 (fun gg v8 wr => ∃ i : Nat, 1 ≤ i ∧ i ≤ 61 ∧ gg = 61 - i ∧ v8 = .int .i64 (i : Int) ∧ Hid (∃ q, CIn w wr b q ((i : Int) - 1) (again true kb i)))
    case atStart => exact ⟨1, by omega, by omega, rfl, rfl, HI⟩
    case round =>
      clear HI
      obtain ⟨i, hi1, hi, rfl, rfl, HX⟩ := hrel
      obtain ⟨q, hX⟩ := HX.out
      have HC := hide' hX
      clear HX hX
      by_cases hlt : i ≤ 60
      · have i60 : (i : Int) ≤ 60 := by omega
        rcases again_tick true kb i with ⟨hcn, hib, hd, hr⟩ | ⟨hne, hd, hr⟩
        · cases hcn
        · have HT := hide' (tick_in (x := (i : Nat)) (n := 0) (D := []) (R := again true kb (i + 1)) HC.out (by omega) (by omega) hd rfl (by rw [List.drop_zero]; exact hr))
          clear HC hd hr hne
          go_wp2_with fail
          refine HT.out.mono ?_
          rintro e w5 ⟨q5, a5, c5, rfl, hi5, _, _⟩
          have HN : Hid (∃ q, CIn w w5 b q (((i + 1 : Nat) : Int) - 1) (again true kb (i + 1))) := ⟨q5, (by rw [show (((i + 1 : Nat) : Int) - 1) = ((i : Nat) : Int) by omega]; exact hi5)⟩
          clear hi5 HT
          go_wp2
          go_roundg (61 - (i + 1))
          case measure => omega
          case rel => exact ⟨i + 1, by omega, by omega, rfl, by go_num, HN⟩
      · have e : i = 61 := by omega
        subst e
        have HW := hide' (now_in HC.out)
        clear HC
        go_wp2_with fail
        refine HW.out.mono ?_
        rintro e w5 ⟨rfl, hi5, _⟩
        have HS5 := hide' hi5.stay
        clear hi5 HW
        go_wp2_with fail
        refine (HAW.out _).mono ?_
        rintro e w9 ⟨rfl, hs⟩
        have HE := hide' (HS5.out.trans hs)
        clear hs
        go_wp2
        go_ret
        exact ⟨rfl, HE.out⟩

end Go.Proofs.Ytihciknbmhadjaa
