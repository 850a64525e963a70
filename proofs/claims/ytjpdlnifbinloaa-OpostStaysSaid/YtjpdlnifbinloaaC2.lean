/-
  The program adds a byte: walked. No conditions.
-/
import Derived.Test.YtjpdlnifbinloaaC1
namespace Go.Proofs.Ytjpdlnifbinloaa
open Go.RowKit

theorem extract0 (x y : Value) (w : World) : (Instr.extract (.tuple #[x, y]) 0).run Try.prog w = .ok x w := rfl

theorem extract1 (x y : Value) (w : World) : (Instr.extract (.tuple #[x, y]) 1).run Try.prog w = .ok y w := rfl

attribute [local go_sem] extract0 extract1

theorem addM_13f (o col : Int) (h : has o 4 = false) : addM o col 13 = if col = 0 ∧ has o 8 = true then ([], 0) else ([13], 0) := by
  unfold addM
  rw [if_pos ⟨rfl, h⟩]

theorem addM_line (o col c : Int) (h : c = 10 ∨ (c = 13 ∧ has o 4 = true)) : addM o col c = if has o 2 then ([13, 10], 0) else if has o 16 then ([10], 0) else ([10], col) := by
  unfold addM
  rcases h with rfl | ⟨rfl, h⟩
  · rw [if_neg (fun z => absurd z.1 (by decide)), if_pos (.inr rfl)]
  · rw [if_neg (fun z => by rw [h] at z; exact absurd z.2 (by decide)), if_pos (.inl rfl)]

theorem addM_9 (o col : Int) : addM o col 9 = if has o 32 then (List.replicate (8 - col % 8).toNat 32, col + 8 - col % 8) else ([9], col + 8 - col % 8) := by
  unfold addM
  rw [if_neg (fun z => absurd z.1 (by decide)), if_neg (by decide), if_pos rfl]

theorem addM_8 (o col : Int) : addM o col 8 = ([8], if col = 0 then 0 else col - 1) := by
  unfold addM
  rw [if_neg (fun z => absurd z.1 (by decide)), if_neg (by decide), if_neg (by decide), if_pos rfl]

theorem addM_other (o col c : Int) (h1 : ¬ c = 13) (h2 : ¬ c = 10) (h3 : ¬ c = 9) (h4 : ¬ c = 8) : addM o col c = ([c], if stB c then col else col + 1) := by
  unfold addM stB
  rw [if_neg (fun z => h1 z.1), if_neg (fun z => z.elim h1 h2), if_neg h3, if_neg h4]
  by_cases h : c < 32 ∨ (127 ≤ c ∧ c ≤ 191)
  · rw [if_pos h, if_pos (by simpa using h)]
  · rw [if_neg h, if_neg (by simpa using h)]

theorem add_13f (W0 w : World) (v : Value) (l : List Int) (o col : Int) (hA : Acc W0 w v l) (hn : l.length ≤ 900000) (h : has o 4 = false) : Calls Try.prog 13 #[v, .int .i64 o, .int .i64 col, .int .u8 13] w (Adds W0 l (addM o col 13)) := by
  rw [addM_13f o col h]
  have HX : Hid (∀ w1, Acc W0 w1 v l → Calls Try.prog 18 #[v, .int .i64 o, .int .i64 col] w1 (Adds W0 l (if col = 0 ∧ has o 8 = true then ([], 0) else ([13], 0)))) := fun w1 h => addReturn18 W0 w1 v l o col h hn
  obtain ⟨r, hr⟩ : ∃ r : List Int × Int, r = (if col = 0 ∧ has o 8 = true then ([], 0) else ([13], 0)) := ⟨_, rfl⟩
  rw [← hr] at HX ⊢
  clear hr
  have HA0 := hide' hA
  have HN := hide' hn
  have H4 := hide' (has17 o 4)
  rw [h] at H4
  clear h hA hn
  go_enter Try.func13, Try.ntmps13
  go_wp2_with fail
  refine (H4.out _).mono ?_
  rintro e w1 ⟨rfl, hs⟩
  have HA1 := hide' (HA0.out.keep hs)
  clear hs H4
  go_wp2_with fail
  refine (HX.out w1 HA1.out).mono ?_
  rintro e w2 ⟨v2, rfl, ha⟩
  have HA2 := hide' ha
  clear ha HX
  go_wp2
  go_returns
  exact ⟨_, rfl, HA2.out⟩

theorem add_13t (W0 w : World) (v : Value) (l : List Int) (o col : Int) (hA : Acc W0 w v l) (hn : l.length ≤ 900000) (h : has o 4 = true) : Calls Try.prog 13 #[v, .int .i64 o, .int .i64 col, .int .u8 13] w (Adds W0 l (addM o col 13)) := by
  rw [addM_line o col 13 (.inr ⟨rfl, h⟩)]
  have HX : Hid (∀ w1, Acc W0 w1 v l → Calls Try.prog 19 #[v, .int .i64 o, .int .i64 col] w1 (Adds W0 l (if has o 2 then ([13, 10], 0) else if has o 16 then ([10], 0) else ([10], col)))) := fun w1 h => addLine19 W0 w1 v l o col h hn
  obtain ⟨r, hr⟩ : ∃ r : List Int × Int, r = (if has o 2 then ([13, 10], 0) else if has o 16 then ([10], 0) else ([10], col)) := ⟨_, rfl⟩
  rw [← hr] at HX ⊢
  clear hr
  have HA0 := hide' hA
  have HN := hide' hn
  have H4 := hide' (has17 o 4)
  rw [h] at H4
  clear h hA hn
  go_enter Try.func13, Try.ntmps13
  go_wp2_with fail
  refine (H4.out _).mono ?_
  rintro e w1 ⟨rfl, hs⟩
  have HA1 := hide' (HA0.out.keep hs)
  clear hs H4
  go_wp2_with fail
  refine (HX.out w1 HA1.out).mono ?_
  rintro e w2 ⟨v2, rfl, ha⟩
  have HA2 := hide' ha
  clear ha HX
  go_wp2
  go_returns
  exact ⟨_, rfl, HA2.out⟩

theorem add_10 (W0 w : World) (v : Value) (l : List Int) (o col : Int) (hA : Acc W0 w v l) (hn : l.length ≤ 900000) : Calls Try.prog 13 #[v, .int .i64 o, .int .i64 col, .int .u8 10] w (Adds W0 l (addM o col 10)) := by
  rw [addM_line o col 10 (.inl rfl)]
  have HX := hide' (addLine19 W0 w v l o col hA hn)
  obtain ⟨r, hr⟩ : ∃ r : List Int × Int, r = (if has o 2 then ([13, 10], 0) else if has o 16 then ([10], 0) else ([10], col)) := ⟨_, rfl⟩
  rw [← hr] at HX ⊢
  clear hr hA hn
  go_enter Try.func13, Try.ntmps13
  go_wp2_with fail
  refine HX.out.mono ?_
  rintro e w2 ⟨v2, rfl, ha⟩
  have HA2 := hide' ha
  clear ha HX
  go_wp2
  go_returns
  exact ⟨_, rfl, HA2.out⟩

theorem add_9 (W0 w : World) (v : Value) (l : List Int) (o col : Int) (hA : Acc W0 w v l) (hn : l.length ≤ 900000) (h0 : 0 ≤ col) (h1 : col ≤ 1073741824) : Calls Try.prog 13 #[v, .int .i64 o, .int .i64 col, .int .u8 9] w (Adds W0 l (addM o col 9)) := by
  rw [addM_9 o col]
  have HX := hide' (addTab20 W0 w v l o col hA hn h0 h1)
  obtain ⟨r, hr⟩ : ∃ r : List Int × Int, r = (if has o 32 then (List.replicate (8 - col % 8).toNat 32, col + 8 - col % 8) else ([9], col + 8 - col % 8)) := ⟨_, rfl⟩
  rw [← hr] at HX ⊢
  clear hr hA hn
  go_enter Try.func13, Try.ntmps13
  go_wp2_with fail
  refine HX.out.mono ?_
  rintro e w2 ⟨v2, rfl, ha⟩
  have HA2 := hide' ha
  clear ha HX
  go_wp2
  go_returns
  exact ⟨_, rfl, HA2.out⟩

theorem add_8 (W0 w : World) (v : Value) (l : List Int) (o col : Int) (hA : Acc W0 w v l) (hn : l.length ≤ 900000) (h0 : 0 ≤ col) (h1 : col ≤ 1073741824) : Calls Try.prog 13 #[v, .int .i64 o, .int .i64 col, .int .u8 8] w (Adds W0 l (addM o col 8)) := by
  rw [addM_8 o col]
  obtain ⟨k, hk⟩ : ∃ k : Int, k = if col = 0 then 0 else col - 1 := ⟨_, rfl⟩
  have em : max (col - 1) 0 = k := by rw [hk]; split <;> omega
  have HA0 := hide' hA
  have HN := hide' hn
  rw [← hk]
  clear hA hn hk
  go_enter Try.func13, Try.ntmps13
  go_wp2_with (at_builtin; go_must (refine acc_one rfl _ _ rfl HA0.out rfl rfl (by decide) HN.out ?_; intro v1 w1 ha; have HA1 := hide' ha; clear ha; go_wp2_with fail))
  go_returns
  exact ⟨_, rfl, HA1.out⟩

theorem add_other (W0 w : World) (v : Value) (l : List Int) (o col : Int) (c : Int) (hA : Acc W0 w v l) (hn : l.length ≤ 900000) (h0 : 0 ≤ col) (h1 : col ≤ 1073741824) (hc : (Lit.int .u8 c).wf = true) (d1 : ¬ c = 13) (d2 : ¬ c = 10) (d3 : ¬ c = 9) (d4 : ¬ c = 8) : Calls Try.prog 13 #[v, .int .i64 o, .int .i64 col, .int .u8 c] w (Adds W0 l (addM o col c)) := by
  rw [addM_other o col c d1 d2 d3 d4]
  have HX := hide' (stays21 c)
  have HC := hide' hc
  have HA0 := hide' hA
  have HN := hide' hn
  have e1 : (c == 13) = false := beq_f d1
  have e2 : (c == 10) = false := beq_f d2
  have e3 : (c == 9) = false := beq_f d3
  have e4 : (c == 8) = false := beq_f d4
  obtain ⟨q, hq⟩ : ∃ q, q = stB c := ⟨_, rfl⟩
  rw [← hq] at HX ⊢
  clear hA hn hq hc d1 d2 d3 d4
  cases q
  all_goals
    go_enter Try.func13, Try.ntmps13
    go_wp2_with fail
    refine (HX.out _).mono ?_
    rintro e w1 ⟨rfl, hs⟩
    have HA1 := hide' (HA0.out.keep hs)
    clear hs HX
    go_wp2_with (at_builtin; go_must (refine acc_one rfl _ _ rfl HA1.out rfl rfl (HC.out) HN.out ?_; intro v2 w2 ha; have HA2 := hide' ha; clear ha; go_wp2_with fail))
    go_returns
    exact ⟨_, rfl, HA2.out⟩

theorem add13 (W0 w : World) (v : Value) (l : List Int) (o col : Int) (c : Int) (hA : Acc W0 w v l) (hn : l.length ≤ 900000) (h0 : 0 ≤ col) (h1 : col ≤ 1073741824) (hc : (Lit.int .u8 c).wf = true) : Calls Try.prog 13 #[v, .int .i64 o, .int .i64 col, .int .u8 c] w (Adds W0 l (addM o col c)) := by
  by_cases d1 : c = 13
  · subst d1
    cases h : has o 4
    · exact add_13f W0 w v l o col hA hn h
    · exact add_13t W0 w v l o col hA hn h
  · by_cases d2 : c = 10
    · subst d2
      exact add_10 W0 w v l o col hA hn
    · by_cases d3 : c = 9
      · subst d3
        exact add_9 W0 w v l o col hA hn h0 h1
      · by_cases d4 : c = 8
        · subst d4
          exact add_8 W0 w v l o col hA hn h0 h1
        · exact add_other W0 w v l o col c hA hn h0 h1 hc d1 d2 d3 d4

end Go.Proofs.Ytjpdlnifbinloaa
