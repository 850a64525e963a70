/-
  What is laid behind a row for a return, a line, a tab: walked. No conditions.
-/
import Derived.Test.YtjpdlnifbinloaaC0
namespace Go.Proofs.Ytjpdlnifbinloaa
open Go.RowKit

/-- Bytes are laid behind a row of one's own, and a column is told. -/
def Adds (W0 : World) (l : List Int) (r : List Int × Int) (e : Ending) (w' : World) : Prop := ∃ v, e = .returned (.tuple #[v, .int .i64 r.2]) ∧ Acc W0 w' v (l ++ r.1)

theorem tup {v : Value} {a b : Int} (h : a = b) : Ending.returned (.tuple #[v, .int .i64 a]) = .returned (.tuple #[v, .int .i64 b]) := by rw [h]

theorem acc_two {ops : Array Oper} {rest : List Oper} {o : Oper} {a : Act} {Q : Exit → Act → World → Prop} (hgd : o.guard = none) (s x : Operand)
    (ho : o.op = .call { callee := .builtin .append, args := #[s, x], argTypes := #[22, 22] }) {W0 w : World} {v : Value} {l : List Int} {c : Int} (hA : Acc W0 w v l) (hs : a.eval s = v) (hx : a.eval x = .slice (some ⟨w.heap.size, 0, none⟩) 1 1) (hc : (Lit.int .u8 c).wf = true)
    (hn : l.length ≤ 900010)
    (h : ∀ v' w', Acc W0 w' v' (l ++ [c]) → wpList Try.prog ops Q rest (a.put o.dst v') w') : wpList Try.prog ops Q (o :: rest) a (w.alloc (.cells #[.int .u8 c] 5)) := by
  obtain ⟨ad, cp, hB⟩ := (Acc.new w #[.int .u8 c] [c] 1 rfl rfl (fun x hx => by simp at hx; subst hx; exact hc) (by omega)).arg
  exact acc_app hgd s x ho (hA.keep ((Stay.refl _ w).alloc _)) hs hB hx (by simp; omega) h

theorem addReturn18 (W0 w : World) (v : Value) (l : List Int) (o col : Int) (hA : Acc W0 w v l) (hn : l.length ≤ 900000) : Calls Try.prog 18 #[v, .int .i64 o, .int .i64 col] w (Adds W0 l (if col = 0 ∧ has o 8 = true then ([], 0) else ([13], 0))) := by
  have HA0 := hide' hA
  have HN := hide' hn
  have H8 := hide' (has17 o 8)
  obtain ⟨r, hr⟩ : ∃ r : List Int × Int, r = (if col = 0 ∧ has o 8 = true then ([], 0) else ([13], 0)) := ⟨_, rfl⟩
  obtain ⟨q, hq⟩ : ∃ q, q = has o 8 := ⟨_, rfl⟩
  have HP : Hid (r = (if col = 0 ∧ q = true then ([], 0) else ([13], 0))) := by rw [hr, hq]; rfl
  rw [← hr]
  rw [← hq] at H8
  clear hr hq hA hn
  by_cases h : col = 0
  · subst h
    cases q
    · go_enter Try.func18, Try.ntmps18
      go_wp2_with fail
      refine (H8.out _).mono ?_
      rintro e w1 ⟨rfl, hs⟩
      have HA1 := hide' (HA0.out.keep hs)
      clear hs H8
      go_wp2_with (at_builtin; go_must (refine acc_one rfl _ _ rfl HA1.out rfl rfl (by decide) HN.out ?_; intro v2 w2 ha; have HA2 := hide' ha; clear ha; go_wp2_with fail))
      go_returns
      exact ⟨_, tup (by rw [HP.out]; rfl), by rw [HP.out]; exact HA2.out⟩
    · go_enter Try.func18, Try.ntmps18
      go_wp2_with fail
      refine (H8.out _).mono ?_
      rintro e w1 ⟨rfl, hs⟩
      have HA1 := hide' (HA0.out.keep hs)
      clear hs H8
      go_wp2
      go_returns
      exact ⟨_, tup (by rw [HP.out]; rfl), by rw [HP.out]; simpa using HA1.out⟩
  · have e0 : (col == 0) = false := by simpa using h
    have HC := hide' h
    clear h
    go_enter Try.func18, Try.ntmps18
    go_wp2_with (at_builtin; go_must (refine acc_one rfl _ _ rfl HA0.out rfl rfl (by decide) HN.out ?_; intro v1 w1 ha; have HA1 := hide' ha; clear ha; go_wp2_with fail))
    go_returns
    exact ⟨_, tup (by rw [HP.out, if_neg (fun z => HC.out z.1)]), by rw [HP.out, if_neg (fun z => HC.out z.1)]; exact HA1.out⟩

theorem addLine19 (W0 w : World) (v : Value) (l : List Int) (o col : Int) (hA : Acc W0 w v l) (hn : l.length ≤ 900000) : Calls Try.prog 19 #[v, .int .i64 o, .int .i64 col] w (Adds W0 l (if has o 2 then ([13, 10], 0) else if has o 16 then ([10], 0) else ([10], col))) := by
  have HA0 := hide' hA
  have HN := hide' hn
  have H2 := hide' (has17 o 2)
  have H16 := hide' (has17 o 16)
  obtain ⟨r, hr⟩ : ∃ r : List Int × Int, r = (if has o 2 then ([13, 10], 0) else if has o 16 then ([10], 0) else ([10], col)) := ⟨_, rfl⟩
  obtain ⟨q, hq⟩ : ∃ q, q = has o 2 := ⟨_, rfl⟩
  obtain ⟨q1, hq1⟩ : ∃ q, q = has o 16 := ⟨_, rfl⟩
  have HP : Hid (r = (if q then ([13, 10], 0) else if q1 then ([10], 0) else ([10], col))) := by rw [hr, hq, hq1]; rfl
  rw [← hr]
  rw [← hq] at H2
  rw [← hq1] at H16
  clear hr hq hq1 hA hn
  cases q
  · cases q1
    · go_enter Try.func19, Try.ntmps19
      go_wp2_with fail
      refine (H2.out _).mono ?_
      rintro e w1 ⟨rfl, hs⟩
      have HA1 := hide' (HA0.out.keep hs)
      clear hs H2
      go_wp2_with fail
      refine (H16.out _).mono ?_
      rintro e w2 ⟨rfl, hs⟩
      have HA2 := hide' (HA1.out.keep hs)
      clear hs H16
      go_wp2_with (at_builtin; go_must (refine acc_one rfl _ _ rfl HA2.out rfl rfl (by decide) HN.out ?_; intro v3 w3 ha; have HA3 := hide' ha; clear ha; go_wp2_with fail))
      go_returns
      exact ⟨_, tup (by rw [HP.out]; rfl), by rw [HP.out]; exact HA3.out⟩
    · go_enter Try.func19, Try.ntmps19
      go_wp2_with fail
      refine (H2.out _).mono ?_
      rintro e w1 ⟨rfl, hs⟩
      have HA1 := hide' (HA0.out.keep hs)
      clear hs H2
      go_wp2_with fail
      refine (H16.out _).mono ?_
      rintro e w2 ⟨rfl, hs⟩
      have HA2 := hide' (HA1.out.keep hs)
      clear hs H16
      go_wp2_with (at_builtin; go_must (refine acc_one rfl _ _ rfl HA2.out rfl rfl (by decide) HN.out ?_; intro v3 w3 ha; have HA3 := hide' ha; clear ha; go_wp2_with fail))
      go_returns
      exact ⟨_, tup (by rw [HP.out]; rfl), by rw [HP.out]; exact HA3.out⟩
  · go_enter Try.func19, Try.ntmps19
    go_wp2_with fail
    refine (H2.out _).mono ?_
    rintro e w1 ⟨rfl, hs⟩
    have HA1 := hide' (HA0.out.keep hs)
    clear hs H2
    go_wp2_with (at_builtin; go_must (refine acc_one rfl _ _ rfl HA1.out rfl rfl (by decide) HN.out ?_; intro v2 w2 ha; have HA2 := hide' ha; have HN2 : Hid ((l ++ [13]).length ≤ 900010) := (by show (l ++ [(13 : Int)]).length ≤ 900010; rw [List.length_append]; have h9 := HN.out; show l.length + 1 ≤ 900010; omega); clear ha; go_wp2_with (at_builtin; go_must (refine acc_two rfl _ _ rfl HA2.out rfl rfl (by decide) HN2.out ?_; intro v3 w3 ha; have HA3 := hide' ha; clear ha; go_wp2_with fail))))
    go_returns
    exact ⟨_, tup (by rw [HP.out]; rfl), by rw [HP.out]; simpa using HA3.out⟩

/-- A tab's place. -/
theorem tab_place (col : Int) (h0 : 0 ≤ col) : col + 8 - col.tmod 8 = col + 8 - col % 8 := by rw [Int.tmod_eq_emod_of_nonneg h0]

set_option maxHeartbeats 2000000 in
theorem addTab20 (W0 w : World) (v : Value) (l : List Int) (o col : Int) (hA : Acc W0 w v l) (hn : l.length ≤ 900000) (h0 : 0 ≤ col) (h1 : col ≤ 1073741824) : Calls Try.prog 20 #[v, .int .i64 o, .int .i64 col] w (Adds W0 l (if has o 32 then (List.replicate (8 - col % 8).toNat 32, col + 8 - col % 8) else ([9], col + 8 - col % 8))) := by
  have HA0 := hide' hA
  have HN := hide' hn
  have H32 := hide' (has17 o 32)
  obtain ⟨r, hr⟩ : ∃ r : List Int × Int, r = (if has o 32 then (List.replicate (8 - col % 8).toNat 32, col + 8 - col % 8) else ([9], col + 8 - col % 8)) := ⟨_, rfl⟩
  obtain ⟨q, hq⟩ : ∃ q, q = has o 32 := ⟨_, rfl⟩
  obtain ⟨m, hm⟩ : ∃ m, m = col % 8 := ⟨_, rfl⟩
  obtain ⟨k, hk⟩ : ∃ k : Nat, k = (8 - col % 8).toNat := ⟨_, rfl⟩
  have tm : col.tmod 8 = m := by rw [Int.tmod_eq_emod_of_nonneg h0, hm]
  have hmr : 0 ≤ m ∧ m ≤ 7 := by omega
  have hkm : (k : Int) = 8 - m := by omega
  obtain ⟨nx, hnx⟩ : ∃ nx, nx = col + 8 - m := ⟨_, rfl⟩
  have HP : Hid (r = (if q then (List.replicate k 32, nx) else ([9], nx))) := by rw [hr, hq, hk, hnx, hm]; rfl
  rw [← hr]
  rw [← hq] at H32
  have e8a : IntKind.i64.wrap (col + 8) = col + 8 := by rw [IntKind.wrap_i64]; omega
  have e8b : IntKind.i64.wrap (col + 8 - m) = nx := by rw [IntKind.wrap_i64]; omega
  have HK : Hid ((k : Int) = nx - col ∧ k ≤ 8 ∧ nx ≤ 1073741840) := ⟨by omega, by omega, by omega⟩
  clear hr hq hA hn hm hk hkm hnx
  cases q
  · go_enter Try.func20, Try.ntmps20
    go_wp2_with fail
    refine (H32.out _).mono ?_
    rintro e w1 ⟨rfl, hs⟩
    have HA1 := hide' (HA0.out.keep hs)
    clear hs H32
    go_wp2_with (at_builtin; go_must (refine acc_one rfl _ _ rfl HA1.out rfl rfl (by decide) HN.out ?_; intro v2 w2 ha; have HA2 := hide' ha; clear ha; go_wp2_with fail))
    go_returns
    exact ⟨_, tup (by rw [HP.out]; rfl), by rw [HP.out]; exact HA2.out⟩
  · go_enter Try.func20, Try.ntmps20
    go_wp2_with fail
    refine (H32.out _).mono ?_
    rintro e w1 ⟨rfl, hs⟩
    have HA1 := hide' (HA0.out.keep hs)
    clear hs H32
    clear HA0 tm e8a e8b hmr
    go_wp2
    go_loopg [0, 2] k (fun gg v0 v2 wr => ∃ i : Nat, i ≤ k ∧ gg = k - i ∧ ∃ c : Int, v2 = .int .i64 c ∧ Hid (c = col + i) ∧ Hid (Acc W0 wr v0 (l ++ List.replicate i 32)))
    case atStart => exact ⟨0, Nat.zero_le _, rfl, col, rfl, (by show col = col + (0 : Nat); omega), hide' (by simpa using HA1.out)⟩
    case round =>
      obtain ⟨i, hi, rfl, c, rfl, HC, HB0⟩ := hrel
      by_cases hlt : i < k
      · have d1 : decide (c < nx) = true := by have := HC.out; have := HK.out; simp; omega
        have wc : IntKind.i64.wrap (c + 1) = c + 1 := by rw [IntKind.wrap_i64]; have := HC.out; have := HK.out; omega
        have HN2 : Hid ((l ++ List.replicate i (32 : Int)).length ≤ 900010) := by
          show (l ++ List.replicate i (32 : Int)).length ≤ 900010
          rw [List.length_append, List.length_replicate]
          have := HN.out
          have := HK.out.2.1
          omega
        go_wp2_with (at_builtin; go_must (refine acc_two rfl _ _ rfl HB0.out rfl rfl (by decide) HN2.out ?_; intro v3 w3 ha; have HA3 := hide' ha; clear ha; go_wp2_with fail))
        go_roundg (k - (i + 1))
        case measure => omega
        case rel => exact ⟨i + 1, by omega, rfl, c + 1, by first | rfl | go_num, (by show c + 1 = col + ((i + 1 : Nat) : Int); have := HC.out; omega), by have := HA3.out; rw [List.append_assoc] at this; rw [List.replicate_succ']; exact this⟩
      · have d1 : decide (c < nx) = false := by have := HC.out; have := HK.out; simp; omega
        have e : i = k := by omega
        subst e
        go_wp2
        go_returns
        exact ⟨_, tup (by rw [HP.out]; rfl), by rw [HP.out]; exact HB0.out⟩

end Go.Proofs.Ytjpdlnifbinloaa
