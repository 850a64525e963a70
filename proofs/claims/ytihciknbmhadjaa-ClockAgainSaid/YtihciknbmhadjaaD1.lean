/-
  The first timer of which a test is true: walked. No conditions.
-/
import Derived.Test.YtihciknbmhadjaaD0
namespace Go.Proofs.Ytihciknbmhadjaa
open Go.RowKit

/-- The number of the first of which a test is true. -/
def fi (p : Tm → Bool) : List Tm → Nat
  | [] => 0
  | a :: L => if p a = true then 0 else fi p L + 1

theorem fi_le (p : Tm → Bool) : ∀ L : List Tm, fi p L ≤ L.length
  | [] => Nat.le_refl _
  | a :: L => by
    unfold fi
    have := fi_le p L
    split
    · exact Nat.zero_le _
    · rw [List.length_cons]; omega

theorem fi_eq {p : Tm → Bool} : ∀ {L : List Tm} {i : Nat}, i ≤ L.length → (∀ k a, k < i → L[k]? = some a → p a = false) → (∀ a, L[i]? = some a → p a = true) → fi p L = i
  | [], i, h, _, _ => by simp at h; subst h; rfl
  | a :: L, 0, _, _, h => by unfold fi; rw [if_pos (h a rfl)]
  | a :: L, i + 1, hi, h1, h2 => by
    unfold fi
    rw [if_neg (by rw [h1 0 a (by omega) rfl]; decide), fi_eq (L := L) (i := i) (by simpa using hi) (fun k b hk hb => h1 (k + 1) b (by omega) (by simpa using hb)) (fun b hb => h2 b (by simpa using hb))]

theorem fi_lt {p : Tm → Bool} : ∀ {L : List Tm} {k : Nat} {a : Tm}, k < fi p L → L[k]? = some a → p a = false
  | [], k, a, h, _ => by unfold fi at h; omega
  | b :: L, k, a, h, ha => by
    unfold fi at h
    split at h
    · omega
    · rename_i hb
      cases k with
      | zero => cases ha; simpa using hb
      | succ k => exact fi_lt (L := L) (k := k) (by omega) (by simpa using ha)

theorem fi_at {p : Tm → Bool} : ∀ {L : List Tm} {a : Tm}, L[fi p L]? = some a → p a = true
  | [], a, h => by simp at h
  | b :: L, a, h => by
    unfold fi at h
    split at h
    · rename_i hb
      cases h
      exact hb
    · exact fi_at (L := L) (by simpa using h)

/-- What tells the first, or that there is none. -/
def fiI (p : Tm → Bool) (L : List Tm) : Int := if fi p L < L.length then (fi p L : Nat) else -1

theorem fi_any (p : Tm → Bool) : ∀ L : List Tm, L.any p = decide (fi p L < L.length)
  | [] => rfl
  | a :: L => by
    have e : fi p (a :: L) = if p a = true then 0 else fi p L + 1 := rfl
    rw [List.any_cons, fi_any p L, e]
    by_cases h : p a = true
    · rw [if_pos h, h]; simp
    · rw [if_neg h]; simp [h]

theorem fiI_any (p : Tm → Bool) (L : List Tm) : decide (0 ≤ fiI p L) = L.any p := by
  rw [fi_any]
  unfold fiI
  split
  · rename_i h
    rw [decide_eq_true h]
    exact decide_eq_true (by omega)
  · rename_i h
    rw [decide_eq_false h]
    rfl

/-- Without those before the first, the first, and those behind it. -/
theorem out_fi {p : Tm → Bool} {L : List Tm} (h : ¬ fi p L < L.length) : outL p L = L := by
  unfold outL
  rw [List.filter_eq_self]
  intro a ha
  obtain ⟨k, hk⟩ := List.getElem?_of_mem ha
  have hkl := (List.getElem?_eq_some_iff.1 hk).1
  have e := fi_lt (p := p) (L := L) (k := k) (a := a) (by omega) hk
  rw [e]
  rfl

theorem out_first {p : Tm → Bool} {L : List Tm} {i : Nat} {a : Tm} (hi : i = fi p L) (ha : L[i]? = some a) : outL p (L.take (i + 1)) = L.take i := by
  subst hi
  unfold outL
  rw [List.take_add_one, ha, List.filter_append]
  have h1 : (L.take (fi p L)).filter (fun t => !p t) = L.take (fi p L) := by
    rw [List.filter_eq_self]
    intro b hb
    obtain ⟨k, hk⟩ := List.getElem?_of_mem hb
    rw [List.getElem?_take] at hk
    split at hk
    · rename_i h
      rw [fi_lt h hk]
      rfl
    · cases hk
  rw [h1]
  simp [fi_at ha]

theorem index27_28 (a : Option Addr) (n cap : Nat) (L : List Tm) (p : Tm → Bool) (bx bz : Nat) (w : World) (hr : Rd w a L) (hn : L.length = n) (hm : n ≤ 2048)
    (hcl : ∀ w', Stay (fun _ => False) w w' → ∀ t : Tm, Calls Try.prog 28 #[.agg #[.int .i64 t.en, .int .i64 t.nr, .int .i64 t.du], .pointer (some ⟨bx, 0, none⟩), .pointer (some ⟨bz, 0, none⟩)] w' (Gives (.bool (p t)) w')) : Calls Try.prog 27 #[.slice a n cap, .func (.func 28) #[] #[.pointer (some ⟨bx, 0, none⟩), .pointer (some ⟨bz, 0, none⟩)]] w (Gives (.int .i64 (fiI p L)) w) := by
  have HR := hide' hr
  have HCL := hide' hcl
  have HN := hide' hn
  have hm1 : (n : Int) ≤ 2048 := by omega
  have HL0 : Hid (Stay (fun _ => False) w w ∧ ∀ k t, k < 0 → L[k]? = some t → p t = false) := ⟨Stay.refl _ _, fun k t h => by omega⟩
  clear hr hcl hn hm
  go_enter Try.func27, Try.ntmps27
  go_wp2
  go_loopg [8] n (fun gg v8 wr => ∃ k : Nat, k ≤ n ∧ gg = n - k ∧ v8 = .int .i64 (k : Int) ∧ Hid (Stay (fun _ => False) w wr ∧ ∀ j t, j < k → L[j]? = some t → p t = false))
  case atStart => exact ⟨0, Nat.zero_le _, rfl, rfl, HL0⟩
  case round =>
    clear HL0
    obtain ⟨k, hk, rfl, rfl, HL⟩ := hrel
    by_cases hlt : k < n
    · have kn : (k : Int) < (n : Nat) := by omega
      obtain ⟨t, ht⟩ : ∃ t, L[k]? = some t := ⟨_, List.getElem?_eq_getElem (by rw [HN.out]; exact hlt)⟩
      obtain ⟨g, o, rfl, hb⟩ := HR.out k t ht
      obtain ⟨c0, c1, c2⟩ := hb.keep HL.out.1
      have HT := hide' ht
      obtain ⟨x, hx⟩ : ∃ x, x = p t := ⟨_, rfl⟩
      have HC := hide' (HCL.out wr HL.out.1 t)
      rw [← hx] at HC
      have HX := hide' hx
      clear hb ht hx
      cases x
      · go_wp2_with fail
        refine HC.out.mono ?_
        rintro _ w1 ⟨rfl, hs⟩
        have HN1 : Hid (Stay (fun _ => False) w w1 ∧ ∀ j t, j < k + 1 → L[j]? = some t → p t = false) := by
          refine ⟨HL.out.1.trans hs, fun j u hj hu => ?_⟩
          by_cases e : j = k
          · subst e
            rw [HT.out] at hu
            cases hu
            exact HX.out.symm
          · exact HL.out.2 j u (by omega) hu
        clear hs HL c0 c1 c2 HC
        go_wp2
        go_roundg (n - (k + 1))
        case measure => omega
        case rel => exact ⟨k + 1, by omega, rfl, by go_num, HN1⟩
      · have HE : Hid (fiI p L = ((k : Nat) : Int)) := by
          have e := fi_eq (p := p) (L := L) (i := k) (by rw [HN.out]; omega) HL.out.2 (fun u hu => by rw [HT.out] at hu; cases hu; exact HX.out.symm)
          show fiI p L = _
          unfold fiI
          rw [e, if_pos (by rw [HN.out]; exact hlt)]
        go_wp2_with fail
        refine HC.out.mono ?_
        rintro _ w1 ⟨rfl, hs⟩
        have HS1 := hide' (HL.out.1.trans hs)
        clear hs HL c0 c1 c2 HC
        go_wp2
        go_ret
        exact ⟨by rw [HE.out]; rfl, HS1.out⟩
    · have e : k = n := by omega
      subst e
      have HE : Hid (fiI p L = -1) := by
        have e := fi_eq (p := p) (L := L) (i := k) (by rw [HN.out]; omega) HL.out.2 (fun u hu => by rw [List.getElem?_eq_none (by rw [HN.out]; omega)] at hu; cases hu)
        show fiI p L = _
        unfold fiI
        rw [e, if_neg (by rw [HN.out]; omega)]
      go_wp2
      go_ret
      exact ⟨by rw [HE.out]; rfl, HL.out.1⟩

theorem index27_26 (a : Option Addr) (n cap : Nat) (L : List Tm) (p : Tm → Bool) (bx : Nat) (w : World) (hr : Rd w a L) (hn : L.length = n) (hm : n ≤ 2048)
    (hcl : ∀ w', Stay (fun _ => False) w w' → ∀ t : Tm, Calls Try.prog 26 #[.agg #[.int .i64 t.en, .int .i64 t.nr, .int .i64 t.du], .pointer (some ⟨bx, 0, none⟩)] w' (Gives (.bool (p t)) w')) : Calls Try.prog 27 #[.slice a n cap, .func (.func 26) #[] #[.pointer (some ⟨bx, 0, none⟩)]] w (Gives (.int .i64 (fiI p L)) w) := by
  have HR := hide' hr
  have HCL := hide' hcl
  have HN := hide' hn
  have hm1 : (n : Int) ≤ 2048 := by omega
  have HL0 : Hid (Stay (fun _ => False) w w ∧ ∀ k t, k < 0 → L[k]? = some t → p t = false) := ⟨Stay.refl _ _, fun k t h => by omega⟩
  clear hr hcl hn hm
  go_enter Try.func27, Try.ntmps27
  go_wp2
  go_loopg [8] n (fun gg v8 wr => ∃ k : Nat, k ≤ n ∧ gg = n - k ∧ v8 = .int .i64 (k : Int) ∧ Hid (Stay (fun _ => False) w wr ∧ ∀ j t, j < k → L[j]? = some t → p t = false))
  case atStart => exact ⟨0, Nat.zero_le _, rfl, rfl, HL0⟩
  case round =>
    clear HL0
    obtain ⟨k, hk, rfl, rfl, HL⟩ := hrel
    by_cases hlt : k < n
    · have kn : (k : Int) < (n : Nat) := by omega
      obtain ⟨t, ht⟩ : ∃ t, L[k]? = some t := ⟨_, List.getElem?_eq_getElem (by rw [HN.out]; exact hlt)⟩
      obtain ⟨g, o, rfl, hb⟩ := HR.out k t ht
      obtain ⟨c0, c1, c2⟩ := hb.keep HL.out.1
      have HT := hide' ht
      obtain ⟨x, hx⟩ : ∃ x, x = p t := ⟨_, rfl⟩
      have HC := hide' (HCL.out wr HL.out.1 t)
      rw [← hx] at HC
      have HX := hide' hx
      clear hb ht hx
      cases x
      · go_wp2_with fail
        refine HC.out.mono ?_
        rintro _ w1 ⟨rfl, hs⟩
        have HN1 : Hid (Stay (fun _ => False) w w1 ∧ ∀ j t, j < k + 1 → L[j]? = some t → p t = false) := by
          refine ⟨HL.out.1.trans hs, fun j u hj hu => ?_⟩
          by_cases e : j = k
          · subst e
            rw [HT.out] at hu
            cases hu
            exact HX.out.symm
          · exact HL.out.2 j u (by omega) hu
        clear hs HL c0 c1 c2 HC
        go_wp2
        go_roundg (n - (k + 1))
        case measure => omega
        case rel => exact ⟨k + 1, by omega, rfl, by go_num, HN1⟩
      · have HE : Hid (fiI p L = ((k : Nat) : Int)) := by
          have e := fi_eq (p := p) (L := L) (i := k) (by rw [HN.out]; omega) HL.out.2 (fun u hu => by rw [HT.out] at hu; cases hu; exact HX.out.symm)
          show fiI p L = _
          unfold fiI
          rw [e, if_pos (by rw [HN.out]; exact hlt)]
        go_wp2_with fail
        refine HC.out.mono ?_
        rintro _ w1 ⟨rfl, hs⟩
        have HS1 := hide' (HL.out.1.trans hs)
        clear hs HL c0 c1 c2 HC
        go_wp2
        go_ret
        exact ⟨by rw [HE.out]; rfl, HS1.out⟩
    · have e : k = n := by omega
      subst e
      have HE : Hid (fiI p L = -1) := by
        have e := fi_eq (p := p) (L := L) (i := k) (by rw [HN.out]; omega) HL.out.2 (fun u hu => by rw [List.getElem?_eq_none (by rw [HN.out]; omega)] at hu; cases hu)
        show fiI p L = _
        unfold fiI
        rw [e, if_neg (by rw [HN.out]; omega)]
      go_wp2
      go_ret
      exact ⟨by rw [HE.out]; rfl, HL.out.1⟩

theorem contains19 (a : Option Addr) (n cap : Nat) (L : List Tm) (p : Tm → Bool) (bx bz : Nat) (w : World) (hr : Rd w a L) (hn : L.length = n) (hm : n ≤ 2048)
    (hcl : ∀ w', Stay (fun _ => False) w w' → ∀ t : Tm, Calls Try.prog 28 #[.agg #[.int .i64 t.en, .int .i64 t.nr, .int .i64 t.du], .pointer (some ⟨bx, 0, none⟩), .pointer (some ⟨bz, 0, none⟩)] w' (Gives (.bool (p t)) w')) : Calls Try.prog 19 #[.slice a n cap, .func (.func 28) #[] #[.pointer (some ⟨bx, 0, none⟩), .pointer (some ⟨bz, 0, none⟩)]] w (Gives (.bool (L.any p)) w) := by
  have HI := hide' (index27_28 a n cap L p bx bz w hr hn hm hcl)
  rw [← fiI_any]
  clear hr hcl
  go_enter Try.func19, Try.ntmps19
  go_wp2_with fail
  refine HI.out.mono ?_
  rintro _ w1 ⟨rfl, hs⟩
  have HS := hide' hs
  clear hs HI
  go_wp2
  go_ret
  exact ⟨rfl, HS.out⟩

end Go.Proofs.Ytihciknbmhadjaa
