/-
  LdiscLines walked: true of any lines, any number. No conditions.
-/
import Derived.Test.YtkggmjjjopfdbaaP4
namespace Go.Proofs.Ytkggmjjjopfdbaa
open Go.RowKit
open L17

/-- All bytes can be typed. -/
def Plainly (l : List Int) : Prop := ∀ x ∈ l, 32 ≤ x ∧ x < 127

theorem feed_plain : ∀ (l : List Int) (L : List Int) (Ls : List (List Int)) (e : List Int) (o : List Int) (s : Int), Plainly l → L.length + l.length < 254 → Ls.flatten.length + L.length + l.length + 1 ≤ 1024 →
    (feedD (l ++ [10]) (pd 623 L Ls false e) o s).1 = pd 623 [] (Ls ++ [L ++ l ++ [10]]) false [10]
  | [], L, Ls, e, o, s, _, hl, hs => by
    have h := newline_pd 623 fl_623 L Ls e (by simpa using hl) (by simpa using hs)
    show ((pd 623 L Ls false e).input 10).1 = _
    rw [h, List.append_nil]
  | c :: l, L, Ls, e, o, s, hp, hl, hs => by
    have hc := hp c (by simp)
    rw [List.length_cons] at hl hs
    have h := type_pd 623 fl_623 L Ls e c hc.1 hc.2 (by omega)
    have ih := feed_plain l (L ++ [c]) Ls [c] (o ++ ((pd 623 L Ls false e).input c).1.ec) (if ((pd 623 L Ls false e).input c).2 = 0 then s else ((pd 623 L Ls false e).input c).2) (fun x hx => hp x (by simp [hx])) (by rw [List.length_append, List.length_singleton]; omega) (by rw [List.length_append, List.length_singleton]; omega)
    show (feedD (l ++ [10]) ((pd 623 L Ls false e).input c).1 _ _).1 = _
    rw [h] at ih ⊢
    rw [ih]
    have e : L ++ [c] ++ l ++ [10] = L ++ (c :: l) ++ [10] := by simp
    rw [e]

/-- Lines with their ends. -/
def ended (L : List (List Int)) : List (List Int) := L.map (· ++ [10])

theorem ended_step (L : List (List Int)) (i : Nat) (h : i < L.length) : ended (L.take (i + 1)) = ended (L.take i) ++ [L.getD i [] ++ [10]] := by
  unfold ended
  rw [List.take_add_one, List.getElem?_eq_getElem h, List.map_append, List.getD_eq_getElem?_getD, List.getElem?_eq_getElem h]
  rfl

theorem ended_len : ∀ (L : List (List Int)), (∀ l ∈ L, l.length ≤ 40) → (ended L).flatten.length ≤ 41 * L.length
  | [], _ => by simp [ended]
  | l :: L, h => by
    have h1 := h l (by simp)
    have h2 := ended_len L (fun x hx => h x (by simp [hx]))
    show ((l ++ [10]) :: ended L).flatten.length ≤ _
    simp only [List.flatten_cons, List.length_append, List.length_cons, List.length_nil]
    omega

theorem getD_drop (L : List (List Int)) (i : Nat) (h : i < L.length) : L.drop i = L.getD i [] :: L.drop (i + 1) := by
  rw [List.getD_eq_getElem?_getD, List.getElem?_eq_getElem h]
  exact List.drop_eq_getElem_cons h

theorem mem_take_getD {L : List (List Int)} {i : Nat} {l : List Int} (h : l ∈ L.take i) : ∃ j, j < i ∧ j < L.length ∧ l = L.getD j [] := by
  obtain ⟨j, hj, rfl⟩ := List.getElem_of_mem h
  rw [List.length_take] at hj
  refine ⟨j, by omega, by omega, ?_⟩
  rw [List.getElem_take, List.getD_eq_getElem?_getD, List.getElem?_eq_getElem (by omega)]
  rfl

/-- What is left of the line that is read, and of those behind. -/
def lefts (x : List Int) (m : Nat) (R : List (List Int)) : List (List Int) := if m < x.length then x.drop m :: R else R

theorem rd_left (x : List Int) (m : Nat) (R : List (List Int)) (e : List Int) (K : Nat) (hm : m < x.length) (hK : 1 ≤ K) : (pd 623 [] (lefts x m R) false e).rd (K : Int) = ((x.drop m).take K, false) ∧ (pd 623 [] (lefts x m R) false e).rdS (K : Int) = pd 623 [] (lefts x (m + min K (x.length - m)) R) false e := by
  have hl : lefts x m R = x.drop m :: R := if_pos hm
  obtain ⟨h1, h2⟩ := rd_line (pd 623 [] (lefts x m R) false e) K (by omega) fl_623.a1 (x.drop m) R hl
  have hne : (x.drop m).isEmpty = false := by
    cases hd : x.drop m with
    | nil => have := congrArg List.length hd; rw [List.length_drop] at this; simp at this; omega
    | cons a b => rfl
  refine ⟨by rw [h1, hne]; rfl, ?_⟩
  rw [h2, List.length_drop]
  by_cases hk : K < x.length - m
  · rw [if_pos (by omega), Nat.min_eq_left (by omega)]
    have : lefts x (m + K) R = (x.drop m).drop K :: R := by
      unfold lefts
      rw [if_pos (by omega), List.drop_drop]
    rw [this]
    rfl
  · rw [if_neg (by omega), Nat.min_eq_right (by omega)]
    have : lefts x (m + (x.length - m)) R = R := if_neg (by omega)
    rw [this]
    rfl

theorem rd_done (e : List Int) (K : Nat) (hK : 1 ≤ K) : (pd 623 [] [] false e).rd (K : Int) = ([], false) ∧ (pd 623 [] [] false e).rdS (K : Int) = pd 623 [] [] false e := rd_none (pd 623 [] [] false e) K (by omega) fl_623.a1 rfl

/-- Lines that came in. -/
def LArg (w : World) (ad : Option Addr) (n : Nat) (LS : List (List Int)) : Prop := n = LS.length ∧ ∀ i, i < n → ∃ g o a c, ad = some ⟨g, o, none⟩ ∧ w.cell? ⟨g, o + i, none⟩ = some (.slice a (LS.getD i []).length c) ∧ IArg .u8 w (.slice a (LS.getD i []).length c) (LS.getD i []) a c

theorem LArg.at {w wr : World} {ad : Option Addr} {n : Nat} {LS : List (List Int)} (h : LArg w ad n LS) (hs : Stay (fun _ => False) w wr) (i : Nat) (hi : i < n) : ∃ g o a c, ad = some ⟨g, o, none⟩ ∧ wr.cell? ⟨g, o + i, none⟩ = some (.slice a (LS.getD i []).length c) ∧ IArg .u8 wr (.slice a (LS.getD i []).length c) (LS.getD i []) a c := by
  obtain ⟨g, o, a, c, e, hc, hI⟩ := h.2 i hi
  exact ⟨g, o, a, c, e, keep_cell hs hc, hI.stay0 hs⟩

theorem mine_begin (w : World) : Mine w.heap.size (w.alloc (.cells #[] 5)) (.slice (some ⟨w.heap.size, 0, none⟩) 0 0) [] := ⟨(Acc.begin w).own, (Acc.begin w).wf⟩

theorem mine_free {base : Nat} {w : World} {v : Value} {l : List Int} (h : Mine base w v l) {O : Nat → Prop} (hO : ∀ k, O k → k < base) : ∃ a cap, IArg .u8 w v l a cap ∧ (l ≠ [] → ∀ ad, a = some ad → ¬ O ad.block) := by
  obtain ⟨a, c, h1, h2⟩ := owned_arg h.own h.wf
  refine ⟨a, c, h1, fun hne ad e => ?_⟩
  obtain ⟨b, o, e2, _⟩ := h1.cells hne
  have h3 := h2 b o e2
  rw [e2] at e
  cases e
  intro ho
  have h4 : b < base := hO _ ho
  omega

section
variable {At : World → Nat → (Nat → Prop) → DS → Prop}

theorem lines_long (HI : Impl At) (ad : Option Addr) (n ca : Nat) (x : Int) (w : World) (ha : (n : Int) ≤ 9223372036854775807) (h : 12 < n) : Calls Try.prog 5 #[.slice ad n ca, .int .u8 x] w (LawTrue w) := by
  have HAW := hide' (fun w => awake_walk HI w)
  have HS := hide' (Stay.refl (fun _ => False) w)
  have k1 : decide ((12 : Int) < n) = true := by simp; omega
  clear HI
  go_enter Try.func5, Try.ntmps5
  go_wp2_with fail
  refine (HAW.out _).mono ?_
  rintro e w1 ⟨rfl, hs⟩
  have HS1 := hide' (HS.out.trans hs)
  clear hs
  go_wp2
  go_ret
  exact ⟨by simp, HS1.out⟩

attribute [local go_sem] eqlP_nil

set_option maxRecDepth 100000 in
set_option maxHeartbeats 2000000 in
theorem lines_walk (HI : Impl At) (LS : List (List Int)) (ad : Option Addr) (n ca : Nat) (x : Int) (w : World) (hA : LArg w ad n LS) (ha : n ≤ 12) (hx0 : 0 ≤ x) (hx1 : x < 256) : Calls Try.prog 5 #[.slice ad n ca, .int .u8 x] w (LawTrue w) := by
  have HIM := hide' HI
  have HAW := hide' (fun w => awake_walk HI w)
  have HPL := hide' L17.plain26
  have HNW := hide' (fun w => HI.new plainT w plain_right)
  have HA := hide' hA
  have HNA := hide' hA.1
  have k1 : decide ((12 : Int) < n) = false := by simp; omega
  have hw : wrap64 x = x := by unfold wrap64; omega
  have htm : x.tmod 50 = x % 50 := Int.tmod_eq_emod_of_nonneg hx0
  obtain ⟨K, hK⟩ : ∃ K : Nat, (K : Int) = 1 + x % 50 := ⟨(1 + x % 50).toNat, by omega⟩
  have HK : Hid (wrap64 x = x ∧ 1 + x.tmod 50 = (K : Int) ∧ 1 ≤ K ∧ K ≤ 50) := ⟨hw, by rw [htm]; exact hK.symm, by omega, by omega⟩
  have HXM : Hid (0 ≤ x.tmod 50 ∧ x.tmod 50 < 50) := by show _ ∧ _; rw [htm]; omega
  obtain ⟨t, ht⟩ : ∃ t, t = plainT := ⟨_, rfl⟩
  have HT := hide' ht
  rw [← ht] at HPL HNW
  clear HI ht hA hw htm hK hx0 hx1
  go_enter Try.func5, Try.ntmps5
  go_wp2_with fail
  refine (HPL.out _).mono ?_
  rintro e w1 ⟨rfl, hs⟩
  have HS1 := hide' hs
  clear hs
  go_wp2_with fail
  refine (HNW.out _).mono ?_
  rintro e w2 ⟨p, O, rfl, hat, hO, hs⟩
  have HA2 : Hid (At w2 p O (pd 623 [] (ended (LS.take 0)) false [])) := by rw [HT.out] at hat; exact hat
  have HF2 := hide' (From.made (HS1.out.trans hs) (fun k hk => Nat.le_trans HS1.out.size (hO k hk)))
  clear hat hO hs HS1 HPL HNW
  go_wp2
  go_loopg [6] n (fun gg v6 wr => ∃ i : Nat, i ≤ n ∧ gg = n - i ∧ v6 = .int .i64 (i : Int) ∧ ∃ O' : Nat → Prop, Hid (At wr p O' (pd 623 [] (ended (LS.take i)) false []) ∧ From w (fun _ => False) wr O' ∧ ∀ j, j < i → (LS.getD j []).length ≤ 40))
  case atStart => exact ⟨0, Nat.zero_le _, rfl, rfl, O, HA2.out, HF2.out, fun j hj => by omega⟩
  case round =>
    clear HA2 HF2
    obtain ⟨i, hi, rfl, rfl, O', HRL⟩ := hrel
    obtain ⟨w3, hw3⟩ : ∃ W, W = wr := ⟨_, rfl⟩
    rw [← hw3] at HRL ⊢
    clear hw3
    by_cases hlt : i < n
    · have kn : decide ((i : Int) < n) = true := by simp; omega
      have kn2 : (i : Int) < n := by omega
      obtain ⟨g9, o9, a9, c9, ea, hcell, hIA⟩ := HA.out.at HRL.out.2.1.stay i hlt
      subst ea
      have HST := hide' (ended_step LS i (by rw [← HNA.out]; exact hlt))
      obtain ⟨l, hl⟩ : ∃ l, l = LS.getD i [] := ⟨_, rfl⟩
      rw [← hl] at hcell hIA HST
      have HLL := hide' hl
      have HIA := hide' hIA
      obtain ⟨m, hm⟩ : ∃ m, m = l.length := ⟨_, rfl⟩
      rw [← hm] at hcell HIA
      have HM := hide' hm
      have hmx : (m : Int) ≤ 9223372036854775807 := by have := hIA.lenLe; have := hIA.capLe; unfold maxLen at this; omega
      clear hIA hl hm
      by_cases h40 : 40 < m
      · have k40 : decide ((40 : Int) < m) = true := by simp; omega
        go_wp2_with fail
        refine (HAW.out _).mono ?_
        rintro e w4 ⟨rfl, hs⟩
        have HS4 := hide' (HRL.out.2.1.stay.trans hs)
        clear hs
        go_wp2
        go_ret
        exact ⟨by simp, HS4.out⟩
      · have k40 : decide ((40 : Int) < m) = false := by simp; omega
        go_wp2
        go_loopg [7] m (fun gg v7 wx => ∃ j : Nat, j ≤ m ∧ gg = m - j ∧ v7 = .int .i64 (j : Int) ∧ wx = w3 ∧ Hid (∀ q, q < j → 32 ≤ l.getD q 0 ∧ l.getD q 0 < 127))
        case atStart => exact ⟨0, Nat.zero_le _, rfl, rfl, rfl, fun q hq => by omega⟩
        case round =>
          obtain ⟨j, hj, rfl, rfl, hwx, HPQ⟩ := hrel
          obtain ⟨w4, hw4⟩ : ∃ W, W = wr := ⟨_, rfl⟩
          rw [← hw4] at hwx ⊢
          clear hw4
          have HWX := hide' hwx
          have hcell4 : w4.cell? ⟨g9, o9 + i, none⟩ = some (.slice a9 m c9) := by rw [hwx]; exact hcell
          clear hwx
          by_cases hjl : j < m
          · have kj : decide ((j : Int) < m) = true := by simp; omega
            have kj2 : (j : Int) < m := by omega
            obtain ⟨gb, ob, eb, hby, y0, y1⟩ := iarg_byte HIA.out (Stay.refl _ _) j hjl
            subst eb
            have hby4 : w4.cell? ⟨gb, ob + j, none⟩ = some (.int .u8 (l.getD j 0)) := by rw [HWX.out]; exact hby
            obtain ⟨y, hy⟩ : ∃ y, y = l.getD j 0 := ⟨_, rfl⟩
            rw [← hy] at hby4 y0 y1
            have HY := hide' hy
            clear hby hy
            by_cases h32 : y < 32
            · go_wp2_with fail
              refine (HAW.out _).mono ?_
              rintro e w5 ⟨rfl, hs⟩
              have HS5 : Hid (Stay (fun _ => False) w w5) := by rw [HWX.out] at hs; exact HRL.out.2.1.stay.trans hs
              clear hs
              go_wp2
              go_ret
              exact ⟨by simp, HS5.out⟩
            · by_cases h126 : 126 < y
              · go_wp2_with fail
                refine (HAW.out _).mono ?_
                rintro e w5 ⟨rfl, hs⟩
                have HS5 : Hid (Stay (fun _ => False) w w5) := by rw [HWX.out] at hs; exact HRL.out.2.1.stay.trans hs
                clear hs
                go_wp2
                go_ret
                exact ⟨by simp, HS5.out⟩
              · have HPN : Hid (∀ q, q < j + 1 → 32 ≤ l.getD q 0 ∧ l.getD q 0 < 127) := fun q hq => by
                  by_cases e : q = j
                  · subst e; rw [← HY.out]; omega
                  · exact HPQ.out q (by omega)
                clear HPQ HY
                go_wp2
                go_roundg (m - (j + 1))
                case measure => omega
                case rel => exact ⟨j + 1, by omega, rfl, by go_num, HWX.out, HPN⟩
          · have kj : decide ((j : Int) < m) = false := by simp; omega
            have ejm : j = m := by omega
            have HPA : Hid (Plainly l) := fun y hy => by
              obtain ⟨q, hq, rfl⟩ := List.getElem_of_mem hy
              have h1 := HPQ.out q (by rw [ejm, HM.out]; exact hq)
              rw [List.getD_eq_getElem?_getD, List.getElem?_eq_getElem hq] at h1
              exact h1
            clear HPQ ejm
            have HIA4 : Hid (IArg .u8 w4 (.slice a9 m c9) l a9 c9) := by rw [HWX.out]; exact HIA.out
            have HRL4 : Hid (At w4 p O' (pd 623 [] (ended (LS.take i)) false []) ∧ From w (fun _ => False) w4 O') := by rw [HWX.out]; exact ⟨HRL.out.1, HRL.out.2.1⟩
            have HJS := hide' HRL.out.2.2
            have HMB := hide' (mine_begin w4)
            have HEA := hide' (show BR (w4.alloc (.cells #[] 5)) (.slice a9 m c9) l from ⟨a9, c9, HIA4.out.stay0 ((Stay.refl _ _).alloc _)⟩)
            have hml : m ≤ 40 := by omega
            have hn1 : ([] : List Int).length + l.length ≤ 1000000 := by have := HM.out; simp; omega
            have hn2 : ([] ++ l : List Int).length + [(10 : Int)].length ≤ 1000000 := by have := HM.out; simp; omega
            have hb1 : w4.heap.size ≤ (w4.alloc (.cells #[] 5)).heap.size := ((Stay.refl (fun _ => False) w4).alloc (.cells #[] 5)).size
            have HN12 := hide' (And.intro hn1 hn2)
            have hcA : (w4.alloc (.cells #[] 5)).cell? ⟨g9, o9 + i, none⟩ = some (.slice a9 m c9) := keep_cell ((Stay.refl _ _).alloc _) hcell4
            clear hn1 hn2
            have hn1 := HN12.out.1
            go_wp2_with (at_builtin; refine mine_app rfl _ _ rfl HMB.out rfl HEA.out rfl hn1 hb1 ?_; intro v5 w5 hM5 hs5 hl5; have HM5 := hide' (hM5.stay ((Stay.refl (fun _ => False) w5).alloc (.cells #[.int .u8 10] 5)) (fun _ _ h => h)); have HS5 : Hid (Stay (fun _ => False) w4 w5) := ((Stay.refl (fun _ => False) w4).alloc (.cells #[] 5)).trans2 hs5 (fun j hj e => by have := (HMB.out.lt j e).1; omega); have HX5 := hide' (br_new w5 #[.int .u8 10] [10] 1 rfl rfl (by decide) (by omega)); have hf5 := hM5.form; obtain ⟨a5, n5, c5, e5⟩ := hf5; clear hM5 hs5 hl5 hn1 hb1 HMB HEA hcA; subst e5; have hn2 := HN12.out.2; have hb2 : w4.heap.size ≤ (w5.alloc (.cells #[.int .u8 10] 5)).heap.size := (HS5.out.alloc (.cells #[.int .u8 10] 5)).size; go_wp2_with (at_builtin; refine mine_app rfl _ _ rfl HM5.out rfl HX5.out rfl hn2 hb2 ?_; intro v6 w6 hM6 hs6 hl6; have HM6 := hide' hM6; have HS6 : Hid (Stay (fun _ => False) w4 w6) := (HS5.out.alloc (.cells #[.int .u8 10] 5)).trans2 hs6 (fun j hj e => by have := (HM5.out.lt j e).1; omega); have hf6 := hM6.form; obtain ⟨a6, n6, c6, e6⟩ := hf6; clear hM6 hs6 hl6 hn2 hb2 HM5 HX5 HS5; subst e6; go_wp2_with fail))
            have HA6 := hide' (HIM.out.keep HRL4.out.1 HS6.out (fun _ h => h.elim))
            have HF6 := hide' (HRL4.out.2.calm HS6.out)
            have HLT6 : Hid (∀ k, O' k → k < w4.heap.size) := HIM.out.lt HRL4.out.1
            have HLN6 : Hid (([] ++ l ++ [10] : List Int).length ≤ 41) := by have := HM.out; show _ ≤ 41; simp; omega
            have HEN : Hid ((ended (LS.take i)).flatten.length ≤ 492 ∧ (ended (LS.take i)).length ≤ 12) := by
              have h1 := ended_len (LS.take i) (fun y hy => by obtain ⟨q, hq, _, rfl⟩ := mem_take_getD hy; exact HJS.out q hq)
              have h2 : (LS.take i).length ≤ 12 := by rw [List.length_take]; omega
              have h3 : (ended (LS.take i)).length = (LS.take i).length := by unfold ended; rw [List.length_map]
              exact ⟨by omega, by omega⟩
            have HFD := hide' (feed_walk HIM.out p O' (pd 623 [] (ended (LS.take i)) false []) 12 _ ([] ++ l ++ [10]) w6 HA6.out (ok_pd 623 fl_623 right_623 [] _ false [] 12 (by decide) (by have := HEN.out.1; omega) HEN.out.2) (by have := HLN6.out; omega) (by have := HLN6.out; omega) (mine_free HM6.out HLT6.out))
            refine HFD.out.mono ?_
            rintro e w7 ⟨v7, O7, rfl, _, _, hat, hs, hg⟩
            have HA7 : Hid (At w7 p O7 (pd 623 [] (ended (LS.take (i + 1))) false [])) := by
              rw [List.nil_append, feed_plain l [] _ [] [] 0 HPA.out (by have := HM.out; simp; omega) (by have := HEN.out.1; have := HM.out; rw [List.length_nil]; omega)] at hat
              rw [HST.out]
              exact HIM.out.noEc [] hat
            have HF7 := hide' (HF6.out.step hs hg)
            have HJ7 : Hid (∀ q, q < i + 1 → (LS.getD q []).length ≤ 40) := fun q hq => by
              by_cases e : q = i
              · rw [e, ← HLL.out, ← HM.out]; exact hml
              · exact HJS.out q (by omega)
            clear hat hs hg HFD HA6 HF6 HM6 HS6 HRL4 HRL HIA HIA4 HJS HEN HLN6 HST HPA HLL HM HN12
            go_wp2
            go_roundg (n - (i + 1))
            case measure => omega
            case rel => exact ⟨i + 1, by omega, rfl, by go_num, O7, HA7.out, HF7.out, HJ7.out⟩
    · have kn : decide ((i : Int) < n) = false := by simp; omega
      have HTA : Hid (LS.take i = LS) := List.take_of_length_le (by rw [← HNA.out]; omega)
      have HA3 : Hid (At w3 p O' (pd 623 [] (ended (LS.drop 0)) false [])) := by have h := HRL.out.1; rw [HTA.out] at h; exact h
      have HF3 := hide' HRL.out.2.1
      have HJ3 : Hid (∀ q, q < n → (LS.getD q []).length ≤ 40) := fun q hq => HRL.out.2.2 q (by omega)
      have hin : i = n := by omega
      have HFL : Hid (∀ q, (ended (LS.drop q)).flatten.length ≤ 492 ∧ (ended (LS.drop q)).length ≤ 12) := fun q => by
        have h1 := ended_len (LS.drop q) (fun y hy => by
          obtain ⟨z, hz, rfl⟩ := List.getElem_of_mem (List.mem_of_mem_drop hy)
          have h := HJ3.out z (by rw [HNA.out]; exact hz)
          rw [List.getD_eq_getElem?_getD, List.getElem?_eq_getElem hz] at h
          exact h)
        have h2 : (LS.drop q).length ≤ 12 := by rw [List.length_drop, ← HNA.out]; omega
        have h3 : (ended (LS.drop q)).length = (LS.drop q).length := by unfold ended; rw [List.length_map]
        exact ⟨by omega, by omega⟩
      obtain ⟨hwx, hK1, hK2, hK3⟩ := HK.out
      obtain ⟨hz0, hz1⟩ := HXM.out
      have hwk : wrap64 (1 + x.tmod 50) = (K : Int) := by rw [hK1]; unfold wrap64; omega
      clear HRL HTA hin
      go_upto_region 18 with fail
      clear hwx hK1 hz0 hz1 hwk
      have HKK : Hid (1 ≤ K ∧ K ≤ 50) := ⟨hK2, hK3⟩
      go_wp2
      go_loopg [9] n (fun gg v9 wr => ∃ i : Nat, i ≤ n ∧ gg = n - i ∧ v9 = .int .i64 (i : Int) ∧ ∃ O2 : Nat → Prop, Hid (At wr p O2 (pd 623 [] (ended (LS.drop i)) false []) ∧ From w (fun _ => False) wr O2))
      case atStart => exact ⟨0, Nat.zero_le _, rfl, rfl, O', HA3.out, HF3.out⟩
      case round =>
        clear HA3 HF3 hi hlt kn
        obtain ⟨q, hq, rfl, rfl, O2, HRL⟩ := hrel
        obtain ⟨w4, hw4⟩ : ∃ W, W = wr := ⟨_, rfl⟩
        rw [← hw4] at HRL ⊢
        clear hw4
        by_cases hqn : q < n
        · have kn : decide ((q : Int) < n) = true := by simp; omega
          have kn2 : (q : Int) < n := by omega
          have HDR := hide' (getD_drop LS q (by rw [← HNA.out]; exact hqn))
          have HLA : Hid (∀ wx, Stay (fun _ => False) w wx → ∃ g o a c, ad = some ⟨g, o, none⟩ ∧ wx.cell? ⟨g, o + q, none⟩ = some (.slice a (LS.getD q []).length c) ∧ IArg .u8 wx (.slice a (LS.getD q []).length c) (LS.getD q []) a c) := fun wx hs => HA.out.at hs q hqn
          have hl40 := HJ3.out q hqn
          obtain ⟨l, hl⟩ : ∃ l, l = LS.getD q [] := ⟨_, rfl⟩
          rw [← hl] at HLA HDR hl40
          have HLF := hide' hl
          obtain ⟨m, hm⟩ : ∃ m, m = l.length := ⟨_, rfl⟩
          rw [← hm] at HLA hl40
          have HM := hide' hm
          clear hl hm
          obtain ⟨xl, hxl⟩ : ∃ z, z = l ++ [10] := ⟨_, rfl⟩
          have HXL := hide' hxl
          have HXN : Hid (xl.length = m + 1) := by show xl.length = m + 1; rw [hxl, List.length_append, ← HM.out]; rfl
          obtain ⟨R, hR⟩ : ∃ R, R = ended (LS.drop (q + 1)) := ⟨_, rfl⟩
          have HRD := hide' hR
          have HA4 : Hid (At w4 p O2 (pd 623 [] (lefts xl 0 R) false [])) := by
            have h := HRL.out.1
            rw [HDR.out] at h
            have e : ended (l :: LS.drop (q + 1)) = lefts xl 0 R := by
              unfold lefts
              rw [if_pos (by rw [HXN.out]; omega), hxl, hR]
              rfl
            rw [e] at h
            exact h
          have HF4 := hide' HRL.out.2
          have HFR : Hid (R.flatten.length ≤ 492 ∧ R.length ≤ 12) := by rw [hR]; exact HFL.out (q + 1)
          have HOKL : Hid (∀ z e, Ok 13 (pd 623 [] (lefts xl z R) false e)) := fun z e => ok_pd 623 fl_623 right_623 [] _ false e 13 (by decide) (by
            unfold lefts
            split
            · rw [List.flatten_cons, List.length_append, List.length_drop, HXN.out]; have := HFR.out.1; omega
            · have := HFR.out.1; omega) (by
            unfold lefts
            split
            · rw [List.length_cons]; have := HFR.out.2; omega
            · have := HFR.out.2; omega)
          have HM0 := hide' (Mine.nil w.heap.size w4)
          clear hxl hR HRL HDR
          go_wp2
          go_loopg [10] (m + 1) (fun gg v10 wr => ∃ z : Nat, z ≤ m + 1 ∧ gg = m + 1 - z ∧ ∃ a c, v10 = .slice a z c ∧ ∃ O3 : Nat → Prop, Hid (At wr p O3 (pd 623 [] (lefts xl z R) false []) ∧ From w (fun _ => False) wr O3 ∧ Mine w.heap.size wr (.slice a z c) (xl.take z) ∧ ∀ k, (Value.slice a z c).ownBlock = some k → ¬ O3 k))
          case atStart => exact ⟨0, Nat.zero_le _, rfl, none, 0, rfl, O2, HA4.out, HF4.out, HM0.out, fun k hk => by cases hk⟩
          case round =>
            clear HA4 HF4 HM0
            obtain ⟨z, hz, rfl, a6, c6, rfl, O3, HRL⟩ := hrel
            obtain ⟨w5, hw5⟩ : ∃ W, W = wr := ⟨_, rfl⟩
            rw [← hw5] at HRL ⊢
            clear hw5
            obtain ⟨g9, o9, a9, c9, ea, hcell, hIA⟩ := HLA.out w5 HRL.out.2.1.stay
            subst ea
            have HIA := hide' hIA
            clear hIA
            by_cases hzm : z ≤ m
            · have kz : decide ((z : Int) ≤ m) = true := by simp; omega
              have kz2 : (z : Int) ≤ m := by omega
              obtain ⟨y, hy⟩ : ∃ y, y = min K (xl.length - z) := ⟨_, rfl⟩
              have hy2 : 1 ≤ y ∧ y ≤ K ∧ z + y ≤ m + 1 := by have := HKK.out; have := HXN.out; omega
              have HRDL := hide' (rd_left xl z R [] K (by rw [HXN.out]; omega) HKK.out.1)
              rw [← hy] at HRDL
              have HTL : Hid (((xl.drop z).take K).length = y) := by show _ = y; rw [List.length_take, List.length_drop, hy]
              have HTD : Hid (xl.take z ++ (xl.drop z).take K = xl.take (z + y)) := by
                have h1 : (xl.drop z).take K = (xl.drop z).take y := by
                  rw [hy, List.take_eq_take_iff, List.length_drop]
                  omega
                show _ = _
                rw [h1, List.take_add]
              clear hy
              go_wp2_with fail
              refine (HIM.out.read (K : Int) HRL.out.1 (HOKL.out z []) (by decide) (by have := HKK.out; omega)).mono ?_
              rintro e w6 ⟨v6, O4, rfl, hb, hat, hs, hg⟩
              rw [HRDL.out.1] at hb ⊢
              rw [HRDL.out.2] at hat
              have HB6 := hide' hb
              have HA6 := hide' hat
              have HF6 := hide' (HRL.out.2.1.step hs hg)
              have HM6 := hide' (HRL.out.2.2.1.stay hs HRL.out.2.2.2)
              have HFO : Hid (∀ k, (Value.slice a6 z c6).ownBlock = some k → ¬ O4 k) := fun k hk e => by
                rcases hg k e with h | h
                · exact HRL.out.2.2.2 k hk h
                · have := (HRL.out.2.2.1.lt k hk).2; omega
              obtain ⟨a7, c7, e7⟩ := hb.shape
              rw [HTL.out] at e7
              subst e7
              have HBW : Hid (w.heap.size ≤ w6.heap.size) := HF6.out.stay.size
              have hn9 : (xl.take z).length + ((xl.drop z).take K).length ≤ 1000000 := by rw [HTL.out, List.length_take]; have := HXN.out; have := HKK.out; omega
              have HN9 := hide' hn9
              have ky0 : ((y : Int) == 0) = false := by simp; omega
              have ky1 : decide ((K : Int) < y) = false := by simp; omega
              obtain ⟨hy20, hy21, hy22⟩ := hy2
              clear hb hat hs hg hn9 HRL HRDL hcell
              have hn9 := HN9.out
              have hbw := HBW.out
              go_wp2_with (at_builtin; refine mine_app rfl _ _ rfl HM6.out rfl HB6.out rfl hn9 hbw ?_; intro v8 w8 hM8 hs8 hl8; have HM8 := hide' hM8; have HS8 := hide' hs8; have HL8 := hide' hl8; have hf8 := hM8.br.shape; obtain ⟨a8, c8, e8⟩ := hf8; rw [HTD.out, show (xl.take (z + y)).length = z + y by rw [List.length_take, HXN.out]; omega] at e8; clear hM8 hs8 hl8 hn9 hbw; subst e8; go_wp2_with fail)
              have HN : Hid (At w8 p O4 (pd 623 [] (lefts xl (z + y) R) false []) ∧ From w (fun _ => False) w8 O4 ∧ Mine w.heap.size w8 (.slice a8 (z + y) c8) (xl.take (z + y)) ∧ ∀ k, (Value.slice a8 (z + y) c8).ownBlock = some k → ¬ O4 k) := by
                refine ⟨HIM.out.keep HA6.out HS8.out (fun j hj => HFO.out j hj), ⟨HF6.out.stay.trans2 HS8.out (fun j hj e => by have := (HM6.out.lt j e).1; omega), HF6.out.own⟩, by have h := HM8.out; rw [HTD.out] at h; exact h, fun k hk e => ?_⟩
                rcases HL8.out with h | h
                · rw [h] at hk; exact HFO.out k hk e
                · rw [h] at hk
                  have := HIM.out.lt HA6.out k e
                  cases hk
                  omega
              clear HM6 HM8 HS8 HL8 HA6 HF6 HFO HB6 HTD HTL HN9 HBW HIA
              go_roundg (m + 1 - (z + y))
              case measure => omega
              case rel => exact ⟨z + y, by omega, rfl, a8, c8, rfl, O4, HN⟩
            · have kz : decide ((z : Int) ≤ m) = false := by simp; omega
              have HMX : Hid (Mine w.heap.size w5 (.slice a6 z c6) xl) := by
                have h := HRL.out.2.2.1
                rw [show xl.take z = xl from List.take_of_length_le (by rw [HXN.out]; omega)] at h
                exact h
              have HA5 : Hid (At w5 p O3 (pd 623 [] R false [])) := by
                have h := HRL.out.1
                rw [show lefts xl z R = R from if_neg (by rw [HXN.out]; omega)] at h
                exact h
              have HF5 := hide' HRL.out.2.1
              clear HRL
              have HMB := hide' (mine_begin w5)
              have HEA := hide' (show BR (w5.alloc (.cells #[] 5)) (.slice a9 m c9) l from ⟨a9, c9, HIA.out.stay0 ((Stay.refl _ _).alloc _)⟩)
              have hn1 : ([] : List Int).length + l.length ≤ 1000000 := by have := HM.out; simp; omega
              have hn2 : ([] ++ l : List Int).length + [(10 : Int)].length ≤ 1000000 := by have := HM.out; simp; omega
              have hb1 : w5.heap.size ≤ (w5.alloc (.cells #[] 5)).heap.size := ((Stay.refl (fun _ => False) w5).alloc (.cells #[] 5)).size
              have HN12 := hide' (And.intro hn1 hn2)
              have hcA : (w5.alloc (.cells #[] 5)).cell? ⟨g9, o9 + q, none⟩ = some (.slice a9 m c9) := keep_cell ((Stay.refl _ _).alloc _) hcell
              clear hn1 hn2
              have hn1 := HN12.out.1
              go_wp2_with (at_builtin; refine mine_app rfl _ _ rfl HMB.out rfl HEA.out rfl hn1 hb1 ?_; intro v6 w6 hM6 hs6 hl6; have HM6 := hide' (hM6.stay ((Stay.refl (fun _ => False) w6).alloc (.cells #[.int .u8 10] 5)) (fun _ _ h => h)); have HS6 : Hid (Stay (fun _ => False) w5 w6) := ((Stay.refl (fun _ => False) w5).alloc (.cells #[] 5)).trans2 hs6 (fun j hj e => by have := (HMB.out.lt j e).1; omega); have HX6 := hide' (br_new w6 #[.int .u8 10] [10] 1 rfl rfl (by decide) (by omega)); have hf6 := hM6.form; obtain ⟨a7, n7, c7, e7⟩ := hf6; clear hM6 hs6 hl6 hn1 hb1 HMB HEA hcA; subst e7; have hn2 := HN12.out.2; have hb2 : w5.heap.size ≤ (w6.alloc (.cells #[.int .u8 10] 5)).heap.size := (HS6.out.alloc (.cells #[.int .u8 10] 5)).size; go_wp2_with (at_builtin; refine mine_app rfl _ _ rfl HM6.out rfl HX6.out rfl hn2 hb2 ?_; intro v8 w8 hM8 hs8 hl8; have HM8 := hide' hM8; have HS8 : Hid (Stay (fun _ => False) w5 w8) := (HS6.out.alloc (.cells #[.int .u8 10] 5)).trans2 hs8 (fun j hj e => by have := (HM6.out.lt j e).1; omega); have hf8 := hM8.form; obtain ⟨a8, n8, c8, e8⟩ := hf8; clear hM8 hs8 hl8 hn2 hb2 HM6 HX6 HS6; subst e8; go_wp2_with fail))
              have HB8 : Hid (Bs w8 (.slice a8 n8 c8) xl) := by
                have h := HM8.out.br.bs
                rw [List.nil_append, ← HXL.out] at h
                exact h
              have HG8 : Hid (Bs w8 (.slice a6 z c6) xl) := (HMX.out.stay HS8.out (fun _ _ h => h)).br.bs
              refine (sameB _ _ xl _ HG8.out HB8.out (by have := HXN.out; omega)).mono ?_
              rintro e w9 ⟨rfl, hs⟩
              have HA9 := hide' (HIM.out.keep (HIM.out.keep HA5.out HS8.out (fun _ h => h.elim)) hs (fun _ h => h.elim))
              have HF9 := hide' ((HF5.out.calm HS8.out).calm hs)
              have HN : Hid (At w9 p O3 (pd 623 [] (ended (LS.drop (q + 1))) false []) ∧ From w (fun _ => False) w9 O3) := by rw [← HRD.out]; exact ⟨HA9.out, HF9.out⟩
              clear hs HA9 HF9 HA5 HF5 HMX HS8 HM8 HB8 HG8 HIA HN12
              go_wp2
              go_roundg (n - (q + 1))
              case measure => omega
              case rel => exact ⟨q + 1, by omega, rfl, by go_num, O3, HN⟩
        · have kn : decide ((q : Int) < n) = false := by simp; omega
          have HA5 : Hid (At w4 p O2 (pd 623 [] [] false [])) := by
            have h := HRL.out.1
            rw [List.drop_eq_nil_of_le (by rw [← HNA.out]; omega)] at h
            exact h
          have HF5 := hide' HRL.out.2
          have HOK5 : Hid (∀ e, Ok 13 (pd 623 [] [] false e)) := fun e => ok_pd 623 fl_623 right_623 [] [] false e 13 (by decide) (by decide) (by decide)
          have HRD := hide' (rd_done [] K HKK.out.1)
          clear HRL
          go_wp2_with fail
          refine (HIM.out.read (K : Int) HA5.out (HOK5.out []) (by decide) (by have := HKK.out; omega)).mono ?_
          rintro e w6 ⟨v6, O4, rfl, hb, hat, hs, hg⟩
          rw [HRD.out.1] at hb ⊢
          rw [HRD.out.2] at hat
          have HA6 := hide' hat
          have HF6 := hide' (HF5.out.step hs hg)
          obtain ⟨a7, c7, e7⟩ := hb.shape
          have e7' : v6 = .slice a7 0 c7 := e7
          subst e7'
          clear hb hat hs hg e7
          go_wp2_with fail
          refine (HIM.out.ready HA6.out (HOK5.out []) (by decide)).mono ?_
          rintro e w7 ⟨rfl, hs⟩
          have HS7 := hide' (HF6.out.stay.trans hs)
          have hcz : (pd 623 [] [] false []).cnt = 0 := rfl
          rw [hcz]
          clear hs hcz
          go_wp2_with fail
          refine (HAW.out _).mono ?_
          rintro e w8 ⟨rfl, hs⟩
          have HS8 := hide' (HS7.out.trans hs)
          clear hs
          go_wp2
          go_ret
          exact ⟨by simp, HS8.out⟩
end

end Go.Proofs.Ytkggmjjjopfdbaa
