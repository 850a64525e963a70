/-
  LdiscSignals walked: true of any bytes, any number, whatever is kept. No conditions.
-/
import Derived.Test.YtkggmjjjopfdbaaM3
namespace Go.Proofs.Ytkggmjjjopfdbaa
open Go.RowKit
open L17

section
variable {At : World → Nat → (Nat → Prop) → DS → Prop}

theorem signals_long (HI : Impl At) (aa : Option Addr) (na ca : Nat) (x : Int) (keep next : Bool) (w : World) (ha : (na : Int) ≤ 9223372036854775807) (h : 40 < na) : Calls Try.prog 6 #[.slice aa na ca, .int .u8 x, .bool keep, .bool next] w (LawTrue w) := by
  have HAW := hide' (fun w => awake_walk HI w)
  have HS := hide' (Stay.refl (fun _ => False) w)
  have k1 : decide ((40 : Int) < na) = true := by simp; omega
  clear HI
  go_enter Try.func6, Try.ntmps6
  go_wp2_with fail
  refine (HAW.out _).mono ?_
  rintro e w1 ⟨rfl, hs⟩
  have HS1 := hide' (HS.out.trans hs)
  clear hs
  go_wp2
  go_ret
  exact ⟨by simp, HS1.out⟩

attribute [local go_sem] eqlP_nil

set_option maxRecDepth 100000 in
set_option maxHeartbeats 2000000 in
theorem signals_walk (HI : Impl At) (A : List Int) (aa : Option Addr) (na ca : Nat) (x : Int) (keep next : Bool) (w : World) (hA : IArg .u8 w (.slice aa na ca) A aa ca) (ha : na ≤ 40) (hx0 : 0 ≤ x) (hx1 : x < 256) : Calls Try.prog 6 #[.slice aa na ca, .int .u8 x, .bool keep, .bool next] w (LawTrue w) := by
  have HIM := hide' HI
  have HAW := hide' (fun w => awake_walk HI w)
  have HPL := hide' L17.plain26
  have hna : na = A.length := by have := hA.shape; injection this
  have HNA := hide' hna
  have HA := hide' hA
  have k1 : decide ((40 : Int) < na) = false := by simp; omega
  have hw : wrap64 x = x := by unfold wrap64; omega
  have htm : x.tmod 3 = x % 3 := Int.tmod_eq_emod_of_nonneg hx0
  obtain ⟨k, hk⟩ : ∃ k : Nat, (k : Int) = x % 3 := ⟨(x % 3).toNat, by omega⟩
  have hk3 : k < 3 := by omega
  have HK : Hid (wrap64 x = x ∧ x.tmod 3 = (k : Int) ∧ k < 3) := ⟨hw, htm.trans hk.symm, hk3⟩
  obtain ⟨t, ht⟩ : ∃ t, t = plainT := ⟨_, rfl⟩
  have HT := hide' ht
  rw [← ht] at HPL
  have HBX := hide' (fun (w : World) => L17.TBox.new (w := w) t rfl)
  clear ht hna hA hw htm hk hk3 hx0 hx1 HI
  cases keep
  · go_enter Try.func6, Try.ntmps6
    go_wp2_with fail
    refine (HPL.out _).mono ?_
    rintro e w1 ⟨rfl, hs⟩
    have HS1 := hide' hs
    clear hs
    go_upto_region 4 with fail
    have HB2 := hide' (HBX.out w1)
    have HS2 := hide' (HS1.out.alloc (.cells #[.int .i64 t.fi, .int .i64 t.fo, .int .i64 t.fl, .int .i64 t.k0, .int .i64 t.k1, .int .i64 t.k2, .int .i64 t.k3, .int .i64 t.k4, .int .i64 t.k5, .int .i64 t.k6, .int .i64 t.k7, .int .i64 t.k8, .int .i64 t.k9, .int .i64 t.k10, .int .i64 t.k11, .int .i64 t.mn, .int .i64 t.ti] 24))
    have HLB : Hid (w.heap.size ≤ w1.heap.size) := HS1.out.size
    obtain ⟨b9, hb9⟩ : ∃ b, b = w1.heap.size := ⟨_, rfl⟩
    obtain ⟨w2, hw2⟩ : ∃ W, W = w1.alloc (.cells #[.int .i64 t.fi, .int .i64 t.fo, .int .i64 t.fl, .int .i64 t.k0, .int .i64 t.k1, .int .i64 t.k2, .int .i64 t.k3, .int .i64 t.k4, .int .i64 t.k5, .int .i64 t.k6, .int .i64 t.k7, .int .i64 t.k8, .int .i64 t.k9, .int .i64 t.k10, .int .i64 t.k11, .int .i64 t.mn, .int .i64 t.ti] 24) := ⟨_, rfl⟩
    rw [← hw2] at HB2 HS2 ⊢
    rw [← hb9] at HB2 HLB ⊢
    clear hw2 hb9 HS1 HBX
    have HB3 : Hid (L17.TBox w2 b9 (pl 623)) := by have h := HB2.out; rw [HT.out] at h; exact h
    have HS3 := hide' HS2.out
    obtain ⟨w3, hw3⟩ : ∃ W, W = w2 := ⟨_, rfl⟩
    rw [← hw3] at HB3 HS3 ⊢
    clear hw3 HB2 HS2
    have HNW := hide' (HIM.out.new (pl 623) w3 right_623)
    obtain ⟨tp, htp⟩ : ∃ t : Tm, t = pl 623 := ⟨_, rfl⟩
    have HTP := hide' htp
    rw [← htp] at HB3 HNW
    clear htp
    go_wp2_with (refine wpList_exec rfl (L17.run_load_TBox rfl rfl HB3.out) ?_)
    refine HNW.out.mono ?_
    rintro e w4 ⟨p, O, rfl, hat, hO, hs⟩
    have HA4 : Hid (At w4 p O (pd 623 (([] : List Int).map ltr) [] false [])) := by rw [HTP.out] at hat; exact hat
    have HF4 := hide' (From.made hs hO)
    clear hat hO hs HNW HPL
    go_wp2
    go_loopg [11] na (fun gg v11 wr => ∃ j : Nat, j ≤ na ∧ gg = na - j ∧ v11 = .int .i64 (j : Int) ∧ ∃ O' : Nat → Prop, Hid (At wr p O' (pd 623 ((A.take j).map ltr) [] false []) ∧ From w3 (fun _ => False) wr O'))
    case atStart => exact ⟨0, Nat.zero_le _, rfl, rfl, O, HA4.out, HF4.out⟩
    case round =>
      clear HA4 HF4
      obtain ⟨j, hj, rfl, rfl, O', HRL⟩ := hrel
      obtain ⟨w5, hw5⟩ : ∃ W, W = wr := ⟨_, rfl⟩
      rw [← hw5] at HRL ⊢
      clear hw5
      by_cases hlt : j < na
      · have kn : decide ((j : Int) < na) = true := by simp; omega
        have kn2 : (j : Int) < na := by omega
        obtain ⟨g9, o9, ea, hcell, hy0, hy1⟩ := iarg_byte HA.out (HS3.out.trans HRL.out.2.stay) j hlt
        have HST := hide' (ltr_step A j (by rw [← HNA.out]; exact hlt))
        subst ea
        obtain ⟨y, hy⟩ : ∃ y, y = A.getD j 0 := ⟨_, rfl⟩
        rw [← hy] at hcell hy0 hy1 HST
        have htm : y.tmod 26 = y % 26 := Int.tmod_eq_emod_of_nonneg hy0
        obtain ⟨z, hz⟩ : ∃ z, z = y % 26 := ⟨_, rfl⟩
        have hzr : 0 ≤ z ∧ z < 26 := by omega
        rw [← hz] at htm
        obtain ⟨c, hc⟩ : ∃ c, c = 97 + z := ⟨_, rfl⟩
        have h256 : (97 + z) % 256 = c := by omega
        have hcr : 97 ≤ c ∧ c < 123 := by omega
        have HC := hide' hcr
        have HLT : Hid (ltr y = c) := by show ltr y = c; unfold ltr; omega
        have HTK : Hid (((A.take j).map ltr).length ≤ 40) := by show _ ≤ 40; rw [List.length_map, List.length_take]; omega
        clear hy hy0 hy1 hz hzr hc hcr
        rw [HLT.out] at HST
        have HTY := hide' (type_pd 623 fl_623 ((A.take j).map ltr) [] [] c (by have := HC.out.1; omega) (by have := HC.out.2; omega) (by have := HTK.out; omega))
        rw [← HST.out] at HTY
        clear HLT
        go_wp2_with fail
        refine (HIM.out.input c HRL.out.1 (ok_pd 623 fl_623 right_623 _ [] false [] 0 (by have := HTK.out; omega) (by decide) (by decide)) (by decide) (by have := HC.out.1; omega) (by have := HC.out.2; omega)).mono ?_
        rintro e w6 ⟨v6, O2, rfl, hbe, hat, hs, hg⟩
        rw [HTY.out] at hat
        have HN : Hid (At w6 p O2 (pd 623 ((A.take (j + 1)).map ltr) [] false []) ∧ From w3 (fun _ => False) w6 O2) := ⟨HIM.out.noEc [] hat, HRL.out.2.step hs hg⟩
        clear hbe hat hs hg HRL HTY HTK HST HC
        go_wp2
        go_roundg (na - (j + 1))
        case measure => omega
        case rel => exact ⟨j + 1, by omega, rfl, by go_num, O2, HN⟩
      · have kn : decide ((j : Int) < na) = false := by simp; omega
        have HKN : Hid (A.take j = A) := List.take_of_length_le (by rw [← HNA.out]; omega)
        obtain ⟨L0, hL0⟩ : ∃ L, L = A.map ltr := ⟨_, rfl⟩
        have HA5 : Hid (At w5 p O' (pd 623 L0 [] false [])) := by have h := HRL.out.1; rw [HKN.out, ← hL0] at h; exact h
        have HF5 := hide' HRL.out.2
        have HL0 : Hid (L0.length = na) := by show L0.length = na; rw [hL0, List.length_map, ← HNA.out]
        have HB5 : Hid (L17.TBox w5 b9 (pl 623)) := by have h := HB3.out.keep HRL.out.2.stay; rw [HTP.out] at h; exact h
        clear HRL HKN hL0 hj HB3
        obtain ⟨hwx, htx, hk3⟩ := HK.out
        obtain ⟨c0, c1, c2, c3, c4, c5, c6, c7, c8, c9, c10, c11, c12, c13, c14, c15, c16, -⟩ := HB5.out
        have : k = 0 ∨ k = 1 ∨ k = 2 := by omega
        have hj2 := hlt
        rcases this with rfl | rfl | rfl
        · have htz : x.tmod 3 = 0 := htx
          have e3 : c3 = c3 := rfl
          clear htx hk3 e3
          cases next
          · go_wp2_with fail
            refine (HIM.out.input 3 HA5.out (ok_pd 623 fl_623 right_623 L0 [] false [] 0 (by have := HL0.out; omega) (by decide) (by decide)) (by decide) (by decide) (by decide)).mono ?_
            rintro e w6 ⟨v6, O2, rfl, hbe, hat, hs, hg⟩
            have hsg := signal_pd 623 fl_623 L0 [] 0 (by decide)
            rw [show sgc 0 = 3 from rfl, if_neg (by decide)] at hsg
            rw [hsg] at hat
            rw [hsg]
            have HA6 := hide' hat
            have HF6 := hide' (HF5.out.step hs hg)
            obtain ⟨a6, z6, e6⟩ := hbe.shape
            obtain ⟨n6, hn6⟩ : ∃ n, n = ((623, 0) : Int × Nat).2 := ⟨_, rfl⟩
            clear hbe hat hs hg hsg hn6 n6 e6 c0 c1 c2 c3 c4 c5 c6 c7 c8 c9 c10 c11 c12 c13 c14 c15 c16 HA5
            go_wp2_with fail
            refine (HIM.out.line HA6.out (ok_pd 623 fl_623 right_623 _ [] false _ 0 (by decide) (by decide) (by decide)) (by decide)).mono ?_
            rintro e w7 ⟨v7, a7, c7, rfl, hln, _, hs⟩
            have HF7 := hide' (HF6.out.calm hs)
            have hsh : v7 = .slice a7 0 c7 := hln.shape
            skip
            subst hsh
            clear hln hs HA6 HF6
            go_wp2_with fail
            refine (HAW.out _).mono ?_
            rintro e w8 ⟨rfl, hs⟩
            have HS8 := hide' ((HS3.out.trans HF7.out.stay).trans hs)
            clear hs
            go_wp2
            go_ret
            exact ⟨by simp, HS8.out⟩
          · go_wp2_with fail
            refine (HIM.out.input 22 HA5.out (ok_pd 623 fl_623 right_623 L0 [] false [] 0 (by have := HL0.out; omega) (by decide) (by decide)) (by decide) (by decide) (by decide)).mono ?_
            rintro e w6 ⟨v6, O2, rfl, hbe, hat, hs, hg⟩
            rw [lit_pd 623 fl_623 L0 []] at hat
            rw [lit_pd 623 fl_623 L0 []]
            have HA6 := hide' (HIM.out.noEc [] hat)
            have HF6 := hide' (HF5.out.step hs hg)
            clear hbe hat hs hg c0 c1 c2 c3 c4 c5 c6 c7 c8 c9 c10 c11 c12 c13 c14 c15 c16 HA5
            go_wp2_with fail
            refine (HIM.out.input 3 HA6.out (ok_pd 623 fl_623 right_623 L0 [] true [] 0 (by have := HL0.out; omega) (by decide) (by decide)) (by decide) (by decide) (by decide)).mono ?_
            rintro e w7 ⟨v7, O3, rfl, hbe, hat, hs, hg⟩
            have hsg := next_pd 623 fl_623 L0 [] 0 (by decide) (by have := HL0.out; omega)
            rw [show sgc 0 = 3 from rfl] at hsg
            have hsg' : ((pd 623 L0 [] true []).setEc []).input 3 = _ := hsg
            have hsq : (((pd 623 L0 [] true [94, 8]).setEc []).input 3) = (pd 623 (L0 ++ [3]) [] false [94, 3 + 64], 0) := hsg
            rw [hsq] at hat
            rw [hsq]
            have HA7 := hide' hat
            have HF7 := hide' (HF6.out.step hs hg)
            clear hbe hat hs hg hsg hsg' hsq HA6 HF6
            have hlen : (L0 ++ [(3 : Int)]).length = na + 1 := by rw [List.length_append, HL0.out]; rfl
            have HLN := hide' hlen
            clear hlen
            go_wp2_with fail
            refine (HIM.out.line HA7.out (ok_pd 623 fl_623 right_623 _ [] false _ 0 (by have := HLN.out; omega) (by decide) (by decide)) (by decide)).mono ?_
            rintro e w8 ⟨v8, a8, c8, rfl, hln, _, hs⟩
            have HF8 := hide' (HF7.out.calm hs)
            obtain ⟨g8, o8, ea8, _, hin⟩ := hln.cells (by show L0 ++ [(3 : Int)] ≠ []; simp)
            have hcell := hin na (by show na < (L0 ++ [(3 : Int)]).length; rw [HLN.out]; omega)
            have hlast : (pd 623 (L0 ++ [(3 : Int)]) [] false [94, 3 + 64]).line.getD na 0 = 3 := by
              show (L0 ++ [(3 : Int)]).getD na 0 = 3
              rw [← HL0.out]
              simp
            rw [hlast] at hcell
            have hsh : v8 = .slice a8 (L0 ++ [(3 : Int)]).length c8 := hln.shape
            rw [HLN.out] at hsh
            subst hsh ea8
            have kna : (na : Int) < (na : Int) + 1 := by omega
            clear hln hs HA7 HF7 hin hlast
            go_wp2_with fail
            refine (HAW.out _).mono ?_
            rintro e w9 ⟨rfl, hs⟩
            have HS9 := hide' ((HS3.out.trans HF8.out.stay).trans hs)
            clear hs
            go_wp2
            go_ret
            exact ⟨by simp, HS9.out⟩
        · have htz : x.tmod 3 = 1 := htx
          have e3 : c4 = c4 := rfl
          clear htx hk3 e3
          cases next
          · go_wp2_with fail
            refine (HIM.out.input 28 HA5.out (ok_pd 623 fl_623 right_623 L0 [] false [] 0 (by have := HL0.out; omega) (by decide) (by decide)) (by decide) (by decide) (by decide)).mono ?_
            rintro e w6 ⟨v6, O2, rfl, hbe, hat, hs, hg⟩
            have hsg := signal_pd 623 fl_623 L0 [] 1 (by decide)
            rw [show sgc 1 = 28 from rfl, if_neg (by decide)] at hsg
            rw [hsg] at hat
            rw [hsg]
            have HA6 := hide' hat
            have HF6 := hide' (HF5.out.step hs hg)
            obtain ⟨a6, z6, e6⟩ := hbe.shape
            obtain ⟨n6, hn6⟩ : ∃ n, n = ((623, 0) : Int × Nat).2 := ⟨_, rfl⟩
            clear hbe hat hs hg hsg hn6 n6 e6 c0 c1 c2 c3 c4 c5 c6 c7 c8 c9 c10 c11 c12 c13 c14 c15 c16 HA5
            go_wp2_with fail
            refine (HIM.out.line HA6.out (ok_pd 623 fl_623 right_623 _ [] false _ 0 (by decide) (by decide) (by decide)) (by decide)).mono ?_
            rintro e w7 ⟨v7, a7, c7, rfl, hln, _, hs⟩
            have HF7 := hide' (HF6.out.calm hs)
            have hsh : v7 = .slice a7 0 c7 := hln.shape
            skip
            subst hsh
            clear hln hs HA6 HF6
            go_wp2_with fail
            refine (HAW.out _).mono ?_
            rintro e w8 ⟨rfl, hs⟩
            have HS8 := hide' ((HS3.out.trans HF7.out.stay).trans hs)
            clear hs
            go_wp2
            go_ret
            exact ⟨by simp, HS8.out⟩
          · go_wp2_with fail
            refine (HIM.out.input 22 HA5.out (ok_pd 623 fl_623 right_623 L0 [] false [] 0 (by have := HL0.out; omega) (by decide) (by decide)) (by decide) (by decide) (by decide)).mono ?_
            rintro e w6 ⟨v6, O2, rfl, hbe, hat, hs, hg⟩
            rw [lit_pd 623 fl_623 L0 []] at hat
            rw [lit_pd 623 fl_623 L0 []]
            have HA6 := hide' (HIM.out.noEc [] hat)
            have HF6 := hide' (HF5.out.step hs hg)
            clear hbe hat hs hg c0 c1 c2 c3 c4 c5 c6 c7 c8 c9 c10 c11 c12 c13 c14 c15 c16 HA5
            go_wp2_with fail
            refine (HIM.out.input 28 HA6.out (ok_pd 623 fl_623 right_623 L0 [] true [] 0 (by have := HL0.out; omega) (by decide) (by decide)) (by decide) (by decide) (by decide)).mono ?_
            rintro e w7 ⟨v7, O3, rfl, hbe, hat, hs, hg⟩
            have hsg := next_pd 623 fl_623 L0 [] 1 (by decide) (by have := HL0.out; omega)
            rw [show sgc 1 = 28 from rfl] at hsg
            have hsg' : ((pd 623 L0 [] true []).setEc []).input 28 = _ := hsg
            have hsq : (((pd 623 L0 [] true [94, 8]).setEc []).input 28) = (pd 623 (L0 ++ [28]) [] false [94, 28 + 64], 0) := hsg
            rw [hsq] at hat
            rw [hsq]
            have HA7 := hide' hat
            have HF7 := hide' (HF6.out.step hs hg)
            clear hbe hat hs hg hsg hsg' hsq HA6 HF6
            have hlen : (L0 ++ [(28 : Int)]).length = na + 1 := by rw [List.length_append, HL0.out]; rfl
            have HLN := hide' hlen
            clear hlen
            go_wp2_with fail
            refine (HIM.out.line HA7.out (ok_pd 623 fl_623 right_623 _ [] false _ 0 (by have := HLN.out; omega) (by decide) (by decide)) (by decide)).mono ?_
            rintro e w8 ⟨v8, a8, c8, rfl, hln, _, hs⟩
            have HF8 := hide' (HF7.out.calm hs)
            obtain ⟨g8, o8, ea8, _, hin⟩ := hln.cells (by show L0 ++ [(28 : Int)] ≠ []; simp)
            have hcell := hin na (by show na < (L0 ++ [(28 : Int)]).length; rw [HLN.out]; omega)
            have hlast : (pd 623 (L0 ++ [(28 : Int)]) [] false [94, 28 + 64]).line.getD na 0 = 28 := by
              show (L0 ++ [(28 : Int)]).getD na 0 = 28
              rw [← HL0.out]
              simp
            rw [hlast] at hcell
            have hsh : v8 = .slice a8 (L0 ++ [(28 : Int)]).length c8 := hln.shape
            rw [HLN.out] at hsh
            subst hsh ea8
            have kna : (na : Int) < (na : Int) + 1 := by omega
            clear hln hs HA7 HF7 hin hlast
            go_wp2_with fail
            refine (HAW.out _).mono ?_
            rintro e w9 ⟨rfl, hs⟩
            have HS9 := hide' ((HS3.out.trans HF8.out.stay).trans hs)
            clear hs
            go_wp2
            go_ret
            exact ⟨by simp, HS9.out⟩
        · have htz : x.tmod 3 = 2 := htx
          have e3 : c5 = c5 := rfl
          clear htx hk3 e3
          cases next
          · go_wp2_with fail
            refine (HIM.out.input 26 HA5.out (ok_pd 623 fl_623 right_623 L0 [] false [] 0 (by have := HL0.out; omega) (by decide) (by decide)) (by decide) (by decide) (by decide)).mono ?_
            rintro e w6 ⟨v6, O2, rfl, hbe, hat, hs, hg⟩
            have hsg := signal_pd 623 fl_623 L0 [] 2 (by decide)
            rw [show sgc 2 = 26 from rfl, if_neg (by decide)] at hsg
            rw [hsg] at hat
            rw [hsg]
            have HA6 := hide' hat
            have HF6 := hide' (HF5.out.step hs hg)
            obtain ⟨a6, z6, e6⟩ := hbe.shape
            obtain ⟨n6, hn6⟩ : ∃ n, n = ((623, 0) : Int × Nat).2 := ⟨_, rfl⟩
            clear hbe hat hs hg hsg hn6 n6 e6 c0 c1 c2 c3 c4 c5 c6 c7 c8 c9 c10 c11 c12 c13 c14 c15 c16 HA5
            go_wp2_with fail
            refine (HIM.out.line HA6.out (ok_pd 623 fl_623 right_623 _ [] false _ 0 (by decide) (by decide) (by decide)) (by decide)).mono ?_
            rintro e w7 ⟨v7, a7, c7, rfl, hln, _, hs⟩
            have HF7 := hide' (HF6.out.calm hs)
            have hsh : v7 = .slice a7 0 c7 := hln.shape
            skip
            subst hsh
            clear hln hs HA6 HF6
            go_wp2_with fail
            refine (HAW.out _).mono ?_
            rintro e w8 ⟨rfl, hs⟩
            have HS8 := hide' ((HS3.out.trans HF7.out.stay).trans hs)
            clear hs
            go_wp2
            go_ret
            exact ⟨by simp, HS8.out⟩
          · go_wp2_with fail
            refine (HIM.out.input 22 HA5.out (ok_pd 623 fl_623 right_623 L0 [] false [] 0 (by have := HL0.out; omega) (by decide) (by decide)) (by decide) (by decide) (by decide)).mono ?_
            rintro e w6 ⟨v6, O2, rfl, hbe, hat, hs, hg⟩
            rw [lit_pd 623 fl_623 L0 []] at hat
            rw [lit_pd 623 fl_623 L0 []]
            have HA6 := hide' (HIM.out.noEc [] hat)
            have HF6 := hide' (HF5.out.step hs hg)
            clear hbe hat hs hg c0 c1 c2 c3 c4 c5 c6 c7 c8 c9 c10 c11 c12 c13 c14 c15 c16 HA5
            go_wp2_with fail
            refine (HIM.out.input 26 HA6.out (ok_pd 623 fl_623 right_623 L0 [] true [] 0 (by have := HL0.out; omega) (by decide) (by decide)) (by decide) (by decide) (by decide)).mono ?_
            rintro e w7 ⟨v7, O3, rfl, hbe, hat, hs, hg⟩
            have hsg := next_pd 623 fl_623 L0 [] 2 (by decide) (by have := HL0.out; omega)
            rw [show sgc 2 = 26 from rfl] at hsg
            have hsg' : ((pd 623 L0 [] true []).setEc []).input 26 = _ := hsg
            have hsq : (((pd 623 L0 [] true [94, 8]).setEc []).input 26) = (pd 623 (L0 ++ [26]) [] false [94, 26 + 64], 0) := hsg
            rw [hsq] at hat
            rw [hsq]
            have HA7 := hide' hat
            have HF7 := hide' (HF6.out.step hs hg)
            clear hbe hat hs hg hsg hsg' hsq HA6 HF6
            have hlen : (L0 ++ [(26 : Int)]).length = na + 1 := by rw [List.length_append, HL0.out]; rfl
            have HLN := hide' hlen
            clear hlen
            go_wp2_with fail
            refine (HIM.out.line HA7.out (ok_pd 623 fl_623 right_623 _ [] false _ 0 (by have := HLN.out; omega) (by decide) (by decide)) (by decide)).mono ?_
            rintro e w8 ⟨v8, a8, c8, rfl, hln, _, hs⟩
            have HF8 := hide' (HF7.out.calm hs)
            obtain ⟨g8, o8, ea8, _, hin⟩ := hln.cells (by show L0 ++ [(26 : Int)] ≠ []; simp)
            have hcell := hin na (by show na < (L0 ++ [(26 : Int)]).length; rw [HLN.out]; omega)
            have hlast : (pd 623 (L0 ++ [(26 : Int)]) [] false [94, 26 + 64]).line.getD na 0 = 26 := by
              show (L0 ++ [(26 : Int)]).getD na 0 = 26
              rw [← HL0.out]
              simp
            rw [hlast] at hcell
            have hsh : v8 = .slice a8 (L0 ++ [(26 : Int)]).length c8 := hln.shape
            rw [HLN.out] at hsh
            subst hsh ea8
            have kna : (na : Int) < (na : Int) + 1 := by omega
            clear hln hs HA7 HF7 hin hlast
            go_wp2_with fail
            refine (HAW.out _).mono ?_
            rintro e w9 ⟨rfl, hs⟩
            have HS9 := hide' ((HS3.out.trans HF8.out.stay).trans hs)
            clear hs
            go_wp2
            go_ret
            exact ⟨by simp, HS9.out⟩
  · go_enter Try.func6, Try.ntmps6
    go_wp2_with fail
    refine (HPL.out _).mono ?_
    rintro e w1 ⟨rfl, hs⟩
    have HS1 := hide' hs
    clear hs
    go_upto_region 4 with fail
    have HB2 := hide' (HBX.out w1)
    have HS2 := hide' (HS1.out.alloc (.cells #[.int .i64 t.fi, .int .i64 t.fo, .int .i64 t.fl, .int .i64 t.k0, .int .i64 t.k1, .int .i64 t.k2, .int .i64 t.k3, .int .i64 t.k4, .int .i64 t.k5, .int .i64 t.k6, .int .i64 t.k7, .int .i64 t.k8, .int .i64 t.k9, .int .i64 t.k10, .int .i64 t.k11, .int .i64 t.mn, .int .i64 t.ti] 24))
    have HLB : Hid (w.heap.size ≤ w1.heap.size) := HS1.out.size
    obtain ⟨b9, hb9⟩ : ∃ b, b = w1.heap.size := ⟨_, rfl⟩
    obtain ⟨w2, hw2⟩ : ∃ W, W = w1.alloc (.cells #[.int .i64 t.fi, .int .i64 t.fo, .int .i64 t.fl, .int .i64 t.k0, .int .i64 t.k1, .int .i64 t.k2, .int .i64 t.k3, .int .i64 t.k4, .int .i64 t.k5, .int .i64 t.k6, .int .i64 t.k7, .int .i64 t.k8, .int .i64 t.k9, .int .i64 t.k10, .int .i64 t.k11, .int .i64 t.mn, .int .i64 t.ti] 24) := ⟨_, rfl⟩
    rw [← hw2] at HB2 HS2 ⊢
    rw [← hb9] at HB2 HLB ⊢
    clear hw2 hb9 HS1 HBX
    obtain ⟨c0, c1, c2, c3, c4, c5, c6, c7, c8, c9, c10, c11, c12, c13, c14, c15, c16, f0, f1, f2, f3, f4, f5, f6, f7, f8, f9, f10, f11, f12, f13, f14, f15, f16⟩ := HB2.out
    go_upto_region 6 with fail
    have HB3 : Hid (L17.TBox (w2.setCell ⟨b9, 2, none⟩ (.int .i64 (bits .or .i64 t.fl 128))) b9 (pl 751)) := HB2.out.put2 (by rw [HT.out]; rfl)
    have HS3 : Hid (Stay (fun _ => False) w (w2.setCell ⟨b9, 2, none⟩ (.int .i64 (bits .or .i64 t.fl 128)))) := HS2.out.setNew HLB.out _
    obtain ⟨w3, hw3⟩ : ∃ W, W = w2.setCell ⟨b9, 2, none⟩ (.int .i64 (bits .or .i64 t.fl 128)) := ⟨_, rfl⟩
    rw [← hw3] at HB3 HS3 ⊢
    clear hw3 HB2 HS2 c0 c1 c2 c3 c4 c5 c6 c7 c8 c9 c10 c11 c12 c13 c14 c15 c16 f0 f1 f2 f3 f4 f5 f6 f7 f8 f9 f10 f11 f12 f13 f14 f15 f16
    have HNW := hide' (HIM.out.new (pl 751) w3 right_751)
    obtain ⟨tp, htp⟩ : ∃ t : Tm, t = pl 751 := ⟨_, rfl⟩
    have HTP := hide' htp
    rw [← htp] at HB3 HNW
    clear htp
    go_wp2_with (refine wpList_exec rfl (L17.run_load_TBox rfl rfl HB3.out) ?_)
    refine HNW.out.mono ?_
    rintro e w4 ⟨p, O, rfl, hat, hO, hs⟩
    have HA4 : Hid (At w4 p O (pd 751 (([] : List Int).map ltr) [] false [])) := by rw [HTP.out] at hat; exact hat
    have HF4 := hide' (From.made hs hO)
    clear hat hO hs HNW HPL
    go_wp2
    go_loopg [11] na (fun gg v11 wr => ∃ j : Nat, j ≤ na ∧ gg = na - j ∧ v11 = .int .i64 (j : Int) ∧ ∃ O' : Nat → Prop, Hid (At wr p O' (pd 751 ((A.take j).map ltr) [] false []) ∧ From w3 (fun _ => False) wr O'))
    case atStart => exact ⟨0, Nat.zero_le _, rfl, rfl, O, HA4.out, HF4.out⟩
    case round =>
      clear HA4 HF4
      obtain ⟨j, hj, rfl, rfl, O', HRL⟩ := hrel
      obtain ⟨w5, hw5⟩ : ∃ W, W = wr := ⟨_, rfl⟩
      rw [← hw5] at HRL ⊢
      clear hw5
      by_cases hlt : j < na
      · have kn : decide ((j : Int) < na) = true := by simp; omega
        have kn2 : (j : Int) < na := by omega
        obtain ⟨g9, o9, ea, hcell, hy0, hy1⟩ := iarg_byte HA.out (HS3.out.trans HRL.out.2.stay) j hlt
        have HST := hide' (ltr_step A j (by rw [← HNA.out]; exact hlt))
        subst ea
        obtain ⟨y, hy⟩ : ∃ y, y = A.getD j 0 := ⟨_, rfl⟩
        rw [← hy] at hcell hy0 hy1 HST
        have htm : y.tmod 26 = y % 26 := Int.tmod_eq_emod_of_nonneg hy0
        obtain ⟨z, hz⟩ : ∃ z, z = y % 26 := ⟨_, rfl⟩
        have hzr : 0 ≤ z ∧ z < 26 := by omega
        rw [← hz] at htm
        obtain ⟨c, hc⟩ : ∃ c, c = 97 + z := ⟨_, rfl⟩
        have h256 : (97 + z) % 256 = c := by omega
        have hcr : 97 ≤ c ∧ c < 123 := by omega
        have HC := hide' hcr
        have HLT : Hid (ltr y = c) := by show ltr y = c; unfold ltr; omega
        have HTK : Hid (((A.take j).map ltr).length ≤ 40) := by show _ ≤ 40; rw [List.length_map, List.length_take]; omega
        clear hy hy0 hy1 hz hzr hc hcr
        rw [HLT.out] at HST
        have HTY := hide' (type_pd 751 fl_751 ((A.take j).map ltr) [] [] c (by have := HC.out.1; omega) (by have := HC.out.2; omega) (by have := HTK.out; omega))
        rw [← HST.out] at HTY
        clear HLT
        go_wp2_with fail
        refine (HIM.out.input c HRL.out.1 (ok_pd 751 fl_751 right_751 _ [] false [] 0 (by have := HTK.out; omega) (by decide) (by decide)) (by decide) (by have := HC.out.1; omega) (by have := HC.out.2; omega)).mono ?_
        rintro e w6 ⟨v6, O2, rfl, hbe, hat, hs, hg⟩
        rw [HTY.out] at hat
        have HN : Hid (At w6 p O2 (pd 751 ((A.take (j + 1)).map ltr) [] false []) ∧ From w3 (fun _ => False) w6 O2) := ⟨HIM.out.noEc [] hat, HRL.out.2.step hs hg⟩
        clear hbe hat hs hg HRL HTY HTK HST HC
        go_wp2
        go_roundg (na - (j + 1))
        case measure => omega
        case rel => exact ⟨j + 1, by omega, rfl, by go_num, O2, HN⟩
      · have kn : decide ((j : Int) < na) = false := by simp; omega
        have HKN : Hid (A.take j = A) := List.take_of_length_le (by rw [← HNA.out]; omega)
        obtain ⟨L0, hL0⟩ : ∃ L, L = A.map ltr := ⟨_, rfl⟩
        have HA5 : Hid (At w5 p O' (pd 751 L0 [] false [])) := by have h := HRL.out.1; rw [HKN.out, ← hL0] at h; exact h
        have HF5 := hide' HRL.out.2
        have HL0 : Hid (L0.length = na) := by show L0.length = na; rw [hL0, List.length_map, ← HNA.out]
        have HB5 : Hid (L17.TBox w5 b9 (pl 751)) := by have h := HB3.out.keep HRL.out.2.stay; rw [HTP.out] at h; exact h
        clear HRL HKN hL0 hj HB3
        obtain ⟨hwx, htx, hk3⟩ := HK.out
        obtain ⟨c0, c1, c2, c3, c4, c5, c6, c7, c8, c9, c10, c11, c12, c13, c14, c15, c16, -⟩ := HB5.out
        have : k = 0 ∨ k = 1 ∨ k = 2 := by omega
        have hj2 := hlt
        rcases this with rfl | rfl | rfl
        · have htz : x.tmod 3 = 0 := htx
          have e3 : c3 = c3 := rfl
          clear htx hk3 e3
          cases next
          · go_wp2_with fail
            refine (HIM.out.input 3 HA5.out (ok_pd 751 fl_751 right_751 L0 [] false [] 0 (by have := HL0.out; omega) (by decide) (by decide)) (by decide) (by decide) (by decide)).mono ?_
            rintro e w6 ⟨v6, O2, rfl, hbe, hat, hs, hg⟩
            have hsg := signal_pd 751 fl_751 L0 [] 0 (by decide)
            rw [show sgc 0 = 3 from rfl, if_pos (by decide)] at hsg
            rw [hsg] at hat
            rw [hsg]
            have HA6 := hide' hat
            have HF6 := hide' (HF5.out.step hs hg)
            obtain ⟨a6, z6, e6⟩ := hbe.shape
            obtain ⟨n6, hn6⟩ : ∃ n, n = ((751, 0) : Int × Nat).2 := ⟨_, rfl⟩
            clear hbe hat hs hg hsg hn6 n6 e6 c0 c1 c2 c3 c4 c5 c6 c7 c8 c9 c10 c11 c12 c13 c14 c15 c16 HA5
            go_wp2_with fail
            refine (HIM.out.line HA6.out (ok_pd 751 fl_751 right_751 _ [] false _ 0 (by have := HL0.out; omega) (by decide) (by decide)) (by decide)).mono ?_
            rintro e w7 ⟨v7, a7, c7, rfl, hln, _, hs⟩
            have HF7 := hide' (HF6.out.calm hs)
            have hsh : v7 = .slice a7 L0.length c7 := hln.shape
            rw [HL0.out] at hsh
            subst hsh
            clear hln hs HA6 HF6
            go_wp2_with fail
            refine (HAW.out _).mono ?_
            rintro e w8 ⟨rfl, hs⟩
            have HS8 := hide' ((HS3.out.trans HF7.out.stay).trans hs)
            clear hs
            go_wp2
            go_ret
            exact ⟨by simp, HS8.out⟩
          · go_wp2_with fail
            refine (HIM.out.input 22 HA5.out (ok_pd 751 fl_751 right_751 L0 [] false [] 0 (by have := HL0.out; omega) (by decide) (by decide)) (by decide) (by decide) (by decide)).mono ?_
            rintro e w6 ⟨v6, O2, rfl, hbe, hat, hs, hg⟩
            rw [lit_pd 751 fl_751 L0 []] at hat
            rw [lit_pd 751 fl_751 L0 []]
            have HA6 := hide' (HIM.out.noEc [] hat)
            have HF6 := hide' (HF5.out.step hs hg)
            clear hbe hat hs hg c0 c1 c2 c3 c4 c5 c6 c7 c8 c9 c10 c11 c12 c13 c14 c15 c16 HA5
            go_wp2_with fail
            refine (HIM.out.input 3 HA6.out (ok_pd 751 fl_751 right_751 L0 [] true [] 0 (by have := HL0.out; omega) (by decide) (by decide)) (by decide) (by decide) (by decide)).mono ?_
            rintro e w7 ⟨v7, O3, rfl, hbe, hat, hs, hg⟩
            have hsg := next_pd 751 fl_751 L0 [] 0 (by decide) (by have := HL0.out; omega)
            rw [show sgc 0 = 3 from rfl] at hsg
            have hsg' : ((pd 751 L0 [] true []).setEc []).input 3 = _ := hsg
            have hsq : (((pd 751 L0 [] true [94, 8]).setEc []).input 3) = (pd 751 (L0 ++ [3]) [] false [94, 3 + 64], 0) := hsg
            rw [hsq] at hat
            rw [hsq]
            have HA7 := hide' hat
            have HF7 := hide' (HF6.out.step hs hg)
            clear hbe hat hs hg hsg hsg' hsq HA6 HF6
            have hlen : (L0 ++ [(3 : Int)]).length = na + 1 := by rw [List.length_append, HL0.out]; rfl
            have HLN := hide' hlen
            clear hlen
            go_wp2_with fail
            refine (HIM.out.line HA7.out (ok_pd 751 fl_751 right_751 _ [] false _ 0 (by have := HLN.out; omega) (by decide) (by decide)) (by decide)).mono ?_
            rintro e w8 ⟨v8, a8, c8, rfl, hln, _, hs⟩
            have HF8 := hide' (HF7.out.calm hs)
            obtain ⟨g8, o8, ea8, _, hin⟩ := hln.cells (by show L0 ++ [(3 : Int)] ≠ []; simp)
            have hcell := hin na (by show na < (L0 ++ [(3 : Int)]).length; rw [HLN.out]; omega)
            have hlast : (pd 751 (L0 ++ [(3 : Int)]) [] false [94, 3 + 64]).line.getD na 0 = 3 := by
              show (L0 ++ [(3 : Int)]).getD na 0 = 3
              rw [← HL0.out]
              simp
            rw [hlast] at hcell
            have hsh : v8 = .slice a8 (L0 ++ [(3 : Int)]).length c8 := hln.shape
            rw [HLN.out] at hsh
            subst hsh ea8
            have kna : (na : Int) < (na : Int) + 1 := by omega
            clear hln hs HA7 HF7 hin hlast
            go_wp2_with fail
            refine (HAW.out _).mono ?_
            rintro e w9 ⟨rfl, hs⟩
            have HS9 := hide' ((HS3.out.trans HF8.out.stay).trans hs)
            clear hs
            go_wp2
            go_ret
            exact ⟨by simp, HS9.out⟩
        · have htz : x.tmod 3 = 1 := htx
          have e3 : c4 = c4 := rfl
          clear htx hk3 e3
          cases next
          · go_wp2_with fail
            refine (HIM.out.input 28 HA5.out (ok_pd 751 fl_751 right_751 L0 [] false [] 0 (by have := HL0.out; omega) (by decide) (by decide)) (by decide) (by decide) (by decide)).mono ?_
            rintro e w6 ⟨v6, O2, rfl, hbe, hat, hs, hg⟩
            have hsg := signal_pd 751 fl_751 L0 [] 1 (by decide)
            rw [show sgc 1 = 28 from rfl, if_pos (by decide)] at hsg
            rw [hsg] at hat
            rw [hsg]
            have HA6 := hide' hat
            have HF6 := hide' (HF5.out.step hs hg)
            obtain ⟨a6, z6, e6⟩ := hbe.shape
            obtain ⟨n6, hn6⟩ : ∃ n, n = ((751, 0) : Int × Nat).2 := ⟨_, rfl⟩
            clear hbe hat hs hg hsg hn6 n6 e6 c0 c1 c2 c3 c4 c5 c6 c7 c8 c9 c10 c11 c12 c13 c14 c15 c16 HA5
            go_wp2_with fail
            refine (HIM.out.line HA6.out (ok_pd 751 fl_751 right_751 _ [] false _ 0 (by have := HL0.out; omega) (by decide) (by decide)) (by decide)).mono ?_
            rintro e w7 ⟨v7, a7, c7, rfl, hln, _, hs⟩
            have HF7 := hide' (HF6.out.calm hs)
            have hsh : v7 = .slice a7 L0.length c7 := hln.shape
            rw [HL0.out] at hsh
            subst hsh
            clear hln hs HA6 HF6
            go_wp2_with fail
            refine (HAW.out _).mono ?_
            rintro e w8 ⟨rfl, hs⟩
            have HS8 := hide' ((HS3.out.trans HF7.out.stay).trans hs)
            clear hs
            go_wp2
            go_ret
            exact ⟨by simp, HS8.out⟩
          · go_wp2_with fail
            refine (HIM.out.input 22 HA5.out (ok_pd 751 fl_751 right_751 L0 [] false [] 0 (by have := HL0.out; omega) (by decide) (by decide)) (by decide) (by decide) (by decide)).mono ?_
            rintro e w6 ⟨v6, O2, rfl, hbe, hat, hs, hg⟩
            rw [lit_pd 751 fl_751 L0 []] at hat
            rw [lit_pd 751 fl_751 L0 []]
            have HA6 := hide' (HIM.out.noEc [] hat)
            have HF6 := hide' (HF5.out.step hs hg)
            clear hbe hat hs hg c0 c1 c2 c3 c4 c5 c6 c7 c8 c9 c10 c11 c12 c13 c14 c15 c16 HA5
            go_wp2_with fail
            refine (HIM.out.input 28 HA6.out (ok_pd 751 fl_751 right_751 L0 [] true [] 0 (by have := HL0.out; omega) (by decide) (by decide)) (by decide) (by decide) (by decide)).mono ?_
            rintro e w7 ⟨v7, O3, rfl, hbe, hat, hs, hg⟩
            have hsg := next_pd 751 fl_751 L0 [] 1 (by decide) (by have := HL0.out; omega)
            rw [show sgc 1 = 28 from rfl] at hsg
            have hsg' : ((pd 751 L0 [] true []).setEc []).input 28 = _ := hsg
            have hsq : (((pd 751 L0 [] true [94, 8]).setEc []).input 28) = (pd 751 (L0 ++ [28]) [] false [94, 28 + 64], 0) := hsg
            rw [hsq] at hat
            rw [hsq]
            have HA7 := hide' hat
            have HF7 := hide' (HF6.out.step hs hg)
            clear hbe hat hs hg hsg hsg' hsq HA6 HF6
            have hlen : (L0 ++ [(28 : Int)]).length = na + 1 := by rw [List.length_append, HL0.out]; rfl
            have HLN := hide' hlen
            clear hlen
            go_wp2_with fail
            refine (HIM.out.line HA7.out (ok_pd 751 fl_751 right_751 _ [] false _ 0 (by have := HLN.out; omega) (by decide) (by decide)) (by decide)).mono ?_
            rintro e w8 ⟨v8, a8, c8, rfl, hln, _, hs⟩
            have HF8 := hide' (HF7.out.calm hs)
            obtain ⟨g8, o8, ea8, _, hin⟩ := hln.cells (by show L0 ++ [(28 : Int)] ≠ []; simp)
            have hcell := hin na (by show na < (L0 ++ [(28 : Int)]).length; rw [HLN.out]; omega)
            have hlast : (pd 751 (L0 ++ [(28 : Int)]) [] false [94, 28 + 64]).line.getD na 0 = 28 := by
              show (L0 ++ [(28 : Int)]).getD na 0 = 28
              rw [← HL0.out]
              simp
            rw [hlast] at hcell
            have hsh : v8 = .slice a8 (L0 ++ [(28 : Int)]).length c8 := hln.shape
            rw [HLN.out] at hsh
            subst hsh ea8
            have kna : (na : Int) < (na : Int) + 1 := by omega
            clear hln hs HA7 HF7 hin hlast
            go_wp2_with fail
            refine (HAW.out _).mono ?_
            rintro e w9 ⟨rfl, hs⟩
            have HS9 := hide' ((HS3.out.trans HF8.out.stay).trans hs)
            clear hs
            go_wp2
            go_ret
            exact ⟨by simp, HS9.out⟩
        · have htz : x.tmod 3 = 2 := htx
          have e3 : c5 = c5 := rfl
          clear htx hk3 e3
          cases next
          · go_wp2_with fail
            refine (HIM.out.input 26 HA5.out (ok_pd 751 fl_751 right_751 L0 [] false [] 0 (by have := HL0.out; omega) (by decide) (by decide)) (by decide) (by decide) (by decide)).mono ?_
            rintro e w6 ⟨v6, O2, rfl, hbe, hat, hs, hg⟩
            have hsg := signal_pd 751 fl_751 L0 [] 2 (by decide)
            rw [show sgc 2 = 26 from rfl, if_pos (by decide)] at hsg
            rw [hsg] at hat
            rw [hsg]
            have HA6 := hide' hat
            have HF6 := hide' (HF5.out.step hs hg)
            obtain ⟨a6, z6, e6⟩ := hbe.shape
            obtain ⟨n6, hn6⟩ : ∃ n, n = ((751, 0) : Int × Nat).2 := ⟨_, rfl⟩
            clear hbe hat hs hg hsg hn6 n6 e6 c0 c1 c2 c3 c4 c5 c6 c7 c8 c9 c10 c11 c12 c13 c14 c15 c16 HA5
            go_wp2_with fail
            refine (HIM.out.line HA6.out (ok_pd 751 fl_751 right_751 _ [] false _ 0 (by have := HL0.out; omega) (by decide) (by decide)) (by decide)).mono ?_
            rintro e w7 ⟨v7, a7, c7, rfl, hln, _, hs⟩
            have HF7 := hide' (HF6.out.calm hs)
            have hsh : v7 = .slice a7 L0.length c7 := hln.shape
            rw [HL0.out] at hsh
            subst hsh
            clear hln hs HA6 HF6
            go_wp2_with fail
            refine (HAW.out _).mono ?_
            rintro e w8 ⟨rfl, hs⟩
            have HS8 := hide' ((HS3.out.trans HF7.out.stay).trans hs)
            clear hs
            go_wp2
            go_ret
            exact ⟨by simp, HS8.out⟩
          · go_wp2_with fail
            refine (HIM.out.input 22 HA5.out (ok_pd 751 fl_751 right_751 L0 [] false [] 0 (by have := HL0.out; omega) (by decide) (by decide)) (by decide) (by decide) (by decide)).mono ?_
            rintro e w6 ⟨v6, O2, rfl, hbe, hat, hs, hg⟩
            rw [lit_pd 751 fl_751 L0 []] at hat
            rw [lit_pd 751 fl_751 L0 []]
            have HA6 := hide' (HIM.out.noEc [] hat)
            have HF6 := hide' (HF5.out.step hs hg)
            clear hbe hat hs hg c0 c1 c2 c3 c4 c5 c6 c7 c8 c9 c10 c11 c12 c13 c14 c15 c16 HA5
            go_wp2_with fail
            refine (HIM.out.input 26 HA6.out (ok_pd 751 fl_751 right_751 L0 [] true [] 0 (by have := HL0.out; omega) (by decide) (by decide)) (by decide) (by decide) (by decide)).mono ?_
            rintro e w7 ⟨v7, O3, rfl, hbe, hat, hs, hg⟩
            have hsg := next_pd 751 fl_751 L0 [] 2 (by decide) (by have := HL0.out; omega)
            rw [show sgc 2 = 26 from rfl] at hsg
            have hsg' : ((pd 751 L0 [] true []).setEc []).input 26 = _ := hsg
            have hsq : (((pd 751 L0 [] true [94, 8]).setEc []).input 26) = (pd 751 (L0 ++ [26]) [] false [94, 26 + 64], 0) := hsg
            rw [hsq] at hat
            rw [hsq]
            have HA7 := hide' hat
            have HF7 := hide' (HF6.out.step hs hg)
            clear hbe hat hs hg hsg hsg' hsq HA6 HF6
            have hlen : (L0 ++ [(26 : Int)]).length = na + 1 := by rw [List.length_append, HL0.out]; rfl
            have HLN := hide' hlen
            clear hlen
            go_wp2_with fail
            refine (HIM.out.line HA7.out (ok_pd 751 fl_751 right_751 _ [] false _ 0 (by have := HLN.out; omega) (by decide) (by decide)) (by decide)).mono ?_
            rintro e w8 ⟨v8, a8, c8, rfl, hln, _, hs⟩
            have HF8 := hide' (HF7.out.calm hs)
            obtain ⟨g8, o8, ea8, _, hin⟩ := hln.cells (by show L0 ++ [(26 : Int)] ≠ []; simp)
            have hcell := hin na (by show na < (L0 ++ [(26 : Int)]).length; rw [HLN.out]; omega)
            have hlast : (pd 751 (L0 ++ [(26 : Int)]) [] false [94, 26 + 64]).line.getD na 0 = 26 := by
              show (L0 ++ [(26 : Int)]).getD na 0 = 26
              rw [← HL0.out]
              simp
            rw [hlast] at hcell
            have hsh : v8 = .slice a8 (L0 ++ [(26 : Int)]).length c8 := hln.shape
            rw [HLN.out] at hsh
            subst hsh ea8
            have kna : (na : Int) < (na : Int) + 1 := by omega
            clear hln hs HA7 HF7 hin hlast
            go_wp2_with fail
            refine (HAW.out _).mono ?_
            rintro e w9 ⟨rfl, hs⟩
            have HS9 := hide' ((HS3.out.trans HF8.out.stay).trans hs)
            clear hs
            go_wp2
            go_ret
            exact ⟨by simp, HS9.out⟩
end

end Go.Proofs.Ytkggmjjjopfdbaa
