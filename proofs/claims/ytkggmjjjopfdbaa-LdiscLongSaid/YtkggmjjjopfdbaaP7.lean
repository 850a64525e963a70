/-
  LdiscLong walked: true of any byte, any number, with newlines or not, by lines or raw. No conditions.
-/
import Derived.Test.YtkggmjjjopfdbaaP5
import Derived.Test.YtkggmjjjopfdbaaM4
namespace Go.Proofs.Ytkggmjjjopfdbaa
open Go.RowKit
open L17

theorem lg_ok0 {canon nl : Bool} {i k R : Nat} {d : DS} (h : Lg canon nl i k R d) : Ok i d := by
  cases d
  exact lg_ok h _

theorem min_fact (T o cn : Nat) (hT : T ≤ 19) (ho : o ≤ 1) (h : cn = min 1024 (T * (300 + o) + 0)) (z oz bz cz : Int) (hz : z = T) (hoz : oz = o) (hb : bz = z * oz) (hcz : cz = cn) : wrap64 (z * oz) = bz ∧ cz = min 1024 (wrap64 (wrap64 (z * 300) + bz)) := by
  have h01 : o = 0 ∨ o = 1 := by omega
  have hbb : bz = z * oz := hb
  rcases h01 with e | e
  · rw [e] at hoz h
    rw [hoz] at hb
    have e3 : bz = 0 := by omega
    refine ⟨?_, ?_⟩
    · rw [← hbb]; unfold wrap64; omega
    · have e2 : wrap64 (wrap64 (z * 300) + bz) = z * 300 + bz := by unfold wrap64; omega
      rw [e2]; omega
  · rw [e] at hoz h
    rw [hoz] at hb
    have e3 : bz = z := by omega
    refine ⟨?_, ?_⟩
    · rw [← hbb]; unfold wrap64; omega
    · have e2 : wrap64 (wrap64 (z * 300) + bz) = z * 300 + bz := by unfold wrap64; omega
      rw [e2]; omega

theorem one_walk (b : Bool) (w : World) : Calls Try.prog 27 #[.bool b] w (Gives (.int .i64 (o1 b : Nat)) w) := by
  have HS := hide' (Stay.refl (fun _ => False) w)
  cases b
  · go_enter Try.func27, Try.ntmps27
    go_wp2
    go_ret
    exact ⟨rfl, HS.out⟩
  · go_enter Try.func27, Try.ntmps27
    go_wp2
    go_ret
    exact ⟨rfl, HS.out⟩

section
variable {At : World → Nat → (Nat → Prop) → DS → Prop}

attribute [local go_sem] eqlP_nil

set_option maxRecDepth 100000 in
set_option maxHeartbeats 2000000 in
theorem long_other (HI : Impl At) (c x : Int) (nl canon : Bool) (w : World) (h : c < 97 ∨ 122 < c) : Calls Try.prog 4 #[.int .u8 c, .int .u8 x, .bool nl, .bool canon] w (LawTrue w) := by
  have HAW := hide' (fun w => awake_walk HI w)
  have HS := hide' (Stay.refl (fun _ => False) w)
  clear HI
  by_cases h97 : c < 97
  · skip
    clear h
    go_enter Try.func4, Try.ntmps4
    go_wp2_with fail
    refine (HAW.out _).mono ?_
    rintro e w1 ⟨rfl, hs⟩
    have HS1 := hide' (HS.out.trans hs)
    clear hs
    go_wp2
    go_ret
    exact ⟨by simp, HS1.out⟩
  · have h122 : 122 < c := by omega
    clear h
    go_enter Try.func4, Try.ntmps4
    go_wp2_with fail
    refine (HAW.out _).mono ?_
    rintro e w1 ⟨rfl, hs⟩
    have HS1 := hide' (HS.out.trans hs)
    clear hs
    go_wp2
    go_ret
    exact ⟨by simp, HS1.out⟩

set_option maxRecDepth 100000 in
set_option maxHeartbeats 2000000 in
theorem long_walk (HI : Impl At) (c x : Int) (nl canon : Bool) (w : World) (h97 : ¬ c < 97) (h122 : ¬ 122 < c) (hx0 : 0 ≤ x) (hx1 : x < 256) : Calls Try.prog 4 #[.int .u8 c, .int .u8 x, .bool nl, .bool canon] w (LawTrue w) := by
  have HIM := hide' HI
  have HAW := hide' (fun w => awake_walk HI w)
  have HPL := hide' L17.plain26
  have hw : wrap64 x = x := by unfold wrap64; omega
  have htm : x.tmod 20 = x % 20 := Int.tmod_eq_emod_of_nonneg hx0
  obtain ⟨T, hT⟩ : ∃ T : Nat, (T : Int) = x % 20 := ⟨(x % 20).toNat, by omega⟩
  have hT19 : T ≤ 19 := by omega
  have htx : (wrap64 x).tmod 20 = (T : Int) := by rw [hw]; exact htm.trans hT.symm
  have HCB : Hid (97 ≤ c ∧ c ≤ 122) := ⟨by omega, by omega⟩
  obtain ⟨t, ht⟩ : ∃ t, t = plainT := ⟨_, rfl⟩
  have HT := hide' ht
  rw [← ht] at HPL
  have HBX := hide' (fun (w : World) => L17.TBox.new (w := w) t rfl)
  clear ht htm hT hx0 hx1 HI hw
  cases canon
  · go_enter Try.func4, Try.ntmps4
    go_wp2_with fail
    refine (HPL.out _).mono ?_
    rintro e w1 ⟨rfl, hs⟩
    have HS1 := hide' hs
    clear hs
    go_upto_region 4 with fail
    have HB2 := hide' (HBX.out w1)
    have HS2 := hide' (HS1.out.alloc (.cells #[.int .i64 t.fi, .int .i64 t.fo, .int .i64 t.fl, .int .i64 t.k0, .int .i64 t.k1, .int .i64 t.k2, .int .i64 t.k3, .int .i64 t.k4, .int .i64 t.k5, .int .i64 t.k6, .int .i64 t.k7, .int .i64 t.k8, .int .i64 t.k9, .int .i64 t.k10, .int .i64 t.k11, .int .i64 t.mn, .int .i64 t.ti] 24))
    have HLB : Hid (w.heap.size ≤ w1.heap.size) := HS1.out.size
    obtain ⟨b9, hb9⟩ : ∃ b, b = w1.heap.size := ⟨_, rfl⟩
    obtain ⟨w2, hw2⟩ : ∃ W, W = w1.alloc (.cells #[.int .i64 t.fi, .int .i64 t.fo, .int .i64 t.fl, .int .i64 t.k0, .int .i64 t.k1, .int .i64 t.k2, .int .i64 t.k3, .int .i64 t.k4, .int .i64 t.k5, .int .i64 t.k6, .int .i64 t.k7, .int .i64 t.k8, .int .i64 t.k9, .int .i64 t.k10, .int .i64 t.k11, .int .i64 t.mn, .int .i64 t.ti] 24) := ⟨_, rfl⟩
    rw [← hw2] at HB2 HS2 ⊢
    rw [← hb9] at HB2 HLB ⊢
    clear hw2 hb9 HS1 HBX
    obtain ⟨c0, c1, c2, c3, c4, c5, c6, c7, c8, c9, c10, c11, c12, c13, c14, c15, c16, f0, f1, f2, f3, f4, f5, f6, f7, f8, f9, f10, f11, f12, f13, f14, f15, f16⟩ := HB2.out
    go_upto_region 6 with fail
    have HB3 : Hid (L17.TBox (w2.setCell ⟨b9, 2, none⟩ (.int .i64 0)) b9 (pl 0)) := HB2.out.put2 (by rw [HT.out]; rfl)
    have HS3 : Hid (Stay (fun _ => False) w (w2.setCell ⟨b9, 2, none⟩ (.int .i64 0))) := HS2.out.setNew HLB.out _
    obtain ⟨w3, hw3⟩ : ∃ W, W = w2.setCell ⟨b9, 2, none⟩ (.int .i64 0) := ⟨_, rfl⟩
    rw [← hw3] at HB3 HS3 ⊢
    clear hw3 HB2 HS2 c0 c1 c2 c3 c4 c5 c6 c7 c8 c9 c10 c11 c12 c13 c14 c15 c16 f0 f1 f2 f3 f4 f5 f6 f7 f8 f9 f10 f11 f12 f13 f14 f15 f16
    have HNW := hide' (HIM.out.new (pl 0) w3 right_0)
    obtain ⟨tp, htp⟩ : ∃ t : Tm, t = pl 0 := ⟨_, rfl⟩
    have HTP := hide' htp
    rw [← htp] at HB3 HNW
    clear htp
    go_wp2_with (refine wpList_exec rfl (L17.run_load_TBox rfl rfl HB3.out) ?_)
    refine HNW.out.mono ?_
    rintro e w4 ⟨p, O, rfl, hat, hO, hs⟩
    have HA4 : Hid (At w4 p O (pw [] [])) := by rw [HTP.out] at hat; exact hat
    have HF4 := hide' (From.made (HS3.out.trans hs) (fun k hk => Nat.le_trans HS3.out.size (hO k hk)))
    have HL4 : Hid (Lg false nl 0 0 0 (pw [] [])) := lg_start false nl
    obtain ⟨d0, hd0⟩ : ∃ d, d = pw [] [] := ⟨_, rfl⟩
    rw [← hd0] at HA4 HL4
    obtain ⟨A1, hA1⟩ : ∃ A, A = Value.agg #[.int .i64 t.fi, .int .i64 t.fo, .int .i64 t.fl, .int .i64 t.k0, .int .i64 t.k1, .int .i64 t.k2, .int .i64 t.k3, .int .i64 t.k4, .int .i64 t.k5, .int .i64 t.k6, .int .i64 t.k7, .int .i64 t.k8, .int .i64 t.k9, .int .i64 t.k10, .int .i64 t.k11, .int .i64 t.mn, .int .i64 t.ti] := ⟨_, rfl⟩
    obtain ⟨A2, hA2⟩ : ∃ A, A = Value.agg #[.int .i64 tp.fi, .int .i64 tp.fo, .int .i64 tp.fl, .int .i64 tp.k0, .int .i64 tp.k1, .int .i64 tp.k2, .int .i64 tp.k3, .int .i64 tp.k4, .int .i64 tp.k5, .int .i64 tp.k6, .int .i64 tp.k7, .int .i64 tp.k8, .int .i64 tp.k9, .int .i64 tp.k10, .int .i64 tp.k11, .int .i64 tp.mn, .int .i64 tp.ti] := ⟨_, rfl⟩
    rw [← hA1, ← hA2]
    clear hA1 hA2
    clear hat hO hs HNW HPL HB3 HS3 HTP HLB hd0
    go_wp2
    go_loopg [11, 12] T (fun gg v11 v12 wr => ∃ i R : Nat, i ≤ T ∧ gg = T - i ∧ v11 = .int .i64 (R : Int) ∧ v12 = .int .i64 (i : Int) ∧ R ≤ 6000 ∧ ∃ (d : DS) (O' : Nat → Prop), Hid (At wr p O' d ∧ From w (fun _ => False) wr O' ∧ Lg false nl i 0 R d))
    case atStart => exact ⟨0, 0, Nat.zero_le _, rfl, rfl, rfl, by omega, d0, O, HA4.out, HF4.out, HL4.out⟩
    case round =>
      clear HA4 HF4 HL4
      obtain ⟨i, R, hi, rfl, rfl, rfl, hR, d, O', HRL⟩ := hrel
      obtain ⟨w5, hw5⟩ : ∃ W, W = wr := ⟨_, rfl⟩
      rw [← hw5] at HRL ⊢
      clear hw5
      by_cases hlt : i < T
      · have kn : decide ((i : Int) < T) = true := by simp; omega
        have kn2 : (i : Int) < T := by omega
        go_wp2
        go_loopg [11, 13] 300 (fun gg v11 v13 wr => ∃ k R : Nat, k ≤ 300 ∧ gg = 300 - k ∧ v11 = .int .i64 (R : Int) ∧ v13 = .int .i64 (k : Int) ∧ R ≤ 6000 ∧ ∃ (d : DS) (O' : Nat → Prop), Hid (At wr p O' d ∧ From w (fun _ => False) wr O' ∧ Lg false nl i k R d))
        case atStart => exact ⟨0, R, Nat.zero_le _, rfl, rfl, rfl, hR, d, O', HRL.out⟩
        case round =>
          clear HRL hR
          obtain ⟨k, R, hk, rfl, rfl, rfl, hR, d, O', HRL⟩ := hrel
          obtain ⟨w6, hw6⟩ : ∃ W, W = wr := ⟨_, rfl⟩
          rw [← hw6] at HRL ⊢
          clear hw6
          have hi50 : i ≤ 50000 := by omega
          by_cases hk3 : k < 300
          · have kk : decide ((k : Int) < 300) = true := by simp; omega
            have kk2 : (k : Int) < 300 := by omega
            have HRB : Hid (R + 1 ≤ 6000) := by have := HRL.out.2.2.1; show _ ≤ _; omega
            go_wp2_with fail
            refine (HIM.out.input c HRL.out.1 (lg_ok0 HRL.out.2.2) hi50 (by have := HCB.out.1; omega) (by have := HCB.out.2; omega)).mono ?_
            rintro e w7 ⟨v7, O2, rfl, hbe, hat, hs, hg⟩
            have HA7 := hide' (HIM.out.noEc [] hat)
            have HF7 := hide' (HRL.out.2.1.step hs hg)
            have hty := lg_type HRL.out.2.2 c HCB.out.1 HCB.out.2
            obtain ⟨D, hD⟩ : ∃ D, D = (d.input c).1.setEc [] := ⟨_, rfl⟩
            obtain ⟨E, hE⟩ : ∃ E, E = (d.input c).1.ec := ⟨_, rfl⟩
            rw [← hD, ← hE] at hty
            rw [← hD] at HA7
            rw [← hE] at hbe
            obtain ⟨n7, hn7⟩ : ∃ n, n = (d.input c).2 := ⟨_, rfl⟩
            rw [← hn7]
            clear hat hs hg hn7 hD hE HRL
            obtain ⟨a7, c7, hI⟩ := hbe
            rcases hty with ⟨rfl, hL⟩ | ⟨rfl | rfl, hL⟩
            · obtain ⟨g7, o7, rfl, _, hin⟩ := hI.cells (by simp)
              have hcell : w7.cell? ⟨g7, o7, none⟩ = some (.int .u8 7) := hin 0 (by simp)
              have hsh : v7 = .slice (some ⟨g7, o7, none⟩) 1 c7 := hI.shape
              have HL := hide' hL
              skip
              skip
              subst hsh
              clear hI hL hin
              go_wp2
              go_roundg (300 - (k + 1))
              case measure => omega
              case rel => exact ⟨k + 1, R + 1, by omega, rfl, by go_num, by go_num, HRB.out, D, O2, HA7.out, HF7.out, HL.out⟩
            · obtain ⟨g7, o7, rfl, _, hin⟩ := hI.cells (by simp)
              have hcell : w7.cell? ⟨g7, o7, none⟩ = some (.int .u8 c) := hin 0 (by simp)
              have hsh : v7 = .slice (some ⟨g7, o7, none⟩) 1 c7 := hI.shape
              have HL := hide' hL
              have hne : ((c : Int) == 7) = false := by simp; have := HCB.out.1; omega
              have hne2 : ¬ c = 7 := by have := HCB.out.1; omega
              subst hsh
              clear hI hL hin
              go_wp2
              go_roundg (300 - (k + 1))
              case measure => omega
              case rel => exact ⟨k + 1, R, by omega, rfl, by go_num, by go_num, hR, D, O2, HA7.out, HF7.out, HL.out⟩
            · have hsh : v7 = .slice a7 0 c7 := hI.shape
              have HL := hide' hL
              subst hsh
              clear hI hL
              go_wp2
              go_roundg (300 - (k + 1))
              case measure => omega
              case rel => exact ⟨k + 1, R, by omega, rfl, by go_num, by go_num, hR, D, O2, HA7.out, HF7.out, HL.out⟩
          · have kk : decide ((k : Int) < 300) = false := by simp; omega
            have ek : k = 300 := by omega
            have HRL : Hid (At w6 p O' d ∧ From w (fun _ => False) w6 O' ∧ Lg false nl i 300 R d) := by have h := HRL.out; rw [ek] at h; exact h
            clear ek
            cases nl
            · have HA7 := hide' HRL.out.1
              have HF7 := hide' HRL.out.2.1
              have HL7 := hide' (lg_next HRL.out.2.2)
              clear HRL
              have k254 : decide ((254 : Int) < (d.line.length : Int)) = false := by have := (lg_line HL7.out).1; simp; omega
              have k1024 : decide ((1024 : Int) < (d.cnt : Int)) = false := by have := (lg_line HL7.out).2.1; simp; omega
              have hi51 : i + 1 ≤ 50000 := by omega
              obtain ⟨ln, hln⟩ : ∃ n : Nat, n = d.line.length := ⟨_, rfl⟩
              obtain ⟨cn, hcn⟩ : ∃ n : Nat, n = d.cnt := ⟨_, rfl⟩
              rw [← hln] at k254
              rw [← hcn] at k1024
              have HLN := hide' hln
              have HCN := hide' hcn
              clear hln hcn
              go_wp2_with fail
              refine (HIM.out.line HA7.out (lg_ok0 HL7.out) hi51).mono ?_
              rintro e w8 ⟨v8, a8, c8, rfl, hl8, _, hs⟩
              have hsh : v8 = .slice a8 d.line.length c8 := hl8.shape
              rw [← HLN.out] at hsh
              subst hsh
              have HA8 := hide' (HIM.out.keep HA7.out hs (fun _ h => h.elim))
              have HF8 := hide' (HF7.out.calm hs)
              clear hl8 hs HA7 HF7
              go_wp2_with fail
              refine (HIM.out.ready HA8.out (lg_ok0 HL7.out) hi51).mono ?_
              rintro e w9 ⟨rfl, hs⟩
              rw [← HCN.out]
              have HA9 := hide' (HIM.out.keep HA8.out hs (fun _ h => h.elim))
              have HF9 := hide' (HF8.out.calm hs)
              clear hs HA8 HF8 HLN HCN
              go_wp2
              go_roundg (T - (i + 1))
              case measure => omega
              case rel => exact ⟨i + 1, R, by omega, rfl, rfl, by go_num, hR, d, _, HA9.out, HF9.out, HL7.out⟩
            · go_wp2_with fail
              refine (HIM.out.input 10 HRL.out.1 (lg_ok0 HRL.out.2.2) hi50 (by decide) (by decide)).mono ?_
              rintro e w7 ⟨v7, O2, rfl, hbe, hat, hs, hg⟩
              have HA7 := hide' (HIM.out.noEc [] hat)
              have HF7 := hide' (HRL.out.2.1.step hs hg)
              have HL7 := hide' (lg_nl HRL.out.2.2)
              obtain ⟨D, hD⟩ : ∃ D, D = (d.input 10).1.setEc [] := ⟨_, rfl⟩
              obtain ⟨n7, hn7⟩ : ∃ n, n = (d.input 10).2 := ⟨_, rfl⟩
              rw [← hD] at HA7 HL7
              rw [← hn7]
              clear hbe hat hs hg hn7 hD HRL
              have k254 : decide ((254 : Int) < (D.line.length : Int)) = false := by have := (lg_line HL7.out).1; simp; omega
              have k1024 : decide ((1024 : Int) < (D.cnt : Int)) = false := by have := (lg_line HL7.out).2.1; simp; omega
              have hi51 : i + 1 ≤ 50000 := by omega
              obtain ⟨ln, hln⟩ : ∃ n : Nat, n = D.line.length := ⟨_, rfl⟩
              obtain ⟨cn, hcn⟩ : ∃ n : Nat, n = D.cnt := ⟨_, rfl⟩
              rw [← hln] at k254
              rw [← hcn] at k1024
              have HLN := hide' hln
              have HCN := hide' hcn
              clear hln hcn
              go_wp2_with fail
              refine (HIM.out.line HA7.out (lg_ok0 HL7.out) hi51).mono ?_
              rintro e w8 ⟨v8, a8, c8, rfl, hl8, _, hs⟩
              have hsh : v8 = .slice a8 D.line.length c8 := hl8.shape
              rw [← HLN.out] at hsh
              subst hsh
              have HA8 := hide' (HIM.out.keep HA7.out hs (fun _ h => h.elim))
              have HF8 := hide' (HF7.out.calm hs)
              clear hl8 hs HA7 HF7
              go_wp2_with fail
              refine (HIM.out.ready HA8.out (lg_ok0 HL7.out) hi51).mono ?_
              rintro e w9 ⟨rfl, hs⟩
              rw [← HCN.out]
              have HA9 := hide' (HIM.out.keep HA8.out hs (fun _ h => h.elim))
              have HF9 := hide' (HF8.out.calm hs)
              clear hs HA8 HF8 HLN HCN
              go_wp2
              go_roundg (T - (i + 1))
              case measure => omega
              case rel => exact ⟨i + 1, R, by omega, rfl, rfl, by go_num, hR, D, _, HA9.out, HF9.out, HL7.out⟩
      · have kn : decide ((i : Int) < T) = false := by simp; omega
        have hiT : i = T := by omega
        have HRL : Hid (At w5 p O' d ∧ From w (fun _ => False) w5 O' ∧ Lg false nl T 0 R d) := by have h := HRL.out; rw [hiT] at h; exact h
        clear hi hiT
        have hT5 : T ≤ 50000 := by omega
        have HCT := hide' ((lg_line HRL.out.2.2).2.2 rfl)
        have HON := hide' (one_walk nl)
        have ho1 : o1 nl ≤ 1 := by cases nl <;> decide
        obtain ⟨z, hz⟩ : ∃ z : Int, z = T := ⟨_, rfl⟩
        obtain ⟨oz, hoz⟩ : ∃ z : Int, z = (o1 nl : Nat) := ⟨_, rfl⟩
        obtain ⟨bz, hbz⟩ : ∃ y : Int, y = z * oz := ⟨_, rfl⟩
        obtain ⟨cz, hcz⟩ : ∃ z : Int, z = (d.cnt : Nat) := ⟨_, rfl⟩
        have hmf := min_fact T (o1 nl) d.cnt hT19 ho1 HCT.out z oz bz cz hz hoz hbz hcz
        have htz : (wrap64 x).tmod 20 = z := by rw [hz]; exact htx
        have kn3 : decide ((i : Int) < z) = false := by rw [hz]; exact kn
        have HEQ := hide' hmf.2
        have hm2 := hmf.1
        rw [← hoz] at HON
        have HCZ := hide' hcz
        clear hmf hz hoz hbz hcz htx HCT ho1 kn
        go_wp2_with fail
        refine (HIM.out.ready HRL.out.1 (lg_ok0 HRL.out.2.2) hT5).mono ?_
        rintro e w6 ⟨rfl, hs⟩
        rw [← HCZ.out]
        have HF6 := hide' (HRL.out.2.1.calm hs)
        clear hs HCZ HRL
        go_wp2_with fail
        refine (HON.out _).mono ?_
        rintro e w7 ⟨rfl, hs⟩
        have HF7 := hide' (HF6.out.calm hs)
        clear hs HF6
        go_wp2_with fail
        all_goals try (exfalso; have hq := HEQ.out; contradiction)
        refine (HAW.out _).mono ?_
        rintro e w8 ⟨rfl, hs⟩
        have HS8 := hide' (HF7.out.stay.trans hs)
        clear hs
        go_wp2
        go_ret
        exact ⟨by simp, HS8.out⟩
  · go_enter Try.func4, Try.ntmps4
    go_wp2_with fail
    refine (HPL.out _).mono ?_
    rintro e w1 ⟨rfl, hs⟩
    have HS1 := hide' hs
    clear hs
    go_upto_region 4 with fail
    have HB2 := hide' (HBX.out w1)
    have HS2 := hide' (HS1.out.alloc (.cells #[.int .i64 t.fi, .int .i64 t.fo, .int .i64 t.fl, .int .i64 t.k0, .int .i64 t.k1, .int .i64 t.k2, .int .i64 t.k3, .int .i64 t.k4, .int .i64 t.k5, .int .i64 t.k6, .int .i64 t.k7, .int .i64 t.k8, .int .i64 t.k9, .int .i64 t.k10, .int .i64 t.k11, .int .i64 t.mn, .int .i64 t.ti] 24))
    have HLB : Hid (w.heap.size ≤ w1.heap.size) := HS1.out.size
    obtain ⟨b9, hb9⟩ : ∃ b, b = w1.heap.size := ⟨_, rfl⟩
    obtain ⟨w2, hw2⟩ : ∃ W, W = w1.alloc (.cells #[.int .i64 t.fi, .int .i64 t.fo, .int .i64 t.fl, .int .i64 t.k0, .int .i64 t.k1, .int .i64 t.k2, .int .i64 t.k3, .int .i64 t.k4, .int .i64 t.k5, .int .i64 t.k6, .int .i64 t.k7, .int .i64 t.k8, .int .i64 t.k9, .int .i64 t.k10, .int .i64 t.k11, .int .i64 t.mn, .int .i64 t.ti] 24) := ⟨_, rfl⟩
    rw [← hw2] at HB2 HS2 ⊢
    rw [← hb9] at HB2 HLB ⊢
    clear hw2 hb9 HS1 HBX
    have HB3 : Hid (L17.TBox w2 b9 (pl 623)) := by have h := HB2.out; rw [HT.out] at h; exact h
    have HS3 := hide' HS2.out
    obtain ⟨w3, hw3⟩ : ∃ W, W = w2 := ⟨_, rfl⟩
    rw [← hw3] at HB3 HS3 ⊢
    clear hw3 HB2 HS2
    have HNW := hide' (HIM.out.new (pl 623) w3 right_623)
    obtain ⟨tp, htp⟩ : ∃ t : Tm, t = pl 623 := ⟨_, rfl⟩
    have HTP := hide' htp
    rw [← htp] at HB3 HNW
    clear htp
    go_wp2_with (refine wpList_exec rfl (L17.run_load_TBox rfl rfl HB3.out) ?_)
    refine HNW.out.mono ?_
    rintro e w4 ⟨p, O, rfl, hat, hO, hs⟩
    have HA4 : Hid (At w4 p O (pd 623 [] [] false [])) := by rw [HTP.out] at hat; exact hat
    have HF4 := hide' (From.made (HS3.out.trans hs) (fun k hk => Nat.le_trans HS3.out.size (hO k hk)))
    have HL4 : Hid (Lg true nl 0 0 0 (pd 623 [] [] false [])) := lg_start true nl
    obtain ⟨d0, hd0⟩ : ∃ d, d = pd 623 [] [] false [] := ⟨_, rfl⟩
    rw [← hd0] at HA4 HL4
    obtain ⟨A1, hA1⟩ : ∃ A, A = Value.agg #[.int .i64 t.fi, .int .i64 t.fo, .int .i64 t.fl, .int .i64 t.k0, .int .i64 t.k1, .int .i64 t.k2, .int .i64 t.k3, .int .i64 t.k4, .int .i64 t.k5, .int .i64 t.k6, .int .i64 t.k7, .int .i64 t.k8, .int .i64 t.k9, .int .i64 t.k10, .int .i64 t.k11, .int .i64 t.mn, .int .i64 t.ti] := ⟨_, rfl⟩
    obtain ⟨A2, hA2⟩ : ∃ A, A = Value.agg #[.int .i64 tp.fi, .int .i64 tp.fo, .int .i64 tp.fl, .int .i64 tp.k0, .int .i64 tp.k1, .int .i64 tp.k2, .int .i64 tp.k3, .int .i64 tp.k4, .int .i64 tp.k5, .int .i64 tp.k6, .int .i64 tp.k7, .int .i64 tp.k8, .int .i64 tp.k9, .int .i64 tp.k10, .int .i64 tp.k11, .int .i64 tp.mn, .int .i64 tp.ti] := ⟨_, rfl⟩
    rw [← hA1, ← hA2]
    clear hA1 hA2
    clear hat hO hs HNW HPL HB3 HS3 HTP HLB hd0
    go_wp2
    go_loopg [11, 12] T (fun gg v11 v12 wr => ∃ i R : Nat, i ≤ T ∧ gg = T - i ∧ v11 = .int .i64 (R : Int) ∧ v12 = .int .i64 (i : Int) ∧ R ≤ 6000 ∧ ∃ (d : DS) (O' : Nat → Prop), Hid (At wr p O' d ∧ From w (fun _ => False) wr O' ∧ Lg true nl i 0 R d))
    case atStart => exact ⟨0, 0, Nat.zero_le _, rfl, rfl, rfl, by omega, d0, O, HA4.out, HF4.out, HL4.out⟩
    case round =>
      clear HA4 HF4 HL4
      obtain ⟨i, R, hi, rfl, rfl, rfl, hR, d, O', HRL⟩ := hrel
      obtain ⟨w5, hw5⟩ : ∃ W, W = wr := ⟨_, rfl⟩
      rw [← hw5] at HRL ⊢
      clear hw5
      by_cases hlt : i < T
      · have kn : decide ((i : Int) < T) = true := by simp; omega
        have kn2 : (i : Int) < T := by omega
        go_wp2
        go_loopg [11, 13] 300 (fun gg v11 v13 wr => ∃ k R : Nat, k ≤ 300 ∧ gg = 300 - k ∧ v11 = .int .i64 (R : Int) ∧ v13 = .int .i64 (k : Int) ∧ R ≤ 6000 ∧ ∃ (d : DS) (O' : Nat → Prop), Hid (At wr p O' d ∧ From w (fun _ => False) wr O' ∧ Lg true nl i k R d))
        case atStart => exact ⟨0, R, Nat.zero_le _, rfl, rfl, rfl, hR, d, O', HRL.out⟩
        case round =>
          clear HRL hR
          obtain ⟨k, R, hk, rfl, rfl, rfl, hR, d, O', HRL⟩ := hrel
          obtain ⟨w6, hw6⟩ : ∃ W, W = wr := ⟨_, rfl⟩
          rw [← hw6] at HRL ⊢
          clear hw6
          have hi50 : i ≤ 50000 := by omega
          by_cases hk3 : k < 300
          · have kk : decide ((k : Int) < 300) = true := by simp; omega
            have kk2 : (k : Int) < 300 := by omega
            have HRB : Hid (R + 1 ≤ 6000) := by have := HRL.out.2.2.1; show _ ≤ _; omega
            go_wp2_with fail
            refine (HIM.out.input c HRL.out.1 (lg_ok0 HRL.out.2.2) hi50 (by have := HCB.out.1; omega) (by have := HCB.out.2; omega)).mono ?_
            rintro e w7 ⟨v7, O2, rfl, hbe, hat, hs, hg⟩
            have HA7 := hide' (HIM.out.noEc [] hat)
            have HF7 := hide' (HRL.out.2.1.step hs hg)
            have hty := lg_type HRL.out.2.2 c HCB.out.1 HCB.out.2
            obtain ⟨D, hD⟩ : ∃ D, D = (d.input c).1.setEc [] := ⟨_, rfl⟩
            obtain ⟨E, hE⟩ : ∃ E, E = (d.input c).1.ec := ⟨_, rfl⟩
            rw [← hD, ← hE] at hty
            rw [← hD] at HA7
            rw [← hE] at hbe
            obtain ⟨n7, hn7⟩ : ∃ n, n = (d.input c).2 := ⟨_, rfl⟩
            rw [← hn7]
            clear hat hs hg hn7 hD hE HRL
            obtain ⟨a7, c7, hI⟩ := hbe
            rcases hty with ⟨rfl, hL⟩ | ⟨rfl | rfl, hL⟩
            · obtain ⟨g7, o7, rfl, _, hin⟩ := hI.cells (by simp)
              have hcell : w7.cell? ⟨g7, o7, none⟩ = some (.int .u8 7) := hin 0 (by simp)
              have hsh : v7 = .slice (some ⟨g7, o7, none⟩) 1 c7 := hI.shape
              have HL := hide' hL
              skip
              skip
              subst hsh
              clear hI hL hin
              go_wp2
              go_roundg (300 - (k + 1))
              case measure => omega
              case rel => exact ⟨k + 1, R + 1, by omega, rfl, by go_num, by go_num, HRB.out, D, O2, HA7.out, HF7.out, HL.out⟩
            · obtain ⟨g7, o7, rfl, _, hin⟩ := hI.cells (by simp)
              have hcell : w7.cell? ⟨g7, o7, none⟩ = some (.int .u8 c) := hin 0 (by simp)
              have hsh : v7 = .slice (some ⟨g7, o7, none⟩) 1 c7 := hI.shape
              have HL := hide' hL
              have hne : ((c : Int) == 7) = false := by simp; have := HCB.out.1; omega
              have hne2 : ¬ c = 7 := by have := HCB.out.1; omega
              subst hsh
              clear hI hL hin
              go_wp2
              go_roundg (300 - (k + 1))
              case measure => omega
              case rel => exact ⟨k + 1, R, by omega, rfl, by go_num, by go_num, hR, D, O2, HA7.out, HF7.out, HL.out⟩
            · have hsh : v7 = .slice a7 0 c7 := hI.shape
              have HL := hide' hL
              subst hsh
              clear hI hL
              go_wp2
              go_roundg (300 - (k + 1))
              case measure => omega
              case rel => exact ⟨k + 1, R, by omega, rfl, by go_num, by go_num, hR, D, O2, HA7.out, HF7.out, HL.out⟩
          · have kk : decide ((k : Int) < 300) = false := by simp; omega
            have ek : k = 300 := by omega
            have HRL : Hid (At w6 p O' d ∧ From w (fun _ => False) w6 O' ∧ Lg true nl i 300 R d) := by have h := HRL.out; rw [ek] at h; exact h
            clear ek
            cases nl
            · have HA7 := hide' HRL.out.1
              have HF7 := hide' HRL.out.2.1
              have HL7 := hide' (lg_next HRL.out.2.2)
              clear HRL
              have k254 : decide ((254 : Int) < (d.line.length : Int)) = false := by have := (lg_line HL7.out).1; simp; omega
              have k1024 : decide ((1024 : Int) < (d.cnt : Int)) = false := by have := (lg_line HL7.out).2.1; simp; omega
              have hi51 : i + 1 ≤ 50000 := by omega
              obtain ⟨ln, hln⟩ : ∃ n : Nat, n = d.line.length := ⟨_, rfl⟩
              obtain ⟨cn, hcn⟩ : ∃ n : Nat, n = d.cnt := ⟨_, rfl⟩
              rw [← hln] at k254
              rw [← hcn] at k1024
              have HLN := hide' hln
              have HCN := hide' hcn
              clear hln hcn
              go_wp2_with fail
              refine (HIM.out.line HA7.out (lg_ok0 HL7.out) hi51).mono ?_
              rintro e w8 ⟨v8, a8, c8, rfl, hl8, _, hs⟩
              have hsh : v8 = .slice a8 d.line.length c8 := hl8.shape
              rw [← HLN.out] at hsh
              subst hsh
              have HA8 := hide' (HIM.out.keep HA7.out hs (fun _ h => h.elim))
              have HF8 := hide' (HF7.out.calm hs)
              clear hl8 hs HA7 HF7
              go_wp2_with fail
              refine (HIM.out.ready HA8.out (lg_ok0 HL7.out) hi51).mono ?_
              rintro e w9 ⟨rfl, hs⟩
              rw [← HCN.out]
              have HA9 := hide' (HIM.out.keep HA8.out hs (fun _ h => h.elim))
              have HF9 := hide' (HF8.out.calm hs)
              clear hs HA8 HF8 HLN HCN
              go_wp2
              go_roundg (T - (i + 1))
              case measure => omega
              case rel => exact ⟨i + 1, R, by omega, rfl, rfl, by go_num, hR, d, _, HA9.out, HF9.out, HL7.out⟩
            · go_wp2_with fail
              refine (HIM.out.input 10 HRL.out.1 (lg_ok0 HRL.out.2.2) hi50 (by decide) (by decide)).mono ?_
              rintro e w7 ⟨v7, O2, rfl, hbe, hat, hs, hg⟩
              have HA7 := hide' (HIM.out.noEc [] hat)
              have HF7 := hide' (HRL.out.2.1.step hs hg)
              have HL7 := hide' (lg_nl HRL.out.2.2)
              obtain ⟨D, hD⟩ : ∃ D, D = (d.input 10).1.setEc [] := ⟨_, rfl⟩
              obtain ⟨n7, hn7⟩ : ∃ n, n = (d.input 10).2 := ⟨_, rfl⟩
              rw [← hD] at HA7 HL7
              rw [← hn7]
              clear hbe hat hs hg hn7 hD HRL
              have k254 : decide ((254 : Int) < (D.line.length : Int)) = false := by have := (lg_line HL7.out).1; simp; omega
              have k1024 : decide ((1024 : Int) < (D.cnt : Int)) = false := by have := (lg_line HL7.out).2.1; simp; omega
              have hi51 : i + 1 ≤ 50000 := by omega
              obtain ⟨ln, hln⟩ : ∃ n : Nat, n = D.line.length := ⟨_, rfl⟩
              obtain ⟨cn, hcn⟩ : ∃ n : Nat, n = D.cnt := ⟨_, rfl⟩
              rw [← hln] at k254
              rw [← hcn] at k1024
              have HLN := hide' hln
              have HCN := hide' hcn
              clear hln hcn
              go_wp2_with fail
              refine (HIM.out.line HA7.out (lg_ok0 HL7.out) hi51).mono ?_
              rintro e w8 ⟨v8, a8, c8, rfl, hl8, _, hs⟩
              have hsh : v8 = .slice a8 D.line.length c8 := hl8.shape
              rw [← HLN.out] at hsh
              subst hsh
              have HA8 := hide' (HIM.out.keep HA7.out hs (fun _ h => h.elim))
              have HF8 := hide' (HF7.out.calm hs)
              clear hl8 hs HA7 HF7
              go_wp2_with fail
              refine (HIM.out.ready HA8.out (lg_ok0 HL7.out) hi51).mono ?_
              rintro e w9 ⟨rfl, hs⟩
              rw [← HCN.out]
              have HA9 := hide' (HIM.out.keep HA8.out hs (fun _ h => h.elim))
              have HF9 := hide' (HF8.out.calm hs)
              clear hs HA8 HF8 HLN HCN
              go_wp2
              go_roundg (T - (i + 1))
              case measure => omega
              case rel => exact ⟨i + 1, R, by omega, rfl, rfl, by go_num, hR, D, _, HA9.out, HF9.out, HL7.out⟩
      · have kn : decide ((i : Int) < T) = false := by simp; omega
        have hiT : i = T := by omega
        have HRL : Hid (At w5 p O' d ∧ From w (fun _ => False) w5 O' ∧ Lg true nl T 0 R d) := by have h := HRL.out; rw [hiT] at h; exact h
        clear hi hiT
        have HEND : Hid (T = 0 ∨ 1 ≤ R) := by
          by_cases h : T = 0
          · exact .inl h
          · exact .inr (lg_rings HRL.out.2.2 (by omega))
        by_cases hT0 : T = 0
        · have kt : ((T : Int) == 0) = true := by simp; omega
          go_wp2_with fail
          refine (HAW.out _).mono ?_
          rintro e w8 ⟨rfl, hs⟩
          have HS8 := hide' (HRL.out.2.1.stay.trans hs)
          clear hs
          go_wp2
          go_ret
          exact ⟨by simp, HS8.out⟩
        · have kt : ((T : Int) == 0) = false := by simp; omega
          have kr : decide ((0 : Int) < (R : Int)) = true := by have := HEND.out; simp; omega
          have kr2 : 0 < R := by have := HEND.out; omega
          go_wp2_with fail
          refine (HAW.out _).mono ?_
          rintro e w8 ⟨rfl, hs⟩
          have HS8 := hide' (HRL.out.2.1.stay.trans hs)
          clear hs
          go_wp2
          go_ret
          exact ⟨by simp, HS8.out⟩
end

end Go.Proofs.Ytkggmjjjopfdbaa
