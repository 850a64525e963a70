/-
  UartOrder walked: true of any arguments. No conditions.
-/
import Derived.Test.YtffdkkbinkonbaaE2
namespace Go.Proofs.Ytffdkkbinkonbaa
open Go.RowKit

attribute [local go_sem] extract0 extract1

theorem tmod_20 (x : Nat) : ((x : Nat) : Int).tmod 20 = ((x % 20 : Nat) : Int) := by
  rw [Int.tmod_eq_emod_of_nonneg (by omega)]; rfl

set_option maxRecDepth 100000 in
theorem order_long1 (ab ar : Option Addr) (n1 c1 n2 c2 : Nat) (x : Int) (w : World) (hle : (n1 : Int) ≤ 9223372036854775807) (hn : 60 < n1) : Calls Try.prog 4 #[.int .u8 x, .slice ab n1 c1, .slice ar n2 c2] w (LawTrue w) := by
  have i1 : (60 : Int) < (n1 : Nat) := by omega
  have HAW := hide' awake6
  go_enter Try.func4, Try.ntmps4
  go_wp2_with fail
  refine (HAW.out _).mono ?_
  rintro e w9 ⟨rfl, hs⟩
  have HE := hide' hs
  clear hs
  go_wp2
  go_ret
  exact ⟨rfl, HE.out⟩

set_option maxRecDepth 100000 in
theorem order_long2 (ab ar : Option Addr) (n1 c1 n2 c2 : Nat) (x : Int) (w : World) (hle : (n2 : Int) ≤ 9223372036854775807) (hn1 : n1 ≤ 60) (hn : 60 < n2) : Calls Try.prog 4 #[.int .u8 x, .slice ab n1 c1, .slice ar n2 c2] w (LawTrue w) := by
  have i0 : ¬ (60 : Int) < (n1 : Nat) := by omega
  have i1 : (60 : Int) < (n2 : Nat) := by omega
  have HAW := hide' awake6
  go_enter Try.func4, Try.ntmps4
  go_wp2_with fail
  refine (HAW.out _).mono ?_
  rintro e w9 ⟨rfl, hs⟩
  have HE := hide' hs
  clear hs
  go_wp2
  go_ret
  exact ⟨rfl, HE.out⟩

theorem bos_one (L : List Bool) : ∀ u ∈ bos L, u.oneCell' = true := by
  intro u hu
  obtain ⟨z, _, rfl⟩ := List.mem_map.1 hu
  rfl

set_option maxRecDepth 100000 in
set_option maxHeartbeats 4000000 in
theorem order_go (ab ar : Option Addr) (n c1 m c2 : Nat) (B : List Int) (R : Nat → Bool) (xr0 : Nat) (w : World) (hB : IArg .u8 w (.slice ab n c1) B ab c1) (hl1 : B.length = n) (hR : ∀ i, i < m → ∃ b o, ar = some ⟨b, o, none⟩ ∧ w.cell? ⟨b, o + i, none⟩ = some (.bool (R i))) (hn : n ≤ 60) (hm : m ≤ 60) (hx : xr0 < 256) : Calls Try.prog 4 #[.int .u8 (xr0 : Nat), .slice ab n c1, .slice ar m c2] w (LawTrue w) := by
  have HB := hide' hB
  have HR := hide' hR
  have HAW := hide' awake6
  have HBL := hide' hl1
  have i1 : ¬ (60 : Int) < (n : Nat) := by omega
  have i2 : ¬ (60 : Int) < (m : Nat) := by omega
  have xw : IntKind.i64.wrap (xr0 : Int) = xr0 := by rw [IntKind.wrap_i64]; omega
  have xt := tmod_20 xr0
  obtain ⟨xr, hxr⟩ : ∃ n, n = xr0 % 20 := ⟨_, rfl⟩
  rw [← hxr] at xt
  have g3 : IntKind.i64.wrap (xr : Int) = xr := by rw [IntKind.wrap_i64]; omega
  obtain ⟨r, hr⟩ : ∃ n, n = 1 + xr := ⟨_, rfl⟩
  have g5 : IntKind.i64.wrap (1 + (xr : Int)) = (r : Nat) := by rw [IntKind.wrap_i64]; omega
  have HN := hide' (new_in (w0 := w) r (Stay.refl _ w) (by omega) (by omega))
  clear hB hR hl1 hxr hr
  go_enter Try.func4, Try.ntmps4
  go_wp2_with fail
  refine HN.out.mono ?_
  rintro e w1 ⟨q0, rfl, hi, hs⟩
  obtain ⟨b, hb⟩ : ∃ b, b = q0.b := ⟨_, rfl⟩
  rw [← hb] at hi
  rw [← hb]
  have HC0 : Hid (OG w b r false (wait [] 0) [] [] (.slice none 0 0) (.slice none 0 0) q0 w1) := ⟨hi, World.ownsRow_nil _ _ _ _, World.ownsRow_nil _ _ _ _, (fun j hj => by cases hj), (fun j hj => by cases hj), fun j hj => by cases hj⟩
  clear hb hi hs HN xw xt g3 g5
  go_wp2_with fail
  go_loopg [8, 9, 10, 11, 12] n (fun gg v8 v9 v10 v11 v12 wr => ∃ (i k : Nat) (g : Bool) (P : List (Int × Bool)), i ≤ n ∧ gg = n - i ∧ v10 = .bool g ∧ v11 = .int .i64 (k : Int) ∧ v12 = .int .i64 (i : Int) ∧ ∃ vi, vi = v8 ∧ ∃ vl, vl = v9 ∧ ∃ q, Hid (OG w b r g (wait P k) (P.map (·.1)) (P.map (·.2)) vi vl q wr ∧ k ≤ P.length ∧ P.length ≤ i))
  case atStart => exact ⟨0, 0, false, [], Nat.zero_le _, rfl, rfl, rfl, rfl, _, rfl, _, rfl, q0, HC0.out, Nat.le_refl _, Nat.le_refl _⟩
  case round =>
    clear HC0
    obtain ⟨i, k, g, P, hi, rfl, rfl, rfl, rfl, vi, rfl, vl, rfl, q, HC⟩ := hrel
    by_cases hlt : i < n
    · have kn : (i : Int) < (n : Nat) := by omega
      have hk60 : k ≤ 60 := by have h1 := HC.out.2.1; have h2 := HC.out.2.2; omega
      obtain ⟨bb, ob, rfl, _, hints⟩ := HB.out.cells (fun e => by have := HBL.out; rw [e] at this; simp at this; omega)
      obtain ⟨x, hx⟩ : ∃ x, x = B.getD i 0 := ⟨_, rfl⟩
      have HBC : Hid (w.cell? ⟨bb, ob + i, none⟩ = some (.int .u8 x)) := by rw [hx]; exact hints i (by rw [HBL.out]; exact hlt)
      have hbc0 := keep_cell HC.out.1.lin.stay HBC.out
      clear hints hx
      by_cases hm2 : i < m
      · obtain ⟨br, orr, rfl, hrc⟩ := HR.out i hm2
        have im : (i : Int) < (m : Nat) := by omega
        obtain ⟨z, hz⟩ : ∃ z, z = R i := ⟨_, rfl⟩
        rw [← hz] at hrc
        have HRC0 := hide' hrc
        clear hrc hz
        cases z
        · by_cases hlr : (wait P k).length < r
          · have HRC := hide' (receive_in x 0 true HC.out.1.lin (by rw [decide_eq_true hlr]))
            go_wp2_with fail
            refine HRC.out.mono ?_
            rintro e w1 ⟨q2, rfl, hl, hm⟩
            obtain ⟨P2, hP2⟩ : ∃ P2, P2 = P ++ [(x, g)] := ⟨_, rfl⟩
            have HG1 : Hid (OG w b r false (wait P2 k) (P.map (·.1)) (P.map (·.2)) vi vl q2 w1) := HC.out.1.move (by rw [hP2, wait_more _ _ _ _ HC.out.2.1]; exact hl) hm
            have HP2 : Hid (k ≤ P2.length ∧ P2.length ≤ i + 1) := by
              have h1 := HC.out.2.1
              have h2 := HC.out.2.2
              rw [hP2]
              exact ⟨by rw [List.length_append]; omega, by rw [List.length_append]; simp; omega⟩
            have HPL : Hid (P.length ≤ 60) := by have := HC.out.2.2; show P.length ≤ 60; omega
            have hbc1 := keep_cell HG1.out.lin.stay HBC.out
            have HPP := hide' hP2
            clear hl hm HRC HC hlr hP2 hbc0
            have HO1 : Hid ((w1.alloc (.cells #[.int .u8 x] 5)).ownsRow w.heap.size 5 1 vi (P.map (·.1)).length (bys (P.map (·.1)))) := own_newS HG1.out.oi _
            have HSR1 : Hid (IsRowS (w1.alloc (.cells #[.int .u8 x] 5)) 1 (.slice (some ⟨w1.heap.size, 0, none⟩) 1 1) 1 (bys [x])) := isRowS_new w1 #[.int .u8 x] 5 1 1 rfl
            have HN1 : Hid ((P.map (·.1)).length + 1 ≤ 1000000) := by have := HPL.out; show (P.map (·.1)).length + 1 ≤ 1000000; rw [List.length_map]; omega
            have HB1 : Hid (w.heap.size ≤ (w1.alloc (.cells #[.int .u8 x] 5)).heap.size) := (HG1.out.lin.stay.alloc _).size
            go_wp2_with (at_builtin; go_must (refine appS rfl _ _ 27 rfl Try.underlying27 info5 rfl (by decide) (by decide) HO1.out rfl HSR1.out rfl (bys_one _) HN1.out HB1.out ?_; intro u1 w3 ho hs hb; have HG3 := hide' ((HG1.out.keep ((Stay.refl _ _).alloc _)).appI ho hs hb); clear ho hs hb HG1 HO1 HSR1 HN1 HB1 hbc1; have HO3 : Hid ((w3.alloc (.cells #[.bool g] 4)).ownsRow w.heap.size 4 1 vl (P.map (·.2)).length (bos (P.map (·.2)))) := own_newS HG3.out.ol _; have HSR3 : Hid (IsRowS (w3.alloc (.cells #[.bool g] 4)) 1 (.slice (some ⟨w3.heap.size, 0, none⟩) 1 1) 1 (bos [g])) := isRowS_new w3 #[.bool g] 4 1 1 rfl; have HN3 : Hid ((P.map (·.2)).length + 1 ≤ 1000000) := (by have := HPL.out; show (P.map (·.2)).length + 1 ≤ 1000000; rw [List.length_map]; omega); have HB3 : Hid (w.heap.size ≤ (w3.alloc (.cells #[.bool g] 4)).heap.size) := (HG3.out.lin.stay.alloc _).size; go_wp2_with (at_builtin; go_must (refine appS rfl _ _ 45 rfl Try.underlying45 info4 rfl (by decide) (by decide) HO3.out rfl HSR3.out rfl (bos_one _) HN3.out HB3.out ?_; intro u2 w2 ho hs hb; have hg4 := (HG3.out.keep ((Stay.refl _ _).alloc _)).appZ ho hs hb; have HG : Hid (OG w b r false (wait P2 k) (P2.map (·.1)) (P2.map (·.2)) u1 u2 q2 w2) := (by rw [HPP.out, List.map_append, List.map_append]; rw [HPP.out] at hg4; exact hg4); clear ho hs hb hg4 HG3 HO3 HSR3 HN3 HB3 HPL HPP; have hrc2 := keep_cell HG.out.lin.stay HRC0.out))))
            go_roundg (n - (i + 1))
            case measure => omega
            case rel => exact ⟨i + 1, k, false, P2, by omega, rfl, rfl, by go_num, by go_num, _, rfl, _, rfl, q2, HG.out, HP2.out.1, HP2.out.2⟩
          · have HRC := hide' (receive_in x 0 false HC.out.1.lin (by rw [decide_eq_false hlr]))
            go_wp2_with fail
            refine HRC.out.mono ?_
            rintro e w1 ⟨q2, rfl, hl, hm⟩
            obtain ⟨P2, hP2⟩ : ∃ P2, P2 = P := ⟨_, rfl⟩
            rw [← hP2] at HC hl
            have HG : Hid (OG w b r true (wait P2 k) (P2.map (·.1)) (P2.map (·.2)) vi vl q2 w1) := HC.out.1.move hl hm
            have HP2 : Hid (k ≤ P2.length ∧ P2.length ≤ i + 1) := ⟨HC.out.2.1, by have := HC.out.2.2; omega⟩
            clear hl hm HRC HC hlr hP2 hbc0
            obtain ⟨u1, hu1⟩ : ∃ u, u = vi := ⟨_, rfl⟩
            obtain ⟨u2, hu2⟩ : ∃ u, u = vl := ⟨_, rfl⟩
            obtain ⟨w2, hw2⟩ : ∃ u, u = w1 := ⟨_, rfl⟩
            subst hu1 hu2 hw2
            have hrc2 := keep_cell HG.out.lin.stay HRC0.out
            go_wp2_with fail
            go_roundg (n - (i + 1))
            case measure => omega
            case rel => exact ⟨i + 1, k, true, P2, by omega, rfl, rfl, by go_num, by go_num, _, rfl, _, rfl, q2, HG.out, HP2.out.1, HP2.out.2⟩
        · by_cases hlr : (wait P k).length < r
          · have HRC := hide' (receive_in x 0 true HC.out.1.lin (by rw [decide_eq_true hlr]))
            go_wp2_with fail
            refine HRC.out.mono ?_
            rintro e w1 ⟨q2, rfl, hl, hm⟩
            obtain ⟨P2, hP2⟩ : ∃ P2, P2 = P ++ [(x, g)] := ⟨_, rfl⟩
            have HG1 : Hid (OG w b r false (wait P2 k) (P.map (·.1)) (P.map (·.2)) vi vl q2 w1) := HC.out.1.move (by rw [hP2, wait_more _ _ _ _ HC.out.2.1]; exact hl) hm
            have HP2 : Hid (k ≤ P2.length ∧ P2.length ≤ i + 1) := by
              have h1 := HC.out.2.1
              have h2 := HC.out.2.2
              rw [hP2]
              exact ⟨by rw [List.length_append]; omega, by rw [List.length_append]; simp; omega⟩
            have HPL : Hid (P.length ≤ 60) := by have := HC.out.2.2; show P.length ≤ 60; omega
            have hbc1 := keep_cell HG1.out.lin.stay HBC.out
            have HPP := hide' hP2
            clear hl hm HRC HC hlr hP2 hbc0
            have HO1 : Hid ((w1.alloc (.cells #[.int .u8 x] 5)).ownsRow w.heap.size 5 1 vi (P.map (·.1)).length (bys (P.map (·.1)))) := own_newS HG1.out.oi _
            have HSR1 : Hid (IsRowS (w1.alloc (.cells #[.int .u8 x] 5)) 1 (.slice (some ⟨w1.heap.size, 0, none⟩) 1 1) 1 (bys [x])) := isRowS_new w1 #[.int .u8 x] 5 1 1 rfl
            have HN1 : Hid ((P.map (·.1)).length + 1 ≤ 1000000) := by have := HPL.out; show (P.map (·.1)).length + 1 ≤ 1000000; rw [List.length_map]; omega
            have HB1 : Hid (w.heap.size ≤ (w1.alloc (.cells #[.int .u8 x] 5)).heap.size) := (HG1.out.lin.stay.alloc _).size
            go_wp2_with (at_builtin; go_must (refine appS rfl _ _ 27 rfl Try.underlying27 info5 rfl (by decide) (by decide) HO1.out rfl HSR1.out rfl (bys_one _) HN1.out HB1.out ?_; intro u1 w3 ho hs hb; have HG3 := hide' ((HG1.out.keep ((Stay.refl _ _).alloc _)).appI ho hs hb); clear ho hs hb HG1 HO1 HSR1 HN1 HB1 hbc1; have HO3 : Hid ((w3.alloc (.cells #[.bool g] 4)).ownsRow w.heap.size 4 1 vl (P.map (·.2)).length (bos (P.map (·.2)))) := own_newS HG3.out.ol _; have HSR3 : Hid (IsRowS (w3.alloc (.cells #[.bool g] 4)) 1 (.slice (some ⟨w3.heap.size, 0, none⟩) 1 1) 1 (bos [g])) := isRowS_new w3 #[.bool g] 4 1 1 rfl; have HN3 : Hid ((P.map (·.2)).length + 1 ≤ 1000000) := (by have := HPL.out; show (P.map (·.2)).length + 1 ≤ 1000000; rw [List.length_map]; omega); have HB3 : Hid (w.heap.size ≤ (w3.alloc (.cells #[.bool g] 4)).heap.size) := (HG3.out.lin.stay.alloc _).size; go_wp2_with (at_builtin; go_must (refine appS rfl _ _ 45 rfl Try.underlying45 info4 rfl (by decide) (by decide) HO3.out rfl HSR3.out rfl (bos_one _) HN3.out HB3.out ?_; intro u2 w2 ho hs hb; have hg4 := (HG3.out.keep ((Stay.refl _ _).alloc _)).appZ ho hs hb; have HG : Hid (OG w b r false (wait P2 k) (P2.map (·.1)) (P2.map (·.2)) u1 u2 q2 w2) := (by rw [HPP.out, List.map_append, List.map_append]; rw [HPP.out] at hg4; exact hg4); clear ho hs hb hg4 HG3 HO3 HSR3 HN3 HB3 HPL HPP; have hrc2 := keep_cell HG.out.lin.stay HRC0.out))))
            by_cases hkp : k = P2.length
            · have HKP := hide' hkp
              have HRD := hide' (read_no (show LIn w w2 b r false q2 [] [] from by have h := HG.out.lin; rwa [wait_none hkp] at h))
              clear hkp
              go_wp2_with fail
              refine HRD.out.mono ?_
              rintro e w4 ⟨q4, rfl, hl, hm⟩
              have HG4 : Hid (OG w b r false (wait P2 k) (P2.map (·.1)) (P2.map (·.2)) u1 u2 q4 w4) := HG.out.move (by rw [wait_none HKP.out]; exact hl) hm
              obtain ⟨i1, ic, hu1⟩ := owns_shape HG4.out.oi
              rw [List.length_map, ← HKP.out] at hu1
              subst hu1
              clear hl hm HRD HG
              go_wp2_with fail
              go_quiet (fail)
              have HG5 : Hid (OG w b r false (wait P2 k) (P2.map (·.1)) (P2.map (·.2)) _ u2 q4 ((w4.alloc (.cells #[.int .u8 0, .int .i64 0] 36)).drewN nq)) := HG4.out.keep (((Stay.refl _ _).alloc _).drewN _)
              go_wp2
              go_roundg (n - (i + 1))
              case measure => omega
              case rel => exact ⟨i + 1, k, false, P2, by omega, rfl, rfl, by go_num, by go_num, _, rfl, _, rfl, q4, HG5.out, HP2.out.1, HP2.out.2⟩
            · have hkp : k < P2.length := by have := HP2.out.1; omega
              cases hz : (P2.map (·.2)).getD k false
              · obtain ⟨y, hy⟩ : ∃ y, y = (P2.map (·.1)).getD k 0 := ⟨_, rfl⟩
                have HRD := hide' (read_in (show LIn w w2 b r false q2 ((y, 0) :: wait P2 (k + 1)) [] from by
                  have h := HG.out.lin
                  rw [wait_some hkp, hz, ← hy] at h
                  exact h))
                have HYC : Hid ((bys (P2.map (·.1)))[k]? = some (.int .u8 y)) := by show (bys (P2.map (·.1)))[k]? = some (.int .u8 y); rw [hy]; unfold bys; simp [List.getD_eq_getElem?_getD, hkp]
                have HZC : Hid ((bos (P2.map (·.2)))[k]? = some (.bool false)) := by show (bos (P2.map (·.2)))[k]? = some (.bool false); rw [← hz]; unfold bos; simp [List.getD_eq_getElem?_getD, hkp]
                clear hy
                go_wp2_with fail
                refine HRD.out.mono ?_
                rintro e w4 ⟨q4, rfl, hl, hm⟩
                have HG4 : Hid (OG w b r false (wait P2 (k + 1)) (P2.map (·.1)) (P2.map (·.2)) u1 u2 q4 w4) := HG.out.move hl hm
                obtain ⟨ib, ic, hu1, hc1⟩ := own_cell HG4.out.oi HYC.out
                obtain ⟨lb, lc, hu2, hc2⟩ := own_cell HG4.out.ol HZC.out
                rw [List.length_map] at hu1 hu2
                obtain ⟨pn, hpn⟩ : ∃ n, n = P2.length := ⟨_, rfl⟩
                rw [← hpn] at hu1 hu2 hkp
                subst hu1 hu2
                have hc1' : ∀ o : Obj, (w4.alloc o).cell? ⟨ib, k, none⟩ = some (.int .u8 y) := fun o => keep_cell ((Stay.refl _ _).alloc o) hc1
                have hc2' : ∀ o : Obj, (w4.alloc o).cell? ⟨lb, k, none⟩ = some (.bool false) := fun o => keep_cell ((Stay.refl _ _).alloc o) hc2
                have kp : (k : Int) < (pn : Nat) := by omega
                have HPN := hide' hpn
                have HKP := hide' hkp
                clear hl hm HRD HG hc1 hc2 hpn HYC HZC hkp
                go_wp2_with fail
                go_quiet (fail)
                have HG5 : Hid (OG w b r false (wait P2 (k + 1)) (P2.map (·.1)) (P2.map (·.2)) _ _ q4 ((w4.alloc (.cells #[.int .u8 y, .int .i64 0] 36)).drewN nq)) := HG4.out.keep (((Stay.refl _ _).alloc _).drewN _)
                go_wp2
                go_roundg (n - (i + 1))
                case measure => omega
                case rel => exact ⟨i + 1, k + 1, false, P2, by omega, rfl, rfl, by go_num, by go_num, _, rfl, _, rfl, q4, HG5.out, by have := HKP.out; have := HPN.out; omega, HP2.out.2⟩
              · obtain ⟨y, hy⟩ : ∃ y, y = (P2.map (·.1)).getD k 0 := ⟨_, rfl⟩
                have HRD := hide' (read_in (show LIn w w2 b r false q2 ((y, 1) :: wait P2 (k + 1)) [] from by
                  have h := HG.out.lin
                  rw [wait_some hkp, hz, ← hy] at h
                  exact h))
                have HYC : Hid ((bys (P2.map (·.1)))[k]? = some (.int .u8 y)) := by show (bys (P2.map (·.1)))[k]? = some (.int .u8 y); rw [hy]; unfold bys; simp [List.getD_eq_getElem?_getD, hkp]
                have HZC : Hid ((bos (P2.map (·.2)))[k]? = some (.bool true)) := by show (bos (P2.map (·.2)))[k]? = some (.bool true); rw [← hz]; unfold bos; simp [List.getD_eq_getElem?_getD, hkp]
                clear hy
                go_wp2_with fail
                refine HRD.out.mono ?_
                rintro e w4 ⟨q4, rfl, hl, hm⟩
                have HG4 : Hid (OG w b r false (wait P2 (k + 1)) (P2.map (·.1)) (P2.map (·.2)) u1 u2 q4 w4) := HG.out.move hl hm
                obtain ⟨ib, ic, hu1, hc1⟩ := own_cell HG4.out.oi HYC.out
                obtain ⟨lb, lc, hu2, hc2⟩ := own_cell HG4.out.ol HZC.out
                rw [List.length_map] at hu1 hu2
                obtain ⟨pn, hpn⟩ : ∃ n, n = P2.length := ⟨_, rfl⟩
                rw [← hpn] at hu1 hu2 hkp
                subst hu1 hu2
                have hc1' : ∀ o : Obj, (w4.alloc o).cell? ⟨ib, k, none⟩ = some (.int .u8 y) := fun o => keep_cell ((Stay.refl _ _).alloc o) hc1
                have hc2' : ∀ o : Obj, (w4.alloc o).cell? ⟨lb, k, none⟩ = some (.bool true) := fun o => keep_cell ((Stay.refl _ _).alloc o) hc2
                have kp : (k : Int) < (pn : Nat) := by omega
                have HPN := hide' hpn
                have HKP := hide' hkp
                clear hl hm HRD HG hc1 hc2 hpn HYC HZC hkp
                go_wp2_with fail
                go_quiet (fail)
                have HG5 : Hid (OG w b r false (wait P2 (k + 1)) (P2.map (·.1)) (P2.map (·.2)) _ _ q4 ((w4.alloc (.cells #[.int .u8 y, .int .i64 1] 36)).drewN nq)) := HG4.out.keep (((Stay.refl _ _).alloc _).drewN _)
                go_wp2
                go_roundg (n - (i + 1))
                case measure => omega
                case rel => exact ⟨i + 1, k + 1, false, P2, by omega, rfl, rfl, by go_num, by go_num, _, rfl, _, rfl, q4, HG5.out, by have := HKP.out; have := HPN.out; omega, HP2.out.2⟩
          · have HRC := hide' (receive_in x 0 false HC.out.1.lin (by rw [decide_eq_false hlr]))
            go_wp2_with fail
            refine HRC.out.mono ?_
            rintro e w1 ⟨q2, rfl, hl, hm⟩
            obtain ⟨P2, hP2⟩ : ∃ P2, P2 = P := ⟨_, rfl⟩
            rw [← hP2] at HC hl
            have HG : Hid (OG w b r true (wait P2 k) (P2.map (·.1)) (P2.map (·.2)) vi vl q2 w1) := HC.out.1.move hl hm
            have HP2 : Hid (k ≤ P2.length ∧ P2.length ≤ i + 1) := ⟨HC.out.2.1, by have := HC.out.2.2; omega⟩
            clear hl hm HRC HC hlr hP2 hbc0
            obtain ⟨u1, hu1⟩ : ∃ u, u = vi := ⟨_, rfl⟩
            obtain ⟨u2, hu2⟩ : ∃ u, u = vl := ⟨_, rfl⟩
            obtain ⟨w2, hw2⟩ : ∃ u, u = w1 := ⟨_, rfl⟩
            subst hu1 hu2 hw2
            have hrc2 := keep_cell HG.out.lin.stay HRC0.out
            go_wp2_with fail
            by_cases hkp : k = P2.length
            · have HKP := hide' hkp
              have HRD := hide' (read_no (show LIn w w2 b r true q2 [] [] from by have h := HG.out.lin; rwa [wait_none hkp] at h))
              clear hkp
              go_wp2_with fail
              refine HRD.out.mono ?_
              rintro e w4 ⟨q4, rfl, hl, hm⟩
              have HG4 : Hid (OG w b r true (wait P2 k) (P2.map (·.1)) (P2.map (·.2)) u1 u2 q4 w4) := HG.out.move (by rw [wait_none HKP.out]; exact hl) hm
              obtain ⟨i1, ic, hu1⟩ := owns_shape HG4.out.oi
              rw [List.length_map, ← HKP.out] at hu1
              subst hu1
              clear hl hm HRD HG
              go_wp2_with fail
              go_quiet (fail)
              have HG5 : Hid (OG w b r true (wait P2 k) (P2.map (·.1)) (P2.map (·.2)) _ u2 q4 ((w4.alloc (.cells #[.int .u8 0, .int .i64 0] 36)).drewN nq)) := HG4.out.keep (((Stay.refl _ _).alloc _).drewN _)
              go_wp2
              go_roundg (n - (i + 1))
              case measure => omega
              case rel => exact ⟨i + 1, k, true, P2, by omega, rfl, rfl, by go_num, by go_num, _, rfl, _, rfl, q4, HG5.out, HP2.out.1, HP2.out.2⟩
            · have hkp : k < P2.length := by have := HP2.out.1; omega
              cases hz : (P2.map (·.2)).getD k false
              · obtain ⟨y, hy⟩ : ∃ y, y = (P2.map (·.1)).getD k 0 := ⟨_, rfl⟩
                have HRD := hide' (read_in (show LIn w w2 b r true q2 ((y, 0) :: wait P2 (k + 1)) [] from by
                  have h := HG.out.lin
                  rw [wait_some hkp, hz, ← hy] at h
                  exact h))
                have HYC : Hid ((bys (P2.map (·.1)))[k]? = some (.int .u8 y)) := by show (bys (P2.map (·.1)))[k]? = some (.int .u8 y); rw [hy]; unfold bys; simp [List.getD_eq_getElem?_getD, hkp]
                have HZC : Hid ((bos (P2.map (·.2)))[k]? = some (.bool false)) := by show (bos (P2.map (·.2)))[k]? = some (.bool false); rw [← hz]; unfold bos; simp [List.getD_eq_getElem?_getD, hkp]
                clear hy
                go_wp2_with fail
                refine HRD.out.mono ?_
                rintro e w4 ⟨q4, rfl, hl, hm⟩
                have HG4 : Hid (OG w b r true (wait P2 (k + 1)) (P2.map (·.1)) (P2.map (·.2)) u1 u2 q4 w4) := HG.out.move hl hm
                obtain ⟨ib, ic, hu1, hc1⟩ := own_cell HG4.out.oi HYC.out
                obtain ⟨lb, lc, hu2, hc2⟩ := own_cell HG4.out.ol HZC.out
                rw [List.length_map] at hu1 hu2
                obtain ⟨pn, hpn⟩ : ∃ n, n = P2.length := ⟨_, rfl⟩
                rw [← hpn] at hu1 hu2 hkp
                subst hu1 hu2
                have hc1' : ∀ o : Obj, (w4.alloc o).cell? ⟨ib, k, none⟩ = some (.int .u8 y) := fun o => keep_cell ((Stay.refl _ _).alloc o) hc1
                have hc2' : ∀ o : Obj, (w4.alloc o).cell? ⟨lb, k, none⟩ = some (.bool false) := fun o => keep_cell ((Stay.refl _ _).alloc o) hc2
                have kp : (k : Int) < (pn : Nat) := by omega
                have HPN := hide' hpn
                have HKP := hide' hkp
                clear hl hm HRD HG hc1 hc2 hpn HYC HZC hkp
                go_wp2_with fail
                go_quiet (fail)
                have HG5 : Hid (OG w b r true (wait P2 (k + 1)) (P2.map (·.1)) (P2.map (·.2)) _ _ q4 ((w4.alloc (.cells #[.int .u8 y, .int .i64 0] 36)).drewN nq)) := HG4.out.keep (((Stay.refl _ _).alloc _).drewN _)
                go_wp2
                go_roundg (n - (i + 1))
                case measure => omega
                case rel => exact ⟨i + 1, k + 1, true, P2, by omega, rfl, rfl, by go_num, by go_num, _, rfl, _, rfl, q4, HG5.out, by have := HKP.out; have := HPN.out; omega, HP2.out.2⟩
              · obtain ⟨y, hy⟩ : ∃ y, y = (P2.map (·.1)).getD k 0 := ⟨_, rfl⟩
                have HRD := hide' (read_in (show LIn w w2 b r true q2 ((y, 1) :: wait P2 (k + 1)) [] from by
                  have h := HG.out.lin
                  rw [wait_some hkp, hz, ← hy] at h
                  exact h))
                have HYC : Hid ((bys (P2.map (·.1)))[k]? = some (.int .u8 y)) := by show (bys (P2.map (·.1)))[k]? = some (.int .u8 y); rw [hy]; unfold bys; simp [List.getD_eq_getElem?_getD, hkp]
                have HZC : Hid ((bos (P2.map (·.2)))[k]? = some (.bool true)) := by show (bos (P2.map (·.2)))[k]? = some (.bool true); rw [← hz]; unfold bos; simp [List.getD_eq_getElem?_getD, hkp]
                clear hy
                go_wp2_with fail
                refine HRD.out.mono ?_
                rintro e w4 ⟨q4, rfl, hl, hm⟩
                have HG4 : Hid (OG w b r true (wait P2 (k + 1)) (P2.map (·.1)) (P2.map (·.2)) u1 u2 q4 w4) := HG.out.move hl hm
                obtain ⟨ib, ic, hu1, hc1⟩ := own_cell HG4.out.oi HYC.out
                obtain ⟨lb, lc, hu2, hc2⟩ := own_cell HG4.out.ol HZC.out
                rw [List.length_map] at hu1 hu2
                obtain ⟨pn, hpn⟩ : ∃ n, n = P2.length := ⟨_, rfl⟩
                rw [← hpn] at hu1 hu2 hkp
                subst hu1 hu2
                have hc1' : ∀ o : Obj, (w4.alloc o).cell? ⟨ib, k, none⟩ = some (.int .u8 y) := fun o => keep_cell ((Stay.refl _ _).alloc o) hc1
                have hc2' : ∀ o : Obj, (w4.alloc o).cell? ⟨lb, k, none⟩ = some (.bool true) := fun o => keep_cell ((Stay.refl _ _).alloc o) hc2
                have kp : (k : Int) < (pn : Nat) := by omega
                have HPN := hide' hpn
                have HKP := hide' hkp
                clear hl hm HRD HG hc1 hc2 hpn HYC HZC hkp
                go_wp2_with fail
                go_quiet (fail)
                have HG5 : Hid (OG w b r true (wait P2 (k + 1)) (P2.map (·.1)) (P2.map (·.2)) _ _ q4 ((w4.alloc (.cells #[.int .u8 y, .int .i64 1] 36)).drewN nq)) := HG4.out.keep (((Stay.refl _ _).alloc _).drewN _)
                go_wp2
                go_roundg (n - (i + 1))
                case measure => omega
                case rel => exact ⟨i + 1, k + 1, true, P2, by omega, rfl, rfl, by go_num, by go_num, _, rfl, _, rfl, q4, HG5.out, by have := HKP.out; have := HPN.out; omega, HP2.out.2⟩
      · have im : ¬ (i : Int) < (m : Nat) := by omega
        by_cases hlr : (wait P k).length < r
        · have HRC := hide' (receive_in x 0 true HC.out.1.lin (by rw [decide_eq_true hlr]))
          go_wp2_with fail
          refine HRC.out.mono ?_
          rintro e w1 ⟨q2, rfl, hl, hm⟩
          obtain ⟨P2, hP2⟩ : ∃ P2, P2 = P ++ [(x, g)] := ⟨_, rfl⟩
          have HG1 : Hid (OG w b r false (wait P2 k) (P.map (·.1)) (P.map (·.2)) vi vl q2 w1) := HC.out.1.move (by rw [hP2, wait_more _ _ _ _ HC.out.2.1]; exact hl) hm
          have HP2 : Hid (k ≤ P2.length ∧ P2.length ≤ i + 1) := by
            have h1 := HC.out.2.1
            have h2 := HC.out.2.2
            rw [hP2]
            exact ⟨by rw [List.length_append]; omega, by rw [List.length_append]; simp; omega⟩
          have HPL : Hid (P.length ≤ 60) := by have := HC.out.2.2; show P.length ≤ 60; omega
          have hbc1 := keep_cell HG1.out.lin.stay HBC.out
          have HPP := hide' hP2
          clear hl hm HRC HC hlr hP2 hbc0
          have HO1 : Hid ((w1.alloc (.cells #[.int .u8 x] 5)).ownsRow w.heap.size 5 1 vi (P.map (·.1)).length (bys (P.map (·.1)))) := own_newS HG1.out.oi _
          have HSR1 : Hid (IsRowS (w1.alloc (.cells #[.int .u8 x] 5)) 1 (.slice (some ⟨w1.heap.size, 0, none⟩) 1 1) 1 (bys [x])) := isRowS_new w1 #[.int .u8 x] 5 1 1 rfl
          have HN1 : Hid ((P.map (·.1)).length + 1 ≤ 1000000) := by have := HPL.out; show (P.map (·.1)).length + 1 ≤ 1000000; rw [List.length_map]; omega
          have HB1 : Hid (w.heap.size ≤ (w1.alloc (.cells #[.int .u8 x] 5)).heap.size) := (HG1.out.lin.stay.alloc _).size
          go_wp2_with (at_builtin; go_must (refine appS rfl _ _ 27 rfl Try.underlying27 info5 rfl (by decide) (by decide) HO1.out rfl HSR1.out rfl (bys_one _) HN1.out HB1.out ?_; intro u1 w3 ho hs hb; have HG3 := hide' ((HG1.out.keep ((Stay.refl _ _).alloc _)).appI ho hs hb); clear ho hs hb HG1 HO1 HSR1 HN1 HB1 hbc1; have HO3 : Hid ((w3.alloc (.cells #[.bool g] 4)).ownsRow w.heap.size 4 1 vl (P.map (·.2)).length (bos (P.map (·.2)))) := own_newS HG3.out.ol _; have HSR3 : Hid (IsRowS (w3.alloc (.cells #[.bool g] 4)) 1 (.slice (some ⟨w3.heap.size, 0, none⟩) 1 1) 1 (bos [g])) := isRowS_new w3 #[.bool g] 4 1 1 rfl; have HN3 : Hid ((P.map (·.2)).length + 1 ≤ 1000000) := (by have := HPL.out; show (P.map (·.2)).length + 1 ≤ 1000000; rw [List.length_map]; omega); have HB3 : Hid (w.heap.size ≤ (w3.alloc (.cells #[.bool g] 4)).heap.size) := (HG3.out.lin.stay.alloc _).size; go_wp2_with (at_builtin; go_must (refine appS rfl _ _ 45 rfl Try.underlying45 info4 rfl (by decide) (by decide) HO3.out rfl HSR3.out rfl (bos_one _) HN3.out HB3.out ?_; intro u2 w2 ho hs hb; have hg4 := (HG3.out.keep ((Stay.refl _ _).alloc _)).appZ ho hs hb; have HG : Hid (OG w b r false (wait P2 k) (P2.map (·.1)) (P2.map (·.2)) u1 u2 q2 w2) := (by rw [HPP.out, List.map_append, List.map_append]; rw [HPP.out] at hg4; exact hg4); clear ho hs hb hg4 HG3 HO3 HSR3 HN3 HB3 HPL HPP))))
          go_roundg (n - (i + 1))
          case measure => omega
          case rel => exact ⟨i + 1, k, false, P2, by omega, rfl, rfl, by go_num, by go_num, _, rfl, _, rfl, q2, HG.out, HP2.out.1, HP2.out.2⟩
        · have HRC := hide' (receive_in x 0 false HC.out.1.lin (by rw [decide_eq_false hlr]))
          go_wp2_with fail
          refine HRC.out.mono ?_
          rintro e w1 ⟨q2, rfl, hl, hm⟩
          obtain ⟨P2, hP2⟩ : ∃ P2, P2 = P := ⟨_, rfl⟩
          rw [← hP2] at HC hl
          have HG : Hid (OG w b r true (wait P2 k) (P2.map (·.1)) (P2.map (·.2)) vi vl q2 w1) := HC.out.1.move hl hm
          have HP2 : Hid (k ≤ P2.length ∧ P2.length ≤ i + 1) := ⟨HC.out.2.1, by have := HC.out.2.2; omega⟩
          clear hl hm HRC HC hlr hP2 hbc0
          obtain ⟨u1, hu1⟩ : ∃ u, u = vi := ⟨_, rfl⟩
          obtain ⟨u2, hu2⟩ : ∃ u, u = vl := ⟨_, rfl⟩
          obtain ⟨w2, hw2⟩ : ∃ u, u = w1 := ⟨_, rfl⟩
          subst hu1 hu2 hw2
          go_wp2_with fail
          go_roundg (n - (i + 1))
          case measure => omega
          case rel => exact ⟨i + 1, k, true, P2, by omega, rfl, rfl, by go_num, by go_num, _, rfl, _, rfl, q2, HG.out, HP2.out.1, HP2.out.2⟩
    · have hin : i = n := by omega
      subst hin
      have HSW := hide' HC.out.1.lin.stay
      clear HC
      go_wp2_with fail
      refine (HAW.out _).mono ?_
      rintro e w9 ⟨rfl, hs⟩
      have HE := hide' (HSW.out.trans hs)
      clear hs
      go_wp2
      go_ret
      exact ⟨rfl, HE.out⟩

end Go.Proofs.Ytffdkkbinkonbaa
