/-
  The document's Without: walked. No conditions.
-/
import Derived.Test.YtlhfpnfiamgmlaaD0
namespace Go.Proofs.Ytlhfpnfiamgmlaa
open Go.RowKit

theorem run_addI (x : Int) (h0 : 0 ≤ x) (h1 : x ≤ 4611686018427387904) : IntKind.i64.wrap (x + 1) = x + 1 := by rw [IntKind.wrap_i64]; omega

/-- What goes, and how many. -/
def WOut (n gb : Nat) (f : Nat → Sl) (m0 : Nat → Bool) (w : World) (e : Ending) (w' : World) : Prop := ∃ (M : Nat → Bool) (g' cap' : Nat), e = .returned (.tuple #[.slice (some ⟨g', 0, none⟩) n cap', .int .i64 (cnt (goneB M f) n : Nat)]) ∧ Stay (fun j => j = gb) w w' ∧ Tab w' g' n (goneF M f) ∧ w.heap.size ≤ g' ∧ ∀ i, M i = true ↔ Bel n f m0 i

set_option maxHeartbeats 4000000 in
theorem without35 (tb n cap gb cap2 : Nat) (f : Nat → Sl) (m0 : Nat → Bool) (w : World) (hr : Rd w tb n f) (hb : w.rowIs gb 4 n (fun i => .bool (m0 i))) (hne : gb ≠ tb) (hwf : WF n f) (h0 : 0 < n) (hn : n ≤ 4096) : Calls Try.prog 35 #[.slice (some ⟨tb, 0, none⟩) n cap, .slice (some ⟨gb, 0, none⟩) n cap2] w (WOut n gb f m0 w) := by
  have HW := hide' hwf
  have HNE := hide' hne
  have HNN := hide' (show 0 < n ∧ n ≤ 4096 from ⟨h0, hn⟩)
  have hnz : (n : Int) ≤ 4096 := by omega
  have HO0 : Hid (WO w gb tb n f m0 m0 true w) := ⟨Stay.refl _ _, hr, hb, fun _ h => h, fun _ h => .base h, fun h => by cases h⟩
  clear hr hb hne hwf h0 hn
  go_enter Try.func35, Try.ntmps35
  go_wp2
  go_loopg [6] (cnt (fun i => !m0 i) n + 1) (fun gg v6 wr => ∃ (m : Nat → Bool) (ag : Bool), gg = cnt (fun i => !m i) n + (if ag = true then 1 else 0) ∧ v6 = .bool ag ∧ Hid (WO w gb tb n f m0 m ag wr))
  case atStart => exact ⟨m0, true, rfl, rfl, HO0⟩
  case round =>
    clear HO0
    obtain ⟨m, ag, rfl, rfl, HO⟩ := hrel
    cases ag
    · have HBE : Hid (∀ i, m i = true ↔ Bel n f m0 i) := fun i => ⟨HO.out.bel i, bel_closed HO.out.up (HO.out.cl rfl) i⟩
      have htb : tb < wr.heap.size := World.block_lt_of_cell? _ _ (HO.out.rd 0 HNN.out.1).c0
      have hgb : gb < wr.heap.size := HO.out.row.lt
      obtain ⟨W2, hW2⟩ : ∃ W, W = wr.alloc (.cells #[] 70) := ⟨_, rfl⟩
      obtain ⟨vo, hvo⟩ : ∃ v, v = Value.slice (some ⟨wr.heap.size, 0, none⟩) 0 0 := ⟨_, rfl⟩
      have hst2 : Stay (fun _ => False) wr W2 := by rw [hW2]; exact (Stay.refl _ _).alloc _
      have HV : Hid (W2.ownsRow wr.heap.size 70 6 vo 0 []) := by rw [hW2, hvo]; exact owns_newS wr #[] 70 6 0 rfl (by decide)
      have HSRC := hide' ((HO.out.rd.keep hst2).row (c := cap))
      have HR2 := hide' (HO.out.rd.keep hst2)
      have HB2 := hide' (hst2.row HO.out.row (fun h => h))
      have HS2 := hide' (HO.out.stay.trans (hst2.mono (T := fun j => j = gb) (fun _ _ h => h.elim)))
      have HZ : Hid (wr.heap.size ≤ W2.heap.size ∧ w.heap.size ≤ wr.heap.size ∧ tb < wr.heap.size ∧ gb < wr.heap.size) := ⟨hst2.size, HO.out.stay.size, htb, hgb⟩
      have HN9 : Hid (0 + n ≤ 1000000) := by have := HNN.out; show 0 + n ≤ 1000000; omega
      clear hst2 HO htb hgb
      go_upto_region 11 with (rw [← hW2, ← hvo]; clear hW2 hvo; at_builtin; go_must (refine appS rfl _ _ 26 rfl Try.underlying26 info64 rfl (by decide) (by decide) HV.out rfl HSRC.out rfl (seg_one _ _) HN9.out HZ.out.1 ?_; intro v3 W3 ho hst hb; have HO3 := hide' ho; have HT3 := hide' hst; clear ho hst hb))
      have ho3 : W3.ownsRow wr.heap.size 70 6 v3 n (seg n f) := by have := HO3.out; simpa using this
      obtain ⟨og, oc, rfl⟩ := own_shapeS ho3 HNN.out.1
      have hog : wr.heap.size ≤ og := (ho3.lt og rfl).1
      have hvn : ∀ j, j < wr.heap.size → ¬ vo.ownBlock = some j := fun j hj e => by have := (HV.out.lt j e).1; omega
      have HR3 := hide' (HR2.out.stay HT3.out (hvn tb HZ.out.2.2.1))
      have HB3 := hide' (HT3.out.row HB2.out (hvn gb HZ.out.2.2.2))
      have HOG : Hid (og ≠ tb ∧ og ≠ gb ∧ w.heap.size ≤ og) := by have := HZ.out; exact ⟨by omega, by omega, by omega⟩
      have HL0 : Hid (Stay (fun j => j = gb ∨ w.heap.size ≤ j) w W3 ∧ Rd W3 tb n f ∧ W3.rowIs gb 4 n (fun i => .bool (m i)) ∧ Tab W3 og n (fun i => if i < 0 then goneF m f i else f i)) :=
        ⟨(HS2.out.mono (T := fun j => j = gb ∨ w.heap.size ≤ j) (fun _ _ h => .inl h)).trans (HT3.out.mono (T := fun j => j = gb ∨ w.heap.size ≤ j) (fun j _ e => .inr (by have h1 := (HV.out.lt j e).1; have h2 := HZ.out; omega))), HR3.out, HB3.out, (Tab.of_owns ho3).congr (fun i _ => by rw [if_neg (Nat.not_lt_zero _)])⟩
      clear ho3 hog hvn HV HO3 HT3 HR2 HB2 HS2 HSRC HZ HN9 HR3 HB3
      go_wp2
      go_loopg [9, 10] n (fun gg v9 v10 wr => ∃ k : Nat, k ≤ n ∧ gg = n - k ∧ v9 = .int .i64 (cnt (goneB m f) k : Nat) ∧ v10 = .int .i64 (k : Int) ∧ Hid (Stay (fun j => j = gb ∨ w.heap.size ≤ j) w wr ∧ Rd wr tb n f ∧ wr.rowIs gb 4 n (fun i => .bool (m i)) ∧ Tab wr og n (fun i => if i < k then goneF m f i else f i)))
      case atStart => exact ⟨0, Nat.zero_le _, rfl, rfl, rfl, HL0⟩
      case round =>
        clear HL0
        obtain ⟨k, hk, rfl, rfl, rfl, HL⟩ := hrel
        obtain ⟨c, hc⟩ : ∃ c, c = cnt (goneB m f) k := ⟨_, rfl⟩
        rw [← hc]
        have HC := hide' hc
        have hcm : c ≤ 4096 := by have := cnt_le (goneB m f) k; have := HNN.out; omega
        have c0 : (0 : Int) ≤ (c : Nat) := by omega
        have c1 : (c : Int) ≤ 4096 := by omega
        clear hc hcm
        by_cases hlt : k < n
        · have kn : (k : Int) < (n : Nat) := by omega
          obtain ⟨r0, r1, _, _, _, _⟩ := HL.out.2.1 k hlt
          have hce := HL.out.2.2.1.cell hlt
          have hwf := HW.out k hlt
          obtain ⟨p, hp⟩ : ∃ p, p = f k := ⟨_, rfl⟩
          rw [← hp] at r0 r1 hwf
          obtain ⟨b, hbm⟩ : ∃ b, b = m k := ⟨_, rfl⟩
          rw [← hbm] at hce
          have HP := hide' hp
          have HB := hide' hbm
          clear hp hbm
          have HSK : Hid (goneB m f k = false → (Stay (fun j => j = gb ∨ w.heap.size ≤ j) w wr ∧ Rd wr tb n f ∧ wr.rowIs gb 4 n (fun i => .bool (m i)) ∧ Tab wr og n (fun i => if i < k + 1 then goneF m f i else f i)) ∧ c = cnt (goneB m f) (k + 1)) := fun hg => by
            refine ⟨⟨HL.out.1, HL.out.2.1, HL.out.2.2.1, HL.out.2.2.2.congr (fun i _ => ?_)⟩, by rw [cnt_succ, hg, ← HC.out]; rfl⟩
            by_cases h1 : i < k
            · rw [if_pos h1, if_pos (by omega)]
            · rw [if_neg h1]
              by_cases h2 : i = k
              · subst h2
                rw [if_pos (by omega)]
                unfold goneF
                unfold goneB at hg
                rw [if_neg (fun h => by rw [h.1, decide_eq_true h.2] at hg; cases hg)]
              · rw [if_neg (by omega)]
          cases b
          · have HN := hide' (HSK.out (by unfold goneB; rw [← HB.out]; rfl))
            clear HL HSK
            go_wp2
            go_roundg (n - (k + 1))
            case measure => omega
            case rel => exact ⟨k + 1, by omega, rfl, by rw [HN.out.2], by go_num, HN.out.1⟩
          · by_cases h1 : 0 ≤ p.env
            · obtain ⟨z, hz⟩ : ∃ z, z = p.gen + 1 := ⟨_, rfl⟩
              have hz' : IntKind.i64.wrap (p.gen + 1) = z := by rw [hz]; exact run_addI _ hwf.1 hwf.2.1
              have hzz : p.gen + 1 = z := hz.symm
              have HGF : Hid (goneF m f k = ⟨z, -1, 0, 0, 0, -1⟩) := by
                show goneF m f k = ⟨z, -1, 0, 0, 0, -1⟩
                unfold goneF
                rw [if_pos ⟨HB.out.symm, by rw [← HP.out]; exact h1⟩, ← HP.out, hzz]
              have HCC : Hid (c + 1 = cnt (goneB m f) (k + 1)) := by
                show c + 1 = cnt (goneB m f) (k + 1)
                rw [cnt_succ, ← HC.out, if_pos (by unfold goneB; rw [← HB.out, ← HP.out, decide_eq_true h1]; rfl)]
              have hge := hwf.1
              have hgl := hwf.2.1
              clear hz hwf HSK
              have hT : SAt wr og (k * 6) (if k < k then goneF m f k else f k) := HL.out.2.2.2 k hlt
              rw [if_neg (Nat.lt_irrefl k), ← HP.out] at hT
              obtain ⟨⟨t0, t1, t2, t3, t4, t5⟩, t6, t7, t8, t9, ta, tb'⟩ := hT.twelve
              clear hT
              go_upto_region 17 with fail
              generalize hW4 : World.setCell (World.setCell (World.setCell (World.setCell (World.setCell (World.setCell _ _ _) _ _) _ _) _ _) _ _) _ _ = W4
              have e4 : W4 = wr.setCells og (k * 6) (⟨z, -1, 0, 0, 0, -1⟩ : Sl).parts := hW4.symm
              have hst4 : Stay (fun j => j = og) wr W4 := by rw [e4]; exact (Stay.refl (fun j => j = og) wr).setCells og _ _ rfl
              have HN : Hid (Stay (fun j => j = gb ∨ w.heap.size ≤ j) w W4 ∧ Rd W4 tb n f ∧ W4.rowIs gb 4 n (fun i => .bool (m i)) ∧ Tab W4 og n (fun i => if i < k + 1 then goneF m f i else f i)) := by
                refine ⟨HL.out.1.trans (hst4.mono (T := fun j => j = gb ∨ w.heap.size ≤ j) (fun j _ e => .inr (by rw [e]; exact HOG.out.2.2))), HL.out.2.1.stay hst4 (fun e => HOG.out.1 e.symm), hst4.row HL.out.2.2.1 (fun e => HOG.out.2.1 e.symm), ?_⟩
                rw [e4]
                refine (HL.out.2.2.2.set k _).congr (fun i _ => ?_)
                by_cases h2 : i = k
                · subst h2
                  rw [if_pos rfl, if_pos (by omega), HGF.out]
                · rw [if_neg h2]
                  by_cases h3 : i < k
                  · rw [if_pos h3, if_pos (by omega)]
                  · rw [if_neg h3, if_neg (by omega)]
              clear hW4 e4 hst4 t0 t1 t2 t3 t4 t5 t6 t7 t8 t9 ta tb' HL hz' hzz r0 r1 hce
              go_wp2
              go_roundg (n - (k + 1))
              case measure => omega
              case rel => exact ⟨k + 1, by omega, rfl, by rw [← HCC.out]; go_num, by go_num, HN⟩
            · have d1 : decide (0 ≤ p.env) = false := decide_eq_false h1
              have HN := hide' (HSK.out (by unfold goneB; rw [← HP.out, d1, Bool.and_false]))
              clear HL HSK
              go_wp2
              go_roundg (n - (k + 1))
              case measure => omega
              case rel => exact ⟨k + 1, by omega, rfl, by rw [HN.out.2], by go_num, HN.out.1⟩
        · have hkn : k = n := by omega
          subst hkn
          go_wp2
          go_returns
          refine ⟨m, og, oc, by rw [← HC.out]; rfl, HL.out.1.mono (fun j hj h => by rcases h with h | h <;> omega), HL.out.2.2.2.congr (fun i hi => by rw [if_pos hi]), HOG.out.2.2, HBE.out⟩
    · have HI0 := hide' (WI.begin HO.out)
      clear HO
      go_wp2
      go_loopg [6, 7] n (fun gg v6 v7 wr => ∃ (k : Nat) (m' : Nat → Bool) (ag : Bool), k ≤ n ∧ gg = n - k ∧ v6 = .bool ag ∧ v7 = .int .i64 (k : Int) ∧ Hid (WI w gb tb n f m0 m m' ag k wr) ∧ Hid (∀ i, m i = true → m' i = true))
      case atStart => exact ⟨0, m, false, Nat.zero_le _, rfl, rfl, rfl, HI0, fun _ h => h⟩
      case round =>
        clear HI0
        obtain ⟨k, m', ag, hk, rfl, rfl, rfl, HI, HUP⟩ := hrel
        by_cases hlt : k < n
        · have kn : (k : Int) < (n : Nat) := by omega
          obtain ⟨_, r1, _, _, _, r5⟩ := HI.out.rd k hlt
          have hce := HI.out.row.cell hlt
          have hfr := HI.out.row.frozen k
          have hof := (HW.out k hlt).2.2
          obtain ⟨p, hp⟩ : ∃ p, p = f k := ⟨_, rfl⟩
          rw [← hp] at r1 r5 hof
          obtain ⟨b, hbm⟩ : ∃ b, b = m' k := ⟨_, rfl⟩
          rw [← hbm] at hce
          have HP := hide' hp
          have HB := hide' hbm
          clear hp hbm
          by_cases h1 : 0 ≤ p.env
          · cases b
            · by_cases h2 : 0 ≤ p.of
              · obtain ⟨j, hj⟩ : ∃ j : Nat, p.of = j := ⟨p.of.toNat, by omega⟩
                have HJ := hide' hj
                rw [hj] at r5 hof h2
                have hjn : j < n := by omega
                have hcj := HI.out.row.cell hjn
                obtain ⟨bj, hbj⟩ : ∃ b, b = m' j := ⟨_, rfl⟩
                rw [← hbj] at hcj
                have HBJ := hide' hbj
                clear hj hbj
                cases bj
                · have HN := hide' (HI.out.skip (by intro _ j' hj' hm; rw [← HP.out, HJ.out] at hj'; have e : j = j' := (by omega); subst e; rw [← HBJ.out] at hm; cases hm))
                  clear HI
                  go_wp2
                  go_roundg (n - (k + 1))
                  case measure => omega
                  case rel => exact ⟨k + 1, m', ag, by omega, rfl, rfl, by go_num, HN, HUP⟩
                · have HN := hide' (HI.out.mark hlt HB.out.symm (.step hlt (by rw [← HP.out]; exact h1) (by rw [← HP.out]; exact HJ.out) (HI.out.bel j HBJ.out.symm)) HNE.out HUP.out)
                  have HUP2 : Hid (∀ i, m i = true → (if i = k then true else m' i) = true) := fun i hi => by
                    split
                    · rfl
                    · exact HUP.out i hi
                  clear HI HUP
                  go_wp2
                  go_roundg (n - (k + 1))
                  case measure => omega
                  case rel => exact ⟨k + 1, _, true, by omega, rfl, rfl, by go_num, HN, HUP2⟩
              · have d2 : decide (0 ≤ p.of) = false := decide_eq_false h2
                have HN := hide' (HI.out.skip (by intro _ j' hj' hm; rw [← HP.out] at hj'; omega))
                clear HI
                go_wp2
                go_roundg (n - (k + 1))
                case measure => omega
                case rel => exact ⟨k + 1, m', ag, by omega, rfl, rfl, by go_num, HN, HUP⟩
            · have HN := hide' (HI.out.skip (by intro _ j' _ _; exact HB.out.symm))
              clear HI
              go_wp2
              go_roundg (n - (k + 1))
              case measure => omega
              case rel => exact ⟨k + 1, m', ag, by omega, rfl, rfl, by go_num, HN, HUP⟩
          · have d1 : decide (0 ≤ p.env) = false := decide_eq_false h1
            have HN := hide' (HI.out.skip (by intro h; rw [← HP.out] at h; exact absurd h h1))
            clear HI
            go_wp2
            go_roundg (n - (k + 1))
            case measure => omega
            case rel => exact ⟨k + 1, m', ag, by omega, rfl, rfl, by go_num, HN, HUP⟩
        · have hkn : k = n := by omega
          subst hkn
          have HO := hide' (WI.ends HI.out)
          have HMR := hide' HI.out.more
          have HSM := hide' HI.out.same
          clear HI
          go_wp2
          go_roundg (cnt (fun i => !m' i) k + (if ag = true then 1 else 0))
          case measure =>
            cases ag
            · rw [(HSM.out rfl).1]
              simp
            · have := HMR.out rfl
              simp
              omega
          case rel => exact ⟨m', ag, rfl, rfl, HO⟩

end Go.Proofs.Ytlhfpnfiamgmlaa
