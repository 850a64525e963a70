/-
  Who goes, with a closure: walked. No conditions.
-/
import Derived.Test.YtlhfpnfiamgmlaaQ1
import Derived.Deep.DeepCutAuto
import Derived.WalkMore
namespace Go.Proofs.Ytlhfpnfiamgmlaa
open Go.RowKit

set_option maxHeartbeats 4000000 in
theorem end36_37 (T B n : Nat) (q : Int) (f : Nat → Sl) (m0 : Nat → Bool) (cv : Value) (w : World) (ht : TAt w T B n q f) (hwf : WF n f) (hm0 : ∀ i, m0 i = true → 0 ≤ (f i).env)
    (hcl : ∀ w', Stay (fun k => w.heap.size ≤ k) w w' → ∀ i, i < n → Calls Try.prog 37 #[.pointer (some ⟨B, i * 6, none⟩), cv] w' (Gives (.bool (m0 i)) w')) : Calls Try.prog 36 #[.pointer (some ⟨T, 0, none⟩), .func (.func 37) #[] #[cv]] w (EOut T B n q f m0 w) := by
  obtain ⟨M, hM⟩ := marks n f m0
  obtain ⟨rk, hrk⟩ := ht.ok.2
  have HM := hide' hM
  have HRK := hide' hrk
  have HT := hide' ht
  have HWF := hide' hwf
  have HM0 := hide' hm0
  have HCL := hide' hcl
  have HL0 : Hid (Stay (fun k => w.heap.size ≤ k) w w ∧ w.ownsRow w.heap.size 62 1 (.slice none 0 0) (ixs M 0).length (ptrs B (ixs M 0))) := ⟨Stay.refl _ _, rfl, .inl ⟨rfl, rfl⟩⟩
  have hn1 : (n : Int) ≤ 20 := by have := ht.n1; omega
  have t0 := ht.c0
  clear ht hwf hm0 hcl hM hrk
  go_enter Try.func36, Try.ntmps36
  go_wp2
  go_step3
  go_wp2
  go_step3
  go_wp2
  clear t0
  go_loopg [5, 15] n (fun gg v5 v15 wr => ∃ (k : Nat) (v : Value), k ≤ n ∧ gg = n - k ∧ v15 = .int .i64 (k : Int) ∧ v = v5 ∧ Hid (Stay (fun k => w.heap.size ≤ k) w wr ∧ wr.ownsRow w.heap.size 62 1 v (ixs M k).length (ptrs B (ixs M k))))
  case atStart => exact ⟨0, _, Nat.zero_le _, rfl, rfl, rfl, HL0⟩
  case round =>
    clear HL0
    obtain ⟨k, v, hk, rfl, rfl, hv, HL⟩ := hrel
    subst hv
    have HTR : Hid (TAt wr T B n q f) := HT.out.stay HL.out.1 (by have := HT.out.lt; omega) (by have := HT.out.ltB; omega)
    have t0 := HTR.out.c0
    by_cases hlt : k < n
    · have kn : (k : Int) < (n : Nat) := by omega
      go_wp2
      clear t0
      go_loopg [5, 7] (rk k + 1) (fun gg v5 v7 wr => ∃ x : Value, v = v5 ∧ x = v7 ∧ Chain n B f m0 rk k gg x ∧ Hid (Stay (fun k => w.heap.size ≤ k) w wr ∧ wr.ownsRow w.heap.size 62 1 v (ixs M k).length (ptrs B (ixs M k))))
      case atStart => exact ⟨_, rfl, rfl, .inr ⟨k, rfl, hlt, rfl, Iff.rfl⟩, HL⟩
      case round =>
        clear HL HTR
        obtain ⟨x, hv5, hx, hch, HL⟩ := hrel
        subst hv5 hx
        have HTR : Hid (TAt wr T B n q f) := HT.out.stay HL.out.1 (by have := HT.out.lt; omega) (by have := HT.out.ltB; omega)
        have t0 := HTR.out.c0
        rcases hch with ⟨rfl, hnb, rfl⟩ | ⟨j, rfl, hj, rfl, hiff⟩
        · have HN : Hid (Stay (fun k => w.heap.size ≤ k) w wr ∧ wr.ownsRow w.heap.size 62 1 v (ixs M (k + 1)).length (ptrs B (ixs M (k + 1)))) := by
            have e : ixs M (k + 1) = ixs M k := by
              show _ ++ _ = _
              rw [if_neg (fun h => hnb ((HM.out k).1 h)), List.append_nil]
            rw [e]
            exact HL.out
          clear HL hnb
          go_wp2
          go_roundg (n - (k + 1))
          case measure => omega
          case rel => exact ⟨k + 1, _, by omega, rfl, by go_num, rfl, HN⟩
        · have HIFF := hide' hiff
          have HJ := hide' hj
          have HCJ := hide' (HCL.out wr HL.out.1 j hj)
          obtain ⟨b, hb⟩ : ∃ b, b = m0 j := ⟨_, rfl⟩
          rw [← hb] at HCJ
          have HB := hide' hb
          have HPJ := hide' (fun w h => TAt.at (w := w) (T := T) (B := B) (n := n) (q := q) (f := f) h hj)
          clear hiff hj hb
          cases b
          · obtain ⟨ov, hov⟩ : ∃ v, v = ptrOf B (f j).of := ⟨_, rfl⟩
            obtain ⟨a, ha⟩ : ∃ a, ov = .pointer a := by rw [hov]; unfold ptrOf; split <;> exact ⟨_, rfl⟩
            subst ha
            have HOV := hide' hov
            clear hov
            go_wp2_with fail
            refine HCJ.out.mono ?_
            rintro _ w3 ⟨rfl, hs3⟩
            have HL3 : Hid (Stay (fun k => w.heap.size ≤ k) w w3 ∧ w3.ownsRow w.heap.size 62 1 v (ixs M k).length (ptrs B (ixs M k))) := ⟨HL.out.1.trans (hs3.mono (fun _ _ h => h.elim)), hs3.owns HL.out.2 (fun _ _ h => h)⟩
            have p5 : w3.cell? ⟨B, j * 6 + 5, none⟩ = some (.pointer a) := by rw [HOV.out]; exact (HPJ.out w3 (HTR.out.keep hs3)).c5
            clear hs3 HL HTR t0 HCJ
            go_wp2
            clear p5
            by_cases hof : (f j).of < 0
            · have hnb : ¬ Bel n f m0 k := fun h => bel_end HB.out.symm hof (HIFF.out.1 h)
              have hav : Value.pointer a = .pointer none := by rw [HOV.out]; unfold ptrOf; rw [if_pos hof]
              go_roundg 0
              case measure => omega
              case rel => exact ⟨_, rfl, rfl, .inl ⟨hav, hnb, rfl⟩, HL3⟩
            · obtain ⟨l, hl⟩ := Int.eq_ofNat_of_zero_le (show 0 ≤ (f j).of by omega)
              have hr := HRK.out j HJ.out l hl
              have hif := HIFF.out.trans (bel_up HT.out.ok HJ.out HB.out.symm hl)
              have hav : Value.pointer a = .pointer (some ⟨B, l * 6, none⟩) := by rw [HOV.out]; unfold ptrOf; rw [if_neg hof, hl, Int.toNat_natCast]
              go_roundg (rk l + 1)
              case measure => omega
              case rel => exact ⟨_, rfl, rfl, .inr ⟨l, hav, hr.1, rfl, hif⟩, HL3⟩
          · have hlen := ixs_len M k
            have hcl := cnt_le M k
            obtain ⟨ln, hln⟩ : ∃ l, l = (ixs M k).length := ⟨_, rfl⟩
            have HNM : Hid (ln + 1 ≤ 1000000) := by show ln + 1 ≤ 1000000; omega
            have HLN := hide' hln
            have HE : Hid (ixs M (k + 1) = ixs M k ++ [k]) := by
              show _ ++ _ = _
              rw [if_pos ((HM.out k).2 (HIFF.out.2 (.base HB.out.symm)))]
            clear hlen hcl hln
            go_wp2_with fail
            refine HCJ.out.mono ?_
            rintro _ w1 ⟨rfl, hs⟩
            have hst : Stay (fun _ => False) w1 (w1.alloc (.cells #[.pointer (some ⟨B, k * 6, none⟩)] 62)) := (Stay.refl _ _).alloc _
            have HST := hide' ((HL.out.1.trans (hs.mono (fun _ _ h => h.elim))).trans (hst.mono (T := fun k => w.heap.size ≤ k) (fun _ _ h => h.elim)))
            have HO : Hid ((w1.alloc (.cells #[.pointer (some ⟨B, k * 6, none⟩)] 62)).ownsRow w.heap.size 62 1 v ln (ptrs B (ixs M k))) := by
              have := hst.owns (hs.owns HL.out.2 (fun _ _ h => h)) (fun _ _ h => h)
              rwa [← HLN.out] at this
            have HSRC := hide' (isRowS_new w1 #[.pointer (some ⟨B, k * 6, none⟩)] 62 1 1 rfl)
            have HON : Hid (∀ u ∈ [Value.pointer (some ⟨B, k * 6, none⟩)], u.oneCell' = true) := by
              intro u hu
              simp only [List.mem_cons, List.not_mem_nil, or_false] at hu
              subst hu
              rfl
            have HBS : Hid (w.heap.size ≤ (w1.alloc (.cells #[.pointer (some ⟨B, k * 6, none⟩)] 62)).heap.size) := HST.out.size
            have t0' := keep_cell hs t0
            clear hst HL hs t0 HTR HCJ
            go_wp2_with (at_builtin; go_must (refine appS rfl _ _ 82 rfl Try.underlying82 info62 rfl (by decide) (by decide) HO.out rfl HSRC.out rfl HON.out HNM.out HBS.out ?_; intro v5 W5 ho hst hb; have HS5 : Hid (Stay (fun k => w.heap.size ≤ k) w W5 ∧ W5.ownsRow w.heap.size 62 1 v5 (ixs M (k + 1)).length (ptrs B (ixs M (k + 1)))) := ⟨HST.out.trans (hst.mono (fun j _ e => (HO.out.lt j e).1)), by rw [HE.out, List.length_append, ← HLN.out]; unfold ptrs; rw [List.map_append]; exact ho⟩; clear ho hst hb HO HST HSRC t0'))
            go_roundg (n - (k + 1))
            case measure => omega
            case rel => exact ⟨k + 1, _, by omega, rfl, by go_num, rfl, HS5⟩
    · have hkn : k = n := by omega
      subst hkn
      obtain ⟨L, hL⟩ : ∃ L, L = ixs M k := ⟨_, rfl⟩
      have HLE := hide' hL
      obtain ⟨ln, hln⟩ : ∃ l, l = (ixs M k).length := ⟨_, rfl⟩
      have HLN := hide' hln
      have hl20 : ln ≤ 20 := by rw [hln, ixs_len]; have := cnt_le M k; omega
      obtain ⟨ad, cp, rfl⟩ := owns_slice HL.out.2
      have HL2 : Hid (Stay (fun j => j = B ∨ w.heap.size ≤ j) w wr ∧ wr.ownsRow w.heap.size 62 1 (.slice ad ln cp) ln (ptrs B L) ∧ PTab wr B k (fun i => pl B (if i ∈ L.take 0 then goneS (f i) else f i))) :=
        ⟨HL.out.1.mono (fun j _ h => .inr h), by have := HL.out.2; rw [← hL] at this; rw [hln, ← hL]; exact this, HTR.out.tab.congr (fun i _ => by rw [List.take_zero, if_neg List.not_mem_nil])⟩
      rw [← hln]
      clear hL hln HL HTR t0
      go_wp2
      go_loopg [45] ln (fun gg v45 wr => ∃ t : Nat, t ≤ ln ∧ gg = ln - t ∧ v45 = .int .i64 (t : Int) ∧ Hid (Stay (fun j => j = B ∨ w.heap.size ≤ j) w wr ∧ wr.ownsRow w.heap.size 62 1 (.slice ad ln cp) ln (ptrs B L) ∧ PTab wr B k (fun i => pl B (if i ∈ L.take t then goneS (f i) else f i))))
      case atStart => exact ⟨0, Nat.zero_le _, rfl, rfl, HL2⟩
      case round =>
        clear HL2
        obtain ⟨t, ht, rfl, rfl, HH⟩ := hrel
        by_cases htl : t < ln
        · have tn : (t : Int) < (ln : Nat) := by omega
          obtain ⟨i, hi⟩ : ∃ i, L[t]? = some i := ⟨_, List.getElem?_eq_getElem (by rw [HLE.out, ← HLN.out]; exact htl)⟩
          have him : i < k ∧ M i = true := (ixs_mem M k i).1 (by rw [← HLE.out]; exact List.mem_of_getElem? hi)
          have hni : i ∉ L.take t := by have h := ixs_fresh M k t i; rw [← HLE.out] at h; exact h hi
          obtain ⟨a, cap, hae, _, hac⟩ := ownsRow_shape HH.out.2.1
          injection hae with e1 e2 e3
          subst e1 e3
          obtain ⟨g, hg, hgb, hgc⟩ := hac t (.pointer (some ⟨B, i * 6, none⟩)) (by unfold ptrs; rw [List.getElem?_map, hi]; rfl)
          subst hg
          have hT : PAt wr B (i * 6) (pl B (if i ∈ L.take t then goneS (f i) else f i)) := HH.out.2.2 i him.1
          rw [if_neg hni] at hT
          have hwf := HWF.out i him.1
          obtain ⟨p, hp⟩ : ∃ p, p = pl B (f i) := ⟨_, rfl⟩
          obtain ⟨z0, hz0⟩ : ∃ z, z = (f i).gen := ⟨_, rfl⟩
          have hpg : p.gen = z0 := by rw [hp, hz0]; rfl
          rw [← hp] at hT
          rw [← hz0] at hwf
          obtain ⟨⟨u0, u1, u2, u3, u4, u5⟩, u6, u7, u8, u9, ua, ub⟩ := hT.twelve
          rw [hpg] at u0
          have HIM := hide' him
          have HI := hide' hi
          have HZ0 := hide' hz0
          have HGB := hide' hgb
          have hz1 := hwf.1
          have hz2 := hwf.2.1
          have hzw : IntKind.i64.wrap (z0 + 1) = z0 + 1 := run_addI _ hz1 hz2
          clear hT hp hz0 hpg hwf him hni hac hi hgb e2
          go_wp2
          clear u0 u1 u2 u3 u4 u5 u6 u7 u8 u9 ua ub hgc
          generalize hWr : World.setCell (World.setCell (World.setCell (World.setCell (World.setCell (World.setCell _ _ _) _ _) _ _) _ _) _ _) _ _ = W4
          have e4 : W4 = wr.setCells B (i * 6) (pl B (goneS (f i))).parts := by
            rw [← hWr]
            show _ = wr.setCells B (i * 6) [.int .i64 ((f i).gen + 1), .int .i64 0, .int .i64 0, .int .i64 0, .int .i64 0, .pointer none]
            rw [← HZ0.out]
            rfl
          have hst4 : Stay (fun j => j = B) wr W4 := by rw [e4]; exact (Stay.refl (fun j => j = B) wr).setCells B _ _ rfl
          have HN : Hid (Stay (fun j => j = B ∨ w.heap.size ≤ j) w W4 ∧ W4.ownsRow w.heap.size 62 1 (.slice (some ⟨g, 0, none⟩) ln cp) ln (ptrs B L) ∧ PTab W4 B k (fun i => pl B (if i ∈ L.take (t + 1) then goneS (f i) else f i))) := by
            refine ⟨HH.out.1.trans (hst4.mono (fun j _ e => .inl e)), hst4.owns HH.out.2.1 (fun j hj e => ?_), ?_⟩
            · have h1 := (HH.out.2.1.lt j hj).1
              have h2 := HT.out.ltB
              omega
            · rw [e4]
              refine (HH.out.2.2.set i (pl B (goneS (f i)))).congr (fun l _ => ?_)
              rw [take_snoc HI.out]
              by_cases e : l = i
              · subst e
                rw [if_pos rfl, if_pos (by simp)]
              · rw [if_neg e]
                by_cases h2 : l ∈ L.take t
                · rw [if_pos h2, if_pos (List.mem_append_left _ h2)]
                · rw [if_neg h2, if_neg (fun h => by rcases List.mem_append.1 h with h | h; exact h2 h; exact e (List.mem_singleton.1 h))]
          clear hWr e4 hst4 HH
          go_roundg (ln - (t + 1))
          case measure => omega
          case rel => exact ⟨t + 1, by omega, rfl, by go_num, HN⟩
        · have hte : t = ln := by omega
          subst hte
          have HF : Hid (∀ i, i < k → (if i ∈ L.take t then goneS (f i) else f i) = goneF M f i) := fun i hi => by
            have htk : L.take t = L := by rw [HLN.out, ← HLE.out]; exact List.take_length
            rw [htk, HLE.out]
            unfold goneF goneS
            by_cases h : M i = true
            · rw [if_pos ((ixs_mem M k i).2 ⟨hi, h⟩), if_pos ⟨h, bel_used HM0.out ((HM.out i).1 h)⟩]
            · rw [if_neg (fun x => h ((ixs_mem M k i).1 x).2), if_neg (fun x => h x.1)]
          have HCN : Hid (t = cnt (goneB M f) k) := by
            show t = _
            rw [HLN.out, ixs_len]
            refine cnt_congr (fun i hi => ?_)
            unfold goneB
            cases h : M i with
            | false => rfl
            | true => rw [decide_eq_true (bel_used HM0.out ((HM.out i).1 h))]; rfl
          go_wp2
          try rw [Exit.noGoto_ret]
          go_ret
          have hst : Stay (fun j => j = B) w wr := HH.out.1.mono (fun j hj h => by omega)
          exact ⟨M, HM.out, by rw [← HCN.out]; rfl, hst, HT.out.new_f hst (HH.out.2.2.congr (fun i hi => by rw [HF.out i hi])) (HT.out.ok.gone HM.out)⟩

end Go.Proofs.Ytlhfpnfiamgmlaa
