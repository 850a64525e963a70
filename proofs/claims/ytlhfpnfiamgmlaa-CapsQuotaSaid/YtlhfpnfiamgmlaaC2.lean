/-
  The document's slots: one more is taken: walked. No conditions.
-/
import Derived.Test.YtlhfpnfiamgmlaaC1
import Derived.Deep.DeepCutAuto
namespace Go.Proofs.Ytlhfpnfiamgmlaa
open Go.RowKit

/-- The first free slot; n, if there is none. -/
def freeIx (f : Nat → Sl) : Nat → Nat
  | 0 => 0
  | n + 1 => if freeIx f n < n then freeIx f n else if (f n).env < 0 then n else n + 1

theorem freeIx_spec (f : Nat → Sl) : ∀ n, freeIx f n ≤ n ∧ (∀ j, j < freeIx f n → 0 ≤ (f j).env) ∧ (freeIx f n < n → (f (freeIx f n)).env < 0)
  | 0 => ⟨Nat.le_refl _, fun j hj => absurd hj (Nat.not_lt_zero _), fun h => absurd h (Nat.not_lt_zero _)⟩
  | n + 1 => by
    obtain ⟨h1, h2, h3⟩ := freeIx_spec f n
    by_cases a : freeIx f n < n
    · have e : freeIx f (n + 1) = freeIx f n := if_pos a
      rw [e]
      exact ⟨by omega, h2, fun _ => h3 a⟩
    · have hn : freeIx f n = n := by omega
      by_cases c : (f n).env < 0
      · have e : freeIx f (n + 1) = n := (if_neg a).trans (if_pos c)
        rw [e]
        exact ⟨by omega, fun j hj => h2 j (by omega), fun _ => c⟩
      · have e : freeIx f (n + 1) = n + 1 := (if_neg a).trans (if_neg c)
        rw [e]
        refine ⟨Nat.le_refl _, fun j hj => ?_, fun h => by omega⟩
        by_cases hjn : j = n
        · subst hjn; omega
        · exact h2 j (by omega)

/-- Slots with one that is another. -/
def putF (f : Nat → Sl) (i : Nat) (s : Sl) : Nat → Sl := fun j => if j = i then s else f j

/-- What one more does to the slots, its name, what is wrong. -/
def addS (n : Nat) (q : Int) (f : Nat → Sl) (s : Sl) : (Nat → Sl) × Int × Int × Int :=
  if q ≤ (cnt (isOf f s.env) n : Nat) then (f, 0, 0, 10) else if freeIx f n < n then (putF f (freeIx f n) ⟨(f (freeIx f n)).gen, s.env, s.kind, s.obj, s.rights, s.of⟩, (freeIx f n : Nat), (f (freeIx f n)).gen, 0) else (f, 0, 0, 3)

/-- Slots that come back, a name, what is wrong. -/
def TOut (n g : Nat) (r : (Nat → Sl) × Int × Int × Int) (w : World) (e : Ending) (w' : World) : Prop := ∃ g' cap', e = .returned (.tuple #[.slice (some ⟨g', 0, none⟩) n cap', .agg #[.int .i64 r.2.1, .int .i64 r.2.2.1], .int .i64 r.2.2.2]) ∧ Stay (fun _ => False) w w' ∧ Rd w' g' n r.1 ∧ (g' = g ∨ w.heap.size ≤ g')

theorem Rd.row {w : World} {g n c : Nat} {f : Nat → Sl} (h : Rd w g n f) : IsRowS w 6 (.slice (some ⟨g, 0, none⟩) n c) n (seg n f) :=
  .inr ⟨_, c, rfl, seg_length _ _, fun j u hu => by
    obtain ⟨i, k, rfl, hi, hk, hp⟩ := seg_at _ _ _ _ hu
    rw [addr_add, Nat.zero_add]
    have := (h i hi).cells k u hp
    exact this⟩

set_option maxHeartbeats 2000000 in
theorem add28 (g n cap : Nat) (q : Int) (f : Nat → Sl) (s : Sl) (w : World) (hr : Rd w g n f) (hg : g < w.heap.size) (hn : n ≤ 4096) : Calls Try.prog 28 #[.slice (some ⟨g, 0, none⟩) n cap, .int .i64 q, .agg #[.int .i64 s.gen, .int .i64 s.env, .int .i64 s.kind, .int .i64 s.obj, .int .i64 s.rights, .int .i64 s.of]] w (TOut n g (addS n q f s) w) := by
  obtain ⟨W0, hW0⟩ : ∃ W, W = (w.alloc (.cells #[.int .i64 s.gen, .int .i64 s.env, .int .i64 s.kind, .int .i64 s.obj, .int .i64 s.rights, .int .i64 s.of] 70)).alloc (.cells #[.int .i64 0, .int .i64 0] 30) := ⟨_, rfl⟩
  obtain ⟨bs, hbs⟩ : ∃ b, b = w.heap.size := ⟨_, rfl⟩
  obtain ⟨bn, hbn⟩ : ∃ b, b = bs + 1 := ⟨_, rfl⟩
  have hs0 : Stay (fun _ => False) w W0 := by rw [hW0]; exact ((Stay.refl _ _).alloc _).alloc _
  have HST0 : Hid (Stay (fun k => bs ≤ k) w W0) := hs0.mono (fun _ _ h => h.elim)
  have HBS : Hid (SBox W0 bs s) := by rw [hW0]; exact (SBox.new s hbs.symm).alloc _
  have HBN : Hid (NBox W0 bn ⟨0, 0⟩) := by rw [hW0]; exact NBox.new ⟨0, 0⟩ (by rw [hbn, hbs]; simp)
  have HRD := hide' (hr.keep hs0)
  have HCT := hide' (fun w h => count24 g n cap f s.env w h hn)
  have HNB : Hid (bs = w.heap.size ∧ bn = w.heap.size + 1 ∧ g < w.heap.size ∧ n ≤ 4096) := ⟨hbs, by omega, hg, hn⟩
  have hnb : bs ≠ bn := by omega
  have HNE := hide' hnb
  have hnz : (n : Int) ≤ 4096 := by omega
  obtain ⟨c, hc⟩ : ∃ c, c = cnt (isOf f s.env) n := ⟨_, rfl⟩
  rw [← hc] at HCT
  obtain ⟨y, hy⟩ : ∃ y, y = addS n q f s := ⟨_, rfl⟩
  rw [← hy]
  unfold addS at hy
  rw [← hc] at hy
  have HY := hide' hy
  have c0 : (0 : Int) ≤ (c : Nat) := by omega
  clear hs0 hr hg hn hc hy hnb
  obtain ⟨q0, q1, q2, q3, q4, q5, _⟩ := HBS.out
  go_enter Try.func28, Try.ntmps28
  go_upto_region 1 with fail
  rw [← hW0, ← hbs]
  rw [← hbn]
  clear hW0 hbs hbn
  go_wp2_with fail
  refine (HCT.out _ HRD.out).mono ?_
  rintro _ w1 ⟨rfl, hs⟩
  have HST1 := hide' (HST0.out.trans (hs.mono (T := fun k => bs ≤ k) (fun _ _ h => h.elim)))
  have HBS1 := hide' (HBS.out.keep hs)
  have HBN1 := hide' (HBN.out.keep hs)
  have HRD1 := hide' (HRD.out.keep hs)
  clear hs HBS HBN HRD HST0 HCT q0 q1 q2 q3 q4 q5
  by_cases hq : q ≤ (c : Nat)
  · have hyy := HY.out
    rw [if_pos hq] at hyy
    subst hyy
    clear HY
    obtain ⟨m0, m1, m2, m3⟩ := HBN1.out
    simp only at m0 m1
    go_wp2
    refine bodyPost_ret (results_tct rfl _ _ _ ⟨0, 0⟩ _ _ rfl rfl rfl (HBN1.out.put ⟨0, 0⟩)) rfl ⟨g, cap, rfl, ?_, ?_, .inl rfl⟩
    · have := HNB.out
      exact (NBox.stay_put HST1.out (by omega) _ _).mono (fun k hk h => by omega)
    · have := HNB.out
      exact HRD1.out.stay (((Stay.refl (fun k => k = bn) w1).setCell (p := ⟨bn, 0, none⟩) rfl _).setCell (p := ⟨bn, 1, none⟩) rfl _) (by omega)
  · have dq : decide (q ≤ (c : Nat)) = false := decide_eq_false hq
    have hyy := HY.out
    rw [if_neg hq] at hyy
    have HYY := hide' hyy
    have HFX := hide' (freeIx_spec f n)
    obtain ⟨i, hi⟩ : ∃ i, i = freeIx f n := ⟨_, rfl⟩
    rw [← hi] at HYY HFX
    clear hyy HY hi hq
    go_wp2
    go_loopg [9] n (fun gg v9 wr => ∃ k : Nat, k ≤ i ∧ gg = n - k ∧ v9 = .int .i64 (k : Int) ∧ Hid (Stay (fun k => bs ≤ k) w wr ∧ SBox wr bs s ∧ NBox wr bn ⟨0, 0⟩ ∧ Rd wr g n f))
    case atStart => exact ⟨0, Nat.zero_le _, rfl, rfl, HST1.out, HBS1.out, HBN1.out, HRD1.out⟩
    case round =>
      clear HST1 HBS1 HBN1 HRD1
      obtain ⟨k, hk, rfl, rfl, HH⟩ := hrel
      have hin := HFX.out.1
      by_cases hlt : k < n
      · have kn : (k : Int) < (n : Nat) := by omega
        obtain ⟨r0, r1, _⟩ := HH.out.2.2.2 k hlt
        obtain ⟨p, hp⟩ : ∃ p, p = f k := ⟨_, rfl⟩
        rw [← hp] at r0 r1
        have HP := hide' hp
        clear hp
        by_cases hki : k < i
        · have hpe : 0 ≤ p.env := by rw [HP.out]; exact HFX.out.2.1 k hki
          have dpe : decide (p.env < 0) = false := decide_eq_false (by omega)
          go_wp2
          go_roundg (n - (k + 1))
          case measure => omega
          case rel => exact ⟨k + 1, by omega, rfl, by go_num, HH⟩
        · have hki' : k = i := by omega
          subst hki'
          have hpe : p.env < 0 := by rw [HP.out]; exact HFX.out.2.2 hlt
          have hyy := HYY.out
          rw [if_pos hlt, ← HP.out] at hyy
          have HY2 := hide' hyy
          clear hyy HYY hki hin
          obtain ⟨s2, hs2⟩ : ∃ s2 : Sl, s2 = ⟨p.gen, s.env, s.kind, s.obj, s.rights, s.of⟩ := ⟨_, rfl⟩
          obtain ⟨q0, q1, q2, q3, q4, q5, q6, _⟩ := HH.out.2.1
          go_upto_region 8 with fail
          generalize hW1 : World.setCell _ _ _ = W1
          have hst1 : Stay (fun j => j = bs) wr W1 := by rw [← hW1]; exact (Stay.refl (fun j => j = bs) _).setCell (p := ⟨bs, 0, none⟩) rfl _
          have HB1 : Hid (SBox W1 bs s2) := by rw [← hW1]; exact HH.out.2.1.put0 hs2
          have HN1 := hide' (HH.out.2.2.1.stay hst1 (fun e => HNE.out e.symm))
          have HR1 : Hid (Rd W1 g n f) := HH.out.2.2.2.stay hst1 (by have := HNB.out; omega)
          have HS1 := hide' (HH.out.1.trans (hst1.mono (T := fun k => bs ≤ k) (fun j _ e => by rw [e]; exact Nat.le_refl _)))
          have HS2 := hide' hs2
          clear hW1 hst1 hs2 HH q0 q1 q2 q3 q4 q5 q6 r0 r1
          obtain ⟨W2, hW2⟩ : ∃ W, W = W1.alloc (.cells #[] 70) := ⟨_, rfl⟩
          obtain ⟨vo, hvo⟩ : ∃ v, v = Value.slice (some ⟨W1.heap.size, 0, none⟩) 0 0 := ⟨_, rfl⟩
          have hst2 : Stay (fun _ => False) W1 W2 := by rw [hW2]; exact (Stay.refl _ _).alloc _
          have HO : Hid (W2.ownsRow W1.heap.size 70 6 vo 0 []) := by rw [hW2, hvo]; exact owns_newS W1 #[] 70 6 0 rfl (by decide)
          have HB2 := hide' (HB1.out.keep hst2)
          have HN2 := hide' (HN1.out.keep hst2)
          have HSRC := hide' ((HR1.out.keep hst2).row (c := cap))
          have HR2 := hide' (HR1.out.keep hst2)
          have HS2b := hide' (HS1.out.trans (hst2.mono (T := fun k => bs ≤ k) (fun _ _ h => h.elim)))
          have HZ : Hid (bn < W1.heap.size ∧ W1.heap.size ≤ W2.heap.size) := ⟨HN1.out.lt, hst2.size⟩
          have HN9 : Hid (0 + n ≤ 1000000) := by have := HNB.out; show 0 + n ≤ 1000000; omega
          clear hst2 HB1 HN1 HR1 HS1
          go_upto_region 9 with (rw [← hW2, ← hvo]; clear hW2 hvo; at_builtin; go_must (refine appS rfl _ _ 26 rfl Try.underlying26 info64 rfl (by decide) (by decide) HO.out rfl HSRC.out rfl (seg_one _ _) HN9.out HZ.out.2 ?_; intro v3 W3 ho hst hb; have HO3 := hide' ho; have HT3 := hide' hst; clear ho hst hb))
          have ho3 : W3.ownsRow W1.heap.size 70 6 v3 n (seg n f) := by have := HO3.out; simpa using this
          obtain ⟨og, oc, rfl⟩ := own_shapeS ho3 (by omega)
          have hog : W1.heap.size ≤ og := (ho3.lt og rfl).1
          have HTB := hide' (Tab.of_owns ho3)
          have hvn : ∀ j, j < W1.heap.size → ¬ vo.ownBlock = some j := fun j hj e => by have := (HO.out.lt j e).1; omega
          have hbz : bs < W1.heap.size ∧ bn < W1.heap.size := by have := HNB.out; have := HZ.out.1; omega
          have HB3 := hide' (HB2.out.stay HT3.out (hvn bs hbz.1))
          have HN3 := hide' (HN2.out.stay HT3.out (hvn bn hbz.2))
          have HS3 := hide' (HS2b.out.trans (HT3.out.mono (T := fun k => bs ≤ k) (fun j _ e => by have := (HO.out.lt j e).1; omega)))
          have HOG : Hid (og ≠ bs ∧ og ≠ bn ∧ bs ≤ og) := ⟨by omega, by omega, by omega⟩
          clear ho3 hog hvn hbz HO HO3 HT3 HB2 HN2 HS2b HSRC HR2 HZ HN9
          obtain ⟨q0, q1, q2, q3, q4, q5, _⟩ := HB3.out
          obtain ⟨⟨t0, t1, t2, t3, t4, t5⟩, t6, t7, t8, t9, ta, tb⟩ := (HTB.out k hlt).twelve
          go_upto_region 10 with fail
          generalize hW4 : World.setCell (World.setCell (World.setCell (World.setCell (World.setCell (World.setCell _ _ _) _ _) _ _) _ _) _ _) _ _ = W4
          have HT4 : Hid (Tab W4 og n (putF f k s2)) := by
            have e : W4 = W3.setCells og (k * 6) s2.parts := hW4.symm
            rw [e]
            exact HTB.out.set k s2
          have hst4 : Stay (fun j => j = og) W3 W4 := by
            have e : W4 = W3.setCells og (k * 6) s2.parts := hW4.symm
            rw [e]
            exact (Stay.refl (fun j => j = og) W3).setCells og _ _ rfl
          have HB4 := hide' (HB3.out.stay hst4 (fun e => HOG.out.1 e.symm))
          have HN4 := hide' (HN3.out.stay hst4 (fun e => HOG.out.2.1 e.symm))
          have HS4 := hide' ((HS3.out.trans (hst4.mono (T := fun k => bs ≤ k) (fun j _ e => by rw [e]; exact HOG.out.2.2))))
          clear hW4 hst4 q0 q1 q2 q3 q4 q5 t0 t1 t2 t3 t4 t5 t6 t7 t8 t9 ta tb HB3 HN3 HS3 HTB
          have HN5 := hide' (HN4.out.keep (Stay.refl _ _).drew)
          have hS : (fun w' => SBox w' bs s2) W4.drew := HB4.out.keep (Stay.refl _ _).drew
          refine wp_region_mix (fun w' => SBox w' bs s2) [(0, true), (1, true), (2, true), (3, true), (4, true), (5, true), (6, false), (7, true)] (by kernel_rfl) (by kernel_rfl) (fun _ d _ _ _ h => by cases d <;> exact h) hS ?_
          refine mix_begin (fun K0 hK0 => ?_)
          refine mix_take hK0 (some 44) (.move (.tmp 10)) 26 _ (by kernel_rfl) (by kernel_rfl) (fun w' hS' => by (obtain ⟨q0, q1, q2, q3, q4, q5, _⟩ := hS'; simp only [opr]; go_simp; try with_reducible rfl)) (fun K1 hK1 => ?_)
          clear hK0 K0
          simp only [Act.put, List.setIfInBounds_toArray, List.set_cons_zero, List.set_cons_succ]
          refine mix_take hK1 (some 45) (.move (.tmp 9)) 3 _ (by kernel_rfl) (by kernel_rfl) (fun w' hS' => by (obtain ⟨q0, q1, q2, q3, q4, q5, _⟩ := hS'; simp only [opr]; go_simp; try with_reducible rfl)) (fun K2 hK2 => ?_)
          clear hK1 K1
          simp only [Act.put, List.setIfInBounds_toArray, List.set_cons_zero, List.set_cons_succ]
          refine mix_take hK2 (some 46) (.fieldAddr 70 (.tmp 5) 0) 0 _ (by kernel_rfl) (by kernel_rfl) (fun w' hS' => by (obtain ⟨q0, q1, q2, q3, q4, q5, _⟩ := hS'; simp only [opr]; go_simp; try with_reducible rfl)) (fun K3 hK3 => ?_)
          clear hK2 K2
          simp only [Act.put, List.setIfInBounds_toArray, List.set_cons_zero, List.set_cons_succ]
          refine mix_take hK3 (some 47) (.load 3 (.tmp 46)) 3 _ (by kernel_rfl) (by kernel_rfl) (fun w' hS' => by (obtain ⟨q0, q1, q2, q3, q4, q5, _⟩ := hS'; simp only [opr]; go_simp; try with_reducible rfl)) (fun K4 hK4 => ?_)
          clear hK3 K3
          simp only [Act.put, List.setIfInBounds_toArray, List.set_cons_zero, List.set_cons_succ]
          refine mix_take hK4 (some 48) (.build 30 #[(0, .tmp 45), (1, .tmp 47)]) 30 _ (by kernel_rfl) (by kernel_rfl) (fun w' hS' => by (obtain ⟨q0, q1, q2, q3, q4, q5, _⟩ := hS'; simp only [opr]; go_simp; try with_reducible rfl)) (fun K5 hK5 => ?_)
          clear hK4 K4
          simp only [Act.put, List.setIfInBounds_toArray, List.set_cons_zero, List.set_cons_succ]
          refine mix_take hK5 (some 6) (.assign (.tmp 44)) 26 _ (by kernel_rfl) (by kernel_rfl) (fun w' hS' => by (obtain ⟨q0, q1, q2, q3, q4, q5, _⟩ := hS'; simp only [opr]; go_simp; try with_reducible rfl)) (fun K6 hK6 => ?_)
          clear hK5 K5
          simp only [Act.put, List.setIfInBounds_toArray, List.set_cons_zero, List.set_cons_succ]
          refine mix_chain hK6 (fun K6c hK6c => ?_)
          clear hK6 K6
          refine op_plain none (.store 30 (.tmp 7) (.tmp 48)) 0 (by kernel_rfl) (by kernel_rfl) ?_
          have hSd := hS
          have HDD : Hid (Stay (fun _ => False) W4 W4.drew) := (Stay.refl _ _).drew
          obtain ⟨Wd, hWd⟩ : ∃ W, W = W4.drew := ⟨_, rfl⟩
          rw [← hWd] at HN5 hSd HDD ⊢
          clear hWd
          obtain ⟨m0, m1, m2, m3⟩ := HN5.out
          simp only at m0 m1
          go_wp2
          clear m0 m1 m2 m3
          generalize hWr : World.setCell (World.setCell _ _ _) _ _ = W5
          have HN6 : Hid (NBox W5 bn ⟨(k : Nat), s2.gen⟩) := by rw [← hWr]; exact HN5.out.put ⟨(k : Nat), s2.gen⟩
          have HT6 : Hid (Stay (fun j => j = bn) Wd W5) := by rw [← hWr]; exact ((Stay.refl (fun j => j = bn) _).setCell (p := ⟨bn, 0, none⟩) rfl _).setCell (p := ⟨bn, 1, none⟩) rfl _
          clear hWr
          have hSr : (fun w' => SBox w' bs s2) W5 := hSd.stay HT6.out HNE.out
          refine hK6c _ _ hSr (mix_begin fun K7 hK7 => ?_)
          clear hK6c K6c
          try simp only [Act.put, List.setIfInBounds_toArray, List.set_cons_zero, List.set_cons_succ]
          refine mix_take hK7 (some 8) (.assign (.const (Value.int IntKind.i64 0))) 3 _ (by kernel_rfl) (by kernel_rfl) (fun w' hS' => by (obtain ⟨q0, q1, q2, q3, q4, q5, _⟩ := hS'; simp only [opr]; go_simp; try with_reducible rfl)) (fun K8 hK8 => ?_)
          clear hK7 K7
          simp only [Act.put, List.setIfInBounds_toArray, List.set_cons_zero, List.set_cons_succ]
          refine hK8 _ _ (mix_nil ?_)
          clear hK8 K8
          have HT7 : Hid (Rd W5 og n (putF f k s2)) := ((HT4.out.keep HDD.out).rd).stay HT6.out HOG.out.2.1
          clear hS hSr HT4 HB4 HN4 HN5
          go_wp2
          refine bodyPost_ret (results_tct rfl _ _ _ ⟨(k : Nat), s2.gen⟩ _ _ rfl rfl rfl HN6.out) rfl ⟨og, oc, ?_, ?_, ?_, .inr ?_⟩
          · rw [HY2.out, HS2.out]
            rfl
          · have := HNB.out
            exact ((HS4.out.trans (HDD.out.mono (T := fun k => bs ≤ k) (fun _ _ h => h.elim))).trans (HT6.out.mono (T := fun k => bs ≤ k) (fun j _ e => by omega))).mono (fun j hj h => by omega)
          · rw [HY2.out, ← HS2.out]
            exact HT7.out
          · have := HNB.out
            have := HOG.out
            omega
      · have hkn : k = n := by omega
        subst hkn
        have hik : i = k := by omega
        subst hik
        have hyy := HYY.out
        rw [if_neg hlt] at hyy
        subst hyy
        clear HYY hin
        obtain ⟨m0, m1, m2, m3⟩ := HH.out.2.2.1
        simp only at m0 m1
        go_wp2
        refine bodyPost_ret (results_tct rfl _ _ _ ⟨0, 0⟩ _ _ rfl rfl rfl (HH.out.2.2.1.put ⟨0, 0⟩)) rfl ⟨g, cap, rfl, ?_, ?_, .inl rfl⟩
        · have := HNB.out
          exact (NBox.stay_put HH.out.1 (by omega) _ _).mono (fun k hk h => by omega)
        · have := HNB.out
          exact HH.out.2.2.2.stay (((Stay.refl (fun k => k = bn) wr).setCell (p := ⟨bn, 0, none⟩) rfl _).setCell (p := ⟨bn, 1, none⟩) rfl _) (by omega)

end Go.Proofs.Ytlhfpnfiamgmlaa
