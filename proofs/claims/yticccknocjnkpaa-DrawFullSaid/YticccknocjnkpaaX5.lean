/-
  A window comes to the top, is hidden, is moved: walked. No conditions.
-/
import Derived.Test.YticccknocjnkpaaX4
namespace Go.Proofs.Yticccknocjnkpaa
open Go.RowKit

/-- What comes of hiding a window, or showing it. -/
def hideR (L : List Wn) (id : Int) (hd : Bool) : List Wn × Int := match L[plN L id]? with | some p => (L.set (plN L id) ⟨p.id, p.env, p.x, p.y, p.w, p.h, hd⟩, 0) | none => (L, 5)

/-- What comes of moving a window. -/
def moveR (sw sh : Int) (L : List Wn) (id : Int) (r : R) : List Wn × Int := match L[plN L id]? with | some p => if fitB sw sh r = true then (L.set (plN L id) ⟨p.id, p.env, r.x, r.y, r.w, r.h, p.hid⟩, 0) else (L, 2) | none => (L, 5)

/-- What comes of a window at the top. -/
def topR (L : List Wn) (id : Int) : List Wn × Int := match L[plN L id]? with | some p => (p :: L.eraseIdx (plN L id), 0) | none => (L, 5)

set_option maxHeartbeats 1000000 in
theorem hide31 (q : Sm) (sw sh m : Int) (L : List Wn) (id : Int) (hd : Bool) (w : World) (h : SAt w q sw sh m L) :
    Calls Try.prog 31 #[.pointer (some ⟨q.b, 0, none⟩), .int .i64 id, .bool hd] w (ErrS q sw sh m (hideR L id hd) w) := by
  obtain ⟨b, v⟩ := q
  obtain ⟨y, hy⟩ : ∃ y, y = hideR L id hd := ⟨_, rfl⟩
  rw [← hy]
  unfold hideR at hy
  obtain ⟨i, hi⟩ : ∃ i, i = plN L id := ⟨_, rfl⟩
  have HI : Hid (plI L id = if i < L.length then ((i : Nat) : Int) else -1) := by show plI L id = _; rw [hi]; rfl
  rw [← hi] at hy
  have HYA := hide' hy
  obtain ⟨x, hx⟩ : ∃ x, x = plI L id := ⟨_, rfl⟩
  have HP := hide' (place53 ⟨b, v⟩ sw sh m L id w h)
  have HSA := hide' h
  rw [← hx] at HP HI
  clear h hy hi hx
  go_enter Try.func31, Try.ntmps31
  go_wp2_with fail
  refine HP.out.mono ?_
  rintro _ w1 ⟨rfl, hs⟩
  have HS1 := hide' hs
  have hS1 := HSA.out.keep hs
  clear hs HP
  by_cases hlt : i < L.length
  · have hY0 := HYA.out
    have hxi : x = (i : Nat) := by rw [HI.out, if_pos hlt]
    subst hxi
    obtain ⟨p, hp⟩ : ∃ p, L[i]? = some p := ⟨_, List.getElem?_eq_getElem hlt⟩
    obtain ⟨a, cap, hv, hw, h0⟩ := hS1.row
    simp only at hv
    subst hv
    obtain ⟨n, hn⟩ : ∃ n, L.length = n := ⟨_, rfl⟩
    rw [hn] at hw
    obtain ⟨g, e, hb⟩ := hw.at hp
    subst e
    have hkm := hS1.n1
    have HKB := hide' hS1.box
    have HGB : Hid (¬ b = g ∧ ¬ g = b) := hide' ⟨fun e => hS1.vb g rfl e.symm, fun e => hS1.vb g rfl e⟩
    obtain ⟨_, _, _, _, k4, _, _, _, _, _, _, _⟩ := HKB.out
    simp only at k4
    rw [hn] at k4
    have hz0 : (0 : Int) ≤ (i : Nat) := by omega
    have hz1 : (i : Int) < (n : Nat) := by omega
    have hz2 : (i : Int) ≤ 256 := by omega
    have hz3 : i < n := by omega
    have hgr : g < w1.heap.size ∧ w1.there g 0 (cap * 7) := by
      rcases hw.2.2.2 with ⟨e, _⟩ | ⟨g', e, h1, _, h3⟩
      · cases e
      · cases e; exact ⟨h1, h3⟩
    have hcn := hw.2.1
    have HKK := hide' (show L.length = n ∧ n ≤ 256 ∧ cap ≠ 0 ∧ i < n ∧ n ≤ cap from ⟨hn, by omega, fun e => by omega, hz3, hcn⟩)
    have HP := hide' hp
    have HWS := hide' hw
    have HGR := hide' hgr
    rw [hp] at hY0
    have HY : Hid (y = (L.set i ⟨p.id, p.env, p.x, p.y, p.w, p.h, hd⟩, 0)) := hide' hY0
    obtain ⟨r0, r1, r2, r3, r4, r5, r6⟩ := hb
    have r7 : w1.frozen? ⟨g, i * 7 + 6, none⟩ = false := by have := (hgr.2 (i * 7 + 6) (by omega)).2; rwa [Nat.zero_add] at this
    clear hS1 hw h0 hlt hn hkm HYA HI hp hgr hcn hY0
    go_wp2
    go_ret
    obtain ⟨w2, hw2⟩ : ∃ W, W = w1.setCell ⟨g, i * 7 + 6, none⟩ (.bool hd) := ⟨_, rfl⟩
    have hst : Stay (fun j => j = g) w1 w2 := by rw [hw2]; exact (Stay.refl (fun j => j = g) w1).setCell (p := ⟨g, i * 7 + 6, none⟩) rfl _
    have HLF : Hid ((L.set i ⟨p.id, p.env, p.x, p.y, p.w, p.h, hd⟩).length = n) := hide' (by rw [List.length_set]; exact HKK.out.1)
    have HWF : Hid (Ws w2 (some ⟨g, 0, none⟩) n cap (L.set i ⟨p.id, p.env, p.x, p.y, p.w, p.h, hd⟩)) := hide' (by
      rw [hw2]
      exact HWS.out.part (k := 6) (vs := [.bool hd]) HP.out (by simp) rfl)
    have HKF := hide' (HKB.out.stay hst (fun e => HGB.out.1 e))
    rw [← hw2]
    refine ⟨.slice (some ⟨g, 0, none⟩) n cap, by rw [HY.out]; rfl, ?_, ?_, fun j hj => .inl (by rw [HKK.out.1]; exact hj)⟩
    · rw [HY.out]
      have hk := HKF.out
      rw [HKK.out.1] at hk
      exact ⟨hk, ⟨some ⟨g, 0, none⟩, cap, by rw [HLF.out], by rw [HLF.out]; exact HWF.out, fun e => absurd e HKK.out.2.2.1⟩, fun j hj e => by cases hj; exact HGB.out.2 e, by have := HKK.out.2.1; rw [HLF.out]; exact this⟩
    · exact (HS1.out.mono (fun _ _ h => h.elim)).trans (hst.mono (fun j _ e => .inr (by rw [e]; rfl)))
  · have HY : Hid (y = (L, 5)) := by
      have h1 := HYA.out
      rw [List.getElem?_eq_none (by omega)] at h1
      exact h1
    have hxi : x = -1 := by rw [HI.out, if_neg hlt]
    subst hxi
    have HSB := hide' hS1
    clear hS1 hlt HYA HI
    go_wp2
    go_ret
    exact ⟨v, by rw [HY.out]; rfl, by rw [HY.out]; exact HSB.out, SMoved.of_stay HS1.out⟩

set_option maxHeartbeats 2000000 in
theorem move32 (q : Sm) (sw sh m : Int) (L : List Wn) (id : Int) (r : R) (w : World) (h : SAt w q sw sh m L) (h1 : scrB sw = true) (h2 : scrB sh = true) :
    Calls Try.prog 32 #[.pointer (some ⟨q.b, 0, none⟩), .int .i64 id, .agg #[.int .i64 r.x, .int .i64 r.y, .int .i64 r.w, .int .i64 r.h]] w (ErrS q sw sh m (moveR sw sh L id r) w) := by
  obtain ⟨b, v⟩ := q
  obtain ⟨y, hy⟩ : ∃ y, y = moveR sw sh L id r := ⟨_, rfl⟩
  rw [← hy]
  unfold moveR at hy
  obtain ⟨i, hi⟩ : ∃ i, i = plN L id := ⟨_, rfl⟩
  have HI : Hid (plI L id = if i < L.length then ((i : Nat) : Int) else -1) := by show plI L id = _; rw [hi]; rfl
  rw [← hi] at hy
  have HYA := hide' hy
  obtain ⟨x, hx⟩ : ∃ x, x = plI L id := ⟨_, rfl⟩
  obtain ⟨W0, hW0⟩ : ∃ W, W = w.alloc (.cells #[.int .i64 r.x, .int .i64 r.y, .int .i64 r.w, .int .i64 r.h] 41) := ⟨_, rfl⟩
  obtain ⟨bs, hbs⟩ : ∃ b, b = w.heap.size := ⟨_, rfl⟩
  have hst0 : Stay (fun _ => False) w W0 := by rw [hW0]; exact (Stay.refl _ _).alloc _
  have HS0 := hide' hst0
  have HR := hide' (show Box W0 bs r by rw [hW0]; exact Box.new r hbs.symm)
  have HBL := hide' (show (∀ j, (⟨b, v⟩ : Sm).own j → j < bs) from fun j hj => by rw [hbs]; exact h.lt j hj)
  have HP := hide' (place53 ⟨b, v⟩ sw sh m L id W0 (h.keep hst0))
  have HSA := hide' (h.keep hst0)
  have HF := hide' (fun W (hs : SAt W ⟨b, v⟩ sw sh m L) => fits49 ⟨b, v⟩ sw sh m L r W hs h1 h2)
  obtain ⟨fb, hfb⟩ : ∃ f, f = fitB sw sh r := ⟨_, rfl⟩
  rw [← hfb] at HYA HF
  rw [← hx] at HP HI
  clear h hy hi hx hst0 hfb h1 h2
  go_enter Try.func32, Try.ntmps32
  go_upto_region 1 with fail
  rw [← hW0, ← hbs]
  clear hW0 hbs
  go_wp2_with fail
  refine HP.out.mono ?_
  rintro _ w0 ⟨rfl, hs⟩
  have HSX := hide' (HS0.out.trans hs)
  have HR0 := hide' (HR.out.keep hs)
  have HSA0 := hide' (HSA.out.keep hs)
  clear hs HP HS0 HR HSA
  by_cases hlt : i < L.length
  · have hxi0 : x = (i : Nat) := by rw [HI.out, if_pos hlt]
    have hy0 : ¬ x < 0 := by omega
    obtain ⟨c0, c1, c2, c3, _⟩ := HR0.out
    clear hxi0
    go_wp2_with fail
    refine (HF.out _ HSA0.out).mono ?_
    rintro _ w1 ⟨rfl, hs⟩
    have HS1 := hide' (HSX.out.trans hs)
    have hS1 := HSA0.out.keep hs
    have HR1 := hide' (HR0.out.keep hs)
    clear hs HF HSX HR0 HSA0 c0 c1 c2 c3
    have hY0 := HYA.out
    have hxe := HI.out
    have hxi : x = (i : Nat) := by rw [HI.out, if_pos hlt]
    clear hxe hy0
    subst hxi
    obtain ⟨p, hp⟩ : ∃ p, L[i]? = some p := ⟨_, List.getElem?_eq_getElem hlt⟩
    obtain ⟨a, cap, hv, hw, h0⟩ := hS1.row
    simp only at hv
    subst hv
    obtain ⟨n, hn⟩ : ∃ n, L.length = n := ⟨_, rfl⟩
    rw [hn] at hw
    obtain ⟨g, e, hb⟩ := hw.at hp
    subst e
    have hkm := hS1.n1
    have HKB := hide' hS1.box
    have HGB : Hid (¬ b = g ∧ ¬ g = b) := hide' ⟨fun e => hS1.vb g rfl e.symm, fun e => hS1.vb g rfl e⟩
    obtain ⟨_, _, _, _, k4, _, _, _, _, _, _, _⟩ := HKB.out
    simp only at k4
    rw [hn] at k4
    have hz0 : (0 : Int) ≤ (i : Nat) := by omega
    have hz1 : (i : Int) < (n : Nat) := by omega
    have hz2 : (i : Int) ≤ 256 := by omega
    have hz3 : i < n := by omega
    have hgr : g < w1.heap.size ∧ w1.there g 0 (cap * 7) := by
      rcases hw.2.2.2 with ⟨e, _⟩ | ⟨g', e, h1, _, h3⟩
      · cases e
      · cases e; exact ⟨h1, h3⟩
    have hcn := hw.2.1
    have HKK := hide' (show L.length = n ∧ n ≤ 256 ∧ cap ≠ 0 ∧ i < n ∧ n ≤ cap from ⟨hn, by omega, fun e => by omega, hz3, hcn⟩)
    have HP := hide' hp
    have HWS := hide' hw
    have HGR := hide' hgr
    rw [hp] at hY0
    cases fb
    · have HY : Hid (y = (L, 2)) := hide' (by rw [hY0]; rfl)
      have HSB := hide' hS1
      clear hS1 hw h0 hlt hn hkm HYA HI hp hgr hcn hY0
      go_wp2
      go_ret
      exact ⟨.slice (some ⟨g, 0, none⟩) L.length cap, by rw [HY.out]; rfl, by rw [HY.out]; exact HSB.out, SMoved.of_stay HS1.out⟩
    · have HY : Hid (y = (L.set i ⟨p.id, p.env, r.x, r.y, r.w, r.h, p.hid⟩, 0)) := hide' (by rw [hY0]; rfl)
      obtain ⟨wd, hwd⟩ : ∃ W, W = w1.drew := ⟨_, rfl⟩
      have hst : Stay (fun _ => False) w1 wd := by rw [hwd]; exact (Stay.refl _ _).drew
      have hws := HWS.out.keep hst
      have HTH : Hid (wd.there g (i * 7 + 2) 4) := hide' (by
        rcases hws.2.2.2 with ⟨e, _⟩ | ⟨g', e, h1, _, h3⟩
        · cases e
        · cases e; exact there_part h3 (by omega))
      obtain ⟨w3, hw3⟩ : ∃ W, W = wd.setCells g (i * 7 + 2) #[.int .i64 r.x, .int .i64 r.y, .int .i64 r.w, .int .i64 r.h].toList := ⟨_, rfl⟩
      have hst3 : Stay (fun j => j = g) wd w3 := by rw [hw3]; exact (Stay.refl (fun j => j = g) wd).setCells g _ (i * 7 + 2) rfl
      have hgbs : ¬ bs = g := fun e => by have := HBL.out g (.inr rfl); omega
      have HS3 : Hid ((fun w' => w'.cell? ⟨b, 4, none⟩ = some (.slice (some ⟨g, 0, none⟩) n cap) ∧ Box w' bs r) w3) := hide' ⟨((hst3.cell (p := ⟨b, 4, none⟩) (HKB.out.keep hst).lt (fun e => HGB.out.1 e)).trans (keep_cell hst k4)), boxR_stay (HR1.out.keep hst) hst3 hgbs⟩
      have hS : (fun w' => w'.cell? ⟨b, 4, none⟩ = some (.slice (some ⟨g, 0, none⟩) n cap) ∧ Box w' bs r) w1.drew := by rw [← hwd]; exact ⟨keep_cell hst k4, HR1.out.keep hst⟩
      have HLF : Hid ((L.set i ⟨p.id, p.env, r.x, r.y, r.w, r.h, p.hid⟩).length = n) := hide' (by rw [List.length_set]; exact HKK.out.1)
      have HWF : Hid (Ws w3 (some ⟨g, 0, none⟩) n cap (L.set i ⟨p.id, p.env, r.x, r.y, r.w, r.h, p.hid⟩)) := hide' (by
        have e : (#[.int .i64 r.x, .int .i64 r.y, .int .i64 r.w, .int .i64 r.h] : Array Value).toList = [.int .i64 r.x, .int .i64 r.y, .int .i64 r.w, .int .i64 r.h] := rfl
        have hp := hws.part (i := i) (k := 2) (vs := [.int .i64 r.x, .int .i64 r.y, .int .i64 r.w, .int .i64 r.h]) (q := ⟨p.id, p.env, r.x, r.y, r.w, r.h, p.hid⟩) HP.out (by simp) rfl
        rw [hw3, e]
        exact hp)
      have HKF := hide' ((HKB.out.keep hst).stay hst3 (fun e => HGB.out.1 e))
      have HST := hide' ((HS1.out.trans hst).mono (T := (⟨b, .slice (some ⟨g, 0, none⟩) L.length cap⟩ : Sm).own) (fun _ _ h => h.elim) |>.trans (hst3.mono (fun j _ e => .inr (by rw [e]; rfl))))
      clear hS1 hw h0 hlt hn hkm HYA HI hp hgr hcn hY0 hb hws hst hst3 hgbs
      go_upto_region 6 with fail
      refine wp_region_mix (fun w' => w'.cell? ⟨b, 4, none⟩ = some (.slice (some ⟨g, 0, none⟩) n cap) ∧ Box w' bs r) [(0, true), (1, true), (2, true), (3, true), (4, true), (5, true), (6, true), (7, true), (8, false)] (by kernel_rfl) (by kernel_rfl) (fun _ d _ _ _ h => by cases d <;> exact h) hS ?_
      refine mix_begin (fun K0 hK0 => ?_)
      refine mix_take hK0 (some 17) (.move (.tmp 0)) 28 _ (by kernel_rfl) (by kernel_rfl) (fun w' hS' => by (have k4 := hS'.1; simp only [opr]; go_simp; try with_reducible rfl)) (fun K1 hK1 => ?_)
      clear hK0 K0
      simp only [Act.put, List.setIfInBounds_toArray, List.set_cons_zero, List.set_cons_succ]
      refine mix_take hK1 (some 18) (.nilCheck (.tmp 17)) 0 _ (by kernel_rfl) (by kernel_rfl) (fun w' hS' => by (have k4 := hS'.1; simp only [opr]; go_simp; try with_reducible rfl)) (fun K2 hK2 => ?_)
      clear hK1 K1
      simp only [Act.put, List.setIfInBounds_toArray, List.set_cons_zero, List.set_cons_succ]
      refine mix_take hK2 (some 19) (.fieldAddr 72 (.tmp 18) 1) 0 _ (by kernel_rfl) (by kernel_rfl) (fun w' hS' => by (have k4 := hS'.1; simp only [opr]; go_simp; try with_reducible rfl)) (fun K3 hK3 => ?_)
      clear hK2 K2
      simp only [Act.put, List.setIfInBounds_toArray, List.set_cons_zero, List.set_cons_succ]
      refine mix_take hK3 (some 20) (.load 30 (.tmp 19)) 30 _ (by kernel_rfl) (by kernel_rfl) (fun w' hS' => by (have k4 := hS'.1; simp only [opr]; go_simp; try with_reducible rfl)) (fun K4 hK4 => ?_)
      clear hK3 K3
      simp only [Act.put, List.setIfInBounds_toArray, List.set_cons_zero, List.set_cons_succ]
      refine mix_take hK4 (some 21) (.move (.tmp 7)) 3 _ (by kernel_rfl) (by kernel_rfl) (fun w' hS' => by (have k4 := hS'.1; simp only [opr]; go_simp; try with_reducible rfl)) (fun K5 hK5 => ?_)
      clear hK4 K4
      simp only [Act.put, List.setIfInBounds_toArray, List.set_cons_zero, List.set_cons_succ]
      refine mix_take hK5 (some 22) (.load 41 (.tmp 5)) 41 _ (by kernel_rfl) (by kernel_rfl) (fun w' hS' => by exact run_load_box rfl rfl hS'.2) (fun K6 hK6 => ?_)
      clear hK5 K5
      simp only [Act.put, List.setIfInBounds_toArray, List.set_cons_zero, List.set_cons_succ]
      refine mix_take hK6 (some 23) (.indexAddr 30 (.tmp 20) (.tmp 21)) 0 _ (by kernel_rfl) (by kernel_rfl) (fun w' hS' => by (have k4 := hS'.1; simp only [opr]; go_simp; try with_reducible rfl)) (fun K7 hK7 => ?_)
      clear hK6 K6
      simp only [Act.put, List.setIfInBounds_toArray, List.set_cons_zero, List.set_cons_succ]
      refine mix_take hK7 (some 24) (.fieldAddr 78 (.tmp 23) 2) 0 _ (by kernel_rfl) (by kernel_rfl) (fun w' hS' => by (have k4 := hS'.1; simp only [opr]; go_simp; try with_reducible rfl)) (fun K8 hK8 => ?_)
      clear hK7 K7
      simp only [Act.put, List.setIfInBounds_toArray, List.set_cons_zero, List.set_cons_succ]
      refine mix_chain hK8 (fun K8c hK8c => ?_)
      clear hK8 K8
      refine op_plain none (.store 41 (.tmp 24) (.tmp 22)) 0 (by kernel_rfl) (by kernel_rfl) ?_
      rw [← hwd]
      refine wpList_store_mid rfl 41 (.tmp 24) (.tmp 22) rfl g (i * 7 + 2) #[.int .i64 r.x, .int .i64 r.y, .int .i64 r.w, .int .i64 r.h] rfl rfl HTH.out (by kernel_rfl) (by simp [Value.oneCell']) ?_
      rw [← hw3]
      refine wpList_nil ?_
      have hSr : (fun w' => w'.cell? ⟨b, 4, none⟩ = some (.slice (some ⟨g, 0, none⟩) n cap) ∧ Box w' bs r) w3 := HS3.out
      refine hK8c _ _ hSr (mix_begin fun K9 hK9 => ?_)
      clear hK8c K8c
      try simp only [Act.put]
      refine hK9 _ _ (mix_nil ?_)
      clear hK9 K9
      clear hwd hw3
      go_wp2
      go_ret
      refine ⟨.slice (some ⟨g, 0, none⟩) n cap, by rw [HY.out]; rfl, ?_, HST.out, fun j hj => .inl (by rw [HKK.out.1]; exact hj)⟩
      rw [HY.out]
      have hk := HKF.out
      rw [HKK.out.1] at hk
      exact ⟨hk, ⟨some ⟨g, 0, none⟩, cap, by rw [HLF.out], by rw [HLF.out]; exact HWF.out, fun e => absurd e HKK.out.2.2.1⟩, fun j hj e => by cases hj; exact HGB.out.2 e, by have := HKK.out.2.1; rw [HLF.out]; exact this⟩
  · have HY : Hid (y = (L, 5)) := by
      have h1 := HYA.out
      rw [List.getElem?_eq_none (by omega)] at h1
      exact h1
    have hS1 := HSA0.out
    have HS1 := HSX
    clear HSA0 HF HR0
    have hxi : x = -1 := by rw [HI.out, if_neg hlt]
    subst hxi
    have HSB := hide' hS1
    clear hS1 hlt HYA HI
    go_wp2
    go_ret
    exact ⟨v, by rw [HY.out]; rfl, by rw [HY.out]; exact HSB.out, SMoved.of_stay HS1.out⟩

/-- A draw between two writes changes nothing of them. -/
theorem drew_first {w : World} {g n cap : Nat} {L : List Wn} {ys : List Value} (h : Ws (w.setCells g 0 ys) (some ⟨g, 0, none⟩) n cap L) : Ws (w.drew.setCells g 0 ys) (some ⟨g, 0, none⟩) n cap L := by
  have e : ∀ (vs : List Value) (o : Nat) (w : World), (w.setCells g o vs).drew = w.drew.setCells g o vs := fun vs => by
    induction vs with
    | nil => intro o w; rfl
    | cons v r ih => intro o w; rw [World.setCells, World.setCells, ih]; rfl
  rw [← e]
  exact h.keep (Stay.refl _ _).drew

set_option maxHeartbeats 2000000 in
theorem top30 (q : Sm) (sw sh m : Int) (L : List Wn) (id : Int) (w : World) (h : SAt w q sw sh m L) :
    Calls Try.prog 30 #[.pointer (some ⟨q.b, 0, none⟩), .int .i64 id] w (ErrS q sw sh m (topR L id) w) := by
  obtain ⟨b, v⟩ := q
  obtain ⟨y, hy⟩ : ∃ y, y = topR L id := ⟨_, rfl⟩
  rw [← hy]
  unfold topR at hy
  obtain ⟨i, hi⟩ : ∃ i, i = plN L id := ⟨_, rfl⟩
  have HI : Hid (plI L id = if i < L.length then ((i : Nat) : Int) else -1) := by show plI L id = _; rw [hi]; rfl
  rw [← hi] at hy
  have HYA := hide' hy
  obtain ⟨x, hx⟩ : ∃ x, x = plI L id := ⟨_, rfl⟩
  have HP := hide' (place53 ⟨b, v⟩ sw sh m L id w h)
  have HSA := hide' h
  rw [← hx] at HP HI
  clear h hy hi hx
  go_enter Try.func30, Try.ntmps30
  go_wp2_with fail
  refine HP.out.mono ?_
  rintro _ w1 ⟨rfl, hs⟩
  have HS1 := hide' hs
  have hS1 := HSA.out.keep hs
  clear hs HP
  by_cases hlt : i < L.length
  · have hY0 := HYA.out
    have hxi : x = (i : Nat) := by rw [HI.out, if_pos hlt]
    subst hxi
    obtain ⟨p, hp⟩ : ∃ p, L[i]? = some p := ⟨_, List.getElem?_eq_getElem hlt⟩
    obtain ⟨a, cap, hv, hw, h0⟩ := hS1.row
    simp only at hv
    subst hv
    obtain ⟨n, hn⟩ : ∃ n, L.length = n := ⟨_, rfl⟩
    rw [hn] at hw
    obtain ⟨g, e, hb⟩ := hw.at hp
    subst e
    have hkm := hS1.n1
    have HKB := hide' hS1.box
    have HGB : Hid (¬ b = g ∧ ¬ g = b) := hide' ⟨fun e => hS1.vb g rfl e.symm, fun e => hS1.vb g rfl e⟩
    obtain ⟨_, _, _, _, k4, _, _, _, _, _, _, _⟩ := HKB.out
    simp only at k4
    rw [hn] at k4
    have hz0 : (0 : Int) ≤ (i : Nat) := by omega
    have hz1 : (i : Int) < (n : Nat) := by omega
    have hz2 : (i : Int) ≤ 256 := by omega
    have hz3 : i < n := by omega
    have hgr : g < w1.heap.size ∧ w1.there g 0 (cap * 7) := by
      rcases hw.2.2.2 with ⟨e, _⟩ | ⟨g', e, h1, _, h3⟩
      · cases e
      · cases e; exact ⟨h1, h3⟩
    have hcn := hw.2.1
    have HKK := hide' (show L.length = n ∧ n ≤ 256 ∧ cap ≠ 0 ∧ i < n ∧ n ≤ cap from ⟨hn, by omega, fun e => by omega, hz3, hcn⟩)
    have HP := hide' hp
    have HWS := hide' hw
    have HGR := hide' hgr
    rw [hp] at hY0
    have HY : Hid (y = (p :: L.eraseIdx i, 0)) := hide' hY0
    obtain ⟨r0, r1, r2, r3, r4, r5, r6⟩ := hb
    have hbl : b < w1.heap.size := HKB.out.lt
    -- the box of the window
    obtain ⟨w2, hw2⟩ : ∃ W, W = w1.alloc (.cells #[.int .i64 p.id, .int .i64 p.env, .int .i64 p.x, .int .i64 p.y, .int .i64 p.w, .int .i64 p.h, .bool p.hid] 78) := ⟨_, rfl⟩
    obtain ⟨bp, hbp⟩ : ∃ b, b = w1.heap.size := ⟨_, rfl⟩
    have hst2 : Stay (fun _ => False) w1 w2 := by
      rw [hw2]
      exact (Stay.refl (fun _ => False) w1).alloc _
    have HB2 : Hid (NBox w2 bp p) := hide' (by
      rw [hw2, hbp]
      exact NBox.new p rfl)
    have hbpg : ¬ bp = g := fun e => by have := hgr.1; omega
    have hbpb : ¬ bp = b := fun e => by omega
    obtain ⟨wd, hwd⟩ : ∃ W, W = w2.drew := ⟨_, rfl⟩
    have hstd : Stay (fun _ => False) w2 wd := by rw [hwd]; exact (Stay.refl _ _).drew
    have hst3 := hst2.trans hstd
    have hws := HWS.out.keep hst3
    have hgd : wd.rangeAt g 0 (wc L) ∧ wd.there g 0 (cap * 7) := by
      rcases hws.2.2.2 with ⟨e, _⟩ | ⟨g', e, _, r⟩
      · cases e
      · cases e; exact r
    obtain ⟨ad, had⟩ : ∃ ad : Addr, ad = if cap = 1 then ⟨g, 0, none⟩ else ⟨g, 1 * 7, none⟩ := ⟨_, rfl⟩
    have HAD : Hid (ad = (if cap = 1 then ⟨g, 0, none⟩ else ⟨g, 1 * 7, none⟩) ∧ ∃ gg go, ad = ⟨gg, go, none⟩) := hide' ⟨had, by rw [had]; split <;> exact ⟨_, _, rfl⟩⟩
    have hcl : (wc (L.take i)).length = i * 7 := by rw [wc_length, List.length_take]; omega
    have HCL := hide' hcl
    have HMN : Hid (i = Nat.min i (n - 1)) := hide' (by show i = min i (n - 1); omega)
    have HSRC : Hid (∀ j v, (wc (L.take i))[j]? = some v → wd.cell? ⟨g, 0 + j, none⟩ = some v) := hide' (fun j v hj => hgd.1 j v (by
      rw [wc_take, List.getElem?_take] at hj
      split at hj
      · exact hj
      · cases hj))
    have hcase : i = 0 ∨ ad = ⟨g, 7, none⟩ := by
      by_cases hi0 : i = 0
      · exact .inl hi0
      · right; rw [had, if_neg (by omega)]
    have HTH : Hid (∀ gg go, ad = ⟨gg, go, none⟩ → wd.there gg go (i * 7)) := hide' (fun gg go e => by
      rcases hcase with hi0 | e2
      · subst hi0; intro j hj; omega
      · rw [e2] at e; cases e; exact there_part hgd.2 (by omega))
    have HONE := hide' (wc_one (L.take i))
    obtain ⟨w4, hw4⟩ : ∃ W, W = wd.setCells g 7 (wc (L.take i)) := ⟨_, rfl⟩
    have HW4 : Hid (∀ gg go, ad = ⟨gg, go, none⟩ → wd.setCells gg go (wc (L.take i)) = w4) := hide' (fun gg go e => by
      rcases hcase with hi0 | e2
      · subst hi0; rw [hw4]; rfl
      · rw [e2] at e; cases e; rw [hw4])
    have hst4 : Stay (fun j => j = g) wd w4 := by rw [hw4]; exact (Stay.refl (fun j => j = g) wd).setCells g (wc (L.take i)) 7 rfl
    have hk4 : w4.cell? ⟨b, 4, none⟩ = some (.slice (some ⟨g, 0, none⟩) n cap) := (hst4.cell (p := ⟨b, 4, none⟩) (HKB.out.keep hst3).lt (fun e => HGB.out.1 e)).trans (keep_cell hst3 k4)
    have HS4 : Hid ((fun w' => w'.cell? ⟨b, 4, none⟩ = some (.slice (some ⟨g, 0, none⟩) n cap)) w4) := hide' hk4
    have hS : (fun w' => w'.cell? ⟨b, 4, none⟩ = some (.slice (some ⟨g, 0, none⟩) n cap)) w2.drew := by rw [← hwd]; exact keep_cell hst3 k4
    obtain ⟨w5, hw5⟩ : ∃ W, W = w4.drew := ⟨_, rfl⟩
    have hst5 : Stay (fun _ => False) w4 w5 := by rw [hw5]; exact (Stay.refl _ _).drew
    have ht4 : w4.there g 0 (cap * 7) := by rw [hw4]; exact World.there_setCells hgd.2 g 7 (wc (L.take i))
    have HT5 : Hid (w5.there g 0 7) := hide' (by rw [hw5]; exact fun j hj => there_part ht4 (o := 0) (k := 7) (by omega) j hj)
    obtain ⟨w6, hw6⟩ : ∃ W, W = w5.setCells g 0 (#[.int .i64 p.id, .int .i64 p.env, .int .i64 p.x, .int .i64 p.y, .int .i64 p.w, .int .i64 p.h, .bool p.hid] : Array Value).toList := ⟨_, rfl⟩
    have hst6 : Stay (fun j => j = g) w5 w6 := by rw [hw6]; exact (Stay.refl (fun j => j = g) w5).setCells g _ 0 rfl
    have hb6 : NBox w6 bp p := ((HB2.out.keep hstd).stay (hst4.trans (hst5.mono (fun _ _ h => h.elim))) hbpg).stay hst6 hbpg
    have HS6 : Hid ((fun w' => w'.cell? ⟨b, 4, none⟩ = some (.slice (some ⟨g, 0, none⟩) n cap) ∧ NBox w' bp p) w6) := hide' ⟨(hst6.cell (p := ⟨b, 4, none⟩) ((HKB.out.keep hst3).stay (hst4.trans (hst5.mono (fun _ _ h => h.elim))) (fun e => HGB.out.1 e)).lt (fun e => HGB.out.1 e)).trans (keep_cell hst5 hk4), hb6⟩
    have HS5 : Hid ((fun w' => w'.cell? ⟨b, 4, none⟩ = some (.slice (some ⟨g, 0, none⟩) n cap) ∧ NBox w' bp p) w5) := hide' ⟨keep_cell hst5 hk4, (HB2.out.keep hstd).stay (hst4.trans (hst5.mono (fun _ _ h => h.elim))) hbpg⟩
    have HWF : Hid (Ws w6 (some ⟨g, 0, none⟩) n cap (p :: L.eraseIdx i)) := hide' (by
      have hf := hws.first p (i := i) (by omega) (by omega)
      rw [← hw4, ← List.eraseIdx_eq_take_drop_succ, show max n (i + 1) = n by omega] at hf
      have e : (#[.int .i64 p.id, .int .i64 p.env, .int .i64 p.x, .int .i64 p.y, .int .i64 p.w, .int .i64 p.h, .bool p.hid] : Array Value).toList = p.parts := rfl
      rw [hw6, e, hw5]
      exact drew_first hf)
    have HLF : Hid ((p :: L.eraseIdx i).length = n) := hide' (by rw [List.length_cons, List.length_eraseIdx, if_pos (by omega)]; omega)
    have HKF := hide' (((HKB.out.keep hst3).stay (hst4.trans (hst5.mono (fun _ _ h => h.elim))) (fun e => HGB.out.1 e)).stay hst6 (fun e => HGB.out.1 e))
    have HST := hide' (((HS1.out.trans hst3).mono (T := (⟨b, .slice (some ⟨g, 0, none⟩) L.length cap⟩ : Sm).own) (fun _ _ h => h.elim)).trans ((hst4.trans ((hst5.mono (fun _ _ h => h.elim)).trans hst6)).mono (fun j _ e => .inr (by rw [e]; rfl))))
    have hz8 : i ≤ cap := by omega
    have hz9 : 0 < n := by omega
    clear hst2 hbpg hbpb hstd hst3 hws hgd had hcl hcase hst4 hk4 hst5 ht4 hst6 hb6
    clear hS1 hw h0 hlt hn hkm HYA HI hp hgr hcn hY0
    go_upto_region 5 with fail
    rw [← hw2, ← hbp]
    clear hw2 hbp hbl
    refine wp_region_mix (fun w' => w'.cell? ⟨b, 4, none⟩ = some (.slice (some ⟨g, 0, none⟩) n cap)) [(0, true), (1, true), (2, true), (3, true), (4, true), (5, true), (6, true), (7, true), (8, true), (9, true), (10, true), (11, false)] (by kernel_rfl) (by kernel_rfl) (fun _ d _ _ _ h => by cases d <;> exact h) hS ?_
    refine mix_begin (fun K0 hK0 => ?_)
    refine mix_take hK0 (some 19) (.move (.tmp 0)) 28 _ (by kernel_rfl) (by kernel_rfl) (fun w' hS' => by (have k4 := hS'; simp only [opr]; go_simp; try with_reducible rfl)) (fun K1 hK1 => ?_)
    clear hK0 K0
    simp only [Act.put, List.setIfInBounds_toArray, List.set_cons_zero, List.set_cons_succ]
    refine mix_take hK1 (some 20) (.nilCheck (.tmp 19)) 0 _ (by kernel_rfl) (by kernel_rfl) (fun w' hS' => by (have k4 := hS'; simp only [opr]; go_simp; try with_reducible rfl)) (fun K2 hK2 => ?_)
    clear hK1 K1
    simp only [Act.put, List.setIfInBounds_toArray, List.set_cons_zero, List.set_cons_succ]
    refine mix_take hK2 (some 21) (.fieldAddr 72 (.tmp 20) 1) 0 _ (by kernel_rfl) (by kernel_rfl) (fun w' hS' => by (have k4 := hS'; simp only [opr]; go_simp; try with_reducible rfl)) (fun K3 hK3 => ?_)
    clear hK2 K2
    simp only [Act.put, List.setIfInBounds_toArray, List.set_cons_zero, List.set_cons_succ]
    refine mix_take hK3 (some 22) (.load 30 (.tmp 21)) 30 _ (by kernel_rfl) (by kernel_rfl) (fun w' hS' => by (have k4 := hS'; simp only [opr]; go_simp; try with_reducible rfl)) (fun K4 hK4 => ?_)
    clear hK3 K3
    simp only [Act.put, List.setIfInBounds_toArray, List.set_cons_zero, List.set_cons_succ]
    refine mix_take hK4 (some 23) (.slice 30 (.tmp 22) (some (.const (Value.int IntKind.i64 1))) none none) 30 _ (by kernel_rfl) (by kernel_rfl) (fun w' hS' => by exact slice30_la (k := 1) (ad := ad) rfl rfl (by omega) HAD.out.1 rfl rfl _ _ _) (fun K5 hK5 => ?_)
    clear hK4 K4
    simp only [Act.put, List.setIfInBounds_toArray, List.set_cons_zero, List.set_cons_succ]
    refine mix_take hK5 (some 24) (.move (.tmp 0)) 28 _ (by kernel_rfl) (by kernel_rfl) (fun w' hS' => by (have k4 := hS'; simp only [opr]; go_simp; try with_reducible rfl)) (fun K6 hK6 => ?_)
    clear hK5 K5
    simp only [Act.put, List.setIfInBounds_toArray, List.set_cons_zero, List.set_cons_succ]
    refine mix_take hK6 (some 25) (.nilCheck (.tmp 24)) 0 _ (by kernel_rfl) (by kernel_rfl) (fun w' hS' => by (have k4 := hS'; simp only [opr]; go_simp; try with_reducible rfl)) (fun K7 hK7 => ?_)
    clear hK6 K6
    simp only [Act.put, List.setIfInBounds_toArray, List.set_cons_zero, List.set_cons_succ]
    refine mix_take hK7 (some 26) (.fieldAddr 72 (.tmp 25) 1) 0 _ (by kernel_rfl) (by kernel_rfl) (fun w' hS' => by (have k4 := hS'; simp only [opr]; go_simp; try with_reducible rfl)) (fun K8 hK8 => ?_)
    clear hK7 K7
    simp only [Act.put, List.setIfInBounds_toArray, List.set_cons_zero, List.set_cons_succ]
    refine mix_take hK8 (some 27) (.load 30 (.tmp 26)) 30 _ (by kernel_rfl) (by kernel_rfl) (fun w' hS' => by (have k4 := hS'; simp only [opr]; go_simp; try with_reducible rfl)) (fun K9 hK9 => ?_)
    clear hK8 K8
    simp only [Act.put, List.setIfInBounds_toArray, List.set_cons_zero, List.set_cons_succ]
    refine mix_take hK9 (some 28) (.move (.tmp 5)) 3 _ (by kernel_rfl) (by kernel_rfl) (fun w' hS' => by (have k4 := hS'; simp only [opr]; go_simp; try with_reducible rfl)) (fun K10 hK10 => ?_)
    clear hK9 K9
    simp only [Act.put, List.setIfInBounds_toArray, List.set_cons_zero, List.set_cons_succ]
    refine mix_take hK10 (some 29) (.slice 30 (.tmp 27) none (some (.tmp 28)) none) 30 _ (by kernel_rfl) (by kernel_rfl) (fun w' hS' => by exact slice30_hz (k := i) rfl rfl (by omega) _ _ _) (fun K11 hK11 => ?_)
    clear hK10 K10
    simp only [Act.put, List.setIfInBounds_toArray, List.set_cons_zero, List.set_cons_succ]
    refine mix_chain hK11 (fun K11c hK11c => ?_)
    clear hK11 K11
    refine op_plain (some 30) (.call { callee := Callee.builtin Builtin.copy, args := #[.tmp 23, .tmp 29], argTypes := #[30, 30] }) 3 (by kernel_rfl) (by kernel_rfl) ?_
    rw [← hwd]
    obtain ⟨gg, go, hgo⟩ := HAD.out.2
    subst hgo
    refine wpList_copyS rfl (.tmp 23) (.tmp 29) 30 rfl 78 7 Try.underlying30 size78 gg go _ _ g 0 _ _ rfl rfl (wc (L.take i)) i HMN.out HCL.out HSRC.out (HTH.out gg go rfl) HONE.out ?_
    rw [HW4.out gg go rfl]
    refine wpList_nil ?_
    have hSr : (fun w' => w'.cell? ⟨b, 4, none⟩ = some (.slice (some ⟨g, 0, none⟩) n cap)) w4 := HS4.out
    refine hK11c _ _ hSr (mix_begin fun K12 hK12 => ?_)
    clear hK11c K11c
    try simp only [Act.put, List.setIfInBounds_toArray, List.set_cons_zero, List.set_cons_succ]
    refine hK12 _ _ (mix_nil ?_)
    clear hK12 K12
    clear hwd HAD HW4 hw4 HS4 r0 r1 r2 r3 r4 r5 r6
    have k4 := hSr
    clear hSr
    have hS : (fun w' => w'.cell? ⟨b, 4, none⟩ = some (.slice (some ⟨g, 0, none⟩) n cap) ∧ NBox w' bp p) w4.drew := by rw [← hw5]; exact HS5.out
    go_upto_region 6 with fail
    refine wp_region_mix (fun w' => w'.cell? ⟨b, 4, none⟩ = some (.slice (some ⟨g, 0, none⟩) n cap) ∧ NBox w' bp p) [(0, true), (1, true), (2, true), (3, true), (4, true), (5, true), (6, false)] (by kernel_rfl) (by kernel_rfl) (fun _ d _ _ _ h => by cases d <;> exact h) hS ?_
    refine mix_begin (fun K0 hK0 => ?_)
    refine mix_take hK0 (some 31) (.move (.tmp 0)) 28 _ (by kernel_rfl) (by kernel_rfl) (fun w' hS' => by (have k4 := hS'.1; simp only [opr]; go_simp; try with_reducible rfl)) (fun K1 hK1 => ?_)
    clear hK0 K0
    simp only [Act.put, List.setIfInBounds_toArray, List.set_cons_zero, List.set_cons_succ]
    refine mix_take hK1 (some 32) (.nilCheck (.tmp 31)) 0 _ (by kernel_rfl) (by kernel_rfl) (fun w' hS' => by (have k4 := hS'.1; simp only [opr]; go_simp; try with_reducible rfl)) (fun K2 hK2 => ?_)
    clear hK1 K1
    simp only [Act.put, List.setIfInBounds_toArray, List.set_cons_zero, List.set_cons_succ]
    refine mix_take hK2 (some 33) (.fieldAddr 72 (.tmp 32) 1) 0 _ (by kernel_rfl) (by kernel_rfl) (fun w' hS' => by (have k4 := hS'.1; simp only [opr]; go_simp; try with_reducible rfl)) (fun K3 hK3 => ?_)
    clear hK2 K2
    simp only [Act.put, List.setIfInBounds_toArray, List.set_cons_zero, List.set_cons_succ]
    refine mix_take hK3 (some 34) (.load 30 (.tmp 33)) 30 _ (by kernel_rfl) (by kernel_rfl) (fun w' hS' => by (have k4 := hS'.1; simp only [opr]; go_simp; try with_reducible rfl)) (fun K4 hK4 => ?_)
    clear hK3 K3
    simp only [Act.put, List.setIfInBounds_toArray, List.set_cons_zero, List.set_cons_succ]
    refine mix_take hK4 (some 35) (.load 78 (.tmp 6)) 78 _ (by kernel_rfl) (by kernel_rfl) (fun w' hS' => by exact run_load_NBox rfl rfl hS'.2) (fun K5 hK5 => ?_)
    clear hK4 K4
    simp only [Act.put, List.setIfInBounds_toArray, List.set_cons_zero, List.set_cons_succ]
    refine mix_take hK5 (some 36) (.indexAddr 30 (.tmp 34) (.const (Value.int IntKind.i64 0))) 0 _ (by kernel_rfl) (by kernel_rfl) (fun w' hS' => by (have k4 := hS'.1; simp only [opr]; go_simp; try with_reducible rfl)) (fun K6 hK6 => ?_)
    clear hK5 K5
    simp only [Act.put, List.setIfInBounds_toArray, List.set_cons_zero, List.set_cons_succ]
    refine mix_chain hK6 (fun K6c hK6c => ?_)
    clear hK6 K6
    refine op_plain none (.store 78 (.tmp 36) (.tmp 35)) 0 (by kernel_rfl) (by kernel_rfl) ?_
    rw [← hw5]
    refine wpList_store_mid rfl 78 (.tmp 36) (.tmp 35) rfl g 0 #[.int .i64 p.id, .int .i64 p.env, .int .i64 p.x, .int .i64 p.y, .int .i64 p.w, .int .i64 p.h, .bool p.hid] rfl rfl HT5.out (by kernel_rfl) (by simp [Value.oneCell']) ?_
    rw [← hw6]
    refine wpList_nil ?_
    have hSr : (fun w' => w'.cell? ⟨b, 4, none⟩ = some (.slice (some ⟨g, 0, none⟩) n cap) ∧ NBox w' bp p) w6 := HS6.out
    refine hK6c _ _ hSr (mix_begin fun K7 hK7 => ?_)
    clear hK6c K6c
    try simp only [Act.put]
    refine hK7 _ _ (mix_nil ?_)
    clear hK7 K7
    clear hw5 hw6 k4
    go_wp2
    go_ret
    refine ⟨.slice (some ⟨g, 0, none⟩) n cap, by rw [HY.out]; rfl, ?_, HST.out, fun j hj => .inl (by rw [HKK.out.1]; exact hj)⟩
    rw [HY.out]
    have hk := HKF.out
    rw [HKK.out.1] at hk
    exact ⟨hk, ⟨some ⟨g, 0, none⟩, cap, by rw [HLF.out], by rw [HLF.out]; exact HWF.out, fun e => absurd e HKK.out.2.2.1⟩, fun j hj e => by cases hj; exact HGB.out.2 e, by have := HKK.out.2.1; rw [HLF.out]; exact this⟩
  · have HY : Hid (y = (L, 5)) := by
      have h1 := HYA.out
      rw [List.getElem?_eq_none (by omega)] at h1
      exact h1
    have hxi : x = -1 := by rw [HI.out, if_neg hlt]
    subst hxi
    have HSB := hide' hS1
    clear hS1 hlt HYA HI
    go_wp2
    go_ret
    exact ⟨v, by rw [HY.out]; rfl, by rw [HY.out]; exact HSB.out, SMoved.of_stay HS1.out⟩

end Go.Proofs.Yticccknocjnkpaa
