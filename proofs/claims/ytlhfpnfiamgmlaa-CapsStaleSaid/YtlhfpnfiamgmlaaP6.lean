/-
  A slot is taken: walked. No conditions.
-/
import Derived.Test.YtlhfpnfiamgmlaaP5
import Derived.Deep.DeepCutAuto
namespace Go.Proofs.Ytlhfpnfiamgmlaa
open Go.RowKit

theorem free45 (p : Pl) (w : World) : Calls Try.prog 45 #[.agg #[.int .i64 p.gen, .int .i64 p.env, .int .i64 p.kind, .int .i64 p.obj, .int .i64 p.rights, p.of]] w (Gives (.bool (p.kind == 0)) w) := by
  obtain ⟨W0, hW0⟩ : ∃ W, W = w.alloc (.cells #[.int .i64 p.gen, .int .i64 p.env, .int .i64 p.kind, .int .i64 p.obj, .int .i64 p.rights, p.of] 64) := ⟨_, rfl⟩
  obtain ⟨bs, hbs⟩ : ∃ b, b = w.heap.size := ⟨_, rfl⟩
  have HS0 : Hid (Stay (fun _ => False) w W0) := by rw [hW0]; exact (Stay.refl _ _).alloc _
  have hb : PBox W0 bs p := by rw [hW0]; exact PBox.new p hbs.symm
  obtain ⟨_, _, q2, _⟩ := hb
  go_enter Try.func45, Try.ntmps45
  go_upto_region 1 with fail
  rw [← hW0, ← hbs]
  clear hW0 hbs
  go_wp2
  go_ret
  exact ⟨rfl, HS0.out⟩

/-- The number of the first free slot, or what stands for none. -/
def frI (n : Nat) (f : Nat → Sl) : Int := if freeIx f n < n then (freeIx f n : Nat) else -1

theorem kind_free {n : Nat} {s : Sl} (h : OkS n s) : (s.kind == 0) = decide (s.env < 0) := by
  rcases h with e | e
  · rw [e.2.1, e.1]; rfl
  · rw [decide_eq_false (by omega)]
    exact beq_eq_false_iff_ne.2 (by omega)

theorem first44 (T B n : Nat) (q : Int) (f : Nat → Sl) (w : World) (ht : TAt w T B n q f) : Calls Try.prog 44 #[.slice (some ⟨B, 0, none⟩) n 4096, .func (.func 45) #[] #[]] w (Gives (.int .i64 (frI n f)) w) := by
  have HT := hide' ht
  have HFX := hide' (freeIx_spec f n)
  obtain ⟨i, hi⟩ : ∃ i, i = freeIx f n := ⟨_, rfl⟩
  have HI : Hid (frI n f = if i < n then ((i : Nat) : Int) else -1) := by show frI n f = _; rw [hi]; rfl
  rw [← hi] at HFX
  have hn1 : (n : Int) ≤ 20 := by have := ht.n1; omega
  have HL0 := hide' (Stay.refl (fun _ => False) w)
  clear ht hi
  go_enter Try.func44, Try.ntmps44
  go_wp2
  go_loopg [8] n (fun gg v8 wr => ∃ k : Nat, k ≤ i ∧ k ≤ n ∧ gg = n - k ∧ v8 = .int .i64 (k : Int) ∧ Hid (Stay (fun _ => False) w wr))
  case atStart => exact ⟨0, Nat.zero_le _, Nat.zero_le _, rfl, rfl, HL0⟩
  case round =>
    clear HL0
    obtain ⟨k, hk, hkn, rfl, rfl, HL⟩ := hrel
    by_cases hlt : k < n
    · have kn : (k : Int) < (n : Nat) := by omega
      have hpb := (HT.out.keep HL.out).at hlt
      obtain ⟨p, hp⟩ : ∃ p, p = pl B (f k) := ⟨_, rfl⟩
      rw [← hp] at hpb
      have HX : Hid ((p.kind == 0) = decide ((f k).env < 0)) := by rw [hp]; exact kind_free (HT.out.ok.1 k hlt)
      obtain ⟨r0, r1, r2, r3, r4, r5⟩ := hpb
      clear hp
      by_cases hki : k < i
      · have HD : Hid ((p.kind == 0) = false) := by rw [HX.out]; exact decide_eq_false (by have := HFX.out.2.1 k hki; omega)
        clear HX
        go_wp2_with fail
        refine (free45 p _).mono ?_
        rintro _ w1 ⟨rfl, hs⟩
        rw [HD.out]
        have HS1 := hide' (HL.out.trans hs)
        clear hs HL r0 r1 r2 r3 r4 r5
        go_wp2
        go_roundg (n - (k + 1))
        case measure => omega
        case rel => exact ⟨k + 1, by omega, by omega, rfl, by go_num, HS1⟩
      · have hki' : k = i := by omega
        subst hki'
        have HD : Hid ((p.kind == 0) = true) := by rw [HX.out]; exact decide_eq_true (by have := HFX.out.2.2 hlt; omega)
        have HI2 : Hid (frI n f = ((k : Nat) : Int)) := by rw [HI.out, if_pos hlt]; exact rfl
        clear HX HI
        go_wp2_with fail
        refine (free45 p _).mono ?_
        rintro _ w1 ⟨rfl, hs⟩
        rw [HD.out]
        have HS1 := hide' (HL.out.trans hs)
        clear hs HL r0 r1 r2 r3 r4 r5
        go_wp2
        go_ret
        exact ⟨by rw [HI2.out]; rfl, HS1.out⟩
    · have hin := HFX.out.1
      have hkn' : k = n := by omega
      subst hkn'
      have hik : i = k := by omega
      subst hik
      have HI2 : Hid (frI i f = -1) := by rw [HI.out, if_neg hlt]; exact rfl
      clear HI
      go_wp2
      go_ret
      exact ⟨by rw [HI2.out]; rfl, HL.out⟩

theorem PAt.twelve {W : World} {b o : Nat} {c : Pl} (h : PAt W b o c) : (W.cell? ⟨b, o, none⟩ = some (.int .i64 c.gen) ∧ W.cell? ⟨b, o + 1, none⟩ = some (.int .i64 c.env) ∧ W.cell? ⟨b, o + 2, none⟩ = some (.int .i64 c.kind) ∧ W.cell? ⟨b, o + 3, none⟩ = some (.int .i64 c.obj) ∧ W.cell? ⟨b, o + 4, none⟩ = some (.int .i64 c.rights) ∧ W.cell? ⟨b, o + 5, none⟩ = some c.of) ∧
    W.frozen? ⟨b, o, none⟩ = false ∧ W.frozen? ⟨b, o + 1, none⟩ = false ∧ W.frozen? ⟨b, o + 2, none⟩ = false ∧ W.frozen? ⟨b, o + 3, none⟩ = false ∧ W.frozen? ⟨b, o + 4, none⟩ = false ∧ W.frozen? ⟨b, o + 5, none⟩ = false :=
  ⟨⟨h.1 0 _ rfl, h.1 1 _ rfl, h.1 2 _ rfl, h.1 3 _ rfl, h.1 4 _ rfl, h.1 5 _ rfl⟩, (h.2 0 (by decide)).2, (h.2 1 (by decide)).2, (h.2 2 (by decide)).2, (h.2 3 (by decide)).2, (h.2 4 (by decide)).2, (h.2 5 (by decide)).2⟩

/-- What one more does: its name, what is wrong. -/
def POut (T B n : Nat) (q : Int) (r : (Nat → Sl) × Int × Int × Int) (w : World) (e : Ending) (w' : World) : Prop := e = .returned (.tuple #[.agg #[.int .i64 r.2.1, .int .i64 r.2.2.1], .int .i64 r.2.2.2]) ∧ Stay (fun j => j = B) w w' ∧ TAt w' T B n q r.1

theorem results_ct {fn : Func} {p c : Tmp} (h : fn.results = #[.cell p 30, .tmp c]) (tmps : Array Value) (w : World) (g : Nat) (r : Nm) (x : Value) (hp : tmps.getD p undef = .pointer (some ⟨g, 0, none⟩)) (hc : tmps.getD c undef = x) (hb : NBox w g r) :
    (results fn tmps).run Try.prog w = .ok (.tuple #[.agg #[.int .i64 r.slot, .int .i64 r.gen], x]) w := by
  have hp' : tmps[p]?.getD undef = .pointer (some ⟨g, 0, none⟩) := by simpa using hp
  have hc' : tmps[c]?.getD undef = x := by simpa using hc
  simp [results, h, hp', hc', asAddr, run_loadVar_cells w g 0 30 _ _ hb.cells Try.underlying30 rfl (by kernel_rfl)]

set_option maxHeartbeats 2000000 in
theorem put31 (T B n : Nat) (q : Int) (f : Nat → Sl) (s : Sl) (w : World) (ht : TAt w T B n q f) (hs : OkS n s) (h0 : 0 ≤ s.env) (hof : ∀ j : Nat, s.of = (j : Nat) → j < n ∧ 0 ≤ (f j).env) : Calls Try.prog 31 #[.pointer (some ⟨T, 0, none⟩), .agg #[.int .i64 0, .int .i64 s.env, .int .i64 s.kind, .int .i64 s.obj, .int .i64 s.rights, ptrOf B s.of]] w (POut T B n q (addS n q f s) w) := by
  obtain ⟨p, hp⟩ : ∃ p : Pl, p = ⟨0, s.env, s.kind, s.obj, s.rights, ptrOf B s.of⟩ := ⟨_, rfl⟩
  obtain ⟨W0, hW0⟩ : ∃ W, W = (w.alloc (.cells #[.int .i64 0, .int .i64 s.env, .int .i64 s.kind, .int .i64 s.obj, .int .i64 s.rights, ptrOf B s.of] 64)).alloc (.cells #[.int .i64 0, .int .i64 0] 30) := ⟨_, rfl⟩
  obtain ⟨bs, hbs⟩ : ∃ b, b = w.heap.size := ⟨_, rfl⟩
  obtain ⟨bn, hbn⟩ : ∃ b, b = bs + 1 := ⟨_, rfl⟩
  have hs0 : Stay (fun _ => False) w W0 := by rw [hW0]; exact ((Stay.refl _ _).alloc _).alloc _
  have HS0 : Hid (Stay (fun k => bs ≤ k) w W0) := hs0.mono (fun _ _ h => h.elim)
  have HBS : Hid (PBox W0 bs p) := by rw [hW0, hp]; exact (PBox.new ⟨0, s.env, s.kind, s.obj, s.rights, ptrOf B s.of⟩ hbs.symm).alloc _
  have HBN : Hid (NBox W0 bn ⟨0, 0⟩) := by rw [hW0]; exact NBox.new ⟨0, 0⟩ (by rw [hbn, hbs]; simp)
  have HT := hide' (ht.keep hs0)
  have HNB : Hid (bs = w.heap.size ∧ bn = w.heap.size + 1 ∧ T < w.heap.size ∧ B < w.heap.size ∧ T ≠ B) := ⟨hbs, by omega, ht.lt, ht.ltB, ht.ne⟩
  have HOK := hide' (fun (q : Int) => ht.ok.add (q := q) hs hof)
  have HP := hide' hp
  have HH0 := hide' h0
  have hn1 : (n : Int) ≤ 20 := by have := ht.n1; omega
  obtain ⟨c, hc⟩ : ∃ c, c = cnt (isOf f s.env) n := ⟨_, rfl⟩
  have HCT := hide' (fun w h => count23 T B n q f s.env w h)
  rw [← hc] at HCT
  obtain ⟨y, hy⟩ : ∃ y, y = addS n q f s := ⟨_, rfl⟩
  have HOKy : Hid (Okf n y.1) := by rw [hy]; exact HOK.out q
  rw [← hy]
  unfold addS at hy
  rw [← hc] at hy
  have HY := hide' hy
  clear hs0 ht hs hof hc h0 hy HOK
  go_enter Try.func31, Try.ntmps31
  go_upto_region 1 with fail
  rw [← hW0, ← hbs]
  rw [← hbn]
  clear hW0 hbs hbn
  go_upto_region 3 with fail
  have hS : (fun w' => Stay (fun _ => False) W0 w') W0.drew := (Stay.refl _ _).drew
  refine wp_region_mix (fun w' => Stay (fun _ => False) W0 w') [(0, true), (1, true), (2, true), (4, true), (5, true), (6, true), (7, true), (3, false), (8, true)] (by kernel_rfl) (by kernel_rfl) (fun _ d _ _ _ h => by cases d <;> exact h) hS ?_
  refine mix_begin (fun K0 hK0 => ?_)
  refine mix_take hK0 (some 10) (.move (.tmp 0)) 24 _ (by kernel_rfl) (by kernel_rfl) (fun w' hS' => by (have ht := HT.out.keep hS'; have hb := HBS.out.keep hS'; have t0 := ht.c0; have t1 := ht.c1; obtain ⟨q0, q1, q2, q3, q4, q5, _⟩ := hb; simp only [opr]; go_simp; try with_reducible rfl)) (fun K1 hK1 => ?_)
  clear hK0 K0
  simp only [Act.put, List.setIfInBounds_toArray, List.set_cons_zero, List.set_cons_succ]
  refine mix_take hK1 (some 11) (.fieldAddr 64 (.tmp 3) 1) 0 _ (by kernel_rfl) (by kernel_rfl) (fun w' hS' => by (have ht := HT.out.keep hS'; have hb := HBS.out.keep hS'; have t0 := ht.c0; have t1 := ht.c1; obtain ⟨q0, q1, q2, q3, q4, q5, _⟩ := hb; simp only [opr]; go_simp; try with_reducible rfl)) (fun K2 hK2 => ?_)
  clear hK1 K1
  simp only [Act.put, List.setIfInBounds_toArray, List.set_cons_zero, List.set_cons_succ]
  refine mix_take hK2 (some 12) (.load 3 (.tmp 11)) 3 _ (by kernel_rfl) (by kernel_rfl) (fun w' hS' => by (have ht := HT.out.keep hS'; have hb := HBS.out.keep hS'; have t0 := ht.c0; have t1 := ht.c1; obtain ⟨q0, q1, q2, q3, q4, q5, _⟩ := hb; simp only [opr]; go_simp; try with_reducible rfl)) (fun K3 hK3 => ?_)
  clear hK2 K2
  simp only [Act.put, List.setIfInBounds_toArray, List.set_cons_zero, List.set_cons_succ]
  refine mix_take hK3 (some 14) (.move (.tmp 0)) 24 _ (by kernel_rfl) (by kernel_rfl) (fun w' hS' => by (have ht := HT.out.keep hS'; have hb := HBS.out.keep hS'; have t0 := ht.c0; have t1 := ht.c1; obtain ⟨q0, q1, q2, q3, q4, q5, _⟩ := hb; simp only [opr]; go_simp; try with_reducible rfl)) (fun K4 hK4 => ?_)
  clear hK3 K3
  simp only [Act.put, List.setIfInBounds_toArray, List.set_cons_zero, List.set_cons_succ]
  refine mix_take hK4 (some 15) (.nilCheck (.tmp 14)) 0 _ (by kernel_rfl) (by kernel_rfl) (fun w' hS' => by (have ht := HT.out.keep hS'; have hb := HBS.out.keep hS'; have t0 := ht.c0; have t1 := ht.c1; obtain ⟨q0, q1, q2, q3, q4, q5, _⟩ := hb; simp only [opr]; go_simp; try with_reducible rfl)) (fun K5 hK5 => ?_)
  clear hK4 K4
  simp only [Act.put, List.setIfInBounds_toArray, List.set_cons_zero, List.set_cons_succ]
  refine mix_take hK5 (some 16) (.fieldAddr 68 (.tmp 15) 1) 0 _ (by kernel_rfl) (by kernel_rfl) (fun w' hS' => by (have ht := HT.out.keep hS'; have hb := HBS.out.keep hS'; have t0 := ht.c0; have t1 := ht.c1; obtain ⟨q0, q1, q2, q3, q4, q5, _⟩ := hb; simp only [opr]; go_simp; try with_reducible rfl)) (fun K6 hK6 => ?_)
  clear hK5 K5
  simp only [Act.put, List.setIfInBounds_toArray, List.set_cons_zero, List.set_cons_succ]
  refine mix_take hK6 (some 17) (.load 3 (.tmp 16)) 3 _ (by kernel_rfl) (by kernel_rfl) (fun w' hS' => by (have ht := HT.out.keep hS'; have hb := HBS.out.keep hS'; have t0 := ht.c0; have t1 := ht.c1; obtain ⟨q0, q1, q2, q3, q4, q5, _⟩ := hb; simp only [opr]; go_simp; try with_reducible rfl)) (fun K7 hK7 => ?_)
  clear hK6 K6
  simp only [Act.put, List.setIfInBounds_toArray, List.set_cons_zero, List.set_cons_succ]
  refine mix_call hK7 (some 13) 23 #[.tmp 10, .tmp 12] #[24, 3] 3 _ (by kernel_rfl) (by kernel_rfl) (enters Try.func23 (by kernel_rfl) (by kernel_rfl)) (by go_simp; try with_reducible rfl) (fun K8 hK8 => ?_)
  clear hK7 K7
  refine ((HCT.out _ (HT.out.keep hS))).mono ?_
  rintro e wm1 ⟨rfl, hs1⟩
  have hS1 : _ := (hS.trans hs1)
  refine ⟨_, rfl, hS1, ?_⟩
  clear hs1
  simp only [Act.put, List.setIfInBounds_toArray, List.set_cons_zero, List.set_cons_succ]
  refine mix_take hK8 (some 18) (.binOp BinOp.geq 3 (.tmp 13) (.tmp 17) 3) 4 _ (by kernel_rfl) (by kernel_rfl) (fun w' hS' => by (have ht := HT.out.keep hS'; have hb := HBS.out.keep hS'; have t0 := ht.c0; have t1 := ht.c1; obtain ⟨q0, q1, q2, q3, q4, q5, _⟩ := hb; simp only [opr]; go_simp; try with_reducible rfl)) (fun K9 hK9 => ?_)
  clear hK8 K8
  simp only [Act.put, List.setIfInBounds_toArray, List.set_cons_zero, List.set_cons_succ]
  refine hK9 _ _ (mix_nil ?_)
  clear hK9 K9
  have hS1' : Stay (fun _ => False) W0 wm1 := hS1
  have HST1 := hide' (HS0.out.trans (hS1'.mono (T := fun k => bs ≤ k) (fun _ _ h => h.elim)))
  have HBS1 := hide' (HBS.out.keep hS1')
  have HBN1 := hide' (HBN.out.keep hS1')
  have HT1 := hide' (HT.out.keep hS1')
  clear hS hS1 hS1' HS0 HBS HBN HT HCT
  by_cases hq : q ≤ (c : Nat)
  · have hyy := HY.out
    rw [if_pos hq] at hyy
    subst hyy
    clear HY
    obtain ⟨m0, m1, m2, m3⟩ := HBN1.out
    simp only at m0 m1
    have dq : decide (q ≤ (c : Nat)) = true := decide_eq_true hq
    go_wp2
    generalize hWr : World.setCell (World.setCell _ _ _) _ _ = W5
    have HN6 : Hid (NBox W5 bn ⟨0, 0⟩) := by rw [← hWr]; exact HBN1.out.put ⟨0, 0⟩
    have hst5 : Stay (fun j => j = bn) wm1 W5 := by rw [← hWr]; exact ((Stay.refl (fun j => j = bn) _).setCell (p := ⟨bn, 0, none⟩) rfl _).setCell (p := ⟨bn, 1, none⟩) rfl _
    refine bodyPost_ret (results_ct rfl _ _ _ ⟨0, 0⟩ _ rfl rfl HN6.out) rfl ⟨rfl, ?_, ?_⟩
    · have := HNB.out
      exact (HST1.out.trans (hst5.mono (T := fun k => bs ≤ k) (fun j _ e => by omega))).mono (fun j hj h => by omega)
    · have := HNB.out
      exact HT1.out.stay hst5 (by omega) (by omega)
  · have dq : decide (q ≤ (c : Nat)) = false := decide_eq_false hq
    have hyy := HY.out
    rw [if_neg hq] at hyy
    have HYY := hide' hyy
    obtain ⟨fr, hfr⟩ : ∃ x, x = frI n f := ⟨_, rfl⟩
    have HFR := hide' hfr
    have HF4 := hide' (first44 T B n q f)
    rw [← hfr] at HF4
    have t0 := HT1.out.c0
    clear hyy HY hfr
    go_wp2_with fail
    refine (HF4.out _ HT1.out).mono ?_
    rintro _ w2 ⟨rfl, hs2⟩
    have HST2 := hide' (HST1.out.trans (hs2.mono (T := fun k => bs ≤ k) (fun _ _ h => h.elim)))
    have HBS2 := hide' (HBS1.out.keep hs2)
    have HBN2 := hide' (HBN1.out.keep hs2)
    have HT2 := hide' (HT1.out.keep hs2)
    clear hs2 HST1 HBS1 HBN1 HT1 HF4 t0
    by_cases hfi : freeIx f n < n
    · have hyy := HYY.out
      rw [if_pos hfi] at hyy
      have hfe := HFR.out
      unfold frI at hfe
      rw [if_pos hfi] at hfe
      obtain ⟨k, hk⟩ : ∃ k, k = freeIx f n := ⟨_, rfl⟩
      rw [← hk] at hyy hfe hfi
      subst hfe
      have d0 : decide (((k : Nat) : Int) < 0) = false := decide_eq_false (by omega)
      have kn : (k : Int) < (n : Nat) := by omega
      have HY2 := hide' hyy
      have HKN := hide' hfi
      have HKF := hide' hk
      have t0 := HT2.out.c0
      obtain ⟨g0, hg0⟩ : ∃ g, g = (f k).gen := ⟨_, rfl⟩
      have r0 : w2.cell? ⟨B, k * 6, none⟩ = some (.int .i64 g0) := by rw [hg0]; exact (HT2.out.at hfi).c0
      obtain ⟨q0, q1, q2, q3, q4, q5, q6, _⟩ := HBS2.out
      obtain ⟨p2, hp2⟩ : ∃ p2 : Pl, p2 = ⟨g0, p.env, p.kind, p.obj, p.rights, p.of⟩ := ⟨_, rfl⟩
      have HG0 := hide' hg0
      clear hyy HYY hfi hk HFR hg0
      go_upto_region 9 with fail
      generalize hW3 : World.setCell _ _ _ = W2
      have hst3 : Stay (fun j => j = bs) w2 W2 := by rw [← hW3]; exact (Stay.refl (fun j => j = bs) _).setCell (p := ⟨bs, 0, none⟩) rfl _
      have HB3 : Hid (PBox W2 bs p2) := by rw [← hW3]; exact HBS2.out.put0 hp2
      have HN3 := hide' (HBN2.out.stay hst3 (by have := HNB.out; omega))
      have HT3 : Hid (TAt W2 T B n q f) := HT2.out.stay hst3 (by have := HNB.out; omega) (by have := HNB.out; omega)
      have HS3 := hide' (HST2.out.trans (hst3.mono (T := fun k => bs ≤ k) (fun j _ e => by rw [e]; exact Nat.le_refl _)))
      have HP2 := hide' hp2
      obtain ⟨ao, hao⟩ : ∃ a, p2.of = .pointer a := by rw [hp2, HP.out]; show ∃ a, ptrOf B s.of = .pointer a; unfold ptrOf; split <;> exact ⟨_, rfl⟩
      have HPO := hide' hao
      clear hao
      clear hW3 hst3 hp2 HBS2 HBN2 HT2 HST2 q0 q1 q2 q3 q4 q5 q6 r0 t0
      have hS : (fun w' => Stay (fun j => j = B) W2 w') W2.drew := (Stay.refl _ _).drew
      refine wp_region_mix (fun w' => Stay (fun j => j = B) W2 w') [(0, true), (1, true), (2, true), (3, true), (4, true), (5, true), (6, true), (7, false)] (by kernel_rfl) (by kernel_rfl) (fun _ d _ _ _ h => by cases d <;> exact h) hS ?_
      refine mix_begin (fun K0 hK0 => ?_)
      refine mix_take hK0 (some 37) (.move (.tmp 0)) 24 _ (by kernel_rfl) (by kernel_rfl) (fun w' hS' => by (have t0 := (hS'.cell (p := ⟨T, 0, none⟩) HT3.out.lt HT3.out.ne).trans HT3.out.c0; simp only [opr]; go_simp; try with_reducible rfl)) (fun K1 hK1 => ?_)
      clear hK0 K0
      simp only [Act.put, List.setIfInBounds_toArray, List.set_cons_zero, List.set_cons_succ]
      refine mix_take hK1 (some 38) (.nilCheck (.tmp 37)) 0 _ (by kernel_rfl) (by kernel_rfl) (fun w' hS' => by (have t0 := (hS'.cell (p := ⟨T, 0, none⟩) HT3.out.lt HT3.out.ne).trans HT3.out.c0; simp only [opr]; go_simp; try with_reducible rfl)) (fun K2 hK2 => ?_)
      clear hK1 K1
      simp only [Act.put, List.setIfInBounds_toArray, List.set_cons_zero, List.set_cons_succ]
      refine mix_take hK2 (some 39) (.fieldAddr 68 (.tmp 38) 0) 0 _ (by kernel_rfl) (by kernel_rfl) (fun w' hS' => by (have t0 := (hS'.cell (p := ⟨T, 0, none⟩) HT3.out.lt HT3.out.ne).trans HT3.out.c0; simp only [opr]; go_simp; try with_reducible rfl)) (fun K3 hK3 => ?_)
      clear hK2 K2
      simp only [Act.put, List.setIfInBounds_toArray, List.set_cons_zero, List.set_cons_succ]
      refine mix_take hK3 (some 40) (.load 66 (.tmp 39)) 66 _ (by kernel_rfl) (by kernel_rfl) (fun w' hS' => by (have t0 := (hS'.cell (p := ⟨T, 0, none⟩) HT3.out.lt HT3.out.ne).trans HT3.out.c0; simp only [opr]; go_simp; try with_reducible rfl)) (fun K4 hK4 => ?_)
      clear hK3 K3
      simp only [Act.put, List.setIfInBounds_toArray, List.set_cons_zero, List.set_cons_succ]
      refine mix_take hK4 (some 41) (.move (.tmp 6)) 3 _ (by kernel_rfl) (by kernel_rfl) (fun w' hS' => by (have t0 := (hS'.cell (p := ⟨T, 0, none⟩) HT3.out.lt HT3.out.ne).trans HT3.out.c0; simp only [opr]; go_simp; try with_reducible rfl)) (fun K5 hK5 => ?_)
      clear hK4 K4
      simp only [Act.put, List.setIfInBounds_toArray, List.set_cons_zero, List.set_cons_succ]
      refine mix_take hK5 (some 42) (.load 64 (.tmp 3)) 64 _ (by kernel_rfl) (by kernel_rfl) (fun w' hS' => by exact run_load_PBox rfl rfl (HB3.out.stay hS' (fun e => by have := HNB.out; omega))) (fun K6 hK6 => ?_)
      clear hK5 K5
      simp only [Act.put, List.setIfInBounds_toArray, List.set_cons_zero, List.set_cons_succ]
      refine mix_take hK6 (some 43) (.indexAddr 66 (.tmp 40) (.tmp 41)) 0 _ (by kernel_rfl) (by kernel_rfl) (fun w' hS' => by (have t0 := (hS'.cell (p := ⟨T, 0, none⟩) HT3.out.lt HT3.out.ne).trans HT3.out.c0; simp only [opr]; go_simp; try with_reducible rfl)) (fun K7 hK7 => ?_)
      clear hK6 K6
      simp only [Act.put, List.setIfInBounds_toArray, List.set_cons_zero, List.set_cons_succ]
      refine mix_chain hK7 (fun K7c hK7c => ?_)
      clear hK7 K7
      refine op_plain none (.store 64 (.tmp 43) (.tmp 42)) 0 (by kernel_rfl) (by kernel_rfl) ?_
      obtain ⟨Wd, hWd⟩ : ∃ W, W = W2.drew := ⟨_, rfl⟩
      have hDD : Stay (fun _ => False) W2 Wd := by rw [hWd]; exact (Stay.refl _ _).drew
      have HDD := hide' hDD
      rw [← hWd]
      clear hWd
      have HTD := hide' (HT3.out.keep hDD)
      have HND := hide' (HN3.out.keep hDD)
      have HSD := hide' (HS3.out.trans (hDD.mono (T := fun k => bs ≤ k) (fun _ _ h => h.elim)))
      obtain ⟨⟨u0, u1, u2, u3, u4, u5⟩, u6, u7, u8, u9, ua, ub⟩ := (HTD.out.tab k HKN.out).twelve
      rw [HPO.out]
      go_wp2
      clear u0 u1 u2 u3 u4 u5 u6 u7 u8 u9 ua ub
      generalize hWr : World.setCell (World.setCell (World.setCell (World.setCell (World.setCell (World.setCell _ _ _) _ _) _ _) _ _) _ _) _ _ = W5
      have e5 : W5 = Wd.setCells B (k * 6) p2.parts := by rw [← hWr]; unfold Pl.parts; rw [HPO.out]; rfl
      have hst5 : Stay (fun j => j = B) Wd W5 := by rw [e5]; exact (Stay.refl (fun j => j = B) Wd).setCells B _ _ rfl
      have HT5 : Hid (PTab W5 B n (fun i => if i = k then p2 else pl B (f i))) := by rw [e5]; exact HTD.out.tab.set k p2
      have HST5 := hide' hst5
      clear hWr e5 hst5
      have hSr : (fun w' => Stay (fun j => j = B) W2 w') W5 := (hDD.mono (T := fun j => j = B) (fun _ _ h => h.elim)).trans HST5.out
      refine hK7c _ _ hSr (mix_begin fun K8 hK8 => ?_)
      clear hK7c K7c
      try simp only [Act.put, List.setIfInBounds_toArray, List.set_cons_zero, List.set_cons_succ]
      refine hK8 _ _ (mix_nil ?_)
      clear hK8 K8
      clear hS hSr
      have HN5 := hide' (HND.out.stay HST5.out (fun e => by have := HNB.out; omega))
      obtain ⟨m0, m1, m2, m3⟩ := HN5.out
      simp only at m0 m1
      have HB5 := hide' ((HB3.out.keep HDD.out).stay HST5.out (fun e => by have := HNB.out; omega))
      obtain ⟨v0, _⟩ := HB5.out
      have HPG : Hid (p2.gen = g0) := by rw [HP2.out]; exact rfl
      rw [HPG.out] at v0
      go_wp2
      clear v0 m0 m1 m2 m3
      generalize hWr : World.setCell (World.setCell _ _ _) _ _ = W6
      have HN6 : Hid (NBox W6 bn ⟨(k : Nat), g0⟩) := by rw [← hWr]; exact HN5.out.put ⟨(k : Nat), g0⟩
      have hst6 : Stay (fun j => j = bn) W5 W6 := by rw [← hWr]; exact ((Stay.refl (fun j => j = bn) _).setCell (p := ⟨bn, 0, none⟩) rfl _).setCell (p := ⟨bn, 1, none⟩) rfl _
      refine bodyPost_ret (results_ct rfl _ _ _ ⟨(k : Nat), g0⟩ _ rfl rfl HN6.out) rfl ⟨?_, ?_, ?_⟩
      · rw [HY2.out, HG0.out]
        rfl
      · have := HNB.out
        exact ((HSD.out.mono (T := fun j => bs ≤ j ∨ j = B) (fun _ _ h => .inl h)).trans ((HST5.out.mono (T := fun j => bs ≤ j ∨ j = B) (fun _ _ h => .inr h)).trans (hst6.mono (T := fun j => bs ≤ j ∨ j = B) (fun j _ h => .inl (by omega))))).mono (fun j hj h => by omega)
      · have hNB := HNB.out
        have hT5 : TAt W5 T B n q y.1 := HTD.out.new_f HST5.out (HT5.out.congr (fun i hi => by
          rw [HY2.out]
          show (if i = k then p2 else pl B (f i)) = pl B (putF f k _ i)
          unfold putF
          by_cases e : i = k
          · rw [if_pos e, if_pos e, HP2.out, HP.out]
            show _ = Pl.mk _ _ _ _ _ _
            rw [HG0.out]
            show _ = Pl.mk _ (if s.env < 0 then 0 else s.env) _ _ _ _
            rw [if_neg (by have := HH0.out; omega)]
          · rw [if_neg e, if_neg e])) HOKy.out
        exact hT5.stay hst6 (by omega) (by omega)
    · have hyy := HYY.out
      rw [if_neg hfi] at hyy
      have hfe := HFR.out
      unfold frI at hfe
      rw [if_neg hfi] at hfe
      subst hyy hfe
      clear HYY HFR
      obtain ⟨m0, m1, m2, m3⟩ := HBN2.out
      simp only at m0 m1
      go_wp2
      generalize hWr : World.setCell (World.setCell _ _ _) _ _ = W5
      have HN6 : Hid (NBox W5 bn ⟨0, 0⟩) := by rw [← hWr]; exact HBN2.out.put ⟨0, 0⟩
      have hst5 : Stay (fun j => j = bn) w2 W5 := by rw [← hWr]; exact ((Stay.refl (fun j => j = bn) _).setCell (p := ⟨bn, 0, none⟩) rfl _).setCell (p := ⟨bn, 1, none⟩) rfl _
      refine bodyPost_ret (results_ct rfl _ _ _ ⟨0, 0⟩ _ rfl rfl HN6.out) rfl ⟨rfl, ?_, ?_⟩
      · have := HNB.out
        exact (HST2.out.trans (hst5.mono (T := fun k => bs ≤ k) (fun j _ e => by omega))).mono (fun j hj h => by omega)
      · have := HNB.out
        exact HT2.out.stay hst5 (by omega) (by omega)

end Go.Proofs.Ytlhfpnfiamgmlaa
