/-
  A message is sent: walked. No conditions.
-/
import Derived.Test.YtabalnjbfhngnaaC0
namespace Go.Proofs.Ytabalnjbfhngnaa
open Go.RowKit

theorem send12_long (b : Nat) (x : Int) (sa : Option Addr) (m cap : Nat) (w : World) (hm : 4096 < m) : Calls Try.prog 12 #[.pointer (some ⟨b, 0, none⟩), .int .i64 x, .slice sa m cap] w (Gives (.int .i64 10) w) := by
  have i1 : (4096 : Int) < (m : Nat) := by omega
  go_enter Try.func12, Try.ntmps12
  go_wp2
  go_ret
  exact ⟨rfl, Stay.refl _ _⟩

theorem send12_full (q : Rg) (L : List (Int × List Int)) (x : Int) (sa : Option Addr) (m cap : Nat) (w : World) (hq : RAt w q L) (hm : m ≤ 4096) (hn : q.n = q.c) : Calls Try.prog 12 #[.pointer (some ⟨q.b, 0, none⟩), .int .i64 x, .slice sa m cap] w (Gives (.int .i64 3) w) := by
  have i1 : ¬ (4096 : Int) < (m : Nat) := by omega
  obtain ⟨b0, b1, b2, f0, f1, f2⟩ := hq.box
  simp only [Rg.bx] at b0 b1 b2
  rw [hn] at b2
  clear hq hn hm
  go_enter Try.func12, Try.ntmps12
  go_wp2
  go_quiet (fail)
  go_wp2
  go_ret
  exact ⟨rfl, (Stay.refl _ _).drewN _⟩

/-- What a ring is behind a message that was sent. -/
def Sent (q : Rg) (L : List (Int × List Int)) (x : Int) (l : List Int) (w : World) (e : Ending) (w' : World) : Prop := ∃ v, e = .returned (.int .i64 0) ∧ RAt w' (q.sent (x, v)) (L ++ [(x, l)]) ∧ Stay (fun j => j = q.b ∨ j = q.rb) w w' ∧ ∀ j, v.ownBlock = some j → w.heap.size ≤ j

set_option maxRecDepth 100000 in
theorem send12 (q : Rg) (L : List (Int × List Int)) (x : Int) (sa : Option Addr) (m cap : Nat) (l : List Int) (w : World) (hq : RAt w q L) (hr : IsRow w (.slice sa m cap) (bys l)) (hl : l.length ≤ 4096) (hm : m ≤ 4096) (hn : q.n < q.c) : Calls Try.prog 12 #[.pointer (some ⟨q.b, 0, none⟩), .int .i64 x, .slice sa m cap] w (Sent q L x l w) := by
  have h1 := hq.n1
  have h2 := hq.c2
  have h3 := hq.f1
  have i1 : ¬ (4096 : Int) < (m : Nat) := by omega
  have i2 : ¬ ((q.n : Nat) : Int) = (q.c : Nat) := by omega
  obtain ⟨t, ht⟩ : ∃ t, t = (q.f + q.n) % q.c := ⟨_, rfl⟩
  have HT := hide' ht
  have HTC : Hid (t < q.c) := by rw [ht]; exact Nat.mod_lt _ (by omega)
  have t1 : (t : Int) < (q.c : Nat) := by have := HTC.out; omega
  have HAT : Hid (∀ w', RBox w' q.b q.bx → Calls Try.prog 14 #[.pointer (some ⟨q.b, 0, none⟩), .int .i64 (q.n : Nat)] w' (Gives (.int .i64 (t : Nat)) w')) := fun w' h => at14 q q.n t w' h (by omega) h2 (by omega) (by omega) ht
  have HCL : Hid (∀ w', Stay (fun _ => False) w w' → Calls Try.prog 16 #[.slice sa m cap] w' (Cloned l w')) := fun w' hs => clone16 _ l w' (isRow_keep hr hs) hl
  have HPL : Hid (∀ w', Stay (fun _ => False) w w' → Places w' q.rb q.c q.F) := fun w' hs => hq.pl.stay hs (fun h => h)
  have HNE : Hid (¬ q.b = q.rb) := fun e => hq.ne e.symm
  have HQ := hide' hq
  have HN := hide' hn
  obtain ⟨n1, hn1⟩ : ∃ n1, n1 = q.n + 1 := ⟨_, rfl⟩
  have e7 : IntKind.i64.wrap ((q.n : Int) + 1) = (n1 : Nat) := by rw [IntKind.wrap_i64]; omega
  have HN1 := hide' hn1
  have HSD0 : Hid (∀ k, Stay (fun _ => False) w (w.drewN k).drew) := fun k => ((Stay.refl _ _).drewN k).drew
  obtain ⟨b0, b1, b2, f0, f1, f2⟩ := hq.box
  simp only [Rg.bx] at b0 b1 b2
  clear hq hr hn hm hl h1 h2 h3 ht hn1
  go_enter Try.func12, Try.ntmps12
  go_wp2
  go_quiet (fail)
  go_upto_region 5 with fail
  have HSD := hide' (HSD0.out nq)
  have hS : (fun w' => Stay (fun j => j = q.rb) w w' ∧ RBox w' q.b q.bx) (w.drewN nq).drew := ⟨HSD.out.mono (fun _ _ h => h.elim), HQ.out.box.keep HSD.out⟩
  clear b0 b1 b2 f0 f1 f2
  refine wp_region_mix (fun w' => Stay (fun j => j = q.rb) w w' ∧ RBox w' q.b q.bx) [(0, true), (1, true), (2, true), (3, true), (4, true), (5, true), (6, true), (7, true), (8, true), (10, true), (11, true), (9, false), (12, false), (13, true), (14, true), (15, false)] (by kernel_rfl) (by kernel_rfl) (fun _ d _ _ _ h => by cases d <;> exact h) hS ?_
  refine mix_begin (fun K0 hK0 => ?_)
  refine mix_take hK0 (some 26) (.move (.tmp 0)) 24 _ (by kernel_rfl) (by kernel_rfl) (fun w' hS' => by (obtain ⟨_, sb⟩ := hS'; obtain ⟨b0, b1, b2, f0, f1, f2⟩ := sb; simp only [Rg.bx] at b0 b1 b2; simp only [opr]; go_simp; try with_reducible rfl)) (fun K1 hK1 => ?_)
  clear hK0 K0
  simp only [Act.put, List.setIfInBounds_toArray, List.set_cons_zero, List.set_cons_succ]
  refine mix_take hK1 (some 27) (.nilCheck (.tmp 26)) 0 _ (by kernel_rfl) (by kernel_rfl) (fun w' hS' => by (obtain ⟨_, sb⟩ := hS'; obtain ⟨b0, b1, b2, f0, f1, f2⟩ := sb; simp only [Rg.bx] at b0 b1 b2; simp only [opr]; go_simp; try with_reducible rfl)) (fun K2 hK2 => ?_)
  clear hK1 K1
  simp only [Act.put, List.setIfInBounds_toArray, List.set_cons_zero, List.set_cons_succ]
  refine mix_take hK2 (some 28) (.fieldAddr 42 (.tmp 27) 0) 0 _ (by kernel_rfl) (by kernel_rfl) (fun w' hS' => by (obtain ⟨_, sb⟩ := hS'; obtain ⟨b0, b1, b2, f0, f1, f2⟩ := sb; simp only [Rg.bx] at b0 b1 b2; simp only [opr]; go_simp; try with_reducible rfl)) (fun K3 hK3 => ?_)
  clear hK2 K2
  simp only [Act.put, List.setIfInBounds_toArray, List.set_cons_zero, List.set_cons_succ]
  refine mix_take hK3 (some 29) (.load 22 (.tmp 28)) 22 _ (by kernel_rfl) (by kernel_rfl) (fun w' hS' => by (obtain ⟨_, sb⟩ := hS'; obtain ⟨b0, b1, b2, f0, f1, f2⟩ := sb; simp only [Rg.bx] at b0 b1 b2; simp only [opr]; go_simp; try with_reducible rfl)) (fun K4 hK4 => ?_)
  clear hK3 K3
  simp only [Act.put, List.setIfInBounds_toArray, List.set_cons_zero, List.set_cons_succ]
  refine mix_take hK4 (some 30) (.move (.tmp 0)) 24 _ (by kernel_rfl) (by kernel_rfl) (fun w' hS' => by (obtain ⟨_, sb⟩ := hS'; obtain ⟨b0, b1, b2, f0, f1, f2⟩ := sb; simp only [Rg.bx] at b0 b1 b2; simp only [opr]; go_simp; try with_reducible rfl)) (fun K5 hK5 => ?_)
  clear hK4 K4
  simp only [Act.put, List.setIfInBounds_toArray, List.set_cons_zero, List.set_cons_succ]
  refine mix_take hK5 (some 31) (.move (.tmp 0)) 24 _ (by kernel_rfl) (by kernel_rfl) (fun w' hS' => by (obtain ⟨_, sb⟩ := hS'; obtain ⟨b0, b1, b2, f0, f1, f2⟩ := sb; simp only [Rg.bx] at b0 b1 b2; simp only [opr]; go_simp; try with_reducible rfl)) (fun K6 hK6 => ?_)
  clear hK5 K5
  simp only [Act.put, List.setIfInBounds_toArray, List.set_cons_zero, List.set_cons_succ]
  refine mix_take hK6 (some 32) (.nilCheck (.tmp 31)) 0 _ (by kernel_rfl) (by kernel_rfl) (fun w' hS' => by (obtain ⟨_, sb⟩ := hS'; obtain ⟨b0, b1, b2, f0, f1, f2⟩ := sb; simp only [Rg.bx] at b0 b1 b2; simp only [opr]; go_simp; try with_reducible rfl)) (fun K7 hK7 => ?_)
  clear hK6 K6
  simp only [Act.put, List.setIfInBounds_toArray, List.set_cons_zero, List.set_cons_succ]
  refine mix_take hK7 (some 33) (.fieldAddr 42 (.tmp 32) 2) 0 _ (by kernel_rfl) (by kernel_rfl) (fun w' hS' => by (obtain ⟨_, sb⟩ := hS'; obtain ⟨b0, b1, b2, f0, f1, f2⟩ := sb; simp only [Rg.bx] at b0 b1 b2; simp only [opr]; go_simp; try with_reducible rfl)) (fun K8 hK8 => ?_)
  clear hK7 K7
  simp only [Act.put, List.setIfInBounds_toArray, List.set_cons_zero, List.set_cons_succ]
  refine mix_take hK8 (some 34) (.load 3 (.tmp 33)) 3 _ (by kernel_rfl) (by kernel_rfl) (fun w' hS' => by (obtain ⟨_, sb⟩ := hS'; obtain ⟨b0, b1, b2, f0, f1, f2⟩ := sb; simp only [Rg.bx] at b0 b1 b2; simp only [opr]; go_simp; try with_reducible rfl)) (fun K9 hK9 => ?_)
  clear hK8 K8
  simp only [Act.put, List.setIfInBounds_toArray, List.set_cons_zero, List.set_cons_succ]
  refine mix_take hK9 (some 36) (.move (.tmp 1)) 3 _ (by kernel_rfl) (by kernel_rfl) (fun w' hS' => by (obtain ⟨_, sb⟩ := hS'; obtain ⟨b0, b1, b2, f0, f1, f2⟩ := sb; simp only [Rg.bx] at b0 b1 b2; simp only [opr]; go_simp; try with_reducible rfl)) (fun K10 hK10 => ?_)
  clear hK9 K9
  simp only [Act.put, List.setIfInBounds_toArray, List.set_cons_zero, List.set_cons_succ]
  refine mix_take hK10 (some 37) (.move (.tmp 2)) 26 _ (by kernel_rfl) (by kernel_rfl) (fun w' hS' => by (obtain ⟨_, sb⟩ := hS'; obtain ⟨b0, b1, b2, f0, f1, f2⟩ := sb; simp only [Rg.bx] at b0 b1 b2; simp only [opr]; go_simp; try with_reducible rfl)) (fun K11 hK11 => ?_)
  clear hK10 K10
  simp only [Act.put, List.setIfInBounds_toArray, List.set_cons_zero, List.set_cons_succ]
  refine mix_call hK11 (some 35) 14 #[.tmp 30, .tmp 34] #[24, 3] 3 _ (by kernel_rfl) (by kernel_rfl) (enters Try.func14 (by kernel_rfl) (by kernel_rfl)) (by go_simp; try with_reducible rfl) (fun K12 hK12 => ?_)
  clear hK11 K11
  refine (HAT.out _ hS.2).mono ?_
  rintro e wm1 ⟨rfl, hs1⟩
  have hS1 : _ := (show (fun w' => Stay (fun j => j = q.rb) w w' ∧ RBox w' q.b q.bx) wm1 from ⟨hS.1.trans (hs1.mono (fun _ _ h => h.elim)), hS.2.keep hs1⟩)
  refine ⟨_, rfl, hS1, ?_⟩
  have HST1 := hide' (HSD.out.trans hs1)
  clear hs1
  simp only [Act.put, List.setIfInBounds_toArray, List.set_cons_zero, List.set_cons_succ]
  refine mix_call hK12 (some 38) 16 #[.tmp 37] #[26] 26 _ (by kernel_rfl) (by kernel_rfl) (enters Try.func16 (by kernel_rfl) (by kernel_rfl)) (by go_simp; try with_reducible rfl) (fun K13 hK13 => ?_)
  clear hK12 K12
  refine (HCL.out _ HST1.out).mono ?_
  rintro e wm2 ⟨ca, ck, cc, rfl, hcv, hs2, hcn⟩
  have hS2 : _ := (show (fun w' => Stay (fun j => j = q.rb) w w' ∧ RBox w' q.b q.bx) wm2 from ⟨hS1.1.trans (hs2.mono (fun _ _ h => h.elim)), hS1.2.keep hs2⟩)
  refine ⟨_, rfl, hS2, ?_⟩
  have HST2 := hide' (HST1.out.trans hs2)
  have HCV := hide' hcv
  have HCN := hide' hcn
  have HTH := hide' ((HPL.out _ HST2.out).there HTC.out)
  clear hcv hcn
  clear hs2
  simp only [Act.put, List.setIfInBounds_toArray, List.set_cons_zero, List.set_cons_succ]
  refine mix_take hK13 (some 39) (.build 28 #[(0, .tmp 36), (1, .tmp 38)]) 28 _ (by kernel_rfl) (by kernel_rfl) (fun w' hS' => by (obtain ⟨_, sb⟩ := hS'; obtain ⟨b0, b1, b2, f0, f1, f2⟩ := sb; simp only [Rg.bx] at b0 b1 b2; simp only [opr]; go_simp; try with_reducible rfl)) (fun K14 hK14 => ?_)
  clear hK13 K13
  simp only [Act.put, List.setIfInBounds_toArray, List.set_cons_zero, List.set_cons_succ]
  refine mix_take hK14 (some 40) (.indexAddr 22 (.tmp 29) (.tmp 35)) 0 _ (by kernel_rfl) (by kernel_rfl) (fun w' hS' => by (obtain ⟨_, sb⟩ := hS'; obtain ⟨b0, b1, b2, f0, f1, f2⟩ := sb; simp only [Rg.bx] at b0 b1 b2; simp only [opr]; go_simp; try with_reducible rfl)) (fun K15 hK15 => ?_)
  clear hK14 K14
  simp only [Act.put, List.setIfInBounds_toArray, List.set_cons_zero, List.set_cons_succ]
  refine mix_chain hK15 (fun K15c hK15c => ?_)
  clear hK15 K15
  refine op_plain none (.store 28 (.tmp 40) (.tmp 39)) 0 (by kernel_rfl) (by kernel_rfl) ?_
  refine wpList_store_mid rfl 28 (.tmp 40) (.tmp 39) rfl q.rb (t * 2) #[.int .i64 x, .slice ca ck cc] rfl rfl HTH.out (by kernel_rfl) (by simp [Value.oneCell']) ?_
  refine wpList_nil ?_
  have hSf : (fun w' => Stay (fun j => j = q.rb) w w' ∧ RBox w' q.b q.bx) (wm2.setCells q.rb (t * 2) (#[.int .i64 x, .slice ca ck cc] : Array Value).toList) := ⟨hS2.1.setCells q.rb _ _ rfl, hS2.2.stay (T := fun j => j = q.rb) ((Stay.refl _ _).setCells q.rb _ _ rfl) HNE.out⟩
  refine hK15c _ _ hSf (mix_begin fun K16 hK16 => ?_)
  clear hK15c K15c
  try simp only [Act.put]
  refine hK16 _ _ (mix_nil ?_)
  clear hK16 K16
  obtain ⟨W4, hW4⟩ : ∃ W, W = wm2.setCells q.rb (t * 2) (#[.int .i64 x, .slice ca ck cc] : Array Value).toList := ⟨_, rfl⟩
  rw [← hW4] at hSf
  try rw [← hW4]
  have HB4 := hide' hSf.2
  have HST4 := hide' hSf.1
  have HP4 : Hid (Places W4 q.rb q.c (fun i => if i = t then (x, .slice ca ck cc) else q.F i)) := by rw [hW4]; exact (HPL.out _ HST2.out).put HTC.out (x, .slice ca ck cc)
  have HV4 : Hid (∀ j, (Value.slice ca ck cc).ownBlock = some j → w.heap.size ≤ j) := fun j hj => Nat.le_trans HST1.out.size (HCN.out j hj)
  have HH4 : Hid (Holds W4 (.slice ca ck cc) l) := by
    rw [hW4]
    refine HCV.out.stay (T := fun j => j = q.rb) ((Stay.refl _ _).setCells q.rb _ _ rfl) (fun j hj e => ?_)
    have h1 := HV4.out j hj
    have h2 := HQ.out.lt q.rb (.inr (.inl rfl))
    omega
  clear hSf hS1 hS2 hS hW4 HTH HCV HCN HST1 HST2 HSD HSD0 HAT HCL HPL
  obtain ⟨b0, b1, b2, f0, f1, f2⟩ := HB4.out
  simp only [Rg.bx] at b0 b1 b2
  go_wp2
  go_returns
  generalize hW : World.setCell _ _ _ = W
  have hb := HB4.out.put2 (x := (n1 : Nat)) (q := ⟨.slice (some ⟨q.rb, 0, none⟩) q.c q.c, (q.f : Nat), (n1 : Nat)⟩) rfl
  rw [hW] at hb
  have hst : Stay (fun j => j = q.b) W4 W := by rw [← hW]; exact (Stay.refl (fun j => j = q.b) W4).setCell (p := ⟨q.b, 2, none⟩) rfl _
  have hstw : Stay (fun j => j = q.b ∨ j = q.rb) w W := (HST4.out.mono (fun _ _ h => .inr h)).trans2 hst (fun j _ e => .inl e)
  have hn := HN1.out
  subst hn
  have hF : (q.sent (x, .slice ca ck cc)).F = (fun i => if i = t then (x, .slice ca ck cc) else q.F i) := by rw [HT.out]; rfl
  exact ⟨.slice ca ck cc, rfl, HQ.out.sent HN.out hstw hb (by rw [hF]; exact HP4.out.stay hst HQ.out.ne) (HH4.out.stay hst (fun j hj e => by have h1 := HV4.out j hj; have h2 := HQ.out.lt q.b (.inl rfl); omega)) HV4.out, hstw, HV4.out⟩

end Go.Proofs.Ytabalnjbfhngnaa
