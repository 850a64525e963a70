/-
  What keeps groups from being orphans: walked. No conditions.
-/
import Derived.Test.YtefpifnfinkbaaaE9
namespace Go.Proofs.Ytefpifnfinkbaaa
open Go.RowKit

variable {q : Tq} {L : List Pr} {md : Int} {f : Int → Int} {c : Nat} {w : World} {i g : Nat} {p : Pr}

theorem find37_at (x : Int) (h : TM w q L md f c) (hp : L[i]? = some p) (hx : p.pid = x) (hg : q.v.ownBlock = some g) : Calls Try.prog 37 #[.pointer (some ⟨q.b, 0, none⟩), .int .i64 x] w (Gives (.pointer (some ⟨g, i * 6, none⟩)) w) := by
  refine (find37 x h).mono (fun e w' hf => ?_)
  rcases hf with ⟨h1 | h1, hs⟩
  · obtain ⟨j, g2, p', rfl, hg2, hp', hx'⟩ := h1
    obtain ⟨rfl, rfl⟩ := at_own h.up hp hp' (by rw [hx', hx])
    rw [hg] at hg2
    cases hg2
    exact ⟨rfl, hs⟩
  · exact absurd hx (h1.2 p (mem_at hp))

theorem find37_no (x : Int) (h : TM w q L md f c) (hx : ∀ p ∈ L, p.pid ≠ x) : Calls Try.prog 37 #[.pointer (some ⟨q.b, 0, none⟩), .int .i64 x] w (Gives (.pointer none) w) := by
  refine (find37 x h).mono (fun e w' hf => ?_)
  rcases hf with ⟨h1 | h1, hs⟩
  · obtain ⟨j, g2, p', rfl, hg2, hp', hx'⟩ := h1
    exact absurd hx' (hx p' (mem_at hp'))
  · exact ⟨h1.1, hs⟩

/-- Whether one has a parent that is there, of another group, and of the same session. -/
def tiedB (L : List Pr) (p : Pr) : Bool := match L.find? (fun t => t.pid == p.par) with
  | some t => t.grp != p.grp && t.ses == p.ses
  | none => false

theorem tied_none (h : ∀ t ∈ L, t.pid ≠ p.par) : tiedB L p = false := by
  unfold tiedB
  rw [List.find?_eq_none.2 (fun t ht => by simpa using h t ht)]

theorem find_at {L : List Pr} {i : Nat} {t : Pr} {x : Int} (hu : Up L) (ht : L[i]? = some t) (hx : t.pid = x) : L.find? (fun t => t.pid == x) = some t := by
  cases hf : L.find? (fun t => t.pid == x) with
  | none =>
    have := List.find?_eq_none.1 hf t (mem_at ht)
    simp [hx] at this
  | some u =>
    have h1 := List.mem_of_find?_eq_some hf
    have h2 : u.pid = x := by simpa using List.find?_some hf
    rw [hu.mem h1 (mem_at ht) (by omega)]

theorem tied_at {t : Pr} (hu : Up L) (ht : L[i]? = some t) (hx : t.pid = p.par) : tiedB L p = (t.grp != p.grp && t.ses == p.ses) := by
  unfold tiedB
  rw [find_at hu ht hx]

/-- How many of the first ones keep a group. -/
def tiesF (L : List Pr) (k : Nat) (g : Int) : Int := (((L.take k).filter (fun p => p.grp == g && tiedB L p)).length : Nat)

/-- Whether one of the first is of a group. -/
def tiesH (L : List Pr) (k : Nat) (g : Int) : Bool := (L.take k).any (fun p => p.grp == g)

theorem tiesF_zero (L : List Pr) : tiesF L 0 = fun _ => 0 := by funext g; simp [tiesF]

theorem tiesH_zero (L : List Pr) : tiesH L 0 = fun _ => false := by funext g; simp [tiesH]

theorem tiesF_le (L : List Pr) (k : Nat) (g : Int) : 0 ≤ tiesF L k g ∧ tiesF L k g ≤ k := by
  unfold tiesF
  have h1 := List.length_filter_le (fun p => p.grp == g && tiedB L p) (L.take k)
  have h2 := List.length_take_le k L
  omega

/-- One more counts. -/
def oneB (b : Bool) : Int := if b = true then 1 else 0

theorem tiesF_succ {k : Nat} (hp : L[k]? = some p) : upd (tiesF L k) p.grp (tiesF L k p.grp + oneB (tiedB L p)) = tiesF L (k + 1) := by
  funext x
  have e : tiesF L (k + 1) x = tiesF L k x + (if p.grp = x then oneB (tiedB L p) else 0) := by
    unfold tiesF
    rw [List.take_add_one, hp, List.filter_append, List.length_append]
    by_cases hx : p.grp = x
    · by_cases ht : tiedB L p = true
      · simp [hx, ht, oneB]
      · simp [hx, ht, oneB]
    · simp [hx]
  rw [e]
  by_cases hx : x = p.grp
  · rw [hx, upd_same, if_pos rfl]
  · rw [upd_other _ _ hx, if_neg (fun e => hx e.symm), Int.add_zero]

theorem tiesH_succ {k : Nat} (hp : L[k]? = some p) : updB (tiesH L k) p.grp true = tiesH L (k + 1) := by
  funext x
  unfold updB tiesH
  rw [List.take_add_one, hp, List.any_append]
  by_cases hx : x = p.grp
  · simp [hx]
  · rw [if_neg hx]
    simp [show (p.grp == x) = false from beq_eq_false_iff_ne.2 (fun e => hx e.symm)]

set_option maxRecDepth 100000 in
theorem ties59_none (bx bz m2 n : Nat) (F : Int → Int) (H : Int → Bool) (h : TM w q L md f c) (hg : q.v.ownBlock = some g) (hp : L[i]? = some p) (hn : ∀ t ∈ L, t.pid ≠ p.par) (k0 : w.cell? ⟨bx, 0, none⟩ = some (.pointer (some ⟨q.b, 0, none⟩))) (k1 : w.cell? ⟨bz, 0, none⟩ = some (.map (some m2))) (hm : MAt w m2 n F H) (hn1 : n ≤ 4096) (hw : W64 p.grp) (hF : 0 ≤ F p.grp ∧ F p.grp ≤ 4000) :
    Calls Try.prog 59 #[.pointer (some ⟨g, i * 6, none⟩), .pointer (some ⟨bx, 0, none⟩), .pointer (some ⟨bz, 0, none⟩)] w (fun e w' => e = .returned (.tuple #[]) ∧ MAt w' m2 (n + 1) (upd F p.grp (F p.grp)) (updB H p.grp true) ∧ Stay (fun j => j = m2) w w') := by
  have HFI := hide' (fun w' (hs : Stay (fun _ => False) w w') => find37_no p.par (h.keep hs) hn)
  clear hn
  have HC := hide' (h.cellsAt hg hp).1
  have HK := hide' (show w.cell? ⟨bx, 0, none⟩ = some (.pointer (some ⟨q.b, 0, none⟩)) ∧ w.cell? ⟨bz, 0, none⟩ = some (.map (some m2)) from ⟨k0, k1⟩)
  have HM := hide' hm
  have HW := hide' (show n ≤ 4096 ∧ W64 p.grp ∧ 0 ≤ F p.grp ∧ F p.grp ≤ 4000 from ⟨hn1, hw, hF⟩)
  obtain ⟨z, hz⟩ : ∃ z, z = F p.grp := ⟨_, rfl⟩
  have HZ := hide' hz
  have hz0 : 0 ≤ z := by rw [hz]; exact hF.1
  have hz1 : z ≤ 4000 := by rw [hz]; exact hF.2
  clear h hg hp k0 k1 hm hn1 hw hF hz
  go_enter Try.func59, Try.ntmps59
  go_upto_region 1 with fail
  have hS : Stay (fun _ => False) w w.drew := (Stay.refl _ _).drew
  refine wp_region_mix (fun w' => Stay (fun _ => False) w w') [(0, true), (1, true), (2, true), (3, true), (4, true), (5, false), (6, true)] (by kernel_rfl) (by kernel_rfl) (fun _ d _ _ _ h => by cases d <;> exact h) hS ?_
  refine mix_begin (fun K0 hK0 => ?_)
  refine mix_take hK0 (some 6) (.load 24 (.tmp 1)) 24 _ (by kernel_rfl) (by kernel_rfl) (fun w' hS' => by (have k0' := keep_cell hS' HK.out.1; have k1' := keep_cell hS' HC.out.c1; simp only [opr]; go_simp; try with_reducible rfl)) (fun K1 hK1 => ?_)
  clear hK0 K0
  simp only [Act.put, lA, lZ, lS]
  refine mix_take hK1 (some 7) (.move (.tmp 0)) 74 _ (by kernel_rfl) (by kernel_rfl) (fun w' hS' => by (simp only [opr]; go_simp; try with_reducible rfl)) (fun K2 hK2 => ?_)
  clear hK1 K1
  simp only [Act.put, lA, lZ, lS]
  refine mix_take hK2 (some 8) (.nilCheck (.tmp 7)) 0 _ (by kernel_rfl) (by kernel_rfl) (fun w' hS' => by (simp only [opr]; go_simp; try with_reducible rfl)) (fun K3 hK3 => ?_)
  clear hK2 K2
  simp only [Act.put, lA, lZ, lS]
  refine mix_take hK3 (some 9) (.fieldAddr 40 (.tmp 8) 1) 0 _ (by kernel_rfl) (by kernel_rfl) (fun w' hS' => by (simp only [opr]; go_simp; try with_reducible rfl)) (fun K4 hK4 => ?_)
  clear hK3 K3
  simp only [Act.put, lA, lZ, lS]
  refine mix_take hK4 (some 10) (.load 3 (.tmp 9)) 3 _ (by kernel_rfl) (by kernel_rfl) (fun w' hS' => by (have k0' := keep_cell hS' HK.out.1; have k1' := keep_cell hS' HC.out.c1; simp only [opr]; go_simp; try with_reducible rfl)) (fun K5 hK5 => ?_)
  clear hK4 K4
  simp only [Act.put, lA, lZ, lS]
  refine mix_call hK5 (some 11) 37 #[.tmp 6, .tmp 10] #[24, 3] 74 _ (by kernel_rfl) (by kernel_rfl) (enters Try.func37 (by kernel_rfl) (by kernel_rfl)) (by go_simp; try with_reducible rfl) (fun K6 hK6 => ?_)
  clear hK5 K5
  refine (HFI.out _ hS).mono ?_
  rintro e wm1 ⟨rfl, hs1⟩
  have hS1 : _ := hS.trans hs1
  refine ⟨_, rfl, hS1, ?_⟩
  clear hs1
  simp only [Act.put, lA, lZ, lS]
  refine mix_take hK6 (some 5) (.assign (.tmp 11)) 74 _ (by kernel_rfl) (by kernel_rfl) (fun w' hS' => by (simp only [opr]; go_simp; try with_reducible rfl)) (fun K7 hK7 => ?_)
  clear hK6 K6
  simp only [Act.put, lA, lZ, lS]
  refine hK7 _ _ (mix_nil ?_)
  clear hK7 K7
  have HS1 := hide' hS1
  clear hS hS1 HFI
  obtain ⟨c0, c1, c2, c3, c4, c5⟩ := HC.out.keep HS1.out

  clear c0 c1 c4 c5
  go_upto_region 2 with fail
  go_quiet (fail)
  go_upto_region 4 with fail
  generalize hw3 : World.drewN _ _ = w3
  have hs3 : Stay (fun _ => False) w w3 := by rw [← hw3]; exact HS1.out.drewN _
  clear hw3 c2 c3
  have HS3 := hide' hs3
  have c2 := (HC.out.keep hs3).c2
  have k1 := keep_cell hs3 HK.out.2
  obtain ⟨wd, hwd⟩ : ∃ W, W = w3.drew := ⟨_, rfl⟩
  have hsd : Stay (fun _ => False) w wd := by rw [hwd]; exact hs3.drew
  have hmd := HM.out.keep hsd
  have hlk := hmd.look HW.out.2.1
  rw [← HZ.out] at hlk
  obtain ⟨w4, hrun, hm4, hs4⟩ := hmd.put (t := p.grp) (v := z) HW.out.2.1 (w64_of (by omega) (by omega)) HW.out.1
  have HE := hide' (show MAt w4 m2 (n + 1) (upd F p.grp (F p.grp)) (updB H p.grp true) ∧ Stay (fun j => j = m2) w w4 from ⟨by rw [← HZ.out]; exact hm4, (hsd.mono (fun _ _ h => h.elim)).trans hs4⟩)
  have hlk2 : ∀ n, (Instr.lookup 62 (.map (some m2)) (.int .i64 p.grp) false).run Try.prog (w3.drewN n) = .ok (.int .i64 z) (w3.drewN n) := fun n => by
    have := (HM.out.keep (hs3.drewN n)).look HW.out.2.1
    rwa [← HZ.out] at this
  have hlk3 : (Instr.lookup 62 (.map (some m2)) (.int .i64 p.grp) false).run Try.prog w3.drew = .ok (.int .i64 z) w3.drew := by rw [hwd] at hlk; exact hlk
  have ez : IntKind.i64.wrap (z) = z := by rw [IntKind.wrap_i64]; omega
  clear hs3 hsd hmd hm4 hs4 hlk
  go_still_tail 8, (by kernel_rfl)
  change wpList _ _ _ _ _ w3.drew
  rw [← hwd]
  clear hlk2 hlk3 hwd c2 k1
  go_wp2
  go_returns
  exact ⟨rfl, HE.out⟩

set_option maxRecDepth 100000 in
theorem ties59_same (bx bz m2 n : Nat) (F : Int → Int) (H : Int → Bool) (h : TM w q L md f c) (hg : q.v.ownBlock = some g) (hp : L[i]? = some p) {i2 : Nat} {t : Pr} (ht : L[i2]? = some t) (hx : t.pid = p.par) (d1 : (t.grp != p.grp) = false) (k0 : w.cell? ⟨bx, 0, none⟩ = some (.pointer (some ⟨q.b, 0, none⟩))) (k1 : w.cell? ⟨bz, 0, none⟩ = some (.map (some m2))) (hm : MAt w m2 n F H) (hn1 : n ≤ 4096) (hw : W64 p.grp) (hF : 0 ≤ F p.grp ∧ F p.grp ≤ 4000) :
    Calls Try.prog 59 #[.pointer (some ⟨g, i * 6, none⟩), .pointer (some ⟨bx, 0, none⟩), .pointer (some ⟨bz, 0, none⟩)] w (fun e w' => e = .returned (.tuple #[]) ∧ MAt w' m2 (n + 1) (upd F p.grp (F p.grp)) (updB H p.grp true) ∧ Stay (fun j => j = m2) w w') := by
  have HFI := hide' (fun w' (hs : Stay (fun _ => False) w w') => find37_at p.par (h.keep hs) ht hx hg)
  have HTC := hide' (h.cellsAt hg ht).1
  clear ht hx
  have HC := hide' (h.cellsAt hg hp).1
  have HK := hide' (show w.cell? ⟨bx, 0, none⟩ = some (.pointer (some ⟨q.b, 0, none⟩)) ∧ w.cell? ⟨bz, 0, none⟩ = some (.map (some m2)) from ⟨k0, k1⟩)
  have HM := hide' hm
  have HW := hide' (show n ≤ 4096 ∧ W64 p.grp ∧ 0 ≤ F p.grp ∧ F p.grp ≤ 4000 from ⟨hn1, hw, hF⟩)
  obtain ⟨z, hz⟩ : ∃ z, z = F p.grp := ⟨_, rfl⟩
  have HZ := hide' hz
  have hz0 : 0 ≤ z := by rw [hz]; exact hF.1
  have hz1 : z ≤ 4000 := by rw [hz]; exact hF.2
  clear h hg hp k0 k1 hm hn1 hw hF hz
  go_enter Try.func59, Try.ntmps59
  go_upto_region 1 with fail
  have hS : Stay (fun _ => False) w w.drew := (Stay.refl _ _).drew
  refine wp_region_mix (fun w' => Stay (fun _ => False) w w') [(0, true), (1, true), (2, true), (3, true), (4, true), (5, false), (6, true)] (by kernel_rfl) (by kernel_rfl) (fun _ d _ _ _ h => by cases d <;> exact h) hS ?_
  refine mix_begin (fun K0 hK0 => ?_)
  refine mix_take hK0 (some 6) (.load 24 (.tmp 1)) 24 _ (by kernel_rfl) (by kernel_rfl) (fun w' hS' => by (have k0' := keep_cell hS' HK.out.1; have k1' := keep_cell hS' HC.out.c1; simp only [opr]; go_simp; try with_reducible rfl)) (fun K1 hK1 => ?_)
  clear hK0 K0
  simp only [Act.put, lA, lZ, lS]
  refine mix_take hK1 (some 7) (.move (.tmp 0)) 74 _ (by kernel_rfl) (by kernel_rfl) (fun w' hS' => by (simp only [opr]; go_simp; try with_reducible rfl)) (fun K2 hK2 => ?_)
  clear hK1 K1
  simp only [Act.put, lA, lZ, lS]
  refine mix_take hK2 (some 8) (.nilCheck (.tmp 7)) 0 _ (by kernel_rfl) (by kernel_rfl) (fun w' hS' => by (simp only [opr]; go_simp; try with_reducible rfl)) (fun K3 hK3 => ?_)
  clear hK2 K2
  simp only [Act.put, lA, lZ, lS]
  refine mix_take hK3 (some 9) (.fieldAddr 40 (.tmp 8) 1) 0 _ (by kernel_rfl) (by kernel_rfl) (fun w' hS' => by (simp only [opr]; go_simp; try with_reducible rfl)) (fun K4 hK4 => ?_)
  clear hK3 K3
  simp only [Act.put, lA, lZ, lS]
  refine mix_take hK4 (some 10) (.load 3 (.tmp 9)) 3 _ (by kernel_rfl) (by kernel_rfl) (fun w' hS' => by (have k0' := keep_cell hS' HK.out.1; have k1' := keep_cell hS' HC.out.c1; simp only [opr]; go_simp; try with_reducible rfl)) (fun K5 hK5 => ?_)
  clear hK4 K4
  simp only [Act.put, lA, lZ, lS]
  refine mix_call hK5 (some 11) 37 #[.tmp 6, .tmp 10] #[24, 3] 74 _ (by kernel_rfl) (by kernel_rfl) (enters Try.func37 (by kernel_rfl) (by kernel_rfl)) (by go_simp; try with_reducible rfl) (fun K6 hK6 => ?_)
  clear hK5 K5
  refine (HFI.out _ hS).mono ?_
  rintro e wm1 ⟨rfl, hs1⟩
  have hS1 : _ := hS.trans hs1
  refine ⟨_, rfl, hS1, ?_⟩
  clear hs1
  simp only [Act.put, lA, lZ, lS]
  refine mix_take hK6 (some 5) (.assign (.tmp 11)) 74 _ (by kernel_rfl) (by kernel_rfl) (fun w' hS' => by (simp only [opr]; go_simp; try with_reducible rfl)) (fun K7 hK7 => ?_)
  clear hK6 K6
  simp only [Act.put, lA, lZ, lS]
  refine hK7 _ _ (mix_nil ?_)
  clear hK7 K7
  have HS1 := hide' hS1
  clear hS hS1 HFI
  obtain ⟨c0, c1, c2, c3, c4, c5⟩ := HC.out.keep HS1.out
  obtain ⟨e0, e1, e2, e3, e4, e5⟩ := HTC.out.keep HS1.out
  clear c0 c1 c4 c5 e0 e1 e4 e5
  go_upto_region 2 with fail
  go_quiet (fail)
  go_upto_region 4 with fail
  generalize hw3 : World.drewN _ _ = w3
  have hs3 : Stay (fun _ => False) w w3 := by rw [← hw3]; exact HS1.out.drewN _
  clear hw3 c2 c3 e2 e3
  have HS3 := hide' hs3
  have c2 := (HC.out.keep hs3).c2
  have k1 := keep_cell hs3 HK.out.2
  obtain ⟨wd, hwd⟩ : ∃ W, W = w3.drew := ⟨_, rfl⟩
  have hsd : Stay (fun _ => False) w wd := by rw [hwd]; exact hs3.drew
  have hmd := HM.out.keep hsd
  have hlk := hmd.look HW.out.2.1
  rw [← HZ.out] at hlk
  obtain ⟨w4, hrun, hm4, hs4⟩ := hmd.put (t := p.grp) (v := z) HW.out.2.1 (w64_of (by omega) (by omega)) HW.out.1
  have HE := hide' (show MAt w4 m2 (n + 1) (upd F p.grp (F p.grp)) (updB H p.grp true) ∧ Stay (fun j => j = m2) w w4 from ⟨by rw [← HZ.out]; exact hm4, (hsd.mono (fun _ _ h => h.elim)).trans hs4⟩)
  have hlk2 : ∀ n, (Instr.lookup 62 (.map (some m2)) (.int .i64 p.grp) false).run Try.prog (w3.drewN n) = .ok (.int .i64 z) (w3.drewN n) := fun n => by
    have := (HM.out.keep (hs3.drewN n)).look HW.out.2.1
    rwa [← HZ.out] at this
  have hlk3 : (Instr.lookup 62 (.map (some m2)) (.int .i64 p.grp) false).run Try.prog w3.drew = .ok (.int .i64 z) w3.drew := by rw [hwd] at hlk; exact hlk
  have ez : IntKind.i64.wrap (z) = z := by rw [IntKind.wrap_i64]; omega
  clear hs3 hsd hmd hm4 hs4 hlk
  go_still_tail 8, (by kernel_rfl)
  change wpList _ _ _ _ _ w3.drew
  rw [← hwd]
  clear hlk2 hlk3 hwd c2 k1
  go_wp2
  go_returns
  exact ⟨rfl, HE.out⟩

set_option maxRecDepth 100000 in
theorem ties59_other (bx bz m2 n : Nat) (F : Int → Int) (H : Int → Bool) (h : TM w q L md f c) (hg : q.v.ownBlock = some g) (hp : L[i]? = some p) {i2 : Nat} {t : Pr} (ht : L[i2]? = some t) (hx : t.pid = p.par) (d1 : (t.grp != p.grp) = true) (d2 : (t.ses == p.ses) = false) (k0 : w.cell? ⟨bx, 0, none⟩ = some (.pointer (some ⟨q.b, 0, none⟩))) (k1 : w.cell? ⟨bz, 0, none⟩ = some (.map (some m2))) (hm : MAt w m2 n F H) (hn1 : n ≤ 4096) (hw : W64 p.grp) (hF : 0 ≤ F p.grp ∧ F p.grp ≤ 4000) :
    Calls Try.prog 59 #[.pointer (some ⟨g, i * 6, none⟩), .pointer (some ⟨bx, 0, none⟩), .pointer (some ⟨bz, 0, none⟩)] w (fun e w' => e = .returned (.tuple #[]) ∧ MAt w' m2 (n + 1) (upd F p.grp (F p.grp)) (updB H p.grp true) ∧ Stay (fun j => j = m2) w w') := by
  have HFI := hide' (fun w' (hs : Stay (fun _ => False) w w') => find37_at p.par (h.keep hs) ht hx hg)
  have HTC := hide' (h.cellsAt hg ht).1
  clear ht hx
  have HC := hide' (h.cellsAt hg hp).1
  have HK := hide' (show w.cell? ⟨bx, 0, none⟩ = some (.pointer (some ⟨q.b, 0, none⟩)) ∧ w.cell? ⟨bz, 0, none⟩ = some (.map (some m2)) from ⟨k0, k1⟩)
  have HM := hide' hm
  have HW := hide' (show n ≤ 4096 ∧ W64 p.grp ∧ 0 ≤ F p.grp ∧ F p.grp ≤ 4000 from ⟨hn1, hw, hF⟩)
  obtain ⟨z, hz⟩ : ∃ z, z = F p.grp := ⟨_, rfl⟩
  have HZ := hide' hz
  have hz0 : 0 ≤ z := by rw [hz]; exact hF.1
  have hz1 : z ≤ 4000 := by rw [hz]; exact hF.2
  clear h hg hp k0 k1 hm hn1 hw hF hz
  go_enter Try.func59, Try.ntmps59
  go_upto_region 1 with fail
  have hS : Stay (fun _ => False) w w.drew := (Stay.refl _ _).drew
  refine wp_region_mix (fun w' => Stay (fun _ => False) w w') [(0, true), (1, true), (2, true), (3, true), (4, true), (5, false), (6, true)] (by kernel_rfl) (by kernel_rfl) (fun _ d _ _ _ h => by cases d <;> exact h) hS ?_
  refine mix_begin (fun K0 hK0 => ?_)
  refine mix_take hK0 (some 6) (.load 24 (.tmp 1)) 24 _ (by kernel_rfl) (by kernel_rfl) (fun w' hS' => by (have k0' := keep_cell hS' HK.out.1; have k1' := keep_cell hS' HC.out.c1; simp only [opr]; go_simp; try with_reducible rfl)) (fun K1 hK1 => ?_)
  clear hK0 K0
  simp only [Act.put, lA, lZ, lS]
  refine mix_take hK1 (some 7) (.move (.tmp 0)) 74 _ (by kernel_rfl) (by kernel_rfl) (fun w' hS' => by (simp only [opr]; go_simp; try with_reducible rfl)) (fun K2 hK2 => ?_)
  clear hK1 K1
  simp only [Act.put, lA, lZ, lS]
  refine mix_take hK2 (some 8) (.nilCheck (.tmp 7)) 0 _ (by kernel_rfl) (by kernel_rfl) (fun w' hS' => by (simp only [opr]; go_simp; try with_reducible rfl)) (fun K3 hK3 => ?_)
  clear hK2 K2
  simp only [Act.put, lA, lZ, lS]
  refine mix_take hK3 (some 9) (.fieldAddr 40 (.tmp 8) 1) 0 _ (by kernel_rfl) (by kernel_rfl) (fun w' hS' => by (simp only [opr]; go_simp; try with_reducible rfl)) (fun K4 hK4 => ?_)
  clear hK3 K3
  simp only [Act.put, lA, lZ, lS]
  refine mix_take hK4 (some 10) (.load 3 (.tmp 9)) 3 _ (by kernel_rfl) (by kernel_rfl) (fun w' hS' => by (have k0' := keep_cell hS' HK.out.1; have k1' := keep_cell hS' HC.out.c1; simp only [opr]; go_simp; try with_reducible rfl)) (fun K5 hK5 => ?_)
  clear hK4 K4
  simp only [Act.put, lA, lZ, lS]
  refine mix_call hK5 (some 11) 37 #[.tmp 6, .tmp 10] #[24, 3] 74 _ (by kernel_rfl) (by kernel_rfl) (enters Try.func37 (by kernel_rfl) (by kernel_rfl)) (by go_simp; try with_reducible rfl) (fun K6 hK6 => ?_)
  clear hK5 K5
  refine (HFI.out _ hS).mono ?_
  rintro e wm1 ⟨rfl, hs1⟩
  have hS1 : _ := hS.trans hs1
  refine ⟨_, rfl, hS1, ?_⟩
  clear hs1
  simp only [Act.put, lA, lZ, lS]
  refine mix_take hK6 (some 5) (.assign (.tmp 11)) 74 _ (by kernel_rfl) (by kernel_rfl) (fun w' hS' => by (simp only [opr]; go_simp; try with_reducible rfl)) (fun K7 hK7 => ?_)
  clear hK6 K6
  simp only [Act.put, lA, lZ, lS]
  refine hK7 _ _ (mix_nil ?_)
  clear hK7 K7
  have HS1 := hide' hS1
  clear hS hS1 HFI
  obtain ⟨c0, c1, c2, c3, c4, c5⟩ := HC.out.keep HS1.out
  obtain ⟨e0, e1, e2, e3, e4, e5⟩ := HTC.out.keep HS1.out
  clear c0 c1 c4 c5 e0 e1 e4 e5
  go_upto_region 2 with fail
  go_quiet (fail)
  go_upto_region 4 with fail
  generalize hw3 : World.drewN _ _ = w3
  have hs3 : Stay (fun _ => False) w w3 := by rw [← hw3]; exact HS1.out.drewN _
  clear hw3 c2 c3 e2 e3
  have HS3 := hide' hs3
  have c2 := (HC.out.keep hs3).c2
  have k1 := keep_cell hs3 HK.out.2
  obtain ⟨wd, hwd⟩ : ∃ W, W = w3.drew := ⟨_, rfl⟩
  have hsd : Stay (fun _ => False) w wd := by rw [hwd]; exact hs3.drew
  have hmd := HM.out.keep hsd
  have hlk := hmd.look HW.out.2.1
  rw [← HZ.out] at hlk
  obtain ⟨w4, hrun, hm4, hs4⟩ := hmd.put (t := p.grp) (v := z) HW.out.2.1 (w64_of (by omega) (by omega)) HW.out.1
  have HE := hide' (show MAt w4 m2 (n + 1) (upd F p.grp (F p.grp)) (updB H p.grp true) ∧ Stay (fun j => j = m2) w w4 from ⟨by rw [← HZ.out]; exact hm4, (hsd.mono (fun _ _ h => h.elim)).trans hs4⟩)
  have hlk2 : ∀ n, (Instr.lookup 62 (.map (some m2)) (.int .i64 p.grp) false).run Try.prog (w3.drewN n) = .ok (.int .i64 z) (w3.drewN n) := fun n => by
    have := (HM.out.keep (hs3.drewN n)).look HW.out.2.1
    rwa [← HZ.out] at this
  have hlk3 : (Instr.lookup 62 (.map (some m2)) (.int .i64 p.grp) false).run Try.prog w3.drew = .ok (.int .i64 z) w3.drew := by rw [hwd] at hlk; exact hlk
  have ez : IntKind.i64.wrap (z) = z := by rw [IntKind.wrap_i64]; omega
  clear hs3 hsd hmd hm4 hs4 hlk
  go_still_tail 8, (by kernel_rfl)
  change wpList _ _ _ _ _ w3.drew
  rw [← hwd]
  clear hlk2 hlk3 hwd c2 k1
  go_wp2
  go_returns
  exact ⟨rfl, HE.out⟩

set_option maxRecDepth 100000 in
theorem ties59_tied (bx bz m2 n : Nat) (F : Int → Int) (H : Int → Bool) (h : TM w q L md f c) (hg : q.v.ownBlock = some g) (hp : L[i]? = some p) {i2 : Nat} {t : Pr} (ht : L[i2]? = some t) (hx : t.pid = p.par) (d1 : (t.grp != p.grp) = true) (d2 : (t.ses == p.ses) = true) (k0 : w.cell? ⟨bx, 0, none⟩ = some (.pointer (some ⟨q.b, 0, none⟩))) (k1 : w.cell? ⟨bz, 0, none⟩ = some (.map (some m2))) (hm : MAt w m2 n F H) (hn1 : n ≤ 4096) (hw : W64 p.grp) (hF : 0 ≤ F p.grp ∧ F p.grp ≤ 4000) :
    Calls Try.prog 59 #[.pointer (some ⟨g, i * 6, none⟩), .pointer (some ⟨bx, 0, none⟩), .pointer (some ⟨bz, 0, none⟩)] w (fun e w' => e = .returned (.tuple #[]) ∧ MAt w' m2 (n + 1) (upd F p.grp (F p.grp + 1)) (updB H p.grp true) ∧ Stay (fun j => j = m2) w w') := by
  have HFI := hide' (fun w' (hs : Stay (fun _ => False) w w') => find37_at p.par (h.keep hs) ht hx hg)
  have HTC := hide' (h.cellsAt hg ht).1
  clear ht hx
  have HC := hide' (h.cellsAt hg hp).1
  have HK := hide' (show w.cell? ⟨bx, 0, none⟩ = some (.pointer (some ⟨q.b, 0, none⟩)) ∧ w.cell? ⟨bz, 0, none⟩ = some (.map (some m2)) from ⟨k0, k1⟩)
  have HM := hide' hm
  have HW := hide' (show n ≤ 4096 ∧ W64 p.grp ∧ 0 ≤ F p.grp ∧ F p.grp ≤ 4000 from ⟨hn1, hw, hF⟩)
  obtain ⟨z, hz⟩ : ∃ z, z = F p.grp := ⟨_, rfl⟩
  have HZ := hide' hz
  have hz0 : 0 ≤ z := by rw [hz]; exact hF.1
  have hz1 : z ≤ 4000 := by rw [hz]; exact hF.2
  clear h hg hp k0 k1 hm hn1 hw hF hz
  go_enter Try.func59, Try.ntmps59
  go_upto_region 1 with fail
  have hS : Stay (fun _ => False) w w.drew := (Stay.refl _ _).drew
  refine wp_region_mix (fun w' => Stay (fun _ => False) w w') [(0, true), (1, true), (2, true), (3, true), (4, true), (5, false), (6, true)] (by kernel_rfl) (by kernel_rfl) (fun _ d _ _ _ h => by cases d <;> exact h) hS ?_
  refine mix_begin (fun K0 hK0 => ?_)
  refine mix_take hK0 (some 6) (.load 24 (.tmp 1)) 24 _ (by kernel_rfl) (by kernel_rfl) (fun w' hS' => by (have k0' := keep_cell hS' HK.out.1; have k1' := keep_cell hS' HC.out.c1; simp only [opr]; go_simp; try with_reducible rfl)) (fun K1 hK1 => ?_)
  clear hK0 K0
  simp only [Act.put, lA, lZ, lS]
  refine mix_take hK1 (some 7) (.move (.tmp 0)) 74 _ (by kernel_rfl) (by kernel_rfl) (fun w' hS' => by (simp only [opr]; go_simp; try with_reducible rfl)) (fun K2 hK2 => ?_)
  clear hK1 K1
  simp only [Act.put, lA, lZ, lS]
  refine mix_take hK2 (some 8) (.nilCheck (.tmp 7)) 0 _ (by kernel_rfl) (by kernel_rfl) (fun w' hS' => by (simp only [opr]; go_simp; try with_reducible rfl)) (fun K3 hK3 => ?_)
  clear hK2 K2
  simp only [Act.put, lA, lZ, lS]
  refine mix_take hK3 (some 9) (.fieldAddr 40 (.tmp 8) 1) 0 _ (by kernel_rfl) (by kernel_rfl) (fun w' hS' => by (simp only [opr]; go_simp; try with_reducible rfl)) (fun K4 hK4 => ?_)
  clear hK3 K3
  simp only [Act.put, lA, lZ, lS]
  refine mix_take hK4 (some 10) (.load 3 (.tmp 9)) 3 _ (by kernel_rfl) (by kernel_rfl) (fun w' hS' => by (have k0' := keep_cell hS' HK.out.1; have k1' := keep_cell hS' HC.out.c1; simp only [opr]; go_simp; try with_reducible rfl)) (fun K5 hK5 => ?_)
  clear hK4 K4
  simp only [Act.put, lA, lZ, lS]
  refine mix_call hK5 (some 11) 37 #[.tmp 6, .tmp 10] #[24, 3] 74 _ (by kernel_rfl) (by kernel_rfl) (enters Try.func37 (by kernel_rfl) (by kernel_rfl)) (by go_simp; try with_reducible rfl) (fun K6 hK6 => ?_)
  clear hK5 K5
  refine (HFI.out _ hS).mono ?_
  rintro e wm1 ⟨rfl, hs1⟩
  have hS1 : _ := hS.trans hs1
  refine ⟨_, rfl, hS1, ?_⟩
  clear hs1
  simp only [Act.put, lA, lZ, lS]
  refine mix_take hK6 (some 5) (.assign (.tmp 11)) 74 _ (by kernel_rfl) (by kernel_rfl) (fun w' hS' => by (simp only [opr]; go_simp; try with_reducible rfl)) (fun K7 hK7 => ?_)
  clear hK6 K6
  simp only [Act.put, lA, lZ, lS]
  refine hK7 _ _ (mix_nil ?_)
  clear hK7 K7
  have HS1 := hide' hS1
  clear hS hS1 HFI
  obtain ⟨c0, c1, c2, c3, c4, c5⟩ := HC.out.keep HS1.out
  obtain ⟨e0, e1, e2, e3, e4, e5⟩ := HTC.out.keep HS1.out
  clear c0 c1 c4 c5 e0 e1 e4 e5
  go_upto_region 2 with fail
  go_quiet (fail)
  go_upto_region 4 with fail
  generalize hw3 : World.drewN _ _ = w3
  have hs3 : Stay (fun _ => False) w w3 := by rw [← hw3]; exact HS1.out.drewN _
  clear hw3 c2 c3 e2 e3
  have HS3 := hide' hs3
  have c2 := (HC.out.keep hs3).c2
  have k1 := keep_cell hs3 HK.out.2
  obtain ⟨wd, hwd⟩ : ∃ W, W = w3.drew := ⟨_, rfl⟩
  have hsd : Stay (fun _ => False) w wd := by rw [hwd]; exact hs3.drew
  have hmd := HM.out.keep hsd
  have hlk := hmd.look HW.out.2.1
  rw [← HZ.out] at hlk
  obtain ⟨w4, hrun, hm4, hs4⟩ := hmd.put (t := p.grp) (v := z + 1) HW.out.2.1 (w64_of (by omega) (by omega)) HW.out.1
  have HE := hide' (show MAt w4 m2 (n + 1) (upd F p.grp (F p.grp + 1)) (updB H p.grp true) ∧ Stay (fun j => j = m2) w w4 from ⟨by rw [← HZ.out]; exact hm4, (hsd.mono (fun _ _ h => h.elim)).trans hs4⟩)
  have hlk2 : ∀ n, (Instr.lookup 62 (.map (some m2)) (.int .i64 p.grp) false).run Try.prog (w3.drewN n) = .ok (.int .i64 z) (w3.drewN n) := fun n => by
    have := (HM.out.keep (hs3.drewN n)).look HW.out.2.1
    rwa [← HZ.out] at this
  have hlk3 : (Instr.lookup 62 (.map (some m2)) (.int .i64 p.grp) false).run Try.prog w3.drew = .ok (.int .i64 z) w3.drew := by rw [hwd] at hlk; exact hlk
  have ez : IntKind.i64.wrap (z + 1) = z + 1 := by rw [IntKind.wrap_i64]; omega
  clear hs3 hsd hmd hm4 hs4 hlk
  go_still_tail 8, (by kernel_rfl)
  change wpList _ _ _ _ _ w3.drew
  rw [← hwd]
  clear hlk2 hlk3 hwd c2 k1
  go_wp2
  go_returns
  exact ⟨rfl, HE.out⟩

end Go.Proofs.Ytefpifnfinkbaaa
