/-
  The document's Fill, walked. No conditions.
-/
import Derived.Test.YtmpmdlbhiogelaaE1
import Derived.Test.YtmpmdlbhiogelaaD6
namespace Go.Proofs.Ytmpmdlbhiogelaa
open Go.RowKit

theorem results_g3_int {fn : Func} {p t : Tmp} (h : fn.results = #[.cell p 28, .tmp t]) (tmps : Array Value) (w : World) (g : Nat) (r : G3) (n : Int) (hp : tmps.getD p undef = .pointer (some ⟨g, 0, none⟩)) (ht : tmps.getD t undef = .int .i64 n) (hb : BoxG w g r) :
    (results fn tmps).run Try.prog w = .ok (.tuple #[.agg #[.int .i64 r.w, .int .i64 r.h, r.l], .int .i64 n]) w := by
  have hp' : tmps[p]?.getD undef = .pointer (some ⟨g, 0, none⟩) := by simpa using hp
  have ht' : tmps[t]?.getD undef = .int .i64 n := by simpa using ht
  simp [results, h, hp', ht', asAddr, run_loadVar_cells w g 0 28 _ _ hb.cells Try.underlying28 rfl (by kernel_rfl)]

/-- Cell by cell, row by row: what is to turn has turned, so far. -/
def Scan (w h : Nat) (P : Nat → Nat → Bool) (S : Nat → Nat → Cl) (f g : Nat → Cl) (k j : Nat) : Prop := ∀ X Y : Nat, X < w → Y < h → g (Y * w + X) = if (Y < k ∨ (Y = k ∧ X < j)) ∧ P X Y = true then S X Y else f (Y * w + X)

theorem Scan.none (w h : Nat) (P : Nat → Nat → Bool) (S : Nat → Nat → Cl) (f : Nat → Cl) : Scan w h P S f f 0 0 := fun X Y _ _ => by
  rw [if_neg (by omega)]

theorem Scan.hit {w h k j : Nat} {P : Nat → Nat → Bool} {S : Nat → Nat → Cl} {f g : Nat → Cl} (hs : Scan w h P S f g k j) (hj : j < w) (hp : P j k = true) {c : Cl} (hc : c = S j k) : Scan w h P S f (fun i => if i = k * w + j then c else g i) k (j + 1) := fun X Y hX hY => by
  have e := idx_iff (w := w) (x := X) (y := Y) (x' := j) (y' := k) hX hj
  simp only
  rw [hs X Y hX hY]
  by_cases h1 : X = j ∧ Y = k
  · obtain ⟨rfl, rfl⟩ := h1
    rw [if_pos rfl, if_pos ⟨.inr ⟨rfl, by omega⟩, hp⟩, hc]
  · rw [if_neg (fun h => h1 (e.1 h))]
    by_cases h2 : (Y < k ∨ (Y = k ∧ X < j)) ∧ P X Y = true
    · rw [if_pos h2, if_pos ⟨by omega, h2.2⟩]
    · rw [if_neg h2, if_neg (fun h => h2 ⟨by omega, h.2⟩)]

theorem Scan.miss {w h k j : Nat} {P : Nat → Nat → Bool} {S : Nat → Nat → Cl} {f g : Nat → Cl} (hs : Scan w h P S f g k j) (hp : P j k = false) : Scan w h P S f g k (j + 1) := fun X Y hX hY => by
  rw [hs X Y hX hY]
  by_cases h1 : X = j ∧ Y = k
  · obtain ⟨rfl, rfl⟩ := h1
    rw [hp]
    simp
  · by_cases h2 : (Y < k ∨ (Y = k ∧ X < j)) ∧ P X Y = true
    · rw [if_pos h2, if_pos ⟨by omega, h2.2⟩]
    · rw [if_neg h2, if_neg (fun h => h2 ⟨by omega, h.2⟩)]

theorem Scan.next {w h k j : Nat} {P : Nat → Nat → Bool} {S : Nat → Nat → Cl} {f g : Nat → Cl} (hs : Scan w h P S f g k j) (hj : w ≤ j) : Scan w h P S f g (k + 1) 0 := fun X Y hX hY => by
  rw [hs X Y hX hY]
  by_cases h2 : (Y < k ∨ (Y = k ∧ X < j)) ∧ P X Y = true
  · rw [if_pos h2, if_pos ⟨by omega, h2.2⟩]
  · rw [if_neg h2, if_neg (fun h => h2 ⟨by omega, h.2⟩)]

theorem Scan.all {w h : Nat} {P : Nat → Nat → Bool} {S : Nat → Nat → Cl} {f g : Nat → Cl} (hs : Scan w h P S f g h 0) : ∀ X Y : Nat, X < w → Y < h → g (Y * w + X) = if P X Y = true then S X Y else f (Y * w + X) := fun X Y hX hY => by
  rw [hs X Y hX hY]
  by_cases h2 : P X Y = true
  · rw [if_pos ⟨.inl hY, h2⟩, if_pos h2]
  · rw [if_neg (fun h => h2 h.2), if_neg h2]

/-- Is a cell one of a rectangle? -/
def hitsB (r : R) (X Y : Nat) : Bool := rightB r && inB r X Y

/-- The boxes of the document's Fill. -/
structure FB (w : World) (q p : Rf) (r : R) (c : Cl) (A : Nat) (wr : World) : Prop where
  stay : Stay (fun _ => False) w wr
  b3 : BoxG wr w.heap.size q.g3
  b4 : Box wr (w.heap.size + 1) r
  b5 : BoxC wr (w.heap.size + 2) c
  b6 : BoxG wr (w.heap.size + 3) ⟨0, 0, .slice none 0 0⟩
  b8 : BoxG wr A p.g3
  num : p.w = q.w ∧ p.h = q.h ∧ w.heap.size + 4 ≤ p.b ∧ w.heap.size + 4 ≤ A ∧ p.b ≠ A

theorem FB.keep {w wr w1 : World} {q p : Rf} {r : R} {c : Cl} {A : Nat} (h : FB w q p r c A wr) (hs : Stay (fun _ => False) wr w1) : FB w q p r c A w1 := ⟨h.stay.trans hs, h.b3.keep hs, h.b4.keep hs, h.b5.keep hs, h.b6.keep hs, h.b8.keep hs, h.num⟩

theorem FB.put {w wr : World} {q p : Rf} {r : R} {c : Cl} {A : Nat} (h : FB w q p r c A wr) (o : Nat) (vs : List Value) : FB w q p r c A (wr.setCells p.b o vs) := by
  have hs : Stay (fun k => k = p.b) wr (wr.setCells p.b o vs) := (Stay.refl (fun k => k = p.b) wr).setCells p.b _ _ rfl
  have := h.num
  exact ⟨h.stay.setCellsNew p.b _ _ (by omega), h.b3.stay hs (by omega), h.b4.stay hs (by omega), h.b5.stay hs (by omega), h.b6.stay hs (by omega), h.b8.stay hs (by omega), h.num⟩

/-- While the document's Fill goes on. -/
structure FS (w : World) (q p : Rf) (r : R) (c : Cl) (A : Nat) (f : Nat → Cl) (P : Nat → Nat → Bool) (k j : Nat) (wr : World) : Prop where
  box : FB w q p r c A wr
  ref : ∃ g, RefAt wr p g ∧ Scan q.w q.h P (fun _ _ => c) f g k j

theorem cnt_bd (P : Nat → Nat → Bool) (w : Nat) : ∀ k, cntAll P w k ≤ k * w
  | 0 => by simp [cntAll]
  | k + 1 => by
    have h1 := cnt_bd P w k
    have h2 : ∀ n, cntRow (fun X => P X k) n ≤ n := fun n => by
      induction n with
      | zero => simp [cntRow]
      | succ n ih => unfold cntRow; split <;> omega
    have h3 := h2 w
    unfold cntAll
    rw [Nat.succ_mul]
    omega

theorem cntRow_bd (P : Nat → Bool) : ∀ n, cntRow P n ≤ n
  | 0 => by simp [cntRow]
  | n + 1 => by
    have := cntRow_bd P n
    unfold cntRow
    split <;> omega

/-- The document's Fill: another grid, and how many cells have turned. -/
def RefFilled (q : Rf) (f : Nat → Cl) (r : R) (c : Cl) (w : World) (e : Ending) (w' : World) : Prop := ∃ p f', e = .returned (.tuple #[.agg #[.int .i64 p.g3.w, .int .i64 p.g3.h, p.g3.l], .int .i64 (cntAll (hitsB r) q.w q.h : Nat)]) ∧ Stay (fun _ => False) w w' ∧ RefAt w' p f' ∧ p.w = q.w ∧ p.h = q.h ∧ w.heap.size ≤ p.b ∧ Fills q.w q.h r c f f'

set_option maxRecDepth 100000 in
set_option maxHeartbeats 2000000 in
theorem refFill13 (q : Rf) (f : Nat → Cl) (r : R) (c : Cl) (w : World) (hq : RefAt w q f) : Calls Try.prog 13 #[.agg #[.int .i64 q.g3.w, .int .i64 q.g3.h, q.g3.l], .agg #[.int .i64 r.x, .int .i64 r.y, .int .i64 r.w, .int .i64 r.h], .agg #[.int .i32 c.r, .int .i64 c.fg, .int .i64 c.bg, .int .i64 c.fl]] w (RefFilled q f r c w) := by
  have hs0 : Stay (fun _ => False) w ((((w.alloc (.cells #[.int .i64 q.g3.w, .int .i64 q.g3.h, q.g3.l] 28)).alloc (.cells #[.int .i64 r.x, .int .i64 r.y, .int .i64 r.w, .int .i64 r.h] 31)).alloc (.cells #[.int .i32 c.r, .int .i64 c.fg, .int .i64 c.bg, .int .i64 c.fl] 35)).alloc (.cells #[.int .i64 0, .int .i64 0, .slice none 0 0] 28)) := ((((Stay.refl _ _).alloc _).alloc _).alloc _).alloc _
  have HS := hide' hs0
  have HQ := hide' (hq.keep hs0)
  have HQB := hide' ((((BoxG.new (w := w) q.g3 rfl).alloc (.cells #[.int .i64 r.x, .int .i64 r.y, .int .i64 r.w, .int .i64 r.h] 31)).alloc (.cells #[.int .i32 c.r, .int .i64 c.fg, .int .i64 c.bg, .int .i64 c.fl] 35)).alloc (.cells #[.int .i64 0, .int .i64 0, .slice none 0 0] 28))
  have HRB := hide' (((Box.new (w := w.alloc (.cells #[.int .i64 q.g3.w, .int .i64 q.g3.h, q.g3.l] 28)) r (by simp) : Box _ (w.heap.size + 1) r).alloc (.cells #[.int .i32 c.r, .int .i64 c.fg, .int .i64 c.bg, .int .i64 c.fl] 35)).alloc (.cells #[.int .i64 0, .int .i64 0, .slice none 0 0] 28))
  have HCB := hide' ((BoxC.new (w := (w.alloc (.cells #[.int .i64 q.g3.w, .int .i64 q.g3.h, q.g3.l] 28)).alloc (.cells #[.int .i64 r.x, .int .i64 r.y, .int .i64 r.w, .int .i64 r.h] 31)) c (by simp) : BoxC _ (w.heap.size + 2) c).alloc (.cells #[.int .i64 0, .int .i64 0, .slice none 0 0] 28))
  have HZB := hide' (BoxG.new (w := ((w.alloc (.cells #[.int .i64 q.g3.w, .int .i64 q.g3.h, q.g3.l] 28)).alloc (.cells #[.int .i64 r.x, .int .i64 r.y, .int .i64 r.w, .int .i64 r.h] 31)).alloc (.cells #[.int .i32 c.r, .int .i64 c.fg, .int .i64 c.bg, .int .i64 c.fl] 35)) ⟨0, 0, .slice none 0 0⟩ (by simp) : BoxG _ (w.heap.size + 3) _)
  have HR := hide' (refRight29 r)
  obtain ⟨cr, hcr⟩ : ∃ c, c = rightB r := ⟨_, rfl⟩
  rw [← hcr] at HR
  have HI : Hid (∀ (X Y : Nat) w, cr = true → X ≤ 512 → Y ≤ 512 → Calls Try.prog 30 #[.agg #[.int .i64 r.x, .int .i64 r.y, .int .i64 r.w, .int .i64 r.h], .int .i64 (X : Nat), .int .i64 (Y : Nat)] w (Gives (.bool (inB r X Y)) w)) := fun X Y w h hX hY => refIn30 r X Y w (by rw [← hcr, h]) (by unfold Mid; omega) (by unfold Mid; omega)
  obtain ⟨P, hP⟩ : ∃ P : Nat → Nat → Bool, P = hitsB r := ⟨_, rfl⟩
  have HPE := hide' hP
  have HP : Hid (∀ X Y, P X Y = (cr && inB r X Y)) := fun X Y => by rw [hP, hcr]; rfl
  have HFI : Hid (∀ g, (∀ X Y : Nat, X < q.w → Y < q.h → g (Y * q.w + X) = if P X Y = true then c else f (Y * q.w + X)) → Fills q.w q.h r c f g) := fun g hg X Y hX hY => by
    rw [hg X Y hX hY, hP]
    unfold hitsB
    simp only [Bool.and_eq_true]
  have hw2 : (q.w : Int) ≤ 512 := by have := hq.w2; omega
  have hh2 : (q.h : Int) ≤ 512 := by have := hq.h2; omega
  have HSZ : Hid (w.heap.size + 4 = ((((w.alloc (.cells #[.int .i64 q.g3.w, .int .i64 q.g3.h, q.g3.l] 28)).alloc (.cells #[.int .i64 r.x, .int .i64 r.y, .int .i64 r.w, .int .i64 r.h] 31)).alloc (.cells #[.int .i32 c.r, .int .i64 c.fg, .int .i64 c.bg, .int .i64 c.fl] 35)).alloc (.cells #[.int .i64 0, .int .i64 0, .slice none 0 0] 28)).heap.size) := show _ = _ by simp
  have HH1 := hide' hq.h1
  clear hs0 hq hcr hP
  go_enter Try.func13, Try.ntmps13
  go_upto_region 1 with fail
  obtain ⟨W0, hW⟩ : ∃ W, W = ((((w.alloc (.cells #[.int .i64 q.g3.w, .int .i64 q.g3.h, q.g3.l] 28)).alloc (.cells #[.int .i64 r.x, .int .i64 r.y, .int .i64 r.w, .int .i64 r.h] 31)).alloc (.cells #[.int .i32 c.r, .int .i64 c.fg, .int .i64 c.bg, .int .i64 c.fl] 35)).alloc (.cells #[.int .i64 0, .int .i64 0, .slice none 0 0] 28)) := ⟨_, rfl⟩
  rw [← hW] at HS HQ HQB HRB HCB HZB HSZ
  rw [← hW]
  clear hW
  go_cut [8] (fun s8 wx => ∃ A, s8 = .pointer (some ⟨A, 0, none⟩) ∧ Hid (Copied W0 q f A wx))
  case first =>
    refine any_begin (fun w' => Stay (fun k => W0.heap.size ≤ k) W0 w') (by kernel_rfl) (fun K0 hK0 => ?_)
    have HST : Hid (Stay (fun k => W0.heap.size ≤ k) W0 W0.drew) := (Stay.refl _ _).drew
    have HBW : Hid (W0.heap.size ≤ W0.drew.heap.size) := Nat.le_refl _
    obtain ⟨Wd, hWd⟩ : ∃ Wd, Wd = W0.drew := ⟨_, rfl⟩
    rw [← hWd] at HST HBW
    rw [← hWd]
    clear hWd
    refine any_take (i := 0) hK0 (some 12) (.fieldAddr 28 (.tmp 3) 0) 0 _ (by kernel_rfl) (fun _ d _ _ _ h => by cases d <;> exact h) (by kernel_rfl) (by kernel_rfl) (fun w' hS' => by simp only [opr]; go_simp; try with_reducible rfl) HST.out (fun K1 hK1 => ?_)
    clear hK0 K0
    try simp only [Act.put, List.setIfInBounds_toArray, List.set_cons_zero, List.set_cons_succ]
    refine any_take (i := 1) hK1 (some 13) (.load 3 (.tmp 12)) 3 _ (by kernel_rfl) (fun _ d _ _ _ h => by cases d <;> exact h) (by kernel_rfl) (by kernel_rfl) (fun w' hS' => by (have hb := HQB.out.stay hS' (by have := HQB.out.lt; omega); obtain ⟨b0, b1, b2, _⟩ := hb; simp only [opr]; go_simp; try with_reducible rfl)) HST.out (fun K2 hK2 => ?_)
    clear hK1 K1
    try simp only [Act.put, List.setIfInBounds_toArray, List.set_cons_zero, List.set_cons_succ]
    refine any_take (i := 2) hK2 (some 14) (.fieldAddr 28 (.tmp 3) 1) 0 _ (by kernel_rfl) (fun _ d _ _ _ h => by cases d <;> exact h) (by kernel_rfl) (by kernel_rfl) (fun w' hS' => by simp only [opr]; go_simp; try with_reducible rfl) HST.out (fun K3 hK3 => ?_)
    clear hK2 K2
    try simp only [Act.put, List.setIfInBounds_toArray, List.set_cons_zero, List.set_cons_succ]
    refine any_take (i := 3) hK3 (some 15) (.load 3 (.tmp 14)) 3 _ (by kernel_rfl) (fun _ d _ _ _ h => by cases d <;> exact h) (by kernel_rfl) (by kernel_rfl) (fun w' hS' => by (have hb := HQB.out.stay hS' (by have := HQB.out.lt; omega); obtain ⟨b0, b1, b2, _⟩ := hb; simp only [opr]; go_simp; try with_reducible rfl)) HST.out (fun K4 hK4 => ?_)
    clear hK3 K3
    try simp only [Act.put, List.setIfInBounds_toArray, List.set_cons_zero, List.set_cons_succ]
    refine any_take (i := 5) hK4 (some 17) (.fieldAddr 28 (.tmp 3) 2) 0 _ (by kernel_rfl) (fun _ d _ _ _ h => by cases d <;> exact h) (by kernel_rfl) (by kernel_rfl) (fun w' hS' => by simp only [opr]; go_simp; try with_reducible rfl) HST.out (fun K5 hK5 => ?_)
    clear hK4 K4
    try simp only [Act.put, List.setIfInBounds_toArray, List.set_cons_zero, List.set_cons_succ]
    refine any_take (i := 6) hK5 (some 18) (.load 26 (.tmp 17)) 26 _ (by kernel_rfl) (fun _ d _ _ _ h => by cases d <;> exact h) (by kernel_rfl) (by kernel_rfl) (fun w' hS' => by (have hb := HQB.out.stay hS' (by have := HQB.out.lt; omega); obtain ⟨b0, b1, b2, _⟩ := hb; simp only [opr]; go_simp; try with_reducible rfl)) HST.out (fun K6 hK6 => ?_)
    clear hK5 K5
    try simp only [Act.put, List.setIfInBounds_toArray, List.set_cons_zero, List.set_cons_succ]
    refine any_pick (rs := [4, 9]) hK6 (by kernel_rfl) (fun K7 hK7 => ?_)
    clear hK6 K6
    intro i hi
    simp only [List.mem_cons, List.not_mem_nil, or_false] at hi
    rcases hi with rfl | rfl
    · refine op_plain (some 16) (.buildSlice 26 0 #[]) 26 (by kernel_rfl) (by kernel_rfl) ?_
      go_wp2
      have st : Stay (fun _ => False) Wd (Wd.alloc (.cells #[] 35)) := (Stay.refl _ _).alloc _
      have HO := hide' (ownsRow_base (owns_newS Wd #[] 35 4 0 rfl (by decide)) HBW.out)
      have HST' := hide' (HST.out.trans (stay_any st))
      have HBW' := hide' (Nat.le_trans HBW.out st.size)
      clear st
      clear HST
      have HST := HST'
      clear HST'
      clear HBW
      have HBW := HBW'
      clear HBW'
      obtain ⟨vO2, hvO⟩ : ∃ v, v = Value.slice (some ⟨Wd.heap.size, 0, none⟩) 0 0 := ⟨_, rfl⟩
      rw [← hvO] at HO
      rw [← hvO]
      clear hvO
      obtain ⟨W1, hW⟩ : ∃ Wq, Wq = (Wd.alloc (.cells #[] 35)) := ⟨_, rfl⟩
      rw [← hW] at HO HST HBW
      rw [← hW]
      clear hW
      refine hK7 4 (by simp) _ _ HST.out (any_more fun K8 hK8 => ?_)
      clear hK7 K7
      refine any_pick (rs := [7, 9]) hK8 (by kernel_rfl) (fun K9 hK9 => ?_)
      clear hK8 K8
      intro i hi
      simp only [List.mem_cons, List.not_mem_nil, or_false] at hi
      rcases hi with rfl | rfl
      · refine op_plain (some 19) (.call { callee := Callee.builtin Builtin.append, args := #[.tmp 16, .tmp 18], argTypes := #[26, 26] }) 26 (by kernel_rfl) (by kernel_rfl) ?_
        have HSRC := hide' ((HQ.out.stay HST.out (by have := HQ.out.lt; omega)).pix.row0 (c := q.cap))
        have hbig := HQ.out.big
        go_wp2_with (at_builtin; refine appS rfl _ _ 26 rfl Try.underlying26 cell_info rfl (by decide) (by decide) HO.out rfl HSRC.out rfl (seg_one _ _) (by omega) HBW.out ?_; intro v4 W3 ho hst hb; have HO2 := hide' ho; have HT2 := hide' hst; have HB2 := hide' hb; clear ho hst hb)
        have HST' := hide' (HST.out.trans (HT2.out.mono fun k _ hk => (HO.out.lt k hk).1))
        have HBW' := hide' (Nat.le_trans HBW.out HT2.out.size)
        clear HO HT2 HB2 HSRC hbig
        clear HST
        have HST := HST'
        clear HST'
        clear HBW
        have HBW := HBW'
        clear HBW'
        have HO := HO2
        clear HO2
        obtain ⟨g5, cp6, rfl⟩ := own_shape HO.out HQ.out.pos
        refine hK9 7 (by simp) _ _ HST.out (any_more fun K10 hK10 => ?_)
        clear hK9 K9
        refine any_take (i := 8) hK10 (some 20) (.build 28 #[(0, .tmp 13), (1, .tmp 15), (2, .tmp 19)]) 28 _ (by kernel_rfl) (fun _ d _ _ _ h => by cases d <;> exact h) (by kernel_rfl) (by kernel_rfl) (fun w' hS' => by simp only [opr]; go_simp; try with_reducible rfl) HST.out (fun K11 hK11 => ?_)
        clear hK10 K10
        try simp only [Act.put, List.setIfInBounds_toArray, List.set_cons_zero, List.set_cons_succ]
        refine any_pick (rs := [9]) hK11 (by kernel_rfl) (fun K12 hK12 => ?_)
        clear hK11 K11
        intro i hi
        simp only [List.mem_cons, List.not_mem_nil, or_false] at hi
        rcases hi with rfl
        refine op_plain (some 8) (.alloc 28) 0 (by kernel_rfl) (by kernel_rfl) ?_
        go_wp2
        have st : Stay (fun _ => False) W3 (W3.alloc (.cells #[.int .i64 0, .int .i64 0, .slice none 0 0] 28)) := (Stay.refl _ _).alloc _
        have HAb := hide' (BoxG.new (w := W3) ⟨0, 0, .slice none 0 0⟩ rfl)
        have HAG : Hid (W0.heap.size ≤ W3.heap.size) := HBW.out
        have HAA : Hid (Apart (W3.alloc (.cells #[.int .i64 0, .int .i64 0, .slice none 0 0] 28)) (.slice (some ⟨g5, 0, none⟩) q.n cp6) W3.heap.size) := Apart.new HO.out
        have HST' := hide' (HST.out.trans (stay_any st))
        have HBW' := hide' (Nat.le_trans HBW.out st.size)
        have HO' := hide' (st.owns HO.out (fun _ _ h => h))
        clear st
        clear HST
        have HST := HST'
        clear HST'
        clear HBW
        have HBW := HBW'
        clear HBW'
        clear HO
        have HO := HO'
        clear HO'
        obtain ⟨A8, hA'⟩ : ∃ B, B = W3.heap.size := ⟨_, rfl⟩
        rw [← hA'] at HAb HAA HAG
        rw [← hA']
        clear hA'
        obtain ⟨W7, hW⟩ : ∃ Wq, Wq = (W3.alloc (.cells #[.int .i64 0, .int .i64 0, .slice none 0 0] 28)) := ⟨_, rfl⟩
        rw [← hW] at HAb HAA HST HBW HO
        rw [← hW]
        clear hW
        refine hK12 9 (by simp) _ _ HST.out (any_more fun K13 hK13 => ?_)
        clear hK12 K12
        refine any_pick (rs := [10]) hK13 (by kernel_rfl) (fun K14 hK14 => ?_)
        clear hK13 K13
        intro i hi
        simp only [List.mem_cons, List.not_mem_nil, or_false] at hi
        rcases hi with rfl
        refine op_plain none (.store 28 (.tmp 8) (.tmp 20)) 0 (by kernel_rfl) (by kernel_rfl) ?_
        obtain ⟨z0, z1, z2, e0, e1, e2⟩ := HAb.out
        go_wp2
        generalize hW2 : World.setCell (World.setCell (World.setCell _ _ _) _ _) _ _ = W9
        have HF : Hid (BoxG W9 A8 ⟨q.g3.w, q.g3.h, (.slice (some ⟨g5, 0, none⟩) q.n cp6)⟩) := by rw [← hW2]; exact HAb.out.put ⟨q.g3.w, q.g3.h, (.slice (some ⟨g5, 0, none⟩) q.n cp6)⟩
        have hst : Stay (fun k => k = A8) W7 W9 := by rw [← hW2]; exact (((Stay.refl (fun k => k = A8) W7).setCell (p := ⟨A8, 0, none⟩) rfl _).setCell (p := ⟨A8, 1, none⟩) rfl _).setCell (p := ⟨A8, 2, none⟩) rfl _
        have HO' := hide' (hst.owns HO.out (fun k hk e => HAA.out.2 (by rw [hk, e])))
        have HST' := hide' (HST.out.trans (hst.mono fun k _ e => by rw [e]; exact HAG.out))
        have HNE : Hid (Value.ownBlock (.slice (some ⟨g5, 0, none⟩) q.n cp6) ≠ some A8) := HAA.out.2
        clear z0 z1 z2 e0 e1 e2 hW2 HAb HAA hst HBW
        clear HO
        have HO := HO'
        clear HO'
        clear HST
        have HST := HST'
        clear HST'
        refine hK14 10 (by simp) _ _ HST.out (any_more fun K15 hK15 => ?_)
        clear hK14 K14
        refine any_done hK15 (by kernel_rfl) ?_
        clear hK15 K15
        go_wp2_with fail
        go_meet
        exact ⟨A8, rfl, copied_of HQ.out HST.out HO.out HNE.out HAG.out HF.out⟩
      · refine op_plain (some 8) (.alloc 28) 0 (by kernel_rfl) (by kernel_rfl) ?_
        go_wp2
        have st : Stay (fun _ => False) W1 (W1.alloc (.cells #[.int .i64 0, .int .i64 0, .slice none 0 0] 28)) := (Stay.refl _ _).alloc _
        have HAb := hide' (BoxG.new (w := W1) ⟨0, 0, .slice none 0 0⟩ rfl)
        have HAG : Hid (W0.heap.size ≤ W1.heap.size) := HBW.out
        have HAA : Hid (Apart (W1.alloc (.cells #[.int .i64 0, .int .i64 0, .slice none 0 0] 28)) vO2 W1.heap.size) := Apart.new HO.out
        have HST' := hide' (HST.out.trans (stay_any st))
        have HBW' := hide' (Nat.le_trans HBW.out st.size)
        have HO' := hide' (st.owns HO.out (fun _ _ h => h))
        clear st
        clear HST
        have HST := HST'
        clear HST'
        clear HBW
        have HBW := HBW'
        clear HBW'
        clear HO
        have HO := HO'
        clear HO'
        obtain ⟨A11, hA'⟩ : ∃ B, B = W1.heap.size := ⟨_, rfl⟩
        rw [← hA'] at HAb HAA HAG
        rw [← hA']
        clear hA'
        obtain ⟨W10, hW⟩ : ∃ Wq, Wq = (W1.alloc (.cells #[.int .i64 0, .int .i64 0, .slice none 0 0] 28)) := ⟨_, rfl⟩
        rw [← hW] at HAb HAA HST HBW HO
        rw [← hW]
        clear hW
        refine hK9 9 (by simp) _ _ HST.out (any_more fun K10 hK10 => ?_)
        clear hK9 K9
        refine any_pick (rs := [7]) hK10 (by kernel_rfl) (fun K11 hK11 => ?_)
        clear hK10 K10
        intro i hi
        simp only [List.mem_cons, List.not_mem_nil, or_false] at hi
        rcases hi with rfl
        refine op_plain (some 19) (.call { callee := Callee.builtin Builtin.append, args := #[.tmp 16, .tmp 18], argTypes := #[26, 26] }) 26 (by kernel_rfl) (by kernel_rfl) ?_
        have HSRC := hide' ((HQ.out.stay HST.out (by have := HQ.out.lt; omega)).pix.row0 (c := q.cap))
        have hbig := HQ.out.big
        go_wp2_with (at_builtin; refine appS rfl _ _ 26 rfl Try.underlying26 cell_info rfl (by decide) (by decide) HO.out rfl HSRC.out rfl (seg_one _ _) (by omega) HBW.out ?_; intro v13 W12 ho hst hb; have HO2 := hide' ho; have HT2 := hide' hst; have HB2 := hide' hb; clear ho hst hb)
        have HST' := hide' (HST.out.trans (HT2.out.mono fun k _ hk => (HO.out.lt k hk).1))
        have HBW' := hide' (Nat.le_trans HBW.out HT2.out.size)
        have HAb' := hide' (HAb.out.stay HT2.out (fun h => HAA.out.2 h))
        have HAA' := hide' (HAA.out.step HT2.out HB2.out)
        clear HO HT2 HB2 HSRC hbig
        clear HST
        have HST := HST'
        clear HST'
        clear HBW
        have HBW := HBW'
        clear HBW'
        clear HAb
        have HAb := HAb'
        clear HAb'
        clear HAA
        have HAA := HAA'
        clear HAA'
        have HO := HO2
        clear HO2
        obtain ⟨g14, cp15, rfl⟩ := own_shape HO.out HQ.out.pos
        refine hK11 7 (by simp) _ _ HST.out (any_more fun K12 hK12 => ?_)
        clear hK11 K11
        refine any_take (i := 8) hK12 (some 20) (.build 28 #[(0, .tmp 13), (1, .tmp 15), (2, .tmp 19)]) 28 _ (by kernel_rfl) (fun _ d _ _ _ h => by cases d <;> exact h) (by kernel_rfl) (by kernel_rfl) (fun w' hS' => by simp only [opr]; go_simp; try with_reducible rfl) HST.out (fun K13 hK13 => ?_)
        clear hK12 K12
        try simp only [Act.put, List.setIfInBounds_toArray, List.set_cons_zero, List.set_cons_succ]
        refine any_pick (rs := [10]) hK13 (by kernel_rfl) (fun K14 hK14 => ?_)
        clear hK13 K13
        intro i hi
        simp only [List.mem_cons, List.not_mem_nil, or_false] at hi
        rcases hi with rfl
        refine op_plain none (.store 28 (.tmp 8) (.tmp 20)) 0 (by kernel_rfl) (by kernel_rfl) ?_
        obtain ⟨z0, z1, z2, e0, e1, e2⟩ := HAb.out
        go_wp2
        generalize hW2 : World.setCell (World.setCell (World.setCell _ _ _) _ _) _ _ = W16
        have HF : Hid (BoxG W16 A11 ⟨q.g3.w, q.g3.h, (.slice (some ⟨g14, 0, none⟩) q.n cp15)⟩) := by rw [← hW2]; exact HAb.out.put ⟨q.g3.w, q.g3.h, (.slice (some ⟨g14, 0, none⟩) q.n cp15)⟩
        have hst : Stay (fun k => k = A11) W12 W16 := by rw [← hW2]; exact (((Stay.refl (fun k => k = A11) W12).setCell (p := ⟨A11, 0, none⟩) rfl _).setCell (p := ⟨A11, 1, none⟩) rfl _).setCell (p := ⟨A11, 2, none⟩) rfl _
        have HO' := hide' (hst.owns HO.out (fun k hk e => HAA.out.2 (by rw [hk, e])))
        have HST' := hide' (HST.out.trans (hst.mono fun k _ e => by rw [e]; exact HAG.out))
        have HNE : Hid (Value.ownBlock (.slice (some ⟨g14, 0, none⟩) q.n cp15) ≠ some A11) := HAA.out.2
        clear z0 z1 z2 e0 e1 e2 hW2 HAb HAA hst HBW
        clear HO
        have HO := HO'
        clear HO'
        clear HST
        have HST := HST'
        clear HST'
        refine hK14 10 (by simp) _ _ HST.out (any_more fun K15 hK15 => ?_)
        clear hK14 K14
        refine any_done hK15 (by kernel_rfl) ?_
        clear hK15 K15
        go_wp2_with fail
        go_meet
        exact ⟨A11, rfl, copied_of HQ.out HST.out HO.out HNE.out HAG.out HF.out⟩
    · refine op_plain (some 8) (.alloc 28) 0 (by kernel_rfl) (by kernel_rfl) ?_
      go_wp2
      have st : Stay (fun _ => False) Wd (Wd.alloc (.cells #[.int .i64 0, .int .i64 0, .slice none 0 0] 28)) := (Stay.refl _ _).alloc _
      have HAb := hide' (BoxG.new (w := Wd) ⟨0, 0, .slice none 0 0⟩ rfl)
      have HAG : Hid (W0.heap.size ≤ Wd.heap.size) := HBW.out
      have HAA : Hid (Apart (Wd.alloc (.cells #[.int .i64 0, .int .i64 0, .slice none 0 0] 28)) (.slice none 0 0) Wd.heap.size) := Apart.none _ _
      have HST' := hide' (HST.out.trans (stay_any st))
      have HBW' := hide' (Nat.le_trans HBW.out st.size)
      clear st
      clear HST
      have HST := HST'
      clear HST'
      clear HBW
      have HBW := HBW'
      clear HBW'
      obtain ⟨A18, hA'⟩ : ∃ B, B = Wd.heap.size := ⟨_, rfl⟩
      rw [← hA'] at HAb HAA HAG
      rw [← hA']
      clear hA'
      obtain ⟨W17, hW⟩ : ∃ Wq, Wq = (Wd.alloc (.cells #[.int .i64 0, .int .i64 0, .slice none 0 0] 28)) := ⟨_, rfl⟩
      rw [← hW] at HAb HAA HST HBW
      rw [← hW]
      clear hW
      refine hK7 9 (by simp) _ _ HST.out (any_more fun K8 hK8 => ?_)
      clear hK7 K7
      refine any_pick (rs := [4]) hK8 (by kernel_rfl) (fun K9 hK9 => ?_)
      clear hK8 K8
      intro i hi
      simp only [List.mem_cons, List.not_mem_nil, or_false] at hi
      rcases hi with rfl
      refine op_plain (some 16) (.buildSlice 26 0 #[]) 26 (by kernel_rfl) (by kernel_rfl) ?_
      go_wp2
      have st : Stay (fun _ => False) W17 (W17.alloc (.cells #[] 35)) := (Stay.refl _ _).alloc _
      have HO := hide' (ownsRow_base (owns_newS W17 #[] 35 4 0 rfl (by decide)) HBW.out)
      have HST' := hide' (HST.out.trans (stay_any st))
      have HBW' := hide' (Nat.le_trans HBW.out st.size)
      have HAb' := hide' (HAb.out.keep st)
      have HAA' := hide' (HAA.out.fresh (.cells #[] 35))
      clear st
      clear HST
      have HST := HST'
      clear HST'
      clear HBW
      have HBW := HBW'
      clear HBW'
      clear HAb
      have HAb := HAb'
      clear HAb'
      clear HAA
      have HAA := HAA'
      clear HAA'
      obtain ⟨vO20, hvO⟩ : ∃ v, v = Value.slice (some ⟨W17.heap.size, 0, none⟩) 0 0 := ⟨_, rfl⟩
      rw [← hvO] at HO HAA
      rw [← hvO]
      clear hvO
      obtain ⟨W19, hW⟩ : ∃ Wq, Wq = (W17.alloc (.cells #[] 35)) := ⟨_, rfl⟩
      rw [← hW] at HO HST HBW HAb HAA
      rw [← hW]
      clear hW
      refine hK9 4 (by simp) _ _ HST.out (any_more fun K10 hK10 => ?_)
      clear hK9 K9
      refine any_pick (rs := [7]) hK10 (by kernel_rfl) (fun K11 hK11 => ?_)
      clear hK10 K10
      intro i hi
      simp only [List.mem_cons, List.not_mem_nil, or_false] at hi
      rcases hi with rfl
      refine op_plain (some 19) (.call { callee := Callee.builtin Builtin.append, args := #[.tmp 16, .tmp 18], argTypes := #[26, 26] }) 26 (by kernel_rfl) (by kernel_rfl) ?_
      have HSRC := hide' ((HQ.out.stay HST.out (by have := HQ.out.lt; omega)).pix.row0 (c := q.cap))
      have hbig := HQ.out.big
      go_wp2_with (at_builtin; refine appS rfl _ _ 26 rfl Try.underlying26 cell_info rfl (by decide) (by decide) HO.out rfl HSRC.out rfl (seg_one _ _) (by omega) HBW.out ?_; intro v22 W21 ho hst hb; have HO2 := hide' ho; have HT2 := hide' hst; have HB2 := hide' hb; clear ho hst hb)
      have HST' := hide' (HST.out.trans (HT2.out.mono fun k _ hk => (HO.out.lt k hk).1))
      have HBW' := hide' (Nat.le_trans HBW.out HT2.out.size)
      have HAb' := hide' (HAb.out.stay HT2.out (fun h => HAA.out.2 h))
      have HAA' := hide' (HAA.out.step HT2.out HB2.out)
      clear HO HT2 HB2 HSRC hbig
      clear HST
      have HST := HST'
      clear HST'
      clear HBW
      have HBW := HBW'
      clear HBW'
      clear HAb
      have HAb := HAb'
      clear HAb'
      clear HAA
      have HAA := HAA'
      clear HAA'
      have HO := HO2
      clear HO2
      obtain ⟨g23, cp24, rfl⟩ := own_shape HO.out HQ.out.pos
      refine hK11 7 (by simp) _ _ HST.out (any_more fun K12 hK12 => ?_)
      clear hK11 K11
      refine any_take (i := 8) hK12 (some 20) (.build 28 #[(0, .tmp 13), (1, .tmp 15), (2, .tmp 19)]) 28 _ (by kernel_rfl) (fun _ d _ _ _ h => by cases d <;> exact h) (by kernel_rfl) (by kernel_rfl) (fun w' hS' => by simp only [opr]; go_simp; try with_reducible rfl) HST.out (fun K13 hK13 => ?_)
      clear hK12 K12
      try simp only [Act.put, List.setIfInBounds_toArray, List.set_cons_zero, List.set_cons_succ]
      refine any_pick (rs := [10]) hK13 (by kernel_rfl) (fun K14 hK14 => ?_)
      clear hK13 K13
      intro i hi
      simp only [List.mem_cons, List.not_mem_nil, or_false] at hi
      rcases hi with rfl
      refine op_plain none (.store 28 (.tmp 8) (.tmp 20)) 0 (by kernel_rfl) (by kernel_rfl) ?_
      obtain ⟨z0, z1, z2, e0, e1, e2⟩ := HAb.out
      go_wp2
      generalize hW2 : World.setCell (World.setCell (World.setCell _ _ _) _ _) _ _ = W25
      have HF : Hid (BoxG W25 A18 ⟨q.g3.w, q.g3.h, (.slice (some ⟨g23, 0, none⟩) q.n cp24)⟩) := by rw [← hW2]; exact HAb.out.put ⟨q.g3.w, q.g3.h, (.slice (some ⟨g23, 0, none⟩) q.n cp24)⟩
      have hst : Stay (fun k => k = A18) W21 W25 := by rw [← hW2]; exact (((Stay.refl (fun k => k = A18) W21).setCell (p := ⟨A18, 0, none⟩) rfl _).setCell (p := ⟨A18, 1, none⟩) rfl _).setCell (p := ⟨A18, 2, none⟩) rfl _
      have HO' := hide' (hst.owns HO.out (fun k hk e => HAA.out.2 (by rw [hk, e])))
      have HST' := hide' (HST.out.trans (hst.mono fun k _ e => by rw [e]; exact HAG.out))
      have HNE : Hid (Value.ownBlock (.slice (some ⟨g23, 0, none⟩) q.n cp24) ≠ some A18) := HAA.out.2
      clear z0 z1 z2 e0 e1 e2 hW2 HAb HAA hst HBW
      clear HO
      have HO := HO'
      clear HO'
      clear HST
      have HST := HST'
      clear HST'
      refine hK14 10 (by simp) _ _ HST.out (any_more fun K15 hK15 => ?_)
      clear hK14 K14
      refine any_done hK15 (by kernel_rfl) ?_
      clear hK15 K15
      go_wp2_with fail
      go_meet
      exact ⟨A18, rfl, copied_of HQ.out HST.out HO.out HNE.out HAG.out HF.out⟩
  case rest =>
  obtain ⟨A, rfl, HCP⟩ := hcut
  obtain ⟨p, p1, p2, p3, p4, p5, p6, p7, p8, p9⟩ := HCP.out
  have HFS : Hid (FS w q p r c A f P 0 0 wc) := ⟨⟨HS.out.trans p1, HQB.out.keep p1, HRB.out.keep p1, HCB.out.keep p1, HZB.out.keep p1, p2, p4, p5, by have := HSZ.out; omega, by have := HSZ.out; omega, p9⟩, f, p3, Scan.none _ _ _ _ _⟩
  clear p1 p2 p3 p4 p5 p6 p7 p8 p9 HCP HS HQ HQB HRB HCB HZB HSZ
  go_wp2_with fail
  go_loopg [9, 10] q.h (fun g v9 v10 wr => ∃ k : Nat, k ≤ q.h ∧ g = q.h - k ∧ v9 = .int .i64 (cntAll P q.w k : Nat) ∧ v10 = .int .i64 (k : Int) ∧ Hid (FS w q p r c A f P k 0 wr) ∧ (cr = false → k = 0))
  case atStart => exact ⟨0, Nat.zero_le _, rfl, rfl, rfl, HFS, fun _ => rfl⟩
  case round =>
    obtain ⟨k, hk, rfl, rfl, rfl, HFS, hck⟩ := hrel
    obtain ⟨a0, a1, a2, a3, a4, a5⟩ := HFS.out.box.b3
    simp only [Rf.g3] at a0 a1 a2
    obtain ⟨d0, d1, d2, d3, d4, d5, d6, d7⟩ := HFS.out.box.b4
    have HCK := hide' hck
    clear hck
    by_cases hkh : k < q.h
    · have k1 : (k : Int) < (q.h : Nat) := by omega
      cases cr
      · have hk0 : k = 0 := HCK.out rfl
        subst hk0
        go_wp2_with fail
        refine (HR.out _).mono ?_
        rintro e w3 ⟨rfl, hs⟩
        have HFS2 : Hid (FS w q p r c A f P 0 0 w3) := by
          obtain ⟨h1, g, h2, h3⟩ := HFS.out
          exact ⟨h1.keep hs, g, h2.keep hs, h3⟩
        clear hs a0 a1 a2 a3 a4 a5 d0 d1 d2 d3 d4 d5 d6 d7
        have hcz : cntAll P q.w q.h = 0 := cntAll_none (fun X Y _ _ => by rw [HP.out X Y]; rfl)
        have HCZ := hide' hcz
        clear hcz
        obtain ⟨a0, a1, a2, a3, a4, a5⟩ := HFS2.out.box.b8
        simp only [Rf.g3] at a0 a1 a2
        obtain ⟨z0, z1, z2, f0, f1, f2⟩ := HFS2.out.box.b6
        go_wp2
        obtain ⟨g, hg, hsc⟩ := HFS2.out.ref
        have hnum := HFS2.out.box.num
        refine bodyPost_ret (results_g3_int rfl _ _ _ p.g3 0 rfl rfl (HFS2.out.box.b6.put p.g3)) rfl ⟨p, g, ?_, BoxG.stay_put HFS2.out.box.stay (by omega) _ _ _, ?_, hnum.1, hnum.2.1, by omega, HFI.out g (fun X Y hX hY => ?_)⟩
        · rw [← HPE.out, HCZ.out]; rfl
        · exact hg.stay ((((Stay.refl (fun k => k = w.heap.size + 3) w3).setCell (p := ⟨w.heap.size + 3, 0, none⟩) rfl _).setCell (p := ⟨w.heap.size + 3, 1, none⟩) rfl _).setCell (p := ⟨w.heap.size + 3, 2, none⟩) rfl _) (by omega)
        · rw [hsc X Y hX hY, HP.out X Y]; simp
      · go_wp2_with fail
        refine (HR.out _).mono ?_
        rintro e w3 ⟨rfl, hs⟩
        have HFS2 : Hid (FS w q p r c A f P k 0 w3) := by
          obtain ⟨h1, g, h2, h3⟩ := HFS.out
          exact ⟨h1.keep hs, g, h2.keep hs, h3⟩
        clear hs a0 a1 a2 a3 a4 a5 d0 d1 d2 d3 d4 d5 d6 d7 HFS
        go_wp2_with fail
        go_loopg [9, 11] q.w (fun g v9 v11 wr => ∃ j : Nat, j ≤ q.w ∧ g = q.w - j ∧ v9 = .int .i64 (cntAll P q.w k + cntRow (fun X => P X k) j : Nat) ∧ v11 = .int .i64 (j : Int) ∧ Hid (FS w q p r c A f P k j wr))
        case atStart => exact ⟨0, Nat.zero_le _, rfl, rfl, rfl, HFS2⟩
        case round =>
          obtain ⟨j, hj, rfl, rfl, rfl, HFS⟩ := hrel
          obtain ⟨a0, a1, a2, a3, a4, a5⟩ := HFS.out.box.b3
          simp only [Rf.g3] at a0 a1 a2
          by_cases hjw : j < q.w
          · have j1 : (j : Int) < (q.w : Nat) := by omega
            obtain ⟨d0, d1, d2, d3, d4, d5, d6, d7⟩ := HFS.out.box.b4
            have HI2 := hide' (fun w => HI.out j k w (by first | rfl | trivial) (by omega) (by omega))
            have hpj := HP.out j k
            rw [Bool.true_and] at hpj
            rw [← hpj] at HI2
            obtain ⟨m, hm⟩ : ∃ m, m = cntAll P q.w k + cntRow (fun X => P X k) j := ⟨_, rfl⟩
            have hmb : m ≤ 263000 := by
              have h1 := cnt_bd P q.w k
              have h2 := cntRow_bd (fun X => P X k) j
              have h3 : k * q.w ≤ 512 * 512 := Nat.mul_le_mul (by omega) (by omega)
              omega
            have HM : Hid (∀ b, P j k = b → cntAll P q.w k + cntRow (fun X => P X k) (j + 1) = m + if b = true then 1 else 0) := fun b hb => by
              rw [← hb]
              show _ + (cntRow (fun X => P X k) j + if P j k = true then 1 else 0) = _
              rw [hm]
              omega
            rw [← hm]
            obtain ⟨cb, hcb⟩ : ∃ b, b = P j k := ⟨_, rfl⟩
            rw [← hcb] at HI2
            have HCB := hide' hcb
            clear hm hcb hpj
            go_wp2_with fail
            refine (HI2.out _).mono ?_
            rintro e w4 ⟨rfl, hs⟩
            have HFS4 : Hid (FS w q p r c A f P k j w4) := by
              obtain ⟨h1, g, h2, h3⟩ := HFS.out
              exact ⟨h1.keep hs, g, h2.keep hs, h3⟩
            clear hs a0 a1 a2 a3 a4 a5 d0 d1 d2 d3 d4 d5 d6 d7 HFS HI2
            cases cb
            · have HFS5 : Hid (FS w q p r c A f P k (j + 1) w4) := by
                obtain ⟨h1, g, h2, h3⟩ := HFS4.out
                exact ⟨h1, g, h2, h3.miss HCB.out.symm⟩
              have hm2 := HM.out false HCB.out.symm
              have HM2 := hide' hm2
              clear hm2 HM
              go_wp2
              go_roundg (q.w - (j + 1))
              case measure => omega
              case rel => exact ⟨j + 1, by omega, rfl, by rw [HM2.out]; simp, by go_num, HFS5⟩
            · have hm2 := HM.out true HCB.out.symm
              have HM2 := hide' hm2
              obtain ⟨g0, hg0, hsc⟩ := HFS4.out.ref
              have hnum := HFS4.out.box.num
              have hil := idx_lt hjw hkh
              have hn1 := hg0.n1
              rw [hnum.1, hnum.2.1] at hn1
              rw [← hn1] at hil
              have hbig := hg0.big
              obtain ⟨i, hi⟩ : ∃ i, i = k * q.w + j := ⟨_, rfl⟩
              rw [← hi] at hil
              obtain ⟨⟨t0, t1, t2, t3⟩, t4, t5, t6, t7⟩ := (hg0.pix i hil).eight
              have HFS5 : Hid (FS w q p r c A f P k (j + 1) (w4.setCells p.b (i * 4) c.parts)) := ⟨HFS4.out.box.put _ _, _, hg0.put i c, by rw [hi]; exact hsc.hit hjw HCB.out.symm rfl⟩
              have hYw : k * q.w ≤ i := by omega
              obtain ⟨lo, hlo⟩ : ∃ i, i = k * q.w := ⟨_, rfl⟩
              have m1 : IntKind.i64.wrap ((k : Int) * (q.w : Nat)) = (lo : Nat) := by rw [hlo, ← Int.natCast_mul, IntKind.wrap_i64, ← hlo]; omega
              have m2 : IntKind.i64.wrap ((lo : Int) + (j : Int)) = (i : Nat) := by rw [IntKind.wrap_i64]; omega
              have i1 : (i : Int) < (p.n : Nat) := by omega
              obtain ⟨a0, a1, a2, a3, a4, a5⟩ := HFS4.out.box.b3
              obtain ⟨b0, b1, b2, b3, b4, b5⟩ := HFS4.out.box.b8
              obtain ⟨c0, c1, c2, c3, c4, c5, c6, c7⟩ := HFS4.out.box.b5
              simp only [Rf.g3] at a0 a1 a2 b0 b1 b2
              clear hm2 HM hg0 hsc hil hbig hi hYw hlo hn1
              go_upto_region 11 with fail
              generalize hW3 : World.setCell (World.setCell (World.setCell (World.setCell _ _ _) _ _) _ _) _ _ = W3
              have hW4 : W3 = w4.setCells p.b (i * 4) c.parts := hW3.symm
              rw [← hW4] at HFS5
              clear hW3 hW4 a0 a1 a2 a3 a4 a5 b0 b1 b2 b3 b4 b5 c0 c1 c2 c3 c4 c5 c6 c7 t0 t1 t2 t3 t4 t5 t6 t7 HFS4 g0
              go_wp2
              go_roundg (q.w - (j + 1))
              case measure => omega
              case rel => exact ⟨j + 1, by omega, rfl, by rw [HM2.out]; go_num, by go_num, HFS5⟩
          · have j3 : decide ((j : Int) < (q.w : Nat)) = false := by simp; omega
            have hjw' : j = q.w := by omega
            subst hjw'
            have HFS5 : Hid (FS w q p r c A f P (k + 1) 0 wr) := by
              obtain ⟨h1, g, h2, h3⟩ := HFS.out
              exact ⟨h1, g, h2, h3.next (Nat.le_refl _)⟩
            go_wp2
            go_roundg (q.h - (k + 1))
            case measure => omega
            case rel => exact ⟨k + 1, by omega, rfl, rfl, by go_num, HFS5, fun h => by cases h⟩
    · have hkb' : k = q.h := by omega
      subst hkb'
      have k3 : decide ((q.h : Int) < (q.h : Nat)) = false := by simp
      clear a0 a1 a2 a3 a4 a5 d0 d1 d2 d3 d4 d5 d6 d7
      obtain ⟨a0, a1, a2, a3, a4, a5⟩ := HFS.out.box.b3
      obtain ⟨b0, b1, b2, b3, b4, b5⟩ := HFS.out.box.b8
      simp only [Rf.g3] at a0 a1 a2 b0 b1 b2
      obtain ⟨z0, z1, z2, f0, f1, f2⟩ := HFS.out.box.b6
      go_wp2
      obtain ⟨g, hg, hsc⟩ := HFS.out.ref
      have hnum := HFS.out.box.num
      refine bodyPost_ret (results_g3_int rfl _ _ _ p.g3 (cntAll P q.w q.h : Nat) rfl rfl (HFS.out.box.b6.put p.g3)) rfl ⟨p, g, by rw [HPE.out], BoxG.stay_put HFS.out.box.stay (by omega) _ _ _, ?_, hnum.1, hnum.2.1, by omega, HFI.out g hsc.all⟩
      exact hg.stay ((((Stay.refl (fun k => k = w.heap.size + 3) wr).setCell (p := ⟨w.heap.size + 3, 0, none⟩) rfl _).setCell (p := ⟨w.heap.size + 3, 1, none⟩) rfl _).setCell (p := ⟨w.heap.size + 3, 2, none⟩) rfl _) (by omega)

end Go.Proofs.Ytmpmdlbhiogelaa
