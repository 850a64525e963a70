/-
  A cell of a grid is set: walked. No conditions.
-/
import Derived.Test.YtcealbdinbfegaaD1
namespace Go.Proofs.Ytcealbdinbfegaa
open Go.RowKit

/-- A grid's cells with one that is set. -/
def setF (w h : Nat) (f : Nat → Cl) (x y : Int) (c : Cl) : Nat → Cl := fun i => if insB w h x y = true ∧ i = (y * w + x).toNat then c else f i

theorem setF_nat {w h X Y : Nat} (f : Nat → Cl) (c : Cl) (hx : X < w) (hy : Y < h) : setF w h f X Y c = fun i => if i = Y * w + X then c else f i := by
  funext i
  unfold setF
  have e : ((Y : Int) * (w : Nat) + (X : Int)).toNat = Y * w + X := by
    rw [show ((Y : Int) * (w : Nat) + (X : Int)) = ((Y * w + X : Nat) : Int) by simp]
    rfl
  rw [e]
  by_cases hi : i = Y * w + X
  · rw [if_pos ⟨ins_nat hx hy, hi⟩, if_pos hi]
  · rw [if_neg (fun h => hi h.2), if_neg hi]

theorem setF_out {w h : Nat} {x y : Int} (f : Nat → Cl) (c : Cl) (hi : insB w h x y = false) : setF w h f x y c = f := by
  funext i
  unfold setF
  rw [if_neg (fun h => by rw [hi] at h; cases h.1)]

/-- A grid's cells have turned, and nothing else. -/
def Turns (v : Value) (G : Gr) (f : Nat → Cl) (w : World) (e : Ending) (w' : World) : Prop := e = .returned v ∧ Stay (fun k => k = G.bc) w w' ∧ GridAt w' G f

theorem stay_any {S : Nat → Prop} {w w' : World} (h : Stay (fun _ => False) w w') : Stay S w w' := h.mono (fun _ _ h => h.elim)

theorem set29 (G : Gr) (f : Nat → Cl) (x y : Int) (c : Cl) (w : World) (hG : GridAt w G f) (hx : I64 x) (hy : I64 y) :
    Calls Try.prog 29 #[.pointer (some ⟨G.g, 0, none⟩), .int .i64 x, .int .i64 y, .agg #[.int .i32 c.r, .int .i64 c.fg, .int .i64 c.bg, .int .i64 c.fl]] w (Turns (.bool (insB G.w G.h x y)) G (setF G.w G.h f x y c) w) := by
  have hs0 : Stay (fun _ => False) w (w.alloc (.cells #[.int .i32 c.r, .int .i64 c.fg, .int .i64 c.bg, .int .i64 c.fl] 34)) := (Stay.refl _ _).alloc _
  have HS := hide' hs0
  have HG := hide' (hG.keep hs0)
  have HN : Hid (G.bc ≠ w.heap.size) := fun h => by have := hG.lt.2.2; omega
  have HW := hide' (fun w h => whole27 G f w h)
  have HI := hide' (fun w => in26 (⟨0, 0, (G.w : Nat), (G.h : Nat)⟩ : R) x y w i64_zero i64_zero (i64_nat hG.w2) (i64_nat hG.h2) hx hy)
  obtain ⟨F, hF⟩ : ∃ F, F = setF G.w G.h f x y c := ⟨_, rfl⟩
  rw [← hF]
  have HFF := hide' hF
  obtain ⟨q, hc⟩ : ∃ c, c = insB G.w G.h x y := ⟨_, rfl⟩
  have hc' : inB (⟨0, 0, (G.w : Nat), (G.h : Nat)⟩ : R) x y = q := hc.symm
  rw [hc'] at HI
  rw [← hc]
  have HC := hide' hc
  clear hs0 hG hx hy hF hc hc'
  go_enter Try.func29, Try.ntmps29
  go_wp2_with fail
  refine (HW.out _ HG.out).mono ?_
  rintro e w1 ⟨rfl, hs⟩
  have HS1 := hide' (HS.out.trans hs)
  have HG1 := hide' (HG.out.keep hs)
  have HB := hide' (BoxC.keep (BoxC.new (w := w) c rfl) hs)
  clear hs HS HG
  go_wp2_with fail
  refine (HI.out _).mono ?_
  rintro e w2 ⟨rfl, hs⟩
  have HS2 := hide' (HS1.out.trans hs)
  have HG2 := hide' (HG1.out.keep hs)
  have HB2 := hide' (HB.out.keep hs)
  clear hs HS1 HG1 HB HW HI
  cases q
  · have hq : F = f := by rw [HFF.out]; exact setF_out f c HC.out.symm
    have HQ2 := hide' hq
    clear hq HFF
    go_wp2
    go_ret
    exact ⟨rfl, stay_any HS2.out, by rw [HQ2.out]; exact HG2.out⟩
  · obtain ⟨X, Y, rfl, rfl, hX, hY⟩ := ins_true HC.out.symm
    have hq : F = _ := HFF.out.trans (setF_nat f c hX hY)
    have HQ2 := hide' hq
    have ct := HG2.out.top
    have cr := HG2.out.rows Y hY
    have HTH := hide' (HG2.out.cells hX hY).2
    have HP := hide' ((HG2.out.keep (Stay.refl _ _).drew).put (Y * G.w + X) c)
    rw [← hq, Nat.add_mul] at HP
    have HSP : Hid (Stay (fun k => k = G.bc) w (w2.drew.setCells G.bc (Y * G.w * 4 + X * 4) c.parts)) := (stay_any HS2.out.drew).setCells _ _ _ rfl
    clear HFF HC hq HQ2
    obtain ⟨g, br, bc, a, b⟩ := G
    simp only at ct cr hX hY HTH HP HSP HN
    have hgn := HG2.out.ne1
    have hbn := HG2.out.ne2
    simp only at hgn hbn
    obtain ⟨o, ho⟩ : ∃ o, o = Y * a * 4 := ⟨_, rfl⟩
    obtain ⟨cp, hcp⟩ : ∃ o, o = a * b - Y * a := ⟨_, rfl⟩
    rw [← ho] at cr HTH HP HSP
    rw [← hcp] at cr
    have i1 : (X : Int) < (a : Nat) := by omega
    have i2 : (Y : Int) < (b : Nat) := by omega
    have HF : Hid (∀ w3, Stay (fun k => k = bc) w2 w3 → w3.cell? ⟨g, 0, none⟩ = some (.slice (some ⟨br, 0, none⟩) b b) ∧ w3.cell? ⟨br, Y, none⟩ = some (.slice (some ⟨bc, o, none⟩) a cp) ∧ BoxC w3 w.heap.size c) := fun w3 hs =>
      ⟨(hs.cell (World.block_lt_of_cell? _ _ ct) hgn).trans ct, (hs.cell (World.block_lt_of_cell? _ _ cr) hbn).trans cr, HB2.out.stay hs (fun h => HN.out h.symm)⟩
    clear ho hcp hgn hbn ct cr hX hY HG2 HB2
    go_upto_region 3 with fail
    have hS0 : Stay (fun k => k = bc) w2 w2.drew := (Stay.refl _ _).drew
    have hS : (fun w' => Stay (fun k => k = bc) w2 w' ∧ w'.cell? ⟨g, 0, none⟩ = some (.slice (some ⟨br, 0, none⟩) b b) ∧ w'.cell? ⟨br, Y, none⟩ = some (.slice (some ⟨bc, o, none⟩) a cp) ∧ BoxC w' w.heap.size c) w2.drew := ⟨hS0, HF.out _ hS0⟩
    refine wp_region_mix (fun w' => Stay (fun k => k = bc) w2 w' ∧ w'.cell? ⟨g, 0, none⟩ = some (.slice (some ⟨br, 0, none⟩) b b) ∧ w'.cell? ⟨br, Y, none⟩ = some (.slice (some ⟨bc, o, none⟩) a cp) ∧ BoxC w' w.heap.size c) [(0, true), (1, true), (2, true), (3, true), (4, true), (5, true), (6, true), (7, true), (8, true), (9, true), (10, false)] (by kernel_rfl) (by kernel_rfl) (fun _ d _ _ _ h => by cases d <;> exact h) hS ?_
    refine mix_begin (fun K0 hK0 => ?_)
    refine mix_take hK0 (some 15) (.move (.tmp 0)) 45 _ (by kernel_rfl) (by kernel_rfl) (fun w' hS' => by (obtain ⟨_, s1, s2, s3⟩ := hS'; obtain ⟨b0, b1, b2, b3, _⟩ := s3; simp only [opr]; go_simp; try with_reducible rfl)) (fun K1 hK1 => ?_)
    clear hK0 K0
    simp only [Act.put, List.setIfInBounds_toArray, List.set_cons_zero, List.set_cons_succ]
    refine mix_take hK1 (some 16) (.nilCheck (.tmp 15)) 0 _ (by kernel_rfl) (by kernel_rfl) (fun w' hS' => by (obtain ⟨_, s1, s2, s3⟩ := hS'; obtain ⟨b0, b1, b2, b3, _⟩ := s3; simp only [opr]; go_simp; try with_reducible rfl)) (fun K2 hK2 => ?_)
    clear hK1 K1
    simp only [Act.put, List.setIfInBounds_toArray, List.set_cons_zero, List.set_cons_succ]
    refine mix_take hK2 (some 17) (.fieldAddr 62 (.tmp 16) 0) 0 _ (by kernel_rfl) (by kernel_rfl) (fun w' hS' => by (obtain ⟨_, s1, s2, s3⟩ := hS'; obtain ⟨b0, b1, b2, b3, _⟩ := s3; simp only [opr]; go_simp; try with_reducible rfl)) (fun K3 hK3 => ?_)
    clear hK2 K2
    simp only [Act.put, List.setIfInBounds_toArray, List.set_cons_zero, List.set_cons_succ]
    refine mix_take hK3 (some 18) (.load 60 (.tmp 17)) 60 _ (by kernel_rfl) (by kernel_rfl) (fun w' hS' => by (obtain ⟨_, s1, s2, s3⟩ := hS'; obtain ⟨b0, b1, b2, b3, _⟩ := s3; simp only [opr]; go_simp; try with_reducible rfl)) (fun K4 hK4 => ?_)
    clear hK3 K3
    simp only [Act.put, List.setIfInBounds_toArray, List.set_cons_zero, List.set_cons_succ]
    refine mix_take hK4 (some 19) (.move (.tmp 2)) 3 _ (by kernel_rfl) (by kernel_rfl) (fun w' hS' => by (obtain ⟨_, s1, s2, s3⟩ := hS'; obtain ⟨b0, b1, b2, b3, _⟩ := s3; simp only [opr]; go_simp; try with_reducible rfl)) (fun K5 hK5 => ?_)
    clear hK4 K4
    simp only [Act.put, List.setIfInBounds_toArray, List.set_cons_zero, List.set_cons_succ]
    refine mix_take hK5 (some 20) (.indexAddr 60 (.tmp 18) (.tmp 19)) 0 _ (by kernel_rfl) (by kernel_rfl) (fun w' hS' => by (obtain ⟨_, s1, s2, s3⟩ := hS'; obtain ⟨b0, b1, b2, b3, _⟩ := s3; simp only [opr]; go_simp; try with_reducible rfl)) (fun K6 hK6 => ?_)
    clear hK5 K5
    simp only [Act.put, List.setIfInBounds_toArray, List.set_cons_zero, List.set_cons_succ]
    refine mix_take hK6 (some 21) (.load 26 (.tmp 20)) 26 _ (by kernel_rfl) (by kernel_rfl) (fun w' hS' => by (obtain ⟨_, s1, s2, s3⟩ := hS'; obtain ⟨b0, b1, b2, b3, _⟩ := s3; simp only [opr]; go_simp; try with_reducible rfl)) (fun K7 hK7 => ?_)
    clear hK6 K6
    simp only [Act.put, List.setIfInBounds_toArray, List.set_cons_zero, List.set_cons_succ]
    refine mix_take hK7 (some 22) (.move (.tmp 1)) 3 _ (by kernel_rfl) (by kernel_rfl) (fun w' hS' => by (obtain ⟨_, s1, s2, s3⟩ := hS'; obtain ⟨b0, b1, b2, b3, _⟩ := s3; simp only [opr]; go_simp; try with_reducible rfl)) (fun K8 hK8 => ?_)
    clear hK7 K7
    simp only [Act.put, List.setIfInBounds_toArray, List.set_cons_zero, List.set_cons_succ]
    refine mix_take hK8 (some 23) (.load 34 (.tmp 7)) 34 _ (by kernel_rfl) (by kernel_rfl) (fun w' hS' => by (obtain ⟨_, s1, s2, s3⟩ := hS'; obtain ⟨b0, b1, b2, b3, _⟩ := s3; simp only [opr]; go_simp; try with_reducible rfl)) (fun K9 hK9 => ?_)
    clear hK8 K8
    simp only [Act.put, List.setIfInBounds_toArray, List.set_cons_zero, List.set_cons_succ]
    refine mix_take hK9 (some 24) (.indexAddr 26 (.tmp 21) (.tmp 22)) 0 _ (by kernel_rfl) (by kernel_rfl) (fun w' hS' => by (obtain ⟨_, s1, s2, s3⟩ := hS'; obtain ⟨b0, b1, b2, b3, _⟩ := s3; simp only [opr]; go_simp; try with_reducible rfl)) (fun K10 hK10 => ?_)
    clear hK9 K9
    simp only [Act.put, List.setIfInBounds_toArray, List.set_cons_zero, List.set_cons_succ]
    refine mix_chain hK10 (fun K10c hK10c => ?_)
    clear hK10 K10
    refine op_plain none (.store 34 (.tmp 24) (.tmp 23)) 0 (by kernel_rfl) (by kernel_rfl) ?_
    refine wpList_store_mid rfl 34 (.tmp 24) (.tmp 23) rfl bc (o + X * 4) #[.int .i32 c.r, .int .i64 c.fg, .int .i64 c.bg, .int .i64 c.fl] rfl rfl HTH.out (by kernel_rfl) (Cl.all_one _) ?_
    refine wpList_nil ?_
    have hSf : (fun w' => Stay (fun k => k = bc) w2 w' ∧ w'.cell? ⟨g, 0, none⟩ = some (.slice (some ⟨br, 0, none⟩) b b) ∧ w'.cell? ⟨br, Y, none⟩ = some (.slice (some ⟨bc, o, none⟩) a cp) ∧ BoxC w' w.heap.size c) (w2.drew.setCells bc (o + X * 4) c.parts) := ⟨hS.1.setCells bc _ _ rfl, HF.out _ (hS.1.setCells bc _ _ rfl)⟩
    refine hK10c _ _ hSf (mix_begin fun K11 hK11 => ?_)
    clear hK10c K10c
    try simp only [Act.put]
    refine hK11 _ _ (mix_nil ?_)
    clear hK11 K11
    clear hSf hS hS0
    go_wp2
    go_ret
    exact ⟨rfl, HSP.out, HP.out⟩

end Go.Proofs.Ytcealbdinbfegaa
