/-
  All numbers of a queue in a row of their own: walked. No conditions.
-/
import Derived.Test.YtcikjghgpppokaaC3
namespace Go.Proofs.Ytcikjghgpppokaa
open Go.RowKit

theorem info3 : (Try.prog.info? 3).map (fun i => (i.zero, i.size, i.bytes)) = some (some (.int .i64 0), 1, 8) := by kernel_rfl

/-- Numbers in a row that was made. -/
def AllRow (n : Nat) (L : List Int) (w : World) (e : Ending) (w' : World) : Prop := ∃ rb, e = .returned (.slice (some ⟨rb, 0, none⟩) n n) ∧ Stay (fun _ => False) w w' ∧ w.heap.size ≤ rb ∧ w'.rowIs rb 3 n (fun i => .int .i64 (L.getD i 0))

theorem all15 (q : Qu) (L : List Int) (w : World) (hq : QAt w q L) : Calls Try.prog 15 #[.pointer (some ⟨q.b, 0, none⟩)] w (AllRow q.n L w) := by
  have h1 := hq.n1
  have h2 := hq.c1
  have h3 := hq.r2
  have HL := hide' (len8 q w hq.box)
  have hmk := fun w => run_make_row' (P := Try.prog) 22 3 (.int .i64 0) 8 Try.underlying22 info3 rfl .i64 .i64 q.n (by omega) (by omega) w
  have n0 : (0 : Int) ≤ (q.n : Nat) := by omega
  have HQ := hide' hq
  clear hq
  go_enter Try.func15, Try.ntmps15
  go_wp2_with fail
  refine (HL.out).mono ?_
  rintro e w1 ⟨rfl, hs⟩
  have HS1 := hide' hs
  have HQ1 := hide' (HQ.out.keep hs)
  clear hs HL HQ
  go_upto_region 2 with fail
  obtain ⟨B, hB⟩ : ∃ B, B = w1.heap.size := ⟨_, rfl⟩
  obtain ⟨W, hW⟩ : ∃ W, W = w1.alloc (.cells (madeCells #[.int .i64 0] q.n) 3) := ⟨_, rfl⟩
  have HR2 : Hid (W.rowIs B 3 q.n (fun i => .int .i64 (if i < 0 then L.getD i 0 else 0))) := by
    rw [hW, hB]
    exact (World.rowIs_made w1 (.int .i64 0) q.n 3).congr (fun i _ => rfl)
  have hst : Stay (fun _ => False) w1 W := by rw [hW]; exact (Stay.refl _ _).alloc _
  have HS2 := hide' (HS1.out.trans hst)
  have HQ2 := hide' (HQ1.out.keep hst)
  have HBB : Hid (w.heap.size ≤ B ∧ B ≠ q.b ∧ ∀ j, q.v.ownBlock = some j → ¬ j = B) := ⟨by rw [hB]; exact HS1.out.size, fun e => by have := HQ1.out.lt q.b (.inl rfl); omega, fun j hj e => by have := HQ1.out.lt j (.inr hj); omega⟩
  rw [← hW, ← hB]
  clear hW hB hst HS1 HQ1
  go_wp2_with fail
  go_loopg [10] q.n (fun gg v10 wr => ∃ k : Nat, k ≤ q.n ∧ gg = q.n - k ∧ v10 = .int .i64 (k : Int) ∧ Hid (Stay (fun _ => False) w wr ∧ QAt wr q L ∧ wr.rowIs B 3 q.n (fun i => .int .i64 (if i < k then L.getD i 0 else 0))))
  case atStart => exact ⟨0, Nat.zero_le _, rfl, rfl, HS2.out, HQ2.out, HR2.out⟩
  case round =>
    clear HS2 HQ2 HR2
    obtain ⟨k, hk, rfl, rfl, HH⟩ := hrel
    by_cases hlt : k < q.n
    · have kn : (k : Int) < (q.n : Nat) := by omega
      obtain ⟨g, hg, he⟩ := HH.out.2.1.ring
      rcases hg with ⟨_, hc⟩ | ⟨rb, hv, hne, hc, hrow⟩
      · omega
      obtain ⟨t, ht⟩ : ∃ s, s = (q.f + k) % q.c := ⟨_, rfl⟩
      obtain ⟨x, hx⟩ : ∃ x, x = L.getD k 0 := ⟨_, rfl⟩
      have htc : t < q.c := by rw [ht]; exact Nat.mod_lt _ hc
      have hel := hrow.cell htc
      rw [ht, he k hlt, ← hx, ← ht] at hel
      have HX := hide' hx
      have hf1 : q.f ≤ 65537 := by rcases HH.out.2.1.f1 with h | h <;> omega
      have HAT := hide' (fun w h => at14 q k t q.c (some ⟨rb, 0, none⟩) w h hv hc (by omega) hf1 (by omega) ht)
      have HV := hide' hv
      have HNB : Hid (B ≠ q.b ∧ ¬ rb = B) := ⟨HBB.out.2.1, HBB.out.2.2 rb (by rw [hv]; rfl)⟩
      have HRD := hide' HH.out.2.2.drew
      have i2 : (t : Int) < (q.c : Nat) := by omega
      go_upto_region 5 with fail
      have hS : (fun w' => Stay (fun j => j = B) wr w' ∧ QBox w' q.b q.bx ∧ w'.cell? ⟨rb, t, none⟩ = some (.int .i64 x)) wr.drew := ⟨(Stay.refl _ _).drew, HH.out.2.1.box.keep (Stay.refl _ _).drew, keep_cell (Stay.refl _ _).drew hel⟩
      have HQW : Hid (∀ W, Stay (fun j => j = B) wr W → QAt W q L) := fun W hs => HH.out.2.1.stay hs (fun j hj => by
        rcases hj with rfl | hj
        · exact fun e => HBB.out.2.1 e.symm
        · exact HBB.out.2.2 j hj)
      have HSW : Hid (∀ W, Stay (fun j => j = B) wr W → Stay (fun _ => False) w W) := fun W hs =>
        ⟨hs.os.trans HH.out.1.os, hs.tape.trans HH.out.1.tape, hs.output.trans HH.out.1.output, Nat.le_trans HH.out.1.size hs.size, fun j hj _ => (hs.block j (Nat.lt_of_lt_of_le hj HH.out.1.size) (fun e => by have := HBB.out.1; omega)).trans (HH.out.1.block j hj (fun h => h))⟩
      clear hel ht htc hx hv hne hrow he hf1
      refine wp_region_mix (fun w' => Stay (fun j => j = B) wr w' ∧ QBox w' q.b q.bx ∧ w'.cell? ⟨rb, t, none⟩ = some (.int .i64 x)) [(0, true), (1, true), (2, true), (3, true), (4, true), (5, true), (6, true), (7, true), (8, false), (9, true), (10, true), (11, true), (12, false)] (by kernel_rfl) (by kernel_rfl) (fun _ d _ _ _ h => by cases d <;> exact h) hS ?_
      refine mix_begin (fun K0 hK0 => ?_)
      refine mix_take hK0 (some 13) (.move (.tmp 3)) 22 _ (by kernel_rfl) (by kernel_rfl) (fun w' hS' => by (obtain ⟨_, sb, sx⟩ := hS'; obtain ⟨b0, b1, b2, b3, b4, b5, b6, f0, f1, f2, f3, f4, f5, f6⟩ := sb; simp only [Qu.bx] at b0 b1 b2 b3 b4 b5 b6; rw [HV.out] at b0; simp only [opr]; go_simp; try with_reducible rfl)) (fun K1 hK1 => ?_)
      clear hK0 K0
      simp only [Act.put, List.setIfInBounds_toArray, List.set_cons_zero, List.set_cons_succ]
      refine mix_take hK1 (some 14) (.move (.tmp 4)) 3 _ (by kernel_rfl) (by kernel_rfl) (fun w' hS' => by (obtain ⟨_, sb, sx⟩ := hS'; obtain ⟨b0, b1, b2, b3, b4, b5, b6, f0, f1, f2, f3, f4, f5, f6⟩ := sb; simp only [Qu.bx] at b0 b1 b2 b3 b4 b5 b6; rw [HV.out] at b0; simp only [opr]; go_simp; try with_reducible rfl)) (fun K2 hK2 => ?_)
      clear hK1 K1
      simp only [Act.put, List.setIfInBounds_toArray, List.set_cons_zero, List.set_cons_succ]
      refine mix_take hK2 (some 15) (.move (.tmp 0)) 24 _ (by kernel_rfl) (by kernel_rfl) (fun w' hS' => by (obtain ⟨_, sb, sx⟩ := hS'; obtain ⟨b0, b1, b2, b3, b4, b5, b6, f0, f1, f2, f3, f4, f5, f6⟩ := sb; simp only [Qu.bx] at b0 b1 b2 b3 b4 b5 b6; rw [HV.out] at b0; simp only [opr]; go_simp; try with_reducible rfl)) (fun K3 hK3 => ?_)
      clear hK2 K2
      simp only [Act.put, List.setIfInBounds_toArray, List.set_cons_zero, List.set_cons_succ]
      refine mix_take hK3 (some 16) (.nilCheck (.tmp 15)) 0 _ (by kernel_rfl) (by kernel_rfl) (fun w' hS' => by (obtain ⟨_, sb, sx⟩ := hS'; obtain ⟨b0, b1, b2, b3, b4, b5, b6, f0, f1, f2, f3, f4, f5, f6⟩ := sb; simp only [Qu.bx] at b0 b1 b2 b3 b4 b5 b6; rw [HV.out] at b0; simp only [opr]; go_simp; try with_reducible rfl)) (fun K4 hK4 => ?_)
      clear hK3 K3
      simp only [Act.put, List.setIfInBounds_toArray, List.set_cons_zero, List.set_cons_succ]
      refine mix_take hK4 (some 17) (.fieldAddr 36 (.tmp 16) 0) 0 _ (by kernel_rfl) (by kernel_rfl) (fun w' hS' => by (obtain ⟨_, sb, sx⟩ := hS'; obtain ⟨b0, b1, b2, b3, b4, b5, b6, f0, f1, f2, f3, f4, f5, f6⟩ := sb; simp only [Qu.bx] at b0 b1 b2 b3 b4 b5 b6; rw [HV.out] at b0; simp only [opr]; go_simp; try with_reducible rfl)) (fun K5 hK5 => ?_)
      clear hK4 K4
      simp only [Act.put, List.setIfInBounds_toArray, List.set_cons_zero, List.set_cons_succ]
      refine mix_take hK5 (some 18) (.load 22 (.tmp 17)) 22 _ (by kernel_rfl) (by kernel_rfl) (fun w' hS' => by (obtain ⟨_, sb, sx⟩ := hS'; obtain ⟨b0, b1, b2, b3, b4, b5, b6, f0, f1, f2, f3, f4, f5, f6⟩ := sb; simp only [Qu.bx] at b0 b1 b2 b3 b4 b5 b6; rw [HV.out] at b0; simp only [opr]; go_simp; try with_reducible rfl)) (fun K6 hK6 => ?_)
      clear hK5 K5
      simp only [Act.put, List.setIfInBounds_toArray, List.set_cons_zero, List.set_cons_succ]
      refine mix_take hK6 (some 19) (.move (.tmp 0)) 24 _ (by kernel_rfl) (by kernel_rfl) (fun w' hS' => by (obtain ⟨_, sb, sx⟩ := hS'; obtain ⟨b0, b1, b2, b3, b4, b5, b6, f0, f1, f2, f3, f4, f5, f6⟩ := sb; simp only [Qu.bx] at b0 b1 b2 b3 b4 b5 b6; rw [HV.out] at b0; simp only [opr]; go_simp; try with_reducible rfl)) (fun K7 hK7 => ?_)
      clear hK6 K6
      simp only [Act.put, List.setIfInBounds_toArray, List.set_cons_zero, List.set_cons_succ]
      refine mix_take hK7 (some 20) (.move (.tmp 4)) 3 _ (by kernel_rfl) (by kernel_rfl) (fun w' hS' => by (obtain ⟨_, sb, sx⟩ := hS'; obtain ⟨b0, b1, b2, b3, b4, b5, b6, f0, f1, f2, f3, f4, f5, f6⟩ := sb; simp only [Qu.bx] at b0 b1 b2 b3 b4 b5 b6; rw [HV.out] at b0; simp only [opr]; go_simp; try with_reducible rfl)) (fun K8 hK8 => ?_)
      clear hK7 K7
      simp only [Act.put, List.setIfInBounds_toArray, List.set_cons_zero, List.set_cons_succ]
      refine mix_call hK8 (some 21) 14 #[.tmp 19, .tmp 20] #[24, 3] 3 _ (by kernel_rfl) (by kernel_rfl) (enters Try.func14 (by kernel_rfl) (by kernel_rfl)) (by go_simp; try with_reducible rfl) (fun K9 hK9 => ?_)
      clear hK8 K8
      refine (HAT.out _ hS.2.1).mono ?_
      rintro e wm1 ⟨rfl, hs1⟩
      have hS1 : _ := (show (fun w' => Stay (fun j => j = B) wr w' ∧ QBox w' q.b q.bx ∧ w'.cell? ⟨rb, t, none⟩ = some (.int .i64 x)) wm1 from ⟨hS.1.trans (hs1.mono (fun _ _ h => h.elim)), hS.2.1.keep hs1, keep_cell hs1 hS.2.2⟩)
      refine ⟨_, rfl, hS1, ?_⟩
      have HR1 := hide' (hs1.row HRD.out (fun h => h))
      clear hs1
      simp only [Act.put, List.setIfInBounds_toArray, List.set_cons_zero, List.set_cons_succ]
      refine mix_take hK9 (some 22) (.indexAddr 22 (.tmp 18) (.tmp 21)) 0 _ (by kernel_rfl) (by kernel_rfl) (fun w' hS' => by (obtain ⟨_, sb, sx⟩ := hS'; obtain ⟨b0, b1, b2, b3, b4, b5, b6, f0, f1, f2, f3, f4, f5, f6⟩ := sb; simp only [Qu.bx] at b0 b1 b2 b3 b4 b5 b6; rw [HV.out] at b0; simp only [opr]; go_simp; try with_reducible rfl)) (fun K10 hK10 => ?_)
      clear hK9 K9
      simp only [Act.put, List.setIfInBounds_toArray, List.set_cons_zero, List.set_cons_succ]
      refine mix_take hK10 (some 23) (.load 3 (.tmp 22)) 3 _ (by kernel_rfl) (by kernel_rfl) (fun w' hS' => by (obtain ⟨_, sb, sx⟩ := hS'; obtain ⟨b0, b1, b2, b3, b4, b5, b6, f0, f1, f2, f3, f4, f5, f6⟩ := sb; simp only [Qu.bx] at b0 b1 b2 b3 b4 b5 b6; rw [HV.out] at b0; simp only [opr]; go_simp; try with_reducible rfl)) (fun K11 hK11 => ?_)
      clear hK10 K10
      simp only [Act.put, List.setIfInBounds_toArray, List.set_cons_zero, List.set_cons_succ]
      refine mix_take hK11 (some 24) (.indexAddr 22 (.tmp 13) (.tmp 14)) 0 _ (by kernel_rfl) (by kernel_rfl) (fun w' hS' => by (obtain ⟨_, sb, sx⟩ := hS'; obtain ⟨b0, b1, b2, b3, b4, b5, b6, f0, f1, f2, f3, f4, f5, f6⟩ := sb; simp only [Qu.bx] at b0 b1 b2 b3 b4 b5 b6; rw [HV.out] at b0; simp only [opr]; go_simp; try with_reducible rfl)) (fun K12 hK12 => ?_)
      clear hK11 K11
      simp only [Act.put, List.setIfInBounds_toArray, List.set_cons_zero, List.set_cons_succ]
      refine mix_chain hK12 (fun K12c hK12c => ?_)
      clear hK12 K12
      refine op_plain none (.store 3 (.tmp 24) (.tmp 23)) 0 (by kernel_rfl) (by kernel_rfl) ?_
      have hce := HR1.out.cell hlt
      have hfr := HR1.out.frozen k
      go_wp2
      have hSf : (fun w' => Stay (fun j => j = B) wr w' ∧ QBox w' q.b q.bx ∧ w'.cell? ⟨rb, t, none⟩ = some (.int .i64 x)) (wm1.setCell ⟨B, k, none⟩ (.int .i64 x)) := ⟨hS1.1.setCell (p := ⟨B, k, none⟩) rfl _, hS1.2.1.other HNB.out.1, (((Stay.refl (fun j => j = B) wm1).setCell (p := ⟨B, k, none⟩) rfl (.int .i64 x)).cell (p := ⟨rb, t, none⟩) (World.block_lt_of_cell? _ _ hS1.2.2) HNB.out.2).trans hS1.2.2⟩
      refine hK12c _ _ hSf (mix_begin fun K13 hK13 => ?_)
      clear hK12c K12c
      try simp only [Act.put, List.setIfInBounds_toArray, List.set_cons_zero, List.set_cons_succ]
      refine hK13 _ _ (mix_nil ?_)
      clear hK13 K13
      have HN : Hid (Stay (fun _ => False) w (wm1.setCell ⟨B, k, none⟩ (.int .i64 x)) ∧ QAt (wm1.setCell ⟨B, k, none⟩ (.int .i64 x)) q L ∧ (wm1.setCell ⟨B, k, none⟩ (.int .i64 x)).rowIs B 3 q.n (fun i => .int .i64 (if i < k + 1 then L.getD i 0 else 0))) :=
        ⟨HSW.out _ hSf.1, HQW.out _ hSf.1, (HR1.out.set k (.int .i64 x)).congr (fun i _ => by
          by_cases hik : i = k
          · rw [if_pos hik, if_pos (by omega), HX.out, hik]
          · by_cases h2 : i < k
            · rw [if_neg hik, if_pos h2, if_pos (by omega)]
            · rw [if_neg hik, if_neg h2, if_neg (by omega)])⟩
      clear hSf hS1 hS HR1 HQW HSW HRD HNB HV HAT HX HH hce hfr
      go_wp2
      go_roundg (q.n - (k + 1))
      case measure => omega
      case rel => exact ⟨k + 1, by omega, rfl, by go_num, HN⟩
    · have hkn : k = q.n := by omega
      subst hkn
      have HS := hide' HH.out.1
      have HR := hide' (HH.out.2.2.congr (g := fun i => .int .i64 (L.getD i 0)) (fun i hi => by rw [if_pos hi]))
      clear HH
      go_wp2
      go_returns
      exact ⟨B, rfl, HS.out, HBB.out.1, HR.out⟩

end Go.Proofs.Ytcikjghgpppokaa
