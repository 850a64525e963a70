/-
  A queue is cleared: walked. No conditions.
-/
import Derived.Test.YtcikjghgpppokaaC1
import Derived.Deep.MidRow
namespace Go.Proofs.Ytcikjghgpppokaa
open Go.RowKit

/-- The queue without numbers. -/
def Qu.none (q : Qu) : Qu := ⟨q.b, .slice Option.none 0 0, 0, 0, 0, q.r, q.k, 0, q.z⟩

theorem clear10 (q : Qu) (L : List Int) (w : World) (hq : QAt w q L) : Calls Try.prog 10 #[.pointer (some ⟨q.b, 0, none⟩)] w fun e w' => e = .returned (.tuple #[]) ∧ Stay (fun j => j = q.b) w w' ∧ QAt w' q.none [] := by
  have hB := hq.box
  have hB2 := QBox.put (hB.keep ((Stay.refl (fun _ => False) w).drew)) q.none.bx
  have hQ2 : QAt (w.drew.setCells q.b 0 (#[.slice none 0 0, .int .i64 0, .int .i64 0, .int .i64 (q.r : Nat), .int .i64 q.k, .int .i64 0, .int .i64 (q.z : Nat)] : Array Value).toList) q.none [] := ⟨hB2, ⟨fun _ => 0, .inl ⟨rfl, rfl⟩, fun i hi => absurd hi (Nat.not_lt_zero i)⟩, rfl, .inr ⟨rfl, rfl⟩, Nat.le_refl _, Nat.zero_le _, hq.r1, hq.r2, Nat.le_refl _, .inl (Nat.zero_le _), hq.z1⟩
  have hst : Stay (fun j => j = q.b) w (w.drew.setCells q.b 0 (#[.slice none 0 0, .int .i64 0, .int .i64 0, .int .i64 (q.r : Nat), .int .i64 q.k, .int .i64 0, .int .i64 (q.z : Nat)] : Array Value).toList) := by
    have h0 : Stay (fun j => j = q.b) w w.drew := (Stay.refl _ _).drew
    exact ((((((h0.setCell (p := ⟨q.b, 0, Option.none⟩) rfl _).setCell (p := ⟨q.b, 1, Option.none⟩) rfl _).setCell (p := ⟨q.b, 2, Option.none⟩) rfl _).setCell (p := ⟨q.b, 3, Option.none⟩) rfl _).setCell (p := ⟨q.b, 4, Option.none⟩) rfl _).setCell (p := ⟨q.b, 5, Option.none⟩) rfl _).setCell (p := ⟨q.b, 6, Option.none⟩) rfl _
  have hth : w.drew.there q.b 0 (#[.slice none 0 0, .int .i64 0, .int .i64 0, .int .i64 (q.r : Nat), .int .i64 q.k, .int .i64 0, .int .i64 (q.z : Nat)] : Array Value).size := fun j hj => by
    obtain ⟨b0, b1, b2, b3, b4, b5, b6, f0, f1, f2, f3, f4, f5, f6⟩ := hB
    match j, hj with
    | 0, _ => exact ⟨by show (w.cell? _).isSome = true; rw [b0]; rfl, f0⟩
    | 1, _ => exact ⟨by show (w.cell? _).isSome = true; rw [b1]; rfl, f1⟩
    | 2, _ => exact ⟨by show (w.cell? _).isSome = true; rw [b2]; rfl, f2⟩
    | 3, _ => exact ⟨by show (w.cell? _).isSome = true; rw [b3]; rfl, f3⟩
    | 4, _ => exact ⟨by show (w.cell? _).isSome = true; rw [b4]; rfl, f4⟩
    | 5, _ => exact ⟨by show (w.cell? _).isSome = true; rw [b5]; rfl, f5⟩
    | 6, _ => exact ⟨by show (w.cell? _).isSome = true; rw [b6]; rfl, f6⟩
  have HTH := hide' hth
  have HSS : Hid ((fun w' => Stay (fun j => j = q.b) w w' ∧ w'.cell? ⟨q.b, 3, none⟩ = some (.int .i64 (q.r : Nat)) ∧ w'.cell? ⟨q.b, 4, none⟩ = some (.int .i64 q.k) ∧ w'.cell? ⟨q.b, 6, none⟩ = some (.int .i64 (q.z : Nat))) (w.drew.setCells q.b 0 (#[.slice none 0 0, .int .i64 0, .int .i64 0, .int .i64 (q.r : Nat), .int .i64 q.k, .int .i64 0, .int .i64 (q.z : Nat)] : Array Value).toList)) := ⟨hst, hB2.c3, hB2.c4, hB2.c6⟩
  have HQ := hide' hQ2
  have HS0 : Hid ((fun w' => Stay (fun j => j = q.b) w w' ∧ w'.cell? ⟨q.b, 3, none⟩ = some (.int .i64 (q.r : Nat)) ∧ w'.cell? ⟨q.b, 4, none⟩ = some (.int .i64 q.k) ∧ w'.cell? ⟨q.b, 6, none⟩ = some (.int .i64 (q.z : Nat))) w.drew) := ⟨(Stay.refl _ _).drew, hB.c3, hB.c4, hB.c6⟩
  clear hB hB2 hQ2 hst hth hq
  go_enter Try.func10, Try.ntmps10
  go_upto_region 1 with fail
  have hS := HS0.out
  refine wp_region_mix (fun w' => Stay (fun j => j = q.b) w w' ∧ w'.cell? ⟨q.b, 3, none⟩ = some (.int .i64 (q.r : Nat)) ∧ w'.cell? ⟨q.b, 4, none⟩ = some (.int .i64 q.k) ∧ w'.cell? ⟨q.b, 6, none⟩ = some (.int .i64 (q.z : Nat))) [(0, true), (1, true), (2, true), (3, true), (4, true), (5, true), (6, true), (7, true), (8, true), (9, true), (10, true), (11, true), (12, true), (13, true), (14, true), (15, false)] (by kernel_rfl) (by kernel_rfl) (fun _ d _ _ _ h => by cases d <;> exact h) hS ?_
  refine mix_begin (fun K0 hK0 => ?_)
  refine mix_take hK0 (some 4) (.move (.tmp 0)) 24 _ (by kernel_rfl) (by kernel_rfl) (fun w' hS' => by (obtain ⟨_, s1, s2, s3⟩ := hS'; simp only [opr]; go_simp; try with_reducible rfl)) (fun K1 hK1 => ?_)
  clear hK0 K0
  simp only [Act.put, List.setIfInBounds_toArray, List.set_cons_zero, List.set_cons_succ]
  refine mix_take hK1 (some 5) (.move (.tmp 0)) 24 _ (by kernel_rfl) (by kernel_rfl) (fun w' hS' => by (obtain ⟨_, s1, s2, s3⟩ := hS'; simp only [opr]; go_simp; try with_reducible rfl)) (fun K2 hK2 => ?_)
  clear hK1 K1
  simp only [Act.put, List.setIfInBounds_toArray, List.set_cons_zero, List.set_cons_succ]
  refine mix_take hK2 (some 6) (.nilCheck (.tmp 5)) 0 _ (by kernel_rfl) (by kernel_rfl) (fun w' hS' => by (obtain ⟨_, s1, s2, s3⟩ := hS'; simp only [opr]; go_simp; try with_reducible rfl)) (fun K3 hK3 => ?_)
  clear hK2 K2
  simp only [Act.put, List.setIfInBounds_toArray, List.set_cons_zero, List.set_cons_succ]
  refine mix_take hK3 (some 7) (.fieldAddr 36 (.tmp 6) 3) 0 _ (by kernel_rfl) (by kernel_rfl) (fun w' hS' => by (obtain ⟨_, s1, s2, s3⟩ := hS'; simp only [opr]; go_simp; try with_reducible rfl)) (fun K4 hK4 => ?_)
  clear hK3 K3
  simp only [Act.put, List.setIfInBounds_toArray, List.set_cons_zero, List.set_cons_succ]
  refine mix_take hK4 (some 8) (.load 3 (.tmp 7)) 3 _ (by kernel_rfl) (by kernel_rfl) (fun w' hS' => by (obtain ⟨_, s1, s2, s3⟩ := hS'; simp only [opr]; go_simp; try with_reducible rfl)) (fun K5 hK5 => ?_)
  clear hK4 K4
  simp only [Act.put, List.setIfInBounds_toArray, List.set_cons_zero, List.set_cons_succ]
  refine mix_take hK5 (some 9) (.move (.tmp 0)) 24 _ (by kernel_rfl) (by kernel_rfl) (fun w' hS' => by (obtain ⟨_, s1, s2, s3⟩ := hS'; simp only [opr]; go_simp; try with_reducible rfl)) (fun K6 hK6 => ?_)
  clear hK5 K5
  simp only [Act.put, List.setIfInBounds_toArray, List.set_cons_zero, List.set_cons_succ]
  refine mix_take hK6 (some 10) (.nilCheck (.tmp 9)) 0 _ (by kernel_rfl) (by kernel_rfl) (fun w' hS' => by (obtain ⟨_, s1, s2, s3⟩ := hS'; simp only [opr]; go_simp; try with_reducible rfl)) (fun K7 hK7 => ?_)
  clear hK6 K6
  simp only [Act.put, List.setIfInBounds_toArray, List.set_cons_zero, List.set_cons_succ]
  refine mix_take hK7 (some 11) (.fieldAddr 36 (.tmp 10) 4) 0 _ (by kernel_rfl) (by kernel_rfl) (fun w' hS' => by (obtain ⟨_, s1, s2, s3⟩ := hS'; simp only [opr]; go_simp; try with_reducible rfl)) (fun K8 hK8 => ?_)
  clear hK7 K7
  simp only [Act.put, List.setIfInBounds_toArray, List.set_cons_zero, List.set_cons_succ]
  refine mix_take hK8 (some 12) (.load 3 (.tmp 11)) 3 _ (by kernel_rfl) (by kernel_rfl) (fun w' hS' => by (obtain ⟨_, s1, s2, s3⟩ := hS'; simp only [opr]; go_simp; try with_reducible rfl)) (fun K9 hK9 => ?_)
  clear hK8 K8
  simp only [Act.put, List.setIfInBounds_toArray, List.set_cons_zero, List.set_cons_succ]
  refine mix_take hK9 (some 13) (.move (.tmp 0)) 24 _ (by kernel_rfl) (by kernel_rfl) (fun w' hS' => by (obtain ⟨_, s1, s2, s3⟩ := hS'; simp only [opr]; go_simp; try with_reducible rfl)) (fun K10 hK10 => ?_)
  clear hK9 K9
  simp only [Act.put, List.setIfInBounds_toArray, List.set_cons_zero, List.set_cons_succ]
  refine mix_take hK10 (some 14) (.nilCheck (.tmp 13)) 0 _ (by kernel_rfl) (by kernel_rfl) (fun w' hS' => by (obtain ⟨_, s1, s2, s3⟩ := hS'; simp only [opr]; go_simp; try with_reducible rfl)) (fun K11 hK11 => ?_)
  clear hK10 K10
  simp only [Act.put, List.setIfInBounds_toArray, List.set_cons_zero, List.set_cons_succ]
  refine mix_take hK11 (some 15) (.fieldAddr 36 (.tmp 14) 6) 0 _ (by kernel_rfl) (by kernel_rfl) (fun w' hS' => by (obtain ⟨_, s1, s2, s3⟩ := hS'; simp only [opr]; go_simp; try with_reducible rfl)) (fun K12 hK12 => ?_)
  clear hK11 K11
  simp only [Act.put, List.setIfInBounds_toArray, List.set_cons_zero, List.set_cons_succ]
  refine mix_take hK12 (some 16) (.load 3 (.tmp 15)) 3 _ (by kernel_rfl) (by kernel_rfl) (fun w' hS' => by (obtain ⟨_, s1, s2, s3⟩ := hS'; simp only [opr]; go_simp; try with_reducible rfl)) (fun K13 hK13 => ?_)
  clear hK12 K12
  simp only [Act.put, List.setIfInBounds_toArray, List.set_cons_zero, List.set_cons_succ]
  refine mix_take hK13 (some 17) (.build 36 #[(3, .tmp 8), (4, .tmp 12), (6, .tmp 16)]) 36 _ (by kernel_rfl) (by kernel_rfl) (fun w' hS' => by (obtain ⟨_, s1, s2, s3⟩ := hS'; simp only [opr]; go_simp; try with_reducible rfl)) (fun K14 hK14 => ?_)
  clear hK13 K13
  simp only [Act.put, List.setIfInBounds_toArray, List.set_cons_zero, List.set_cons_succ]
  refine mix_take hK14 (some 18) (.nilCheck (.tmp 4)) 0 _ (by kernel_rfl) (by kernel_rfl) (fun w' hS' => by (obtain ⟨_, s1, s2, s3⟩ := hS'; simp only [opr]; go_simp; try with_reducible rfl)) (fun K15 hK15 => ?_)
  clear hK14 K14
  simp only [Act.put, List.setIfInBounds_toArray, List.set_cons_zero, List.set_cons_succ]
  refine mix_chain hK15 (fun K15c hK15c => ?_)
  clear hK15 K15
  refine op_plain none (.store 36 (.tmp 18) (.tmp 17)) 0 (by kernel_rfl) (by kernel_rfl) ?_
  refine wpList_store_mid rfl 36 (.tmp 18) (.tmp 17) rfl q.b 0 #[.slice none 0 0, .int .i64 0, .int .i64 0, .int .i64 (q.r : Nat), .int .i64 q.k, .int .i64 0, .int .i64 (q.z : Nat)] rfl rfl HTH.out (by kernel_rfl) (by simp [Value.oneCell']) ?_
  refine wpList_nil ?_
  have hSf : (fun w' => Stay (fun j => j = q.b) w w' ∧ w'.cell? ⟨q.b, 3, none⟩ = some (.int .i64 (q.r : Nat)) ∧ w'.cell? ⟨q.b, 4, none⟩ = some (.int .i64 q.k) ∧ w'.cell? ⟨q.b, 6, none⟩ = some (.int .i64 (q.z : Nat))) (w.drew.setCells q.b 0 (#[.slice none 0 0, .int .i64 0, .int .i64 0, .int .i64 (q.r : Nat), .int .i64 q.k, .int .i64 0, .int .i64 (q.z : Nat)]).toList) := HSS.out
  refine hK15c _ _ hSf (mix_begin fun K16 hK16 => ?_)
  clear hK15c K15c
  try simp only [Act.put]
  refine hK16 _ _ (mix_nil ?_)
  clear hK16 K16
  clear hSf hS HS0 HTH
  go_wp2
  go_returns
  exact ⟨rfl, HSS.out.1, HQ.out⟩

end Go.Proofs.Ytcikjghgpppokaa
