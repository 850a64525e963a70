/-
  The document's Revoke, Drop and Kill: walked. No conditions.
-/
import Derived.Test.YtlhfpnfiamgmlaaD1
import Derived.Laws.MakeOwn
namespace Go.Proofs.Ytlhfpnfiamgmlaa
open Go.RowKit

theorem extract2_0 (x y : Value) (w : World) : (Instr.extract (.tuple #[x, y]) 0).run Try.prog w = .ok x w := rfl
theorem extract2_1 (x y : Value) (w : World) : (Instr.extract (.tuple #[x, y]) 1).run Try.prog w = .ok y w := rfl

attribute [local go_sem] extract2_0 extract2_1

theorem info4 : (Try.prog.info? 4).map (fun i => (i.zero, i.size, i.bytes)) = some (some (.bool false), 1, 1) := by kernel_rfl

/-- Slots that come back, how many went, what is wrong. -/
def ROut (n g : Nat) (f : Nat → Sl) (e : Int) (m0 : Nat → Bool) (w : World) (E : Ending) (w' : World) : Prop := ∃ (f' : Nat → Sl) (c g' cap' : Nat), E = .returned (.tuple #[.slice (some ⟨g', 0, none⟩) n cap', .int .i64 (c : Nat), .int .i64 e]) ∧ Stay (fun _ => False) w w' ∧ Rd w' g' n f' ∧ (g' = g ∨ w.heap.size ≤ g') ∧ (e ≠ 0 → f' = f ∧ c = 0) ∧ (e = 0 → ∃ M, (∀ i, M i = true ↔ Bel n f m0 i) ∧ f' = goneF M f ∧ c = cnt (goneB M f) n)

/-- Who is made of one. -/
def madeOf (f : Nat → Sl) (k : Int) (i : Nat) : Bool := decide (0 ≤ (f i).env) && ((f i).of == k)

set_option maxHeartbeats 2000000 in
theorem revoke17 (tb n cap : Nat) (f : Nat → Sl) (env sl gn : Int) (w : World) (hr : Rd w tb n f) (htb : tb < w.heap.size) (hwf : WF n f) (h0 : 0 < n) (hn : n ≤ 4096) (hsl : I64 sl) : Calls Try.prog 17 #[.slice (some ⟨tb, 0, none⟩) n cap, .int .i64 env, .agg #[.int .i64 sl, .int .i64 gn]] w (ROut n tb f (ownE n f env sl gn 0) (madeOf f sl) w) := by
  obtain ⟨W0, hW0⟩ : ∃ W, W = w.alloc (.cells #[.int .i64 sl, .int .i64 gn] 30) := ⟨_, rfl⟩
  obtain ⟨bm, hbm⟩ : ∃ b, b = w.heap.size := ⟨_, rfl⟩
  have hs0 : Stay (fun _ => False) w W0 := by rw [hW0]; exact (Stay.refl _ _).alloc _
  have HS := hide' hs0
  have HBM : Hid (NBox W0 bm ⟨sl, gn⟩) := by rw [hW0]; exact NBox.new ⟨sl, gn⟩ hbm.symm
  have HRD := hide' (hr.keep hs0)
  have HOW := hide' (fun w h => own32 tb n cap f env sl gn 0 w h hsl)
  obtain ⟨e, he⟩ : ∃ e, e = ownE n f env sl gn 0 := ⟨_, rfl⟩
  rw [← he] at HOW
  rw [← he]
  have HE := hide' he
  have HW := hide' hwf
  have HNN : Hid (0 < n ∧ n ≤ 4096 ∧ tb < w.heap.size) := ⟨h0, hn, htb⟩
  have hnz : (n : Int) ≤ 4096 := by omega
  have hn0 : (0 : Int) ≤ (n : Nat) := by omega
  have hmk := fun w => run_make_row' (P := Try.prog) 78 4 (.bool false) 1 Try.underlying78 info4 rfl .i64 .i64 n (by omega) (by omega) w
  clear hs0 hr hwf hn htb he hsl h0
  obtain ⟨b0, b1, _, _⟩ := HBM.out
  simp only at b0 b1
  go_enter Try.func17, Try.ntmps17
  go_upto_region 1 with fail
  rw [← hW0, ← hbm]
  clear hW0 hbm
  go_wp2_with fail
  refine (HOW.out _ HRD.out).mono ?_
  rintro _ w2 ⟨rfl, hs⟩
  have HS2 := hide' (HS.out.trans hs)
  have HM2 := hide' (HBM.out.keep hs)
  have HR2 := hide' (HRD.out.keep hs)
  clear hs HS HBM HRD HOW b0 b1
  by_cases he0 : e = 0
  · subst he0
    obtain ⟨k, rfl, hk, _, _, _, _⟩ := ownE_zero HE.out.symm
    have kn : (k : Int) < (n : Nat) := by omega
    have HK := hide' hk
    clear HE hk
    obtain ⟨b0, b1, _, _⟩ := HM2.out
    simp only at b0 b1
    go_upto_region 5 with fail
    obtain ⟨gb, hgb⟩ : ∃ b, b = w2.heap.size := ⟨_, rfl⟩
    obtain ⟨W3, hW3⟩ : ∃ W, W = w2.alloc (.cells (madeCells #[.bool false] n) 4) := ⟨_, rfl⟩
    have hst3 : Stay (fun _ => False) w2 W3 := by rw [hW3]; exact (Stay.refl _ _).alloc _
    have HRW : Hid (W3.rowIs gb 4 n (fun _ => .bool false)) := by rw [hW3, hgb]; exact World.rowIs_made w2 (.bool false) n 4
    have HS3 := hide' (HS2.out.trans hst3)
    have HM3 := hide' (HM2.out.keep hst3)
    have HR3 := hide' (HR2.out.keep hst3)
    have HGB : Hid (gb ≠ tb ∧ gb ≠ bm ∧ w.heap.size ≤ gb) := ⟨by have := HNN.out; have := HS2.out.size; omega, by have := HM2.out.lt; omega, by have := HS2.out.size; omega⟩
    rw [← hW3, ← hgb]
    clear hW3 hgb hst3 HS2 HM2 HR2 b0 b1
    have HL0 : Hid (Stay (fun _ => False) w W3 ∧ NBox W3 bm ⟨(k : Nat), gn⟩ ∧ Rd W3 tb n f ∧ W3.rowIs gb 4 n (fun j => .bool (if j < 0 then madeOf f (k : Nat) j else false))) := ⟨HS3.out, HM3.out, HR3.out, HRW.out.congr (fun j _ => by rw [if_neg (Nat.not_lt_zero _)])⟩
    clear HS3 HM3 HR3 HRW
    go_wp2
    go_loopg [11] n (fun gg v11 wr => ∃ i : Nat, i ≤ n ∧ gg = n - i ∧ v11 = .int .i64 (i : Int) ∧ Hid (Stay (fun _ => False) w wr ∧ NBox wr bm ⟨(k : Nat), gn⟩ ∧ Rd wr tb n f ∧ wr.rowIs gb 4 n (fun j => .bool (if j < i then madeOf f (k : Nat) j else false))))
    case atStart => exact ⟨0, Nat.zero_le _, rfl, rfl, HL0⟩
    case round =>
      clear HL0
      obtain ⟨i, hi, rfl, rfl, HH⟩ := hrel
      by_cases hlt : i < n
      · have hin : (i : Int) < (n : Nat) := by omega
        have hpb := HH.out.2.2.1 i hlt
        obtain ⟨p, hp⟩ : ∃ p, p = f i := ⟨_, rfl⟩
        rw [← hp] at hpb
        have HPB := hide' hpb
        have HP := hide' hp
        clear hpb hp
        by_cases h1 : 0 ≤ p.env
        · obtain ⟨bo, hbo⟩ : ∃ b, b = (p.of == (k : Nat)) := ⟨_, rfl⟩
          have hbo' := hbo.symm
          have HMO : Hid (madeOf f (k : Nat) i = bo) := by
            show madeOf f (k : Nat) i = bo
            unfold madeOf
            rw [← HP.out, decide_eq_true h1, Bool.true_and, hbo]
          clear hbo
          go_upto_region 8 with fail
          have hS : (fun w' => Stay (fun j => j = gb) wr w' ∧ NBox w' bm ⟨(k : Nat), gn⟩ ∧ SBoxAt w' tb (i * 6) p) wr.drew := ⟨(Stay.refl _ _).drew, HH.out.2.1.keep (Stay.refl _ _).drew, HPB.out.keep (Stay.refl _ _).drew⟩
          have HRW : Hid (wr.drew.rowIs gb 4 n (fun j => .bool (if j < i then madeOf f (k : Nat) j else false))) := HH.out.2.2.2.drew
          refine wp_region_mix (fun w' => Stay (fun j => j = gb) wr w' ∧ NBox w' bm ⟨(k : Nat), gn⟩ ∧ SBoxAt w' tb (i * 6) p) [(0, true), (1, true), (2, true), (3, true), (4, true), (5, true), (6, true), (7, true), (8, true), (9, true), (10, true), (11, true), (12, true), (13, true), (14, true), (15, true), (16, true), (17, true), (18, true), (19, false)] (by kernel_rfl) (by kernel_rfl) (fun _ d _ _ _ h => by cases d <;> exact h) hS ?_
          refine mix_begin (fun K0 hK0 => ?_)
          refine mix_take hK0 (some 31) (.move (.tmp 10)) 78 _ (by kernel_rfl) (by kernel_rfl) (fun w' hS' => by (obtain ⟨_, sm, sp⟩ := hS'; obtain ⟨b0, b1, _, _⟩ := sm; obtain ⟨r0, r1, r2, r3, r4, r5⟩ := sp; simp only at b0 b1; simp only [opr]; go_simp; try with_reducible rfl)) (fun K1 hK1 => ?_)
          clear hK0 K0
          simp only [Act.put, List.setIfInBounds_toArray, List.set_cons_zero, List.set_cons_succ]
          refine mix_take hK1 (some 32) (.move (.tmp 11)) 3 _ (by kernel_rfl) (by kernel_rfl) (fun w' hS' => by (obtain ⟨_, sm, sp⟩ := hS'; obtain ⟨b0, b1, _, _⟩ := sm; obtain ⟨r0, r1, r2, r3, r4, r5⟩ := sp; simp only at b0 b1; simp only [opr]; go_simp; try with_reducible rfl)) (fun K2 hK2 => ?_)
          clear hK1 K1
          simp only [Act.put, List.setIfInBounds_toArray, List.set_cons_zero, List.set_cons_succ]
          refine mix_take hK2 (some 33) (.move (.tmp 0)) 26 _ (by kernel_rfl) (by kernel_rfl) (fun w' hS' => by (obtain ⟨_, sm, sp⟩ := hS'; obtain ⟨b0, b1, _, _⟩ := sm; obtain ⟨r0, r1, r2, r3, r4, r5⟩ := sp; simp only at b0 b1; simp only [opr]; go_simp; try with_reducible rfl)) (fun K3 hK3 => ?_)
          clear hK2 K2
          simp only [Act.put, List.setIfInBounds_toArray, List.set_cons_zero, List.set_cons_succ]
          refine mix_take hK3 (some 34) (.move (.tmp 11)) 3 _ (by kernel_rfl) (by kernel_rfl) (fun w' hS' => by (obtain ⟨_, sm, sp⟩ := hS'; obtain ⟨b0, b1, _, _⟩ := sm; obtain ⟨r0, r1, r2, r3, r4, r5⟩ := sp; simp only at b0 b1; simp only [opr]; go_simp; try with_reducible rfl)) (fun K4 hK4 => ?_)
          clear hK3 K3
          simp only [Act.put, List.setIfInBounds_toArray, List.set_cons_zero, List.set_cons_succ]
          refine mix_take hK4 (some 35) (.indexAddr 26 (.tmp 33) (.tmp 34)) 0 _ (by kernel_rfl) (by kernel_rfl) (fun w' hS' => by (obtain ⟨_, sm, sp⟩ := hS'; obtain ⟨b0, b1, _, _⟩ := sm; obtain ⟨r0, r1, r2, r3, r4, r5⟩ := sp; simp only at b0 b1; simp only [opr]; go_simp; try with_reducible rfl)) (fun K5 hK5 => ?_)
          clear hK4 K4
          simp only [Act.put, List.setIfInBounds_toArray, List.set_cons_zero, List.set_cons_succ]
          refine mix_take hK5 (some 36) (.fieldAddr 70 (.tmp 35) 1) 0 _ (by kernel_rfl) (by kernel_rfl) (fun w' hS' => by (obtain ⟨_, sm, sp⟩ := hS'; obtain ⟨b0, b1, _, _⟩ := sm; obtain ⟨r0, r1, r2, r3, r4, r5⟩ := sp; simp only at b0 b1; simp only [opr]; go_simp; try with_reducible rfl)) (fun K6 hK6 => ?_)
          clear hK5 K5
          simp only [Act.put, List.setIfInBounds_toArray, List.set_cons_zero, List.set_cons_succ]
          refine mix_take hK6 (some 37) (.load 3 (.tmp 36)) 3 _ (by kernel_rfl) (by kernel_rfl) (fun w' hS' => by (obtain ⟨_, sm, sp⟩ := hS'; obtain ⟨b0, b1, _, _⟩ := sm; obtain ⟨r0, r1, r2, r3, r4, r5⟩ := sp; simp only at b0 b1; simp only [opr]; go_simp; try with_reducible rfl)) (fun K7 hK7 => ?_)
          clear hK6 K6
          simp only [Act.put, List.setIfInBounds_toArray, List.set_cons_zero, List.set_cons_succ]
          refine mix_take hK7 (some 38) (.binOp BinOp.geq 3 (.tmp 37) (.const (Value.int IntKind.i64 0)) 3) 4 _ (by kernel_rfl) (by kernel_rfl) (fun w' hS' => by (obtain ⟨_, sm, sp⟩ := hS'; obtain ⟨b0, b1, _, _⟩ := sm; obtain ⟨r0, r1, r2, r3, r4, r5⟩ := sp; simp only at b0 b1; simp only [opr]; go_simp; try with_reducible rfl)) (fun K8 hK8 => ?_)
          clear hK7 K7
          simp only [Act.put, List.setIfInBounds_toArray, List.set_cons_zero, List.set_cons_succ]
          refine mix_take hK8 (some 39) (.move (.tmp 38)) 4 _ (by kernel_rfl) (by kernel_rfl) (fun w' hS' => by (obtain ⟨_, sm, sp⟩ := hS'; obtain ⟨b0, b1, _, _⟩ := sm; obtain ⟨r0, r1, r2, r3, r4, r5⟩ := sp; simp only at b0 b1; simp only [opr]; go_simp; try with_reducible rfl)) (fun K9 hK9 => ?_)
          clear hK8 K8
          simp only [Act.put, List.setIfInBounds_toArray, List.set_cons_zero, List.set_cons_succ]
          refine mix_take hK9 (some 40) (.move (.tmp 0)) 26 _ (by kernel_rfl) (by kernel_rfl) (fun w' hS' => by (obtain ⟨_, sm, sp⟩ := hS'; obtain ⟨b0, b1, _, _⟩ := sm; obtain ⟨r0, r1, r2, r3, r4, r5⟩ := sp; simp only at b0 b1; simp only [opr]; go_simp; try with_reducible rfl)) (fun K10 hK10 => ?_)
          clear hK9 K9
          simp only [Act.put, List.setIfInBounds_toArray, List.set_cons_zero, List.set_cons_succ]
          refine mix_take hK10 (some 41) (.move (.tmp 11)) 3 _ (by kernel_rfl) (by kernel_rfl) (fun w' hS' => by (obtain ⟨_, sm, sp⟩ := hS'; obtain ⟨b0, b1, _, _⟩ := sm; obtain ⟨r0, r1, r2, r3, r4, r5⟩ := sp; simp only at b0 b1; simp only [opr]; go_simp; try with_reducible rfl)) (fun K11 hK11 => ?_)
          clear hK10 K10
          simp only [Act.put, List.setIfInBounds_toArray, List.set_cons_zero, List.set_cons_succ]
          refine mix_take hK11 (some 42) (.indexAddr 26 (.tmp 40) (.tmp 41)) 0 _ (by kernel_rfl) (by kernel_rfl) (fun w' hS' => by (obtain ⟨_, sm, sp⟩ := hS'; obtain ⟨b0, b1, _, _⟩ := sm; obtain ⟨r0, r1, r2, r3, r4, r5⟩ := sp; simp only at b0 b1; simp only [opr]; go_simp; try with_reducible rfl)) (fun K12 hK12 => ?_)
          clear hK11 K11
          simp only [Act.put, List.setIfInBounds_toArray, List.set_cons_zero, List.set_cons_succ]
          refine mix_take hK12 (some 43) (.fieldAddr 70 (.tmp 42) 5) 0 _ (by kernel_rfl) (by kernel_rfl) (fun w' hS' => by (obtain ⟨_, sm, sp⟩ := hS'; obtain ⟨b0, b1, _, _⟩ := sm; obtain ⟨r0, r1, r2, r3, r4, r5⟩ := sp; simp only at b0 b1; simp only [opr]; go_simp; try with_reducible rfl)) (fun K13 hK13 => ?_)
          clear hK12 K12
          simp only [Act.put, List.setIfInBounds_toArray, List.set_cons_zero, List.set_cons_succ]
          refine mix_take hK13 (some 44) (.load 3 (.tmp 43)) 3 _ (by kernel_rfl) (by kernel_rfl) (fun w' hS' => by (obtain ⟨_, sm, sp⟩ := hS'; obtain ⟨b0, b1, _, _⟩ := sm; obtain ⟨r0, r1, r2, r3, r4, r5⟩ := sp; simp only at b0 b1; simp only [opr]; go_simp; try with_reducible rfl)) (fun K14 hK14 => ?_)
          clear hK13 K13
          simp only [Act.put, List.setIfInBounds_toArray, List.set_cons_zero, List.set_cons_succ]
          refine mix_take hK14 (some 45) (.fieldAddr 30 (.tmp 5) 0) 0 _ (by kernel_rfl) (by kernel_rfl) (fun w' hS' => by (obtain ⟨_, sm, sp⟩ := hS'; obtain ⟨b0, b1, _, _⟩ := sm; obtain ⟨r0, r1, r2, r3, r4, r5⟩ := sp; simp only at b0 b1; simp only [opr]; go_simp; try with_reducible rfl)) (fun K15 hK15 => ?_)
          clear hK14 K14
          simp only [Act.put, List.setIfInBounds_toArray, List.set_cons_zero, List.set_cons_succ]
          refine mix_take hK15 (some 46) (.load 3 (.tmp 45)) 3 _ (by kernel_rfl) (by kernel_rfl) (fun w' hS' => by (obtain ⟨_, sm, sp⟩ := hS'; obtain ⟨b0, b1, _, _⟩ := sm; obtain ⟨r0, r1, r2, r3, r4, r5⟩ := sp; simp only at b0 b1; simp only [opr]; go_simp; try with_reducible rfl)) (fun K16 hK16 => ?_)
          clear hK15 K15
          simp only [Act.put, List.setIfInBounds_toArray, List.set_cons_zero, List.set_cons_succ]
          refine mix_take hK16 (some 47) (.binOp BinOp.eql 3 (.tmp 44) (.tmp 46) 3) 4 _ (by kernel_rfl) (by kernel_rfl) (fun w' hS' => by (obtain ⟨_, sm, sp⟩ := hS'; obtain ⟨b0, b1, _, _⟩ := sm; obtain ⟨r0, r1, r2, r3, r4, r5⟩ := sp; simp only at b0 b1; simp only [opr]; go_simp; try with_reducible rfl)) (fun K17 hK17 => ?_)
          clear hK16 K16
          simp only [Act.put, List.setIfInBounds_toArray, List.set_cons_zero, List.set_cons_succ]
          refine mix_take hK17 (some 48) (.pick (.tmp 39) (.tmp 47) (.const (Value.bool false))) 4 _ (by kernel_rfl) (by kernel_rfl) (fun w' hS' => by (obtain ⟨_, sm, sp⟩ := hS'; obtain ⟨b0, b1, _, _⟩ := sm; obtain ⟨r0, r1, r2, r3, r4, r5⟩ := sp; simp only at b0 b1; simp only [opr]; go_simp; try with_reducible rfl)) (fun K18 hK18 => ?_)
          clear hK17 K17
          simp only [Act.put, List.setIfInBounds_toArray, List.set_cons_zero, List.set_cons_succ]
          refine mix_take hK18 (some 49) (.indexAddr 78 (.tmp 31) (.tmp 32)) 0 _ (by kernel_rfl) (by kernel_rfl) (fun w' hS' => by (obtain ⟨_, sm, sp⟩ := hS'; obtain ⟨b0, b1, _, _⟩ := sm; obtain ⟨r0, r1, r2, r3, r4, r5⟩ := sp; simp only at b0 b1; simp only [opr]; go_simp; try with_reducible rfl)) (fun K19 hK19 => ?_)
          clear hK18 K18
          simp only [Act.put, List.setIfInBounds_toArray, List.set_cons_zero, List.set_cons_succ]
          refine mix_chain hK19 (fun K19c hK19c => ?_)
          clear hK19 K19
          refine op_plain none (.store 4 (.tmp 49) (.tmp 48)) 0 (by kernel_rfl) (by kernel_rfl) ?_
          have hce := HRW.out.cell hlt
          have hfr := HRW.out.frozen i
          go_wp2
          have hSf : (fun w' => Stay (fun j => j = gb) wr w' ∧ NBox w' bm ⟨(k : Nat), gn⟩ ∧ SBoxAt w' tb (i * 6) p) (wr.drew.setCell ⟨gb, i, none⟩ (.bool bo)) := ⟨hS.1.setCell (p := ⟨gb, i, none⟩) rfl _, hS.2.1.stay ((Stay.refl (fun j => j = gb) _).setCell (p := ⟨gb, i, none⟩) rfl _) (fun e => HGB.out.2.1 e.symm), hS.2.2.stay ((Stay.refl (fun j => j = gb) _).setCell (p := ⟨gb, i, none⟩) rfl _) (fun e => HGB.out.1 e.symm)⟩
          refine hK19c _ _ hSf (mix_begin fun K20 hK20 => ?_)
          clear hK19c K19c
          try simp only [Act.put, List.setIfInBounds_toArray, List.set_cons_zero, List.set_cons_succ]
          refine hK20 _ _ (mix_nil ?_)
          clear hK20 K20
          have HN : Hid (Stay (fun _ => False) w (wr.drew.setCell ⟨gb, i, none⟩ (.bool bo)) ∧ NBox (wr.drew.setCell ⟨gb, i, none⟩ (.bool bo)) bm ⟨(k : Nat), gn⟩ ∧ Rd (wr.drew.setCell ⟨gb, i, none⟩ (.bool bo)) tb n f ∧ (wr.drew.setCell ⟨gb, i, none⟩ (.bool bo)).rowIs gb 4 n (fun j => .bool (if j < i + 1 then madeOf f (k : Nat) j else false))) :=
            ⟨HH.out.1.trans2 hSf.1 (fun j hj e => by have := HGB.out; omega), hSf.2.1, HH.out.2.2.1.stay hSf.1 (fun e => HGB.out.1 e.symm), (HRW.out.set i (.bool bo)).congr (fun j _ => by
              by_cases hji : j = i
              · subst hji
                rw [if_pos rfl, if_pos (by omega), HMO.out]
              · rw [if_neg hji]
                by_cases h2 : j < i
                · rw [if_pos h2, if_pos (by omega)]
                · rw [if_neg h2, if_neg (by omega)])⟩
          clear hS hSf HRW HH HPB hce hfr
          go_wp2
          go_roundg (n - (i + 1))
          case measure => omega
          case rel => exact ⟨i + 1, by omega, rfl, by go_num, HN⟩
        · have d1 : decide (0 ≤ p.env) = false := decide_eq_false h1
          have HMO : Hid (madeOf f (k : Nat) i = false) := by
            show madeOf f (k : Nat) i = false
            unfold madeOf
            rw [← HP.out, d1, Bool.false_and]
          go_upto_region 8 with fail
          have hS : (fun w' => Stay (fun j => j = gb) wr w' ∧ NBox w' bm ⟨(k : Nat), gn⟩ ∧ SBoxAt w' tb (i * 6) p) wr.drew := ⟨(Stay.refl _ _).drew, HH.out.2.1.keep (Stay.refl _ _).drew, HPB.out.keep (Stay.refl _ _).drew⟩
          have HRW : Hid (wr.drew.rowIs gb 4 n (fun j => .bool (if j < i then madeOf f (k : Nat) j else false))) := HH.out.2.2.2.drew
          refine wp_region_mix (fun w' => Stay (fun j => j = gb) wr w' ∧ NBox w' bm ⟨(k : Nat), gn⟩ ∧ SBoxAt w' tb (i * 6) p) [(0, true), (1, true), (2, true), (3, true), (4, true), (5, true), (6, true), (7, true), (8, true), (9, true), (10, true), (11, true), (12, true), (13, true), (14, true), (15, true), (16, true), (17, true), (18, true), (19, false)] (by kernel_rfl) (by kernel_rfl) (fun _ d _ _ _ h => by cases d <;> exact h) hS ?_
          refine mix_begin (fun K0 hK0 => ?_)
          refine mix_take hK0 (some 31) (.move (.tmp 10)) 78 _ (by kernel_rfl) (by kernel_rfl) (fun w' hS' => by (obtain ⟨_, sm, sp⟩ := hS'; obtain ⟨b0, b1, _, _⟩ := sm; obtain ⟨r0, r1, r2, r3, r4, r5⟩ := sp; simp only at b0 b1; simp only [opr]; go_simp; try with_reducible rfl)) (fun K1 hK1 => ?_)
          clear hK0 K0
          simp only [Act.put, List.setIfInBounds_toArray, List.set_cons_zero, List.set_cons_succ]
          refine mix_take hK1 (some 32) (.move (.tmp 11)) 3 _ (by kernel_rfl) (by kernel_rfl) (fun w' hS' => by (obtain ⟨_, sm, sp⟩ := hS'; obtain ⟨b0, b1, _, _⟩ := sm; obtain ⟨r0, r1, r2, r3, r4, r5⟩ := sp; simp only at b0 b1; simp only [opr]; go_simp; try with_reducible rfl)) (fun K2 hK2 => ?_)
          clear hK1 K1
          simp only [Act.put, List.setIfInBounds_toArray, List.set_cons_zero, List.set_cons_succ]
          refine mix_take hK2 (some 33) (.move (.tmp 0)) 26 _ (by kernel_rfl) (by kernel_rfl) (fun w' hS' => by (obtain ⟨_, sm, sp⟩ := hS'; obtain ⟨b0, b1, _, _⟩ := sm; obtain ⟨r0, r1, r2, r3, r4, r5⟩ := sp; simp only at b0 b1; simp only [opr]; go_simp; try with_reducible rfl)) (fun K3 hK3 => ?_)
          clear hK2 K2
          simp only [Act.put, List.setIfInBounds_toArray, List.set_cons_zero, List.set_cons_succ]
          refine mix_take hK3 (some 34) (.move (.tmp 11)) 3 _ (by kernel_rfl) (by kernel_rfl) (fun w' hS' => by (obtain ⟨_, sm, sp⟩ := hS'; obtain ⟨b0, b1, _, _⟩ := sm; obtain ⟨r0, r1, r2, r3, r4, r5⟩ := sp; simp only at b0 b1; simp only [opr]; go_simp; try with_reducible rfl)) (fun K4 hK4 => ?_)
          clear hK3 K3
          simp only [Act.put, List.setIfInBounds_toArray, List.set_cons_zero, List.set_cons_succ]
          refine mix_take hK4 (some 35) (.indexAddr 26 (.tmp 33) (.tmp 34)) 0 _ (by kernel_rfl) (by kernel_rfl) (fun w' hS' => by (obtain ⟨_, sm, sp⟩ := hS'; obtain ⟨b0, b1, _, _⟩ := sm; obtain ⟨r0, r1, r2, r3, r4, r5⟩ := sp; simp only at b0 b1; simp only [opr]; go_simp; try with_reducible rfl)) (fun K5 hK5 => ?_)
          clear hK4 K4
          simp only [Act.put, List.setIfInBounds_toArray, List.set_cons_zero, List.set_cons_succ]
          refine mix_take hK5 (some 36) (.fieldAddr 70 (.tmp 35) 1) 0 _ (by kernel_rfl) (by kernel_rfl) (fun w' hS' => by (obtain ⟨_, sm, sp⟩ := hS'; obtain ⟨b0, b1, _, _⟩ := sm; obtain ⟨r0, r1, r2, r3, r4, r5⟩ := sp; simp only at b0 b1; simp only [opr]; go_simp; try with_reducible rfl)) (fun K6 hK6 => ?_)
          clear hK5 K5
          simp only [Act.put, List.setIfInBounds_toArray, List.set_cons_zero, List.set_cons_succ]
          refine mix_take hK6 (some 37) (.load 3 (.tmp 36)) 3 _ (by kernel_rfl) (by kernel_rfl) (fun w' hS' => by (obtain ⟨_, sm, sp⟩ := hS'; obtain ⟨b0, b1, _, _⟩ := sm; obtain ⟨r0, r1, r2, r3, r4, r5⟩ := sp; simp only at b0 b1; simp only [opr]; go_simp; try with_reducible rfl)) (fun K7 hK7 => ?_)
          clear hK6 K6
          simp only [Act.put, List.setIfInBounds_toArray, List.set_cons_zero, List.set_cons_succ]
          refine mix_take hK7 (some 38) (.binOp BinOp.geq 3 (.tmp 37) (.const (Value.int IntKind.i64 0)) 3) 4 _ (by kernel_rfl) (by kernel_rfl) (fun w' hS' => by (obtain ⟨_, sm, sp⟩ := hS'; obtain ⟨b0, b1, _, _⟩ := sm; obtain ⟨r0, r1, r2, r3, r4, r5⟩ := sp; simp only at b0 b1; simp only [opr]; go_simp; try with_reducible rfl)) (fun K8 hK8 => ?_)
          clear hK7 K7
          simp only [Act.put, List.setIfInBounds_toArray, List.set_cons_zero, List.set_cons_succ]
          refine mix_take hK8 (some 39) (.move (.tmp 38)) 4 _ (by kernel_rfl) (by kernel_rfl) (fun w' hS' => by (obtain ⟨_, sm, sp⟩ := hS'; obtain ⟨b0, b1, _, _⟩ := sm; obtain ⟨r0, r1, r2, r3, r4, r5⟩ := sp; simp only at b0 b1; simp only [opr]; go_simp; try with_reducible rfl)) (fun K9 hK9 => ?_)
          clear hK8 K8
          simp only [Act.put, List.setIfInBounds_toArray, List.set_cons_zero, List.set_cons_succ]
          refine mix_skip hK9 (some 40) (by kernel_rfl) (by kernel_rfl) hS (fun K10 hK10 => ?_)
          clear hK9 K9
          simp only [Act.put, List.setIfInBounds_toArray, List.set_cons_zero, List.set_cons_succ]
          refine mix_skip hK10 (some 41) (by kernel_rfl) (by kernel_rfl) hS (fun K11 hK11 => ?_)
          clear hK10 K10
          simp only [Act.put, List.setIfInBounds_toArray, List.set_cons_zero, List.set_cons_succ]
          refine mix_skip hK11 (some 42) (by kernel_rfl) (by kernel_rfl) hS (fun K12 hK12 => ?_)
          clear hK11 K11
          simp only [Act.put, List.setIfInBounds_toArray, List.set_cons_zero, List.set_cons_succ]
          refine mix_skip hK12 (some 43) (by kernel_rfl) (by kernel_rfl) hS (fun K13 hK13 => ?_)
          clear hK12 K12
          simp only [Act.put, List.setIfInBounds_toArray, List.set_cons_zero, List.set_cons_succ]
          refine mix_skip hK13 (some 44) (by kernel_rfl) (by kernel_rfl) hS (fun K14 hK14 => ?_)
          clear hK13 K13
          simp only [Act.put, List.setIfInBounds_toArray, List.set_cons_zero, List.set_cons_succ]
          refine mix_skip hK14 (some 45) (by kernel_rfl) (by kernel_rfl) hS (fun K15 hK15 => ?_)
          clear hK14 K14
          simp only [Act.put, List.setIfInBounds_toArray, List.set_cons_zero, List.set_cons_succ]
          refine mix_skip hK15 (some 46) (by kernel_rfl) (by kernel_rfl) hS (fun K16 hK16 => ?_)
          clear hK15 K15
          simp only [Act.put, List.setIfInBounds_toArray, List.set_cons_zero, List.set_cons_succ]
          refine mix_skip hK16 (some 47) (by kernel_rfl) (by kernel_rfl) hS (fun K17 hK17 => ?_)
          clear hK16 K16
          simp only [Act.put, List.setIfInBounds_toArray, List.set_cons_zero, List.set_cons_succ]
          refine mix_take hK17 (some 48) (.pick (.tmp 39) (.tmp 47) (.const (Value.bool false))) 4 _ (by kernel_rfl) (by kernel_rfl) (fun w' hS' => by (obtain ⟨_, sm, sp⟩ := hS'; obtain ⟨b0, b1, _, _⟩ := sm; obtain ⟨r0, r1, r2, r3, r4, r5⟩ := sp; simp only at b0 b1; simp only [opr]; go_simp; try with_reducible rfl)) (fun K18 hK18 => ?_)
          clear hK17 K17
          simp only [Act.put, List.setIfInBounds_toArray, List.set_cons_zero, List.set_cons_succ]
          refine mix_take hK18 (some 49) (.indexAddr 78 (.tmp 31) (.tmp 32)) 0 _ (by kernel_rfl) (by kernel_rfl) (fun w' hS' => by (obtain ⟨_, sm, sp⟩ := hS'; obtain ⟨b0, b1, _, _⟩ := sm; obtain ⟨r0, r1, r2, r3, r4, r5⟩ := sp; simp only at b0 b1; simp only [opr]; go_simp; try with_reducible rfl)) (fun K19 hK19 => ?_)
          clear hK18 K18
          simp only [Act.put, List.setIfInBounds_toArray, List.set_cons_zero, List.set_cons_succ]
          refine mix_chain hK19 (fun K19c hK19c => ?_)
          clear hK19 K19
          refine op_plain none (.store 4 (.tmp 49) (.tmp 48)) 0 (by kernel_rfl) (by kernel_rfl) ?_
          have hce := HRW.out.cell hlt
          have hfr := HRW.out.frozen i
          go_wp2
          have hSf : (fun w' => Stay (fun j => j = gb) wr w' ∧ NBox w' bm ⟨(k : Nat), gn⟩ ∧ SBoxAt w' tb (i * 6) p) (wr.drew.setCell ⟨gb, i, none⟩ (.bool false)) := ⟨hS.1.setCell (p := ⟨gb, i, none⟩) rfl _, hS.2.1.stay ((Stay.refl (fun j => j = gb) _).setCell (p := ⟨gb, i, none⟩) rfl _) (fun e => HGB.out.2.1 e.symm), hS.2.2.stay ((Stay.refl (fun j => j = gb) _).setCell (p := ⟨gb, i, none⟩) rfl _) (fun e => HGB.out.1 e.symm)⟩
          refine hK19c _ _ hSf (mix_begin fun K20 hK20 => ?_)
          clear hK19c K19c
          try simp only [Act.put, List.setIfInBounds_toArray, List.set_cons_zero, List.set_cons_succ]
          refine hK20 _ _ (mix_nil ?_)
          clear hK20 K20
          have HN : Hid (Stay (fun _ => False) w (wr.drew.setCell ⟨gb, i, none⟩ (.bool false)) ∧ NBox (wr.drew.setCell ⟨gb, i, none⟩ (.bool false)) bm ⟨(k : Nat), gn⟩ ∧ Rd (wr.drew.setCell ⟨gb, i, none⟩ (.bool false)) tb n f ∧ (wr.drew.setCell ⟨gb, i, none⟩ (.bool false)).rowIs gb 4 n (fun j => .bool (if j < i + 1 then madeOf f (k : Nat) j else false))) :=
            ⟨HH.out.1.trans2 hSf.1 (fun j hj e => by have := HGB.out; omega), hSf.2.1, HH.out.2.2.1.stay hSf.1 (fun e => HGB.out.1 e.symm), (HRW.out.set i (.bool false)).congr (fun j _ => by
              by_cases hji : j = i
              · subst hji
                rw [if_pos rfl, if_pos (by omega), HMO.out]
              · rw [if_neg hji]
                by_cases h2 : j < i
                · rw [if_pos h2, if_pos (by omega)]
                · rw [if_neg h2, if_neg (by omega)])⟩
          clear hS hSf HRW HH HPB hce hfr
          go_wp2
          go_roundg (n - (i + 1))
          case measure => omega
          case rel => exact ⟨i + 1, by omega, rfl, by go_num, HN⟩
      · have hin : i = n := by omega
        subst hin
        have HSW := hide' HH.out.1
        have HWO := hide' (without35 tb i cap gb i f (madeOf f (k : Nat)) wr HH.out.2.2.1 (HH.out.2.2.2.congr (fun j hj => by rw [if_pos hj])) HGB.out.1 HW.out HNN.out.1 HNN.out.2.1)
        clear HH
        go_wp2_with fail
        refine HWO.out.mono ?_
        rintro _ w5 ⟨M, g', cap', rfl, hs, htab, hg', hM⟩
        have HR5 : Hid (ROut i tb f 0 (madeOf f (k : Nat)) w (.returned (.tuple #[.slice (some ⟨g', 0, none⟩) i cap', .int .i64 (cnt (goneB M f) i : Nat), .int .i64 0])) w5) := ⟨goneF M f, _, g', cap', rfl, HSW.out.trans2 hs (fun j hj e => by have := HGB.out; omega), htab.rd, .inr (Nat.le_trans HSW.out.size hg'), (fun h => absurd rfl h), fun _ => ⟨M, hM, rfl, rfl⟩⟩
        clear hs htab hg' hM HWO
        go_wp2
        go_returns
        exact HR5.out
  · have e0 : (e != 0) = true := by simpa using he0
    have HE0 := hide' he0
    clear HE he0
    go_wp2
    go_returns
    exact ⟨f, 0, tb, cap, rfl, HS2.out, HR2.out, .inl rfl, fun _ => ⟨rfl, rfl⟩, fun h => absurd h HE0.out⟩

set_option maxHeartbeats 2000000 in
theorem drop19 (tb n cap : Nat) (f : Nat → Sl) (env sl gn : Int) (w : World) (hr : Rd w tb n f) (htb : tb < w.heap.size) (hwf : WF n f) (h0 : 0 < n) (hn : n ≤ 4096) (hsl : I64 sl) : Calls Try.prog 19 #[.slice (some ⟨tb, 0, none⟩) n cap, .int .i64 env, .agg #[.int .i64 sl, .int .i64 gn]] w (ROut n tb f (ownE n f env sl gn 4) (fun i => (i : Int) == sl) w) := by
  obtain ⟨W0, hW0⟩ : ∃ W, W = w.alloc (.cells #[.int .i64 sl, .int .i64 gn] 30) := ⟨_, rfl⟩
  obtain ⟨bm, hbm⟩ : ∃ b, b = w.heap.size := ⟨_, rfl⟩
  have hs0 : Stay (fun _ => False) w W0 := by rw [hW0]; exact (Stay.refl _ _).alloc _
  have HS := hide' hs0
  have HBM : Hid (NBox W0 bm ⟨sl, gn⟩) := by rw [hW0]; exact NBox.new ⟨sl, gn⟩ hbm.symm
  have HRD := hide' (hr.keep hs0)
  have HOW := hide' (fun w h => own32 tb n cap f env sl gn 4 w h hsl)
  obtain ⟨e, he⟩ : ∃ e, e = ownE n f env sl gn 4 := ⟨_, rfl⟩
  rw [← he] at HOW
  rw [← he]
  have HE := hide' he
  have HW := hide' hwf
  have HNN : Hid (0 < n ∧ n ≤ 4096 ∧ tb < w.heap.size) := ⟨h0, hn, htb⟩
  have hnz : (n : Int) ≤ 4096 := by omega
  have hn0 : (0 : Int) ≤ (n : Nat) := by omega
  have hmk := fun w => run_make_row' (P := Try.prog) 78 4 (.bool false) 1 Try.underlying78 info4 rfl .i64 .i64 n (by omega) (by omega) w
  clear hs0 hr hwf hn htb he hsl h0
  obtain ⟨b0, b1, _, _⟩ := HBM.out
  simp only at b0 b1
  go_enter Try.func19, Try.ntmps19
  go_upto_region 1 with fail
  rw [← hW0, ← hbm]
  clear hW0 hbm
  go_wp2_with fail
  refine (HOW.out _ HRD.out).mono ?_
  rintro _ w2 ⟨rfl, hs⟩
  have HS2 := hide' (HS.out.trans hs)
  have HM2 := hide' (HBM.out.keep hs)
  have HR2 := hide' (HRD.out.keep hs)
  clear hs HS HBM HRD HOW b0 b1
  by_cases he0 : e = 0
  · subst he0
    obtain ⟨k, rfl, hk, _, _, _, _⟩ := ownE_zero HE.out.symm
    have kn : (k : Int) < (n : Nat) := by omega
    have HK := hide' hk
    clear HE hk
    obtain ⟨b0, b1, _, _⟩ := HM2.out
    simp only at b0 b1
    go_upto_region 5 with fail
    obtain ⟨gb, hgb⟩ : ∃ b, b = w2.heap.size := ⟨_, rfl⟩
    obtain ⟨W3, hW3⟩ : ∃ W, W = w2.alloc (.cells (madeCells #[.bool false] n) 4) := ⟨_, rfl⟩
    have hst3 : Stay (fun _ => False) w2 W3 := by rw [hW3]; exact (Stay.refl _ _).alloc _
    have HRW : Hid (W3.rowIs gb 4 n (fun _ => .bool false)) := by rw [hW3, hgb]; exact World.rowIs_made w2 (.bool false) n 4
    have HS3 := hide' (HS2.out.trans hst3)
    have HM3 := hide' (HM2.out.keep hst3)
    have HR3 := hide' (HR2.out.keep hst3)
    have HGB : Hid (gb ≠ tb ∧ gb ≠ bm ∧ w.heap.size ≤ gb) := ⟨by have := HNN.out; have := HS2.out.size; omega, by have := HM2.out.lt; omega, by have := HS2.out.size; omega⟩
    rw [← hW3, ← hgb]
    clear hW3 hgb hst3 HS2 HM2 HR2 b0 b1
    obtain ⟨b0, b1, _, _⟩ := HM3.out
    simp only at b0 b1
    have hce := HRW.out.cell HK.out
    have hfr := HRW.out.frozen k
    go_upto_region 6 with fail
    generalize hW4 : World.setCell _ _ _ = W4
    have hst4 : Stay (fun j => j = gb) W3 W4 := by rw [← hW4]; exact (Stay.refl (fun j => j = gb) _).setCell (p := ⟨gb, k, none⟩) rfl _
    have HR4 := hide' (HR3.out.stay hst4 (fun e => HGB.out.1 e.symm))
    have HRW4 : Hid (W4.rowIs gb 4 n (fun i => .bool ((i : Int) == (k : Nat)))) := by
      rw [← hW4]
      refine (HRW.out.set k (.bool true)).congr (fun i _ => ?_)
      by_cases h : i = k
      · subst h; simp
      · rw [if_neg h]
        have : ((i : Int) == (k : Nat)) = false := beq_f (fun e => h (by omega))
        rw [this]
    have HSW : Hid (Stay (fun _ => False) w W4) := HS3.out.trans2 hst4 (fun j hj e => by have := HGB.out; omega)
    have HWO := hide' (without35 tb n cap gb n f (fun i => (i : Int) == (k : Nat)) W4 HR4.out HRW4.out HGB.out.1 HW.out HNN.out.1 HNN.out.2.1)
    clear hW4 hst4 HR4 HRW4 HS3 HM3 HR3 HRW hce hfr b0 b1
    go_wp2_with fail
    refine HWO.out.mono ?_
    rintro _ w5 ⟨M, g', cap', rfl, hs, htab, hg', hM⟩
    have HR5 : Hid (ROut n tb f 0 (fun i => (i : Int) == (k : Nat)) w (.returned (.tuple #[.slice (some ⟨g', 0, none⟩) n cap', .int .i64 (cnt (goneB M f) n : Nat), .int .i64 0])) w5) := ⟨goneF M f, _, g', cap', rfl, HSW.out.trans2 hs (fun j hj e => by have := HGB.out; omega), htab.rd, .inr (Nat.le_trans HSW.out.size hg'), (fun h => absurd rfl h), fun _ => ⟨M, hM, rfl, rfl⟩⟩
    clear hs htab hg' hM HWO
    go_wp2
    go_returns
    exact HR5.out
  · have e0 : (e != 0) = true := by simpa using he0
    have HE0 := hide' he0
    clear HE he0
    go_wp2
    go_returns
    exact ⟨f, 0, tb, cap, rfl, HS2.out, HR2.out, .inl rfl, fun _ => ⟨rfl, rfl⟩, fun h => absurd h HE0.out⟩

/-- What goes, how many. -/
def KOut (n : Nat) (f : Nat → Sl) (m0 : Nat → Bool) (w : World) (E : Ending) (w' : World) : Prop := ∃ (M : Nat → Bool) (g' cap' : Nat), E = .returned (.tuple #[.slice (some ⟨g', 0, none⟩) n cap', .int .i64 (cnt (goneB M f) n : Nat)]) ∧ Stay (fun _ => False) w w' ∧ Rd w' g' n (goneF M f) ∧ w.heap.size ≤ g' ∧ ∀ i, M i = true ↔ Bel n f m0 i

set_option maxHeartbeats 2000000 in
theorem kill21 (tb n cap : Nat) (f : Nat → Sl) (env : Int) (w : World) (hr : Rd w tb n f) (htb : tb < w.heap.size) (hwf : WF n f) (h0 : 0 < n) (hn : n ≤ 4096) : Calls Try.prog 21 #[.slice (some ⟨tb, 0, none⟩) n cap, .int .i64 env] w (KOut n f (isOf f env) w) := by
  have HR := hide' hr
  have HW := hide' hwf
  have HNN : Hid (0 < n ∧ n ≤ 4096 ∧ tb < w.heap.size) := ⟨h0, hn, htb⟩
  have hnz : (n : Int) ≤ 4096 := by omega
  have hn0 : (0 : Int) ≤ (n : Nat) := by omega
  have hmk := fun w => run_make_row' (P := Try.prog) 78 4 (.bool false) 1 Try.underlying78 info4 rfl .i64 .i64 n (by omega) (by omega) w
  clear hr hwf hn htb h0
  go_enter Try.func21, Try.ntmps21
  go_upto_region 2 with fail
  obtain ⟨gb, hgb⟩ : ∃ b, b = w.heap.size := ⟨_, rfl⟩
  obtain ⟨W3, hW3⟩ : ∃ W, W = w.alloc (.cells (madeCells #[.bool false] n) 4) := ⟨_, rfl⟩
  have hst3 : Stay (fun _ => False) w W3 := by rw [hW3]; exact (Stay.refl _ _).alloc _
  have HRW : Hid (W3.rowIs gb 4 n (fun _ => .bool false)) := by rw [hW3, hgb]; exact World.rowIs_made w (.bool false) n 4
  have HGB : Hid (gb ≠ tb ∧ w.heap.size ≤ gb) := ⟨by have := HNN.out; omega, by omega⟩
  have HL0 : Hid (Stay (fun _ => False) w W3 ∧ Rd W3 tb n f ∧ W3.rowIs gb 4 n (fun j => .bool (if j < 0 then isOf f env j else false))) := ⟨hst3, HR.out.keep hst3, HRW.out.congr (fun j _ => by rw [if_neg (Nat.not_lt_zero _)])⟩
  rw [← hW3, ← hgb]
  clear hW3 hgb hst3 HR HRW
  go_wp2
  go_loopg [7] n (fun gg v7 wr => ∃ i : Nat, i ≤ n ∧ gg = n - i ∧ v7 = .int .i64 (i : Int) ∧ Hid (Stay (fun _ => False) w wr ∧ Rd wr tb n f ∧ wr.rowIs gb 4 n (fun j => .bool (if j < i then isOf f env j else false))))
  case atStart => exact ⟨0, Nat.zero_le _, rfl, rfl, HL0⟩
  case round =>
    clear HL0
    obtain ⟨i, hi, rfl, rfl, HH⟩ := hrel
    by_cases hlt : i < n
    · have hin : (i : Int) < (n : Nat) := by omega
      obtain ⟨_, r1, _, _, _, _⟩ := HH.out.2.1 i hlt
      have hce := HH.out.2.2.cell hlt
      have hfr := HH.out.2.2.frozen i
      rw [if_neg (Nat.lt_irrefl i)] at hce
      obtain ⟨p, hp⟩ : ∃ p, p = f i := ⟨_, rfl⟩
      rw [← hp] at r1
      have HP := hide' hp
      clear hp
      have HNX : Hid (∀ b, isOf f env i = b → Stay (fun _ => False) w (wr.setCell ⟨gb, i, none⟩ (.bool b)) ∧ Rd (wr.setCell ⟨gb, i, none⟩ (.bool b)) tb n f ∧ (wr.setCell ⟨gb, i, none⟩ (.bool b)).rowIs gb 4 n (fun j => .bool (if j < i + 1 then isOf f env j else false))) := fun b hb => by
        have hst : Stay (fun j => j = gb) wr (wr.setCell ⟨gb, i, none⟩ (.bool b)) := (Stay.refl (fun j => j = gb) wr).setCell (p := ⟨gb, i, none⟩) rfl _
        refine ⟨HH.out.1.trans2 hst (fun j hj e => by have := HGB.out; omega), HH.out.2.1.stay hst (fun e => HGB.out.1 e.symm), (HH.out.2.2.set i (.bool b)).congr (fun j _ => ?_)⟩
        by_cases hji : j = i
        · subst hji
          rw [if_pos rfl, if_pos (by omega), hb]
        · rw [if_neg hji]
          by_cases h2 : j < i
          · rw [if_pos h2, if_pos (by omega)]
          · rw [if_neg h2, if_neg (by omega)]
      by_cases h1 : 0 ≤ env
      · obtain ⟨bo, hbo⟩ : ∃ b, b = (p.env == env) := ⟨_, rfl⟩
        have hbo' := hbo.symm
        have HN := hide' (HNX.out bo (by unfold isOf; rw [← HP.out, decide_eq_true h1, Bool.true_and, hbo]))
        clear hbo HNX HH
        go_wp2
        go_roundg (n - (i + 1))
        case measure => omega
        case rel => exact ⟨i + 1, by omega, rfl, by go_num, HN⟩
      · have d1 : decide (0 ≤ env) = false := decide_eq_false h1
        have HN := hide' (HNX.out false (by unfold isOf; rw [d1, Bool.false_and]))
        clear HNX HH
        go_wp2
        go_roundg (n - (i + 1))
        case measure => omega
        case rel => exact ⟨i + 1, by omega, rfl, by go_num, HN⟩
    · have hin : i = n := by omega
      subst hin
      have HSW := hide' HH.out.1
      have HWO := hide' (without35 tb i cap gb i f (isOf f env) wr HH.out.2.1 (HH.out.2.2.congr (fun j hj => by rw [if_pos hj])) HGB.out.1 HW.out HNN.out.1 HNN.out.2.1)
      clear HH
      go_wp2_with fail
      refine HWO.out.mono ?_
      rintro _ w5 ⟨M, g', cap', rfl, hs, htab, hg', hM⟩
      have HR5 : Hid (KOut i f (isOf f env) w (.returned (.tuple #[.slice (some ⟨g', 0, none⟩) i cap', .int .i64 (cnt (goneB M f) i : Nat)])) w5) := ⟨M, g', cap', rfl, HSW.out.trans2 hs (fun j hj e => by have := HGB.out; omega), htab.rd, Nat.le_trans HSW.out.size hg', hM⟩
      clear hs htab hg' hM HWO
      go_wp2
      go_returns
      exact HR5.out

end Go.Proofs.Ytlhfpnfiamgmlaa
