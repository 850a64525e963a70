/-
  Revoke, Drop, Kill: walked. No conditions.
-/
import Derived.Test.YtlhfpnfiamgmlaaQ2
import Derived.Test.YtlhfpnfiamgmlaaQ3
import Derived.Test.YtlhfpnfiamgmlaaQ4
import Derived.Deep.DeepCutAuto
namespace Go.Proofs.Ytlhfpnfiamgmlaa
open Go.RowKit

/-- What comes of Revoke, or Drop. -/
def DOut (T B n : Nat) (q : Int) (f : Nat → Sl) (e : Int) (m0 : Nat → Bool) (w : World) (E : Ending) (w' : World) : Prop := ∃ (f' : Nat → Sl) (c : Nat), E = .returned (.tuple #[.int .i64 (c : Nat), .int .i64 e]) ∧ Stay (fun j => j = B) w w' ∧ TAt w' T B n q f' ∧ (e ≠ 0 → f' = f ∧ c = 0) ∧ (e = 0 → ∃ M, (∀ i, M i = true ↔ Bel n f m0 i) ∧ f' = goneF M f ∧ c = cnt (goneB M f) n)

/-- What comes of Kill. -/
theorem kill22 (T B n : Nat) (q : Int) (f : Nat → Sl) (env : Int) (w : World) (ht : TAt w T B n q f) (hwf : WF n f) : Calls Try.prog 22 #[.pointer (some ⟨T, 0, none⟩), .int .i64 env] w (EOut T B n q f (isOf f env) w) := by
  obtain ⟨W0, hW0⟩ : ∃ W, W = w.alloc (.cells #[.int .i64 env] 3) := ⟨_, rfl⟩
  obtain ⟨bx, hbx⟩ : ∃ b, b = w.heap.size := ⟨_, rfl⟩
  have hs0 : Stay (fun _ => False) w W0 := by rw [hW0]; exact (Stay.refl _ _).alloc _
  have hb : W0.cell? ⟨bx, 0, none⟩ = some (.int .i64 env) := by rw [hW0, hbx]; simp
  have hT := ht.keep hs0
  have HE := hide' (end36_39 T B n q f (isOf f env) (.pointer (some ⟨bx, 0, none⟩)) W0 hT hwf (fun i h => by
      unfold isOf at h
      rw [Bool.and_eq_true] at h
      have h1 := of_decide_eq_true h.1
      have h2 := eq_of_beq h.2
      omega) (fun w' hw i hi => by
      have hT' : TAt w' T B n q f := hT.stay hw (by have := hT.lt; omega) (by have := hT.ltB; omega)
      have hb' : w'.cell? ⟨bx, 0, none⟩ = some (.int .i64 env) := (hw.cell (p := ⟨bx, 0, none⟩) (World.block_lt_of_cell? _ _ hb) (by have := World.block_lt_of_cell? _ _ hb; show ¬ W0.heap.size ≤ bx; exact Nat.not_le.2 this)).trans hb
      have h := kill39 B i bx (pl B (f i)) env w' (hT'.at hi) hb'
      rw [isPl_of B (hT'.ok.1 i hi) env] at h
      exact h))
  have HS0 := hide' hs0
  clear ht hwf hs0 hb hT
  go_enter Try.func22, Try.ntmps22
  go_upto_region 1 with fail
  rw [← hW0, ← hbx]
  clear hW0 hbx
  go_wp2_with fail
  refine HE.out.mono ?_
  rintro _ w1 ⟨M, hM, rfl, hs1, ht1⟩
  have HM := hide' hM
  have HS1 := hide' hs1
  have HT1 := hide' ht1
  clear hM hs1 ht1 HE
  go_wp2
  go_ret
  exact ⟨M, HM.out, rfl, (HS0.out.mono (T := fun j => j = B) (fun _ _ h => h.elim)).trans HS1.out, HT1.out⟩

set_option maxHeartbeats 2000000 in
theorem revoke18 (T B n : Nat) (q : Int) (f : Nat → Sl) (env sl gn : Int) (w : World) (ht : TAt w T B n q f) (hwf : WF n f) : Calls Try.prog 18 #[.pointer (some ⟨T, 0, none⟩), .int .i64 env, .agg #[.int .i64 sl, .int .i64 gn]] w (DOut T B n q f (ownE n f env sl gn 0) (madeOf f sl) w) := by
  obtain ⟨W0, hW0⟩ : ∃ W, W = w.alloc (.cells #[.int .i64 sl, .int .i64 gn] 30) := ⟨_, rfl⟩
  obtain ⟨bc, hbc⟩ : ∃ b, b = w.heap.size := ⟨_, rfl⟩
  have hs0 : Stay (fun _ => False) w W0 := by rw [hW0]; exact (Stay.refl _ _).alloc _
  have HS0 := hide' hs0
  have hnb : NBox W0 bc ⟨sl, gn⟩ := by rw [hW0]; exact NBox.new ⟨sl, gn⟩ hbc.symm
  have HNB := hide' hnb
  have HT := hide' (ht.keep hs0)
  obtain ⟨b0, b1, _, _⟩ := HNB.out
  simp only at b0 b1
  have HN4 := hide' (fun w (h : TAt w T B n q f) => named34 T B n q f env sl gn w h)
  have HWF := hide' hwf
  clear hs0 hnb
  by_cases he : ownE n f env sl gn 0 = 0
  · rw [he] at HN4
    have h2 := ownE_rights n f env sl gn 0
    rw [if_pos he] at h2
    obtain ⟨k, rfl, hk, hu, _⟩ := ownE_zero he
    rw [show nptr B 0 (k : Nat) = .pointer (some ⟨B, k * 6, none⟩) by unfold nptr; rw [if_pos rfl, Int.toNat_natCast]] at HN4
    rw [Int.toNat_natCast] at h2
    have HK := hide' hk
    have HU := hide' hu
    rw [he]
    clear he ht h2 hk hu hwf
    go_enter Try.func18, Try.ntmps18
    go_upto_region 1 with fail
    rw [← hW0, ← hbc]
    clear hW0 hbc
    go_wp2_with fail
    refine (HN4.out _ HT.out).mono ?_
    rintro _ w1 ⟨rfl, hs1⟩
    have HS1 := hide' (HS0.out.trans hs1)
    have HT1 := hide' (HT.out.keep hs1)
    clear hs1 HN4
    obtain ⟨W2, hW2⟩ : ∃ W, W = w1.alloc (.cells #[.pointer (some ⟨B, k * 6, none⟩)] 62) := ⟨_, rfl⟩
    obtain ⟨bx, hbx⟩ : ∃ b, b = w1.heap.size := ⟨_, rfl⟩
    have hs2 : Stay (fun _ => False) w1 W2 := by rw [hW2]; exact (Stay.refl _ _).alloc _
    have hb : W2.cell? ⟨bx, 0, none⟩ = some (.pointer (some ⟨B, k * 6, none⟩)) := by rw [hW2, hbx]; simp
    have HT2 := hide' (HT1.out.keep hs2)
    have HS2 := hide' (HS1.out.trans hs2)
    go_upto_region 2 with fail
    rw [← hW2, ← hbx]
    clear hW2 hbx hs2
    have HE : Hid (Calls Try.prog 36 #[.pointer (some ⟨T, 0, none⟩), .func (.func 37) #[] #[.pointer (some ⟨bx, 0, none⟩)]] W2 (EOut T B n q f (madeOf f (k : Nat)) W2)) := end36_37 T B n q f (madeOf f (k : Nat)) (.pointer (some ⟨bx, 0, none⟩)) W2 HT2.out HWF.out (fun i h => by
        unfold madeOf at h
        rw [Bool.and_eq_true] at h
        exact of_decide_eq_true h.1) (fun w' hw i hi => by
        have hT' : TAt w' T B n q f := HT2.out.stay hw (by have := HT2.out.lt; omega) (by have := HT2.out.ltB; omega)
        have hb' : w'.cell? ⟨bx, 0, none⟩ = some (.pointer (some ⟨B, k * 6, none⟩)) := (hw.cell (p := ⟨bx, 0, none⟩) (World.block_lt_of_cell? _ _ hb) (Nat.not_le.2 (World.block_lt_of_cell? _ _ hb))).trans hb
        have h5 : w'.cell? ⟨B, i * 6 + 5, none⟩ = some (ptrOf B (f i).of) := (hT'.at hi).c5
        by_cases ho : (f i).of < 0
        · unfold ptrOf at h5
          rw [if_pos ho] at h5
          have e : madeOf f (k : Nat) i = false := by
            unfold madeOf
            rw [beq_eq_false_iff_ne.2 (show (f i).of ≠ (k : Nat) by omega), Bool.and_false]
          rw [e]
          exact revoke37_nil B i k bx w' h5 hb'
        · unfold ptrOf at h5
          rw [if_neg ho] at h5
          have hu : 0 ≤ (f i).env := by rcases hT'.ok.1 i hi with e | e; omega; exact e.1
          have e : madeOf f (k : Nat) i = ((f i).of.toNat == k) := by
            unfold madeOf
            rw [decide_eq_true hu, Bool.true_and]
            by_cases h : (f i).of = (k : Nat)
            · rw [h, Int.toNat_natCast]; simp
            · rw [beq_eq_false_iff_ne.2 h, beq_eq_false_iff_ne.2 (show (f i).of.toNat ≠ k by omega)]
          rw [e]
          exact revoke37_some B i _ k bx w' h5 hb')
    clear hb
    go_wp2_with fail
    refine HE.out.mono ?_
    rintro _ w3 ⟨M, hM, rfl, hs3, ht3⟩
    have HM := hide' hM
    have HS3 := hide' hs3
    have HT3 := hide' ht3
    clear hM hs3 ht3 HE
    go_wp2
    go_ret2
    exact ⟨goneF M f, _, rfl, (HS2.out.mono (T := fun j => j = B) (fun _ _ h => h.elim)).trans HS3.out, HT3.out, fun h => absurd rfl h, fun _ => ⟨M, HM.out, rfl, rfl⟩⟩
  · have h2 := ownE_rights n f env sl gn 0
    rw [if_neg he] at h2
    rw [h2]
    obtain ⟨e, hee⟩ : ∃ e, e = ownE n f env sl gn 0 := ⟨_, rfl⟩
    rw [← hee] at HN4 he ⊢
    have hen : (e != 0) = true := bne_iff_ne.2 he
    have HNE := hide' he
    rw [show nptr B e sl = .pointer none from if_neg he] at HN4
    clear hee ht h2 hwf
    go_enter Try.func18, Try.ntmps18
    go_upto_region 1 with fail
    rw [← hW0, ← hbc]
    clear hW0 hbc
    go_wp2_with fail
    refine (HN4.out _ HT.out).mono ?_
    rintro _ w1 ⟨rfl, hs1⟩
    have HS1 := hide' (HS0.out.trans hs1)
    have HT1 := hide' (HT.out.keep hs1)
    clear hs1 HN4
    go_wp2
    go_ret2
    exact ⟨f, 0, rfl, (HS1.out.alloc _).mono (fun _ _ h => h.elim), HT1.out.keep ((Stay.refl _ _).alloc _), fun _ => ⟨rfl, rfl⟩, fun h => absurd h HNE.out⟩

set_option maxHeartbeats 2000000 in
theorem drop20 (T B n : Nat) (q : Int) (f : Nat → Sl) (env sl gn : Int) (w : World) (ht : TAt w T B n q f) (hwf : WF n f) : Calls Try.prog 20 #[.pointer (some ⟨T, 0, none⟩), .int .i64 env, .agg #[.int .i64 sl, .int .i64 gn]] w (DOut T B n q f (ownE n f env sl gn 4) (fun i => (i : Int) == sl) w) := by
  obtain ⟨W0, hW0⟩ : ∃ W, W = w.alloc (.cells #[.int .i64 sl, .int .i64 gn] 30) := ⟨_, rfl⟩
  obtain ⟨bc, hbc⟩ : ∃ b, b = w.heap.size := ⟨_, rfl⟩
  have hs0 : Stay (fun _ => False) w W0 := by rw [hW0]; exact (Stay.refl _ _).alloc _
  have HS0 := hide' hs0
  have hnb : NBox W0 bc ⟨sl, gn⟩ := by rw [hW0]; exact NBox.new ⟨sl, gn⟩ hbc.symm
  have HNB := hide' hnb
  have HT := hide' (ht.keep hs0)
  obtain ⟨b0, b1, _, _⟩ := HNB.out
  simp only at b0 b1
  have HN4 := hide' (fun w (h : TAt w T B n q f) => named34 T B n q f env sl gn w h)
  have HWF := hide' hwf
  clear hs0 hnb
  by_cases he : ownE n f env sl gn 0 = 0
  · rw [he] at HN4
    have h2 := ownE_rights n f env sl gn 4
    rw [if_pos he] at h2
    obtain ⟨k, rfl, hk, hu, _⟩ := ownE_zero he
    rw [show nptr B 0 (k : Nat) = .pointer (some ⟨B, k * 6, none⟩) by unfold nptr; rw [if_pos rfl, Int.toNat_natCast]] at HN4
    rw [Int.toNat_natCast] at h2
    have HK := hide' hk
    have HU := hide' hu
    obtain ⟨y, hy⟩ : ∃ y, y = (f k).rights := ⟨_, rfl⟩
    have hok : 1 ≤ y ∧ y ≤ 7 := by rw [hy]; rcases ht.ok.1 k hk with e | e <;> omega
    have HR4 : Hid (∀ w, TAt w T B n q f → w.cell? ⟨B, k * 6 + 4, none⟩ = some (.int .i64 y)) := fun w h => by rw [hy]; exact (h.at hk).c4
    rw [← hy] at h2
    have hh4 := (has_of (r := 0) (by omega) hok.2 (by decide) (by decide)).2.2.1
    cases hb4 : hasB y 4
    · rw [hb4, if_neg (by decide)] at h2
      rw [h2]
      rw [hb4] at hh4
      have hz : bits .and .i64 y 4 = 0 := beq_iff_eq.1 (hh4.trans rfl)
      clear he ht h2 hk hu hwf hy hb4 hh4 hok
      go_enter Try.func20, Try.ntmps20
      go_upto_region 1 with fail
      rw [← hW0, ← hbc]
      clear hW0 hbc
      go_wp2_with fail
      refine (HN4.out _ HT.out).mono ?_
      rintro _ w1 ⟨rfl, hs1⟩
      have HS1 := hide' (HS0.out.trans hs1)
      have HT1 := hide' (HT.out.keep hs1)
      clear hs1 HN4
      obtain ⟨W2, hW2⟩ : ∃ W, W = w1.alloc (.cells #[.pointer (some ⟨B, k * 6, none⟩)] 62) := ⟨_, rfl⟩
      obtain ⟨bx, hbx⟩ : ∃ b, b = w1.heap.size := ⟨_, rfl⟩
      have hs2 : Stay (fun _ => False) w1 W2 := by rw [hW2]; exact (Stay.refl _ _).alloc _
      have hb : W2.cell? ⟨bx, 0, none⟩ = some (.pointer (some ⟨B, k * 6, none⟩)) := by rw [hW2, hbx]; simp
      have HT2 := hide' (HT1.out.keep hs2)
      have HS2 := hide' (HS1.out.trans hs2)
      go_upto_region 2 with fail
      rw [← hW2, ← hbx]
      clear hW2 hbx hs2
      have r4 := HR4.out _ HT2.out
      go_wp2
      go_ret2
      exact ⟨f, 0, rfl, HS2.out.mono (fun _ _ h => h.elim), HT2.out, fun _ => ⟨rfl, rfl⟩, fun h => by cases h⟩
    · rw [hb4, if_pos rfl] at h2
      rw [h2]
      rw [hb4] at hh4
      have hz : (bits .and .i64 y 4 == 0) = false := hh4.trans rfl
      have hzn : ¬ bits .and .i64 y 4 = 0 := beq_eq_false_iff_ne.1 hz
      clear he ht h2 hk hu hwf hy hb4 hh4 hok
      go_enter Try.func20, Try.ntmps20
      go_upto_region 1 with fail
      rw [← hW0, ← hbc]
      clear hW0 hbc
      go_wp2_with fail
      refine (HN4.out _ HT.out).mono ?_
      rintro _ w1 ⟨rfl, hs1⟩
      have HS1 := hide' (HS0.out.trans hs1)
      have HT1 := hide' (HT.out.keep hs1)
      clear hs1 HN4
      obtain ⟨W2, hW2⟩ : ∃ W, W = w1.alloc (.cells #[.pointer (some ⟨B, k * 6, none⟩)] 62) := ⟨_, rfl⟩
      obtain ⟨bx, hbx⟩ : ∃ b, b = w1.heap.size := ⟨_, rfl⟩
      have hs2 : Stay (fun _ => False) w1 W2 := by rw [hW2]; exact (Stay.refl _ _).alloc _
      have hb : W2.cell? ⟨bx, 0, none⟩ = some (.pointer (some ⟨B, k * 6, none⟩)) := by rw [hW2, hbx]; simp
      have HT2 := hide' (HT1.out.keep hs2)
      have HS2 := hide' (HS1.out.trans hs2)
      go_upto_region 2 with fail
      rw [← hW2, ← hbx]
      clear hW2 hbx hs2
      have HE : Hid (Calls Try.prog 36 #[.pointer (some ⟨T, 0, none⟩), .func (.func 38) #[] #[.pointer (some ⟨bx, 0, none⟩)]] W2 (EOut T B n q f (fun i => (i : Int) == (k : Nat)) W2)) := end36_38 T B n q f (fun i => (i : Int) == (k : Nat)) (.pointer (some ⟨bx, 0, none⟩)) W2 HT2.out HWF.out (fun i h => by
          have h1 : (i : Int) = (k : Nat) := eq_of_beq h
          have h2 : i = k := by omega
          rw [h2]
          exact HU.out) (fun w' hw i hi => by
          have hb' : w'.cell? ⟨bx, 0, none⟩ = some (.pointer (some ⟨B, k * 6, none⟩)) := (hw.cell (p := ⟨bx, 0, none⟩) (World.block_lt_of_cell? _ _ hb) (Nat.not_le.2 (World.block_lt_of_cell? _ _ hb))).trans hb
          have e : ((i : Int) == (k : Nat)) = (i == k) := by
            by_cases h : i = k
            · subst h; simp
            · rw [beq_eq_false_iff_ne.2 h, beq_eq_false_iff_ne.2 (show (i : Int) ≠ (k : Nat) by omega)]
          simp only [e]
          exact drop38 B i k bx w' hb')
      have r4 := HR4.out _ HT2.out
      go_wp2_with fail
      refine HE.out.mono ?_
      rintro _ w3 ⟨M, hM, rfl, hs3, ht3⟩
      have HM := hide' hM
      have HS3 := hide' hs3
      have HT3 := hide' ht3
      clear hM hs3 ht3 HE
      go_wp2
      go_ret2
      exact ⟨goneF M f, _, rfl, (HS2.out.mono (T := fun j => j = B) (fun _ _ h => h.elim)).trans HS3.out, HT3.out, fun h => absurd rfl h, fun _ => ⟨M, HM.out, rfl, rfl⟩⟩
  · have h2 := ownE_rights n f env sl gn 4
    rw [if_neg he] at h2
    rw [h2]
    obtain ⟨e, hee⟩ : ∃ e, e = ownE n f env sl gn 0 := ⟨_, rfl⟩
    rw [← hee] at HN4 he ⊢
    have hen : (e != 0) = true := bne_iff_ne.2 he
    have HNE := hide' he
    rw [show nptr B e sl = .pointer none from if_neg he] at HN4
    clear hee ht h2 hwf
    go_enter Try.func20, Try.ntmps20
    go_upto_region 1 with fail
    rw [← hW0, ← hbc]
    clear hW0 hbc
    go_wp2_with fail
    refine (HN4.out _ HT.out).mono ?_
    rintro _ w1 ⟨rfl, hs1⟩
    have HS1 := hide' (HS0.out.trans hs1)
    have HT1 := hide' (HT.out.keep hs1)
    clear hs1 HN4
    go_wp2
    go_ret2
    exact ⟨f, 0, rfl, (HS1.out.alloc _).mono (fun _ _ h => h.elim), HT1.out.keep ((Stay.refl _ _).alloc _), fun _ => ⟨rfl, rfl⟩, fun h => absurd h HNE.out⟩

end Go.Proofs.Ytlhfpnfiamgmlaa
