/-
  Check and Share: walked. No conditions.
-/
import Derived.Test.YtlhfpnfiamgmlaaP7
import Derived.Deep.DeepCutAuto
namespace Go.Proofs.Ytlhfpnfiamgmlaa
open Go.RowKit

theorem andNot_zero {r s : Int} (hr : W64 r) : bits .andNot .i64 r s = 0 ↔ bits .and .i64 r s = r := by
  have back : ∀ b : BitVec 64, IntKind.i64.wrap (b.toNat : Nat) = b.toInt := fun b => by rw [IntKind.wrap_i64, BitVec.toInt_eq_toNat_bmod]; simp [Int.bmod]; omega
  have e1 : bits .andNot .i64 r s = (BitVec.ofInt 64 r &&& ~~~ BitVec.ofInt 64 s).toInt := back _
  have e2 : bits .and .i64 r s = (BitVec.ofInt 64 r &&& BitVec.ofInt 64 s).toInt := back _
  have e3 : r = (BitVec.ofInt 64 r).toInt := by rw [BitVec.toInt_ofInt]; unfold W64 at hr; simp [Int.bmod]; omega
  rw [e1, e2]
  conv => rhs; rhs; rw [e3]
  generalize BitVec.ofInt 64 r = a
  generalize BitVec.ofInt 64 s = b
  have z : (0 : Int) = (0#64).toInt := rfl
  rw [z, BitVec.toInt_inj, BitVec.toInt_inj]
  constructor
  · intro h
    apply BitVec.eq_of_getElem_eq
    intro i hi
    have := congrArg (fun v => v[i]) h
    simp at this ⊢
    exact this
  · intro h
    apply BitVec.eq_of_getElem_eq
    intro i hi
    have := congrArg (fun v => v[i]) h
    simp at this ⊢
    exact this

theorem small_has : ∀ x : Nat, x < 8 → ∀ r : Nat, r < 8 → ((bits .andNot .i64 (r : Nat) (x : Nat) == 0) = (bits .and .i64 (x : Nat) (r : Nat) == (r : Nat))) ∧ ((bits .and .i64 (x : Nat) 2 == 0) = !(bits .and .i64 (x : Nat) 2 == 2)) ∧ ((bits .and .i64 (x : Nat) 4 == 0) = !(bits .and .i64 (x : Nat) 4 == 4)) ∧ ((bits .and .i64 (x : Nat) 1 == 0) = !(bits .and .i64 (x : Nat) 1 == 1)) := by decide +kernel

theorem has_of {x r : Int} (h0 : 0 ≤ x) (h1 : x ≤ 7) (h2 : 0 ≤ r) (h3 : r ≤ 7) : (bits .andNot .i64 r x == 0) = hasB x r ∧ (bits .and .i64 x 2 == 0) = !hasB x 2 ∧ (bits .and .i64 x 4 == 0) = !hasB x 4 ∧ (bits .and .i64 x 1 == 0) = !hasB x 1 := by
  obtain ⟨a, rfl⟩ := Int.eq_ofNat_of_zero_le h0
  obtain ⟨b, rfl⟩ := Int.eq_ofNat_of_zero_le h2
  exact small_has a (by omega) b (by omega)

theorem ownE_rights (n : Nat) (f : Nat → Sl) (env sl gn r : Int) : ownE n f env sl gn r = if ownE n f env sl gn 0 = 0 then (if hasB (f sl.toNat).rights r = true then 0 else 8) else ownE n f env sl gn 0 := by
  unfold ownE
  have h0 := has0 (f sl.toNat).rights
  generalize hasB (f sl.toNat).rights 0 = z0 at h0 ⊢
  generalize hasB (f sl.toNat).rights r = z1
  subst h0
  by_cases a : 0 ≤ sl ∧ sl < n ∧ 0 ≤ (f sl.toNat).env ∧ (f sl.toNat).gen = gn
  · rw [if_pos a, if_pos a]
    by_cases b : (f sl.toNat).env = env
    · cases z1 <;> simp [b]
    · simp [b]
  · rw [if_neg a, if_neg a, if_neg (by decide)]

set_option maxHeartbeats 2000000 in
theorem check16 (T B n : Nat) (q : Int) (f : Nat → Sl) (env sl gn kind r : Int) (w : World) (ht : TAt w T B n q f) (hr : W64 r) : Calls Try.prog 16 #[.pointer (some ⟨T, 0, none⟩), .int .i64 env, .agg #[.int .i64 sl, .int .i64 gn], .int .i64 kind, .int .i64 r] w (Gives (.tuple #[.int .i64 (checkR n f env sl gn kind r).1, .int .i64 (checkR n f env sl gn kind r).2]) w) := by
  obtain ⟨W0, hW0⟩ : ∃ W, W = w.alloc (.cells #[.int .i64 sl, .int .i64 gn] 30) := ⟨_, rfl⟩
  obtain ⟨bc, hbc⟩ : ∃ b, b = w.heap.size := ⟨_, rfl⟩
  have hs0 : Stay (fun _ => False) w W0 := by rw [hW0]; exact (Stay.refl _ _).alloc _
  have HS0 := hide' hs0
  have hnb : NBox W0 bc ⟨sl, gn⟩ := by rw [hW0]; exact NBox.new ⟨sl, gn⟩ hbc.symm
  have HNB := hide' hnb
  have HT := hide' (ht.keep hs0)
  obtain ⟨b0, b1, _, _⟩ := HNB.out
  simp only at b0 b1
  have HN4 := hide' (fun w (h : TAt w T B n q f) => named34 T B n q f env sl gn w h)
  clear hs0 hnb
  by_cases he : ownE n f env sl gn 0 = 0
  · have HC : Hid (checkR n f env sl gn kind r = if (f sl.toNat).kind = kind then (if r = bits .and .i64 r (f sl.toNat).rights then ((f sl.toNat).obj, 0) else (0, 8)) else (0, 11)) := by show checkR n f env sl gn kind r = _; unfold checkR; rw [if_pos he]
    rw [he] at HN4
    obtain ⟨k, rfl, hk, _⟩ := ownE_zero he
    rw [show nptr B 0 (k : Nat) = .pointer (some ⟨B, k * 6, none⟩) by unfold nptr; rw [if_pos rfl, Int.toNat_natCast]] at HN4
    rw [Int.toNat_natCast] at HC
    have HK := hide' hk
    have HR := hide' hr
    obtain ⟨p, hp⟩ : ∃ p, p = f k := ⟨_, rfl⟩
    have HPB := hide' (fun w (h : TAt w T B n q f) => h.at hk)
    rw [← hp] at HPB HC
    obtain ⟨x, hx⟩ : ∃ x, x = p.kind := ⟨_, rfl⟩
    obtain ⟨o, ho⟩ : ∃ x, x = p.obj := ⟨_, rfl⟩
    obtain ⟨y, hy⟩ : ∃ x, x = p.rights := ⟨_, rfl⟩
    rw [← hx, ← ho, ← hy] at HC
    have HPX : Hid (∀ w, TAt w T B n q f → w.cell? ⟨B, k * 6 + 2, none⟩ = some (.int .i64 x) ∧ w.cell? ⟨B, k * 6 + 3, none⟩ = some (.int .i64 o) ∧ w.cell? ⟨B, k * 6 + 4, none⟩ = some (.int .i64 y)) := fun w h => by
      rw [hx, ho, hy]
      exact ⟨(HPB.out w h).c2, (HPB.out w h).c3, (HPB.out w h).c4⟩
    clear HPB hp hx ho hy he hk hr ht
    by_cases h1 : x = kind
    · have hne : (x != kind) = false := by rw [h1]; simp
      have HC2 := hide' HC.out
      rw [if_pos h1] at HC2
      clear HC
      by_cases h2 : r = bits .and .i64 r y
      · rw [if_pos h2] at HC2
        have hz : bits .andNot .i64 r y = 0 := (andNot_zero HR.out).2 h2.symm
        clear h2
        go_enter Try.func16, Try.ntmps16
        go_upto_region 1 with fail
        rw [← hW0, ← hbc]
        clear hW0 hbc
        go_wp2_with fail
        refine (HN4.out _ HT.out).mono ?_
        rintro _ w1 ⟨rfl, hs1⟩
        have HS1 := hide' (HS0.out.trans hs1)
        have HT1 := hide' (HT.out.keep hs1)
        clear hs1 HN4
        obtain ⟨x2, x3, x4⟩ := HPX.out _ HT1.out
        go_wp2
        go_ret2
        exact ⟨by rw [HC2.out]; first | rfl | simp, HS1.out⟩
      · rw [if_neg h2] at HC2
        have hz : ¬ bits .andNot .i64 r y = 0 := fun h => h2 ((andNot_zero HR.out).1 h).symm
        have hzb : (bits .andNot .i64 r y != 0) = true := bne_iff_ne.2 hz
        clear h2
        go_enter Try.func16, Try.ntmps16
        go_upto_region 1 with fail
        rw [← hW0, ← hbc]
        clear hW0 hbc
        go_wp2_with fail
        refine (HN4.out _ HT.out).mono ?_
        rintro _ w1 ⟨rfl, hs1⟩
        have HS1 := hide' (HS0.out.trans hs1)
        have HT1 := hide' (HT.out.keep hs1)
        clear hs1 HN4
        obtain ⟨x2, x3, x4⟩ := HPX.out _ HT1.out
        go_wp2
        go_ret2
        exact ⟨by rw [HC2.out]; first | rfl | simp, HS1.out⟩
    · have hne : (x != kind) = true := bne_iff_ne.2 h1
      have HC2 := hide' HC.out
      rw [if_neg h1] at HC2
      clear HC
      go_enter Try.func16, Try.ntmps16
      go_upto_region 1 with fail
      rw [← hW0, ← hbc]
      clear hW0 hbc
      go_wp2_with fail
      refine (HN4.out _ HT.out).mono ?_
      rintro _ w1 ⟨rfl, hs1⟩
      have HS1 := hide' (HS0.out.trans hs1)
      have HT1 := hide' (HT.out.keep hs1)
      clear hs1 HN4
      obtain ⟨x2, x3, x4⟩ := HPX.out _ HT1.out
      go_wp2
      go_ret2
      exact ⟨by rw [HC2.out]; first | rfl | simp, HS1.out⟩
  · have HC : Hid (checkR n f env sl gn kind r = (0, ownE n f env sl gn 0)) := by show checkR n f env sl gn kind r = _; unfold checkR; rw [if_neg he]
    obtain ⟨e, hee⟩ : ∃ e, e = ownE n f env sl gn 0 := ⟨_, rfl⟩
    rw [← hee] at HN4 HC he
    have hen : (e != 0) = true := bne_iff_ne.2 he
    rw [show nptr B e sl = .pointer none from if_neg he] at HN4
    clear hee ht
    go_enter Try.func16, Try.ntmps16
    go_upto_region 1 with fail
    rw [← hW0, ← hbc]
    clear hW0 hbc
    go_wp2_with fail
    refine (HN4.out _ HT.out).mono ?_
    rintro _ w1 ⟨rfl, hs1⟩
    have HS1 := hide' (HS0.out.trans hs1)
    have HT1 := hide' (HT.out.keep hs1)
    clear hs1 HN4
    go_wp2
    go_ret2
    exact ⟨by rw [HC.out]; first | rfl | simp, HS1.out⟩

end Go.Proofs.Ytlhfpnfiamgmlaa
