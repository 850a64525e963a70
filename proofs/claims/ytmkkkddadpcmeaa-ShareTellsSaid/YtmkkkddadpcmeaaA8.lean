/-
  Shares of cells: what the call hands back, in whatever world, of 1 to 64 weights whose quotas are fixed and small, where the library's stable sort does as it is said to.
-/
import Derived.Test.YtmkkkddadpcmeaaA7
namespace Go.Proofs.Ytmkkkddadpcmeaa
open Go.RowKit

def quoF (N : Nat) (T : Nat → Nat) (n j : Nat) : Nat := (floatBits .quo .f64 ((floatBits .mul .f64 (floatOfInt .f64 (N : Int)) (T j)).getD 0) (sumTo T n)).getD 0
def whoF (q : Nat) : Nat := ((floatToIntVal .f64 (flo q) .i64).getD 0).toNat
def restF (q : Nat) : Nat := (floatBits .sub .f64 q (flo q)).getD 0

/-- All that is reckoned on the way is fixed by the numbers, and small. -/
structure Fine (N : Nat) (T : Nat → Nat) (n : Nat) : Prop where
  add : ∀ j, j < n → (floatBits .add .f64 (sumTo T j) (T j)).isSome = true
  mul : ∀ j, j < n → (floatBits .mul .f64 (floatOfInt .f64 (N : Int)) (T j)).isSome = true
  quo : ∀ j, j < n → (floatBits .quo .f64 ((floatBits .mul .f64 (floatOfInt .f64 (N : Int)) (T j)).getD 0) (sumTo T n)).isSome = true
  num : ∀ j, j < n → (FloatKind.f64.decode (quoF N T n j)).isNaN = false
  who : ∀ j, j < n → floatToIntVal .f64 (flo (quoF N T n j)) .i64 = some (whoF (quoF N T n j) : Int) ∧ whoF (quoF N T n j) < 2147483648
  sub : ∀ j, j < n → (floatBits .sub .f64 (quoF N T n j) (flo (quoF N T n j))).isSome = true

theorem some_getD {o : Option Nat} (h : o.isSome = true) : o = some (o.getD 0) := by
  cases o with
  | none => cases h
  | some x => rfl

theorem restF_lt (q : Nat) : restF q < 18446744073709551616 := by
  unfold restF
  cases h : floatBits .sub .f64 q (flo q) with
  | none => decide
  | some r =>
    have := floatBits_wf h
    simpa [Lit.wf] using this

/-- How many of the first i turns are place j's. -/
def turnsTo (E : Nat → Nat) (n : Nat) : Nat → Nat → Nat
  | 0, _ => 0
  | i + 1, j => turnsTo E n i j + if E (i % n) = j then 1 else 0

/-- The places in their order, and the shares by them. -/
structure Order (n : Nat) (R E : Nat → Nat) : Prop where
  all : ∀ v, (∃ k, k < n ∧ E k = v) ↔ v < n
  chain : Chain (cfR R) 0 n E

def shareF (N : Nat) (T : Nat → Nat) (n : Nat) (E : Nat → Nat) (j : Nat) : Nat :=
  outAt N (fun i => whoF (quoF N T n i)) j + turnsTo E n (leftAt N (fun i => whoF (quoF N T n i)) n) j

theorem turnsTo_le (E : Nat → Nat) (n i j : Nat) : turnsTo E n i j ≤ i := by
  induction i with
  | zero => exact Nat.le_refl _
  | succ i ih =>
    unfold turnsTo
    split <;> omega

theorem leftAt_le (N : Nat) (k : Nat → Nat) (j : Nat) : leftAt N k j ≤ N := by
  induction j with
  | zero => exact Nat.le_refl _
  | succ j ih => unfold leftAt; omega

structure DealIn (w wr : World) (O TB n i : Nat) (o E : Nat → Nat) : Prop where
  row : wr.rowIs O 3 n (il fun j => o j + turnsTo E n i j)
  turns : wr.rowIs TB 3 n (il E)
  below : Below w.heap.size w wr

theorem DealIn.step {w wr : World} {O TB n i : Nat} {o E : Nat → Nat} (h : DealIn w wr O TB n i o E) (hO : w.heap.size ≤ O) (hne : O ≠ TB) :
    DealIn w (wr.setCell ⟨O, E (i % n), none⟩ (.int .i64 ((o (E (i % n)) + turnsTo E n i (E (i % n)) + 1 : Nat) : Int))) O TB n (i + 1) o E :=
  ⟨(h.row.set _ _).congr fun j _ => by
      show (if j = _ then _ else _) = _
      simp only [il, turnsTo]
      by_cases e : j = E (i % n)
      · subst e; simp; omega
      · rw [if_neg e, if_neg (fun e' => e e'.symm)]; rfl,
   h.turns.setOther (fun e => hne e.symm) _, h.below.setCell hO _⟩

set_option maxHeartbeats 1000000 in
theorem shares_any (f : Nat → Nat) (b off n N cap : Nat) (w : World) (hn : n ≤ 64) (h0 : 0 < n) (hN : N ≤ 512) (hS : SortAt n) (hF : Fine N (tog f n) n)
    (hc : ∀ j, j < n → w.cell? ⟨b, off + j, none⟩ = some (.float .f64 (f j))) :
    Calls Try.prog 17 #[.int .i64 (N : Int), .slice (some ⟨b, off, none⟩) n cap] w fun e w' =>
      ∃ B E, w.heap.size ≤ B ∧ e = .returned (.slice (some ⟨B, 0, none⟩) n n) ∧ Order n (fun j => restF (quoF N (tog f n) n j)) E ∧ w'.rowIs B 3 n (il (shareF N (tog f n) n E)) ∧ Below w.heap.size w w' := by
  have HT := hide' (together_any f b off n cap w hn h0 hc)
  obtain ⟨T, hT⟩ : ∃ T, T = tog f n := ⟨_, rfl⟩
  rw [← hT] at hF HT ⊢
  clear hT
  have HN := hide' hn
  have HN2 := hide' hN
  have HS := hide' hS
  have HF := hide' hF
  have hz : ((n : Int) == 0) = false := by simp; omega
  have hNz : (N : Int) ≤ 512 := by omega
  have h00 : ¬ (512 : Int) < N := by omega
  clear hS hF hn hc
  go_enter Try.func17, Try.ntmps17
  go_wp2_with fail
  refine HT.out.mono ?_
  rintro e w1 ⟨B1, hB1, rfl, hr1, hb1⟩
  have HR1 := hide' hr1
  have HB1 := hide' hb1
  have HL1 := hide' hB1
  have hP := parted_any T (quoF N T n) B1 0 n N n w1 HN.out (fun j hj => by have := hr1.cell hj; simpa using this)
    (fun j hj => some_getD (HF.out.add j hj)) (fun j hj => ⟨_, some_getD (HF.out.mul j hj), some_getD (HF.out.quo j hj)⟩)
  have HP := hide' hP
  clear hr1 hb1 hB1 hP
  go_wp2_with fail
  refine HP.out.mono ?_
  rintro e w2 ⟨B2, hB2, rfl, hr2, hb2⟩
  have HR2 := hide' hr2
  have HB2 := hide' hb2
  have HL2 := hide' hB2
  have hW := wholes_any (quoF N T n) (fun j => whoF (quoF N T n j)) B2 0 n N n w2 HN.out HN2.out (fun j hj => by have := hr2.cell hj; simpa using this) (fun j hj => ⟨HF.out.num j hj, HF.out.who j hj⟩)
  have HW := hide' hW
  clear hr2 hb2 hB2 hW
  go_wp2_with fail
  refine HW.out.mono ?_
  rintro e w3 ⟨rfl, hr3, hb3⟩
  have HR3 := hide' hr3
  have HB3 := hide' hb3
  have hR := byrest_any (quoF N T n) (fun j => restF (quoF N T n j)) B2 0 n n w3 HN.out HS.out
    (fun j hj => by have := (hb3.cell (p := ⟨B2, j, none⟩) HR2.out.lt).trans (HR2.out.cell hj); simpa using this) (fun j hj => ⟨HF.out.num j hj, some_getD (HF.out.sub j hj)⟩) (fun j => restF_lt _)
  have HR := hide' hR
  clear hr3 hb3 hR
  go_wp2_with fail
  refine HR.out.mono ?_
  rintro e w4 ⟨B4, E, hB4, rfl, hr4, hp4, hch, hb4⟩
  obtain ⟨L, hL⟩ : ∃ L, L = leftAt N (fun j => whoF (quoF N T n j)) n := ⟨_, rfl⟩
  rw [← hL]
  have HL := hide' hL
  have HE : Hid (Order n (fun j => restF (quoF N T n j)) E) := ⟨hp4, hch⟩
  have hlt3 := HR3.out.lt
  have hD : Hid (DealIn w w4 w2.heap.size B4 n 0 (outAt N fun j => whoF (quoF N T n j)) E) :=
    ⟨(HR3.out.of_block (hb4.block _ hlt3)).congr fun j _ => by simp [il, il', turnsTo], hr4,
     ((HB1.out.trans (HB2.out.mono HB1.out.size)).trans (HB3.out.mono (Nat.le_trans HB1.out.size HB2.out.size))).trans (hb4.mono (Nat.le_trans HB1.out.size (Nat.le_trans HB2.out.size HB3.out.size)))⟩
  have hO : Hid (w.heap.size ≤ w2.heap.size ∧ w2.heap.size ≠ B4) := ⟨Nat.le_trans HB1.out.size HB2.out.size, by omega⟩
  have hlL : L ≤ 512 := by
    rw [hL]; exact Nat.le_trans (leftAt_le _ _ _) hN
  clear hB4 hr4 hp4 hch hb4 hL hlt3
  go_wp2_with fail
  go_loopg [34] L (fun g i wr => ∃ j : Nat, j ≤ L ∧ g = L - j ∧ i = .int .i64 (j : Int) ∧ DealIn w wr w2.heap.size B4 n j (outAt N fun j => whoF (quoF N T n j)) E)
  case atStart => exact ⟨0, Nat.zero_le _, rfl, rfl, hD.out⟩
  case round =>
    obtain ⟨i, hi, rfl, rfl, hI⟩ := hrel
    have HI := hide' hI
    by_cases hlt : i < L
    · have hm : i % n < n := Nat.mod_lt _ h0
      have c1 : wr.cell? ⟨B4, i % n, none⟩ = some (.int .i64 (E (i % n) : Int)) := hI.turns.cell hm
      have hE : E (i % n) < n := (HE.out.all _).1 ⟨_, hm, rfl⟩
      obtain ⟨x, hx⟩ : ∃ x, x = outAt N (fun j => whoF (quoF N T n j)) (E (i % n)) + turnsTo E n i (E (i % n)) := ⟨_, rfl⟩
      have c2 : wr.cell? ⟨w2.heap.size, E (i % n), none⟩ = some (.int .i64 (x : Int)) := by rw [hx]; exact hI.row.cell hE
      have hx5 : (x : Int) ≤ 1024 := by
        have h1 := turnsTo_le E n i (E (i % n))
        have h2 : outAt N (fun j => whoF (quoF N T n j)) (E (i % n)) ≤ N := Nat.le_trans (Nat.min_le_right _ _) (leftAt_le _ _ _)
        have := HN2.out
        omega
      have HX := hide' hx
      clear hx
      have f2 : wr.frozen? ⟨w2.heap.size, E (i % n), none⟩ = false := hI.row.frozen _
      have hmz : ((i % n : Nat) : Int) < (n : Int) := by omega
      have hEz : (E (i % n) : Int) < (n : Int) := by omega
      clear hI
      go_wp2
      go_roundg (L - (i + 1))
      case measure => omega
      case rel => exact ⟨i + 1, by omega, rfl, by go_num, by have := HI.out.step hO.out.1 hO.out.2; rw [← HX.out] at this; simpa using this⟩
    · have e : i = L := by omega
      subst e
      clear hI
      go_wp2
      go_ret
      refine ⟨w2.heap.size, E, hO.out.1, rfl, HE.out, HI.out.row.congr fun j _ => ?_, HI.out.below⟩
      show il _ j = il _ j
      simp only [il, shareF]
      rw [← HL.out]

end Go.Proofs.Ytmkkkddadpcmeaa
