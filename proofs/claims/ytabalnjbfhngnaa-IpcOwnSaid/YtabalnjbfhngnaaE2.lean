/-
  IpcOwn walked: true of any arguments. No conditions.
-/
import Derived.Test.YtabalnjbfhngnaaE1
namespace Go.Proofs.Ytabalnjbfhngnaa
open Go.RowKit

attribute [local go_sem] extract0 extract1

/-- Bytes that may be written. -/
def Wr (w : World) (xa : Option Addr) (n : Nat) : Prop := ∀ j, j < n → ∃ (g cap : Nat) (f : Nat → Value), xa = some ⟨g, 0, none⟩ ∧ w.rowIs g 5 cap f ∧ n ≤ cap ∧ ∀ i, i < n → ∃ z, f i = .int .u8 z

theorem Holds.wr {w : World} {a : Option Addr} {k c : Nat} {l : List Int} (h : Holds w (.slice a k c) l) : Wr w a k := by
  intro j hj
  have hl := h
  rcases h.2 with ⟨h1, h0⟩ | ⟨g, cap, cur, h1, _, hg, hn, _, hs, ht⟩
  · cases h1; omega
  · cases h1
    refine ⟨g, c, fun i => cur[i]?.getD undef, rfl, ⟨cur, hg, by rw [hs, Nat.mul_one], fun i hi => ?_⟩, hn, fun i hi => ?_⟩
    · have hi' : i < cur.size := by rw [hs]; omega
      simp [hi']
    · have hc := hl.cells (g := g) rfl i (.int .u8 (l.getD i 0)) (by unfold bys; rw [List.getElem?_map, List.getElem?_eq_getElem hi, List.getD_eq_getElem?_getD, List.getElem?_eq_getElem hi]; rfl)
      rw [addr_add, Nat.zero_add, cell_of_row w g _ cur 5 (0, 0) hg] at hc
      exact ⟨_, by simp only [hc]; rfl⟩

theorem Wr.stay {T : Nat → Prop} {w w1 : World} {xa : Option Addr} {n : Nat} (h : Wr w xa n) (hs : Stay T w w1) (hn : ∀ g, xa = some ⟨g, 0, none⟩ → ¬ T g) : Wr w1 xa n := fun j hj => by
  obtain ⟨g, cap, f, e, h1, h2, h3⟩ := h j hj
  exact ⟨g, cap, f, e, hs.row h1 (hn g e), h2, h3⟩

theorem Wr.put {w : World} {g cap n i : Nat} {f : Nat → Value} {z : Int} (h1 : w.rowIs g 5 cap f) (h2 : n ≤ cap) (h3 : ∀ i, i < n → ∃ z, f i = .int .u8 z) : Wr (w.setCell ⟨g, i, none⟩ (.int .u8 z)) (some ⟨g, 0, none⟩) n := fun _ _ =>
  ⟨g, cap, _, rfl, h1.set i _, h2, fun j hj => by
    by_cases e : j = i
    · simp only [if_pos e]; exact ⟨z, rfl⟩
    · simp only [if_neg e]; exact h3 j hj⟩

theorem own_long (va vb : Option Addr) (n1 c1 n2 c2 : Nat) (w : World) (h : 100 < n1) : Calls Try.prog 5 #[.slice va n1 c1, .slice vb n2 c2] w (LawTrue w) := by
  have i1 : (100 : Int) < (n1 : Nat) := by omega
  have HAW := hide' awake7
  go_enter Try.func5, Try.ntmps5
  go_wp2_with fail
  refine (HAW.out _).mono ?_
  rintro e w9 ⟨rfl, hs⟩
  have HE := hide' hs
  clear hs
  go_wp2
  go_ret
  exact ⟨rfl, HE.out⟩

theorem own_long2 (va vb : Option Addr) (n1 c1 n2 c2 : Nat) (w : World) (h1 : n1 ≤ 100) (h : 100 < n2) : Calls Try.prog 5 #[.slice va n1 c1, .slice vb n2 c2] w (LawTrue w) := by
  have i1 : ¬ (100 : Int) < (n1 : Nat) := by omega
  have i2 : (100 : Int) < (n2 : Nat) := by omega
  have HAW := hide' awake7
  go_enter Try.func5, Try.ntmps5
  go_wp2_with fail
  refine (HAW.out _).mono ?_
  rintro e w9 ⟨rfl, hs⟩
  have HE := hide' hs
  clear hs
  go_wp2
  go_ret
  exact ⟨rfl, HE.out⟩

/-- A block of a slice. -/
def Blk (a : Option Addr) (j : Nat) : Prop := (Value.slice a 0 0).ownBlock = some j

theorem blk_of {a : Option Addr} {k c j : Nat} : Blk a j → (Value.slice a k c).ownBlock = some j := fun h => by
  cases a with
  | none => cases h
  | some ad => exact h

set_option maxRecDepth 100000 in
theorem own_go (va vb : Option Addr) (n1 c1 n2 c2 : Nat) (la lb : List Int) (w : World) (hA : IArg .u8 w (.slice va n1 c1) la va c1) (hB : IArg .u8 w (.slice vb n2 c2) lb vb c2) (hla : la.length ≤ 100) (hlb : lb.length ≤ 100) (h1 : n1 ≤ 100) (h2 : n2 ≤ 100) : Calls Try.prog 5 #[.slice va n1 c1, .slice vb n2 c2] w (LawTrue w) := by
  have HAW := hide' awake7
  have i1 : ¬ (100 : Int) < (n1 : Nat) := by omega
  have i2 : ¬ (100 : Int) < (n2 : Nat) := by omega
  have HN := hide' (new_in (w0 := w) 3 (Stay.refl _ w) (by decide) (by decide))
  have HRA : Hid (∀ w', Stay (fun _ => False) w w' → IsRow w' (.slice va n1 c1) (bys la)) := fun w' hs => (hA.stay0 hs).row
  have HRB : Hid (∀ w', Stay (fun _ => False) w w' → IsRow w' (.slice vb n2 c2) (bys lb)) := fun w' hs => (hB.stay0 hs).row
  have HBA : Hid (∀ w', Stay (fun _ => False) w w' → Bs w' (.slice va n1 c1) la) := fun w' hs => bs_arg (hA.stay0 hs)
  have HBB : Hid (∀ w', Stay (fun _ => False) w w' → Bs w' (.slice vb n2 c2) lb) := fun w' hs => bs_arg (hB.stay0 hs)
  have HLA : Hid (la.length ≤ 100) := hla
  have HLB : Hid (lb.length ≤ 100) := hlb
  clear hA hB hla hlb h1 h2
  go_enter Try.func5, Try.ntmps5
  go_wp2_with fail
  refine HN.out.mono ?_
  rintro e w1 ⟨q0, rfl, hi, _, _⟩
  obtain ⟨b, hb⟩ : ∃ b, b = q0.b := ⟨_, rfl⟩
  rw [← hb] at hi
  rw [← hb]
  have HS1 := hide' (send_in 1 va n1 c1 la hi (HRA.out _ hi.stay) (by have := HLA.out; omega) (by show 0 < 3; decide))
  clear hi hb HN
  go_wp2_with fail
  refine HS1.out.mono ?_
  rintro e w2 ⟨q1, rfl, hi, _⟩
  have HS2 := hide' (send_in 2 vb n2 c2 lb hi (HRB.out _ hi.stay) (by have := HLB.out; omega) (by show 1 < 3; decide))
  clear hi HS1
  go_wp2_with fail
  refine HS2.out.mono ?_
  rintro e w3 ⟨q2, rfl, hi, _⟩
  have HS3 := hide' (send_in 1 va n1 c1 la hi (HRA.out _ hi.stay) (by have := HLA.out; omega) (by show 2 < 3; decide))
  clear hi HS2
  go_wp2_with fail
  refine HS3.out.mono ?_
  rintro e w4 ⟨q3, rfl, hi, _⟩
  have HT := hide' (take_in (show RIn w w4 b 3 q3 ((1, la) :: [(2, lb), (1, la)]) from hi))
  clear hi HS3 HRA HRB
  go_wp2_with fail
  refine HT.out.mono ?_
  rintro e w5 ⟨q4, xa, xk, xc, rfl, hi, _, hh, hap⟩
  obtain ⟨B5, hB5⟩ : ∃ B, B = w5.heap.size := ⟨_, rfl⟩
  obtain ⟨W5, hW5⟩ : ∃ W, W = w5.alloc (.cells #[.int .i64 1, .slice xa xk xc] 28) := ⟨_, rfl⟩
  have hst5 : Stay (fun _ => False) w5 W5 := by rw [hW5]; exact (Stay.refl _ _).alloc _
  have HMB : Hid (MBox W5 B5 ⟨1, .slice xa xk xc⟩) := by rw [hW5]; exact MBox.new ⟨1, .slice xa xk xc⟩ hB5.symm
  have HI5 := hide' (hi.keep hst5)
  have HWR5 := hide' (hh.keep hst5).wr
  have HX : Hid (∀ j, Blk xa j → w.heap.size ≤ j ∧ ¬ q4.own j ∧ ¬ j = B5) := fun j hj => by
    have h := hap j (blk_of hj)
    have h2 := hh.lt j (blk_of hj)
    exact ⟨h.1, h.2, by omega⟩
  have HBX : Hid (¬ Blk xa B5) := fun e => (HX.out B5 e).2.2 rfl
  have HW5 : Hid (B5 = w5.heap.size ∧ W5 = w5.alloc (.cells #[.int .i64 1, .slice xa xk xc] 28)) := ⟨hB5, hW5⟩
  have xk1 : xk ≤ 100 := by
    have h1 := isRow_len hh.row
    have h2 := HLA.out
    omega
  clear hi hh hap hB5 hW5 hst5 HT
  go_upto_region 7 with fail
  obtain ⟨hB5, hW5⟩ := HW5.out
  rw [← hW5, ← hB5]
  clear hB5 hW5 HW5
  go_wp2_with fail
  go_loopg [8] xk (fun gg v8 wr => ∃ j : Nat, j ≤ xk ∧ gg = xk - j ∧ v8 = .int .i64 (j : Int) ∧ Hid (Stay (Blk xa) W5 wr ∧ Wr wr xa xk))
  case atStart => exact ⟨0, Nat.zero_le _, rfl, rfl, ⟨Stay.refl _ _, HWR5.out⟩⟩
  case round =>
    obtain ⟨j, hj, rfl, rfl, HC⟩ := hrel
    have HM2 := hide' (HMB.out.stay HC.out.1 HBX.out)
    by_cases hlt : j < xk
    · have jn : (j : Int) < (xk : Nat) := by omega
      obtain ⟨g, cap, f, rfl, hrow, hcap, hf⟩ := HC.out.2 j hlt
      obtain ⟨z, hz⟩ := hf j hlt
      have hce := hrow.cell (show j < cap by omega)
      rw [hz] at hce
      have HCE := hide' hce
      have HFR := hide' (hrow.frozen j)
      have HRW := hide' hrow
      have HFF := hide' hf
      have HCP := hide' hcap
      obtain ⟨z2, hz2⟩ : ∃ z2, z2 = IntKind.u8.wrap (z + 1) := ⟨_, rfl⟩
      have e8 := hz2.symm
      obtain ⟨m0, m1, _, _⟩ := HM2.out
      simp only at m0 m1
      have hfr := HFR.out
      clear hz hrow hf hcap hz2
      go_wp2_with fail
      go_still_tail 10, (by kernel_rfl)
      change wpList _ _ _ _ _ wr.drew
      obtain ⟨wd, hwd⟩ : ∃ W, W = wr.drew := ⟨_, rfl⟩
      have hce2 : wd.cell? ⟨g, j, none⟩ = some (.int .u8 z) := by rw [hwd]; exact HCE.out
      have hfr2 : wd.frozen? ⟨g, j, none⟩ = false := by rw [hwd]; exact HFR.out
      have HN : Hid (Stay (Blk (some ⟨g, 0, none⟩)) W5 (wd.setCell ⟨g, j, none⟩ (.int .u8 z2)) ∧ Wr (wd.setCell ⟨g, j, none⟩ (.int .u8 z2)) (some ⟨g, 0, none⟩) xk) := by
        rw [hwd]
        exact ⟨HC.out.1.drew.setCell (p := ⟨g, j, none⟩) rfl _, Wr.put HRW.out.drew HCP.out HFF.out⟩
      rw [← hwd]
      clear hwd m0 m1 hce hfr HC HM2 HCE HFR HRW HFF HCP
      go_wp2
      go_roundg (xk - (j + 1))
      case measure => omega
      case rel => exact ⟨j + 1, by omega, rfl, by go_num, HN⟩
    · have e : j = xk := by omega
      subst e
      have HT := hide' (take_in (HI5.out.beside HC.out.1 (fun j hj => ⟨(HX.out j hj).1, (HX.out j hj).2.1⟩)))
      obtain ⟨_, m1, _, _⟩ := HM2.out
      simp only at m1
      clear HC HM2 HI5 HWR5 HMB hlt xk1 hj
      go_wp2_with fail
      refine HT.out.mono ?_
      rintro e w6 ⟨q5, ya, yk, yc, rfl, hi, _, hh, hap⟩
      obtain ⟨B6, hB6⟩ : ∃ B, B = w6.heap.size := ⟨_, rfl⟩
      obtain ⟨W6, hW6⟩ : ∃ W, W = w6.alloc (.cells #[.int .i64 2, .slice ya yk yc] 28) := ⟨_, rfl⟩
      have hst6 : Stay (fun _ => False) w6 W6 := by rw [hW6]; exact (Stay.refl _ _).alloc _
      have HM6 : Hid (MBox W6 B6 ⟨2, .slice ya yk yc⟩) := by rw [hW6]; exact MBox.new ⟨2, .slice ya yk yc⟩ hB6.symm
      have HH6 := hide' (hh.keep hst6)
      have HAP6 : Hid (∀ j, (Value.slice ya yk yc).ownBlock = some j → ¬ q5.own j) := fun j hj => (hap j hj).2
      have HNB : Hid (¬ q5.own B6) := fun e => by
        have := hi.at'.lt _ e
        omega
      have HT2 := hide' (take_in (hi.keep hst6))
      have HW6 : Hid (B6 = w6.heap.size ∧ W6 = w6.alloc (.cells #[.int .i64 2, .slice ya yk yc] 28)) := ⟨hB6, hW6⟩
      clear hi hh hap hB6 hW6 hst6 HT m1
      go_upto_region 12 with fail
      obtain ⟨hB6, hW6⟩ := HW6.out
      rw [← hW6, ← hB6]
      clear hB6 hW6 HW6
      go_wp2_with fail
      refine HT2.out.mono ?_
      rintro e w7 ⟨q6, za, zk, zc, rfl, hi, hm, hh, _⟩
      obtain ⟨B7, hB7⟩ : ∃ B, B = w7.heap.size := ⟨_, rfl⟩
      obtain ⟨W7, hW7⟩ : ∃ W, W = w7.alloc (.cells #[.int .i64 1, .slice za zk zc] 28) := ⟨_, rfl⟩
      have hst7 : Stay (fun _ => False) w7 W7 := by rw [hW7]; exact (Stay.refl _ _).alloc _
      have HM7 : Hid (MBox W7 B7 ⟨1, .slice za zk zc⟩) := by rw [hW7]; exact MBox.new ⟨1, .slice za zk zc⟩ hB7.symm
      have HM67 := hide' ((HM6.out.stay hm.1 HNB.out).keep hst7)
      have HS7 := hide' (hi.stay.trans hst7)
      have hb6 := ((HH6.out.stay hm.1 HAP6.out).keep hst7).bs
      have hb7 := (hh.keep hst7).bs
      have HSA : Hid (∀ w', Stay (fun _ => False) W7 w' → Calls Try.prog 10 #[.agg #[.int .i64 2, .slice ya yk yc], .agg #[.int .i64 2, .slice vb n2 c2]] w' (Gives (.bool true) w')) := fun w' hs => same10 2 _ _ lb w' (hb6.keep hs) (HBB.out w' (HS7.out.trans hs)) (by have := HLB.out; omega)
      have HSB : Hid (∀ w', Stay (fun _ => False) W7 w' → Calls Try.prog 10 #[.agg #[.int .i64 1, .slice za zk zc], .agg #[.int .i64 1, .slice va n1 c1]] w' (Gives (.bool true) w')) := fun w' hs => same10 1 _ _ la w' (hb7.keep hs) (HBA.out w' (HS7.out.trans hs)) (by have := HLA.out; omega)
      have HW7 : Hid (B7 = w7.heap.size ∧ W7 = w7.alloc (.cells #[.int .i64 1, .slice za zk zc] 28)) := ⟨hB7, hW7⟩
      clear hi hm hh hb6 hb7 hB7 hW7 hst7 HT2 HM6 HH6 HAP6 HNB
      go_upto_region 13 with fail
      obtain ⟨hB7, hW7⟩ := HW7.out
      rw [← hW7, ← hB7]
      clear hB7 hW7 HW7
      obtain ⟨m0, m1, _, _⟩ := HM67.out
      simp only at m0 m1
      go_wp2_with fail
      refine (HSA.out _ (Stay.refl _ _)).mono ?_
      rintro e w8 ⟨rfl, hs⟩
      have HS8 := hide' hs
      have hm8 := HM7.out.keep hs
      clear hs m0 m1 HSA
      obtain ⟨m0, m1, _, _⟩ := hm8
      simp only at m0 m1
      go_wp2_with fail
      refine (HSB.out _ HS8.out).mono ?_
      rintro e w9 ⟨rfl, hs⟩
      have HS9 := hide' (HS7.out.trans (HS8.out.trans hs))
      clear hs m0 m1 HSB HS8
      go_wp2_with fail
      refine (HAW.out _).mono ?_
      rintro e w10 ⟨rfl, hs⟩
      have HS10 := hide' (HS9.out.trans hs)
      clear hs
      go_wp2
      go_ret
      exact ⟨rfl, HS10.out⟩

end Go.Proofs.Ytabalnjbfhngnaa
