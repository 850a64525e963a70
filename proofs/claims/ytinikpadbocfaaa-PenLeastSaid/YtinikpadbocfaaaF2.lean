/-
  A pen's parameters, walked. No conditions.
-/
import Derived.Test.YtinikpadbocfaaaF1
namespace Go.Proofs.Ytinikpadbocfaaa
open Go.RowKit

theorem colL_w64 {first c : Int} (hf : W64 first) (hc : colB c = true) : ∀ x ∈ colL first c, W64 x := by
  unfold colB at hc
  simp only [Bool.or_eq_true, Bool.and_eq_true, decide_eq_true_eq] at hc
  unfold W64 at hf
  intro x hx
  unfold colL at hx
  unfold W64
  split at hx
  · simp at hx
  · split at hx
    · simp at hx
      omega
    · simp at hx
      omega

theorem flagsL_w64 (f : Int) : ∀ x ∈ flagsL f, W64 x := by
  intro x hx
  unfold flagsL at hx
  have := (List.mem_filter.1 hx).1
  simp at this
  unfold W64
  omega

theorem flagsL_len (f : Int) : (flagsL f).length ≤ 9 := by
  unfold flagsL
  exact Nat.le_trans (List.length_filter_le _ _) (by simp)

theorem leastL_w64 {p : Pn} (hr : rightB p = true) : ∀ x ∈ leastL p, W64 x := by
  have h := hr
  unfold rightB at h
  simp only [Bool.and_eq_true] at h
  intro x hx
  unfold leastL at hx
  rw [if_pos hr] at hx
  simp only [List.cons_append, List.mem_cons, List.mem_append, List.append_assoc] at hx
  rcases hx with rfl | hx | hx | hx
  · unfold W64; omega
  · exact flagsL_w64 _ _ hx
  · exact colL_w64 (by unfold W64; omega) h.1.1 x hx
  · exact colL_w64 (by unfold W64; omega) h.1.2 x hx

theorem leastL_len (p : Pn) : (leastL p).length ≤ 20 := by
  unfold leastL
  split
  · have := flagsL_len p.fl
    have := colL_len 38 p.fg
    have := colL_len 48 p.bg
    simp
    omega
  · simp

theorem and_zero (f : Int) : bits .and .i64 f 0 = 0 := by
  show IntKind.i64.wrap ((BitVec.ofInt 64 f &&& BitVec.ofInt 64 0).toNat : Nat) = 0
  rw [show BitVec.ofInt 64 0 = 0#64 by decide]
  simp
  decide

theorem least15_no (p : Pn) (w : World) (h : rightB p = false) : Calls Try.prog 15 #[.agg #[.int .i64 p.fg, .int .i64 p.bg, .int .i64 p.fl]] w (Gives (.slice none 0 0) w) := by
  have HS0 := hide' ((Stay.refl (fun _ => False) w).alloc (.cells #[.int .i64 p.fg, .int .i64 p.bg, .int .i64 p.fl] 23))
  have HB0 := hide' (Box.new (w := w) p rfl)
  have HR := hide' (right9 p)
  rw [h] at HR
  clear h
  go_enter Try.func15, Try.ntmps15
  go_upto_region 1 with fail
  obtain ⟨W, hW⟩ : ∃ W, W = (w.alloc (.cells #[.int .i64 p.fg, .int .i64 p.bg, .int .i64 p.fl] 23)) := ⟨_, rfl⟩
  rw [← hW] at HS0 HB0
  rw [← hW]
  clear hW
  obtain ⟨c0, c1, c2, f0, f1, f2⟩ := HB0.out
  go_wp2_with fail
  refine (HR.out _).mono ?_
  rintro e w1 ⟨rfl, hs⟩
  have HS := hide' (HS0.out.trans hs)
  clear hs c0 c1 c2 f0 f1 f2
  go_wp2
  go_ret
  exact ⟨rfl, HS.out⟩

/-- Two colours are added behind the flags. -/
theorem least_end {w wr w1 w2 : World} {p : Pn} {t t3 : Value} (hr : rightB p = true) (h : LsIn w wr p 9 t) (h1 : Stay (fun k => w.heap.size + 1 ≤ k) wr w1) (h2 : Stay (fun k => w.heap.size + 1 ≤ k) w1 w2)
    (ho : w2.ownsRow (w.heap.size + 1) 3 1 t3 ((0 :: flagsUp p.fl 9) ++ colL 38 p.fg ++ colL 48 p.bg).length (((0 :: flagsUp p.fl 9) ++ colL 38 p.fg ++ colL 48 p.bg).map (.int .i64 ·))) : GivesRow (leastL p) w (.returned t3) w2 := by
  have e : (0 :: flagsUp p.fl 9) ++ colL 38 p.fg ++ colL 48 p.bg = leastL p := by
    rw [flagsUp_nine]; unfold leastL; rw [if_pos hr]
  rw [e] at ho
  have h3 := h1.trans h2
  exact ⟨_, rfl, row_owned ho (leastL_w64 hr), ⟨h3.os.trans h.stay.os, h3.tape.trans h.stay.tape, h3.output.trans h.stay.output, Nat.le_trans h.stay.size h3.size, fun i hi _ => (h3.block i (Nat.lt_of_lt_of_le hi h.stay.size) (by omega)).trans (h.stay.block i hi (fun h => h))⟩⟩

set_option maxHeartbeats 2000000 in
theorem least15_yes (p : Pn) (w : World) (h : rightB p = true) : Calls Try.prog 15 #[.agg #[.int .i64 p.fg, .int .i64 p.bg, .int .i64 p.fl]] w (GivesRow (leastL p) w) := by
  have HRT := hide' h
  have h' := h
  unfold rightB at h'
  simp only [Bool.and_eq_true] at h'
  have HC1 := hide' h'.1.1
  have HC2 := hide' h'.1.2
  have HS0 := hide' ((Stay.refl (fun _ => False) w).alloc (.cells #[.int .i64 p.fg, .int .i64 p.bg, .int .i64 p.fl] 23))
  have HB0 := hide' (Box.new (w := w) p rfl)
  have HR := hide' (right9 p)
  rw [h] at HR
  clear h h'
  go_enter Try.func15, Try.ntmps15
  go_upto_region 1 with fail
  obtain ⟨W, hW⟩ : ∃ W, W = (w.alloc (.cells #[.int .i64 p.fg, .int .i64 p.bg, .int .i64 p.fl] 23)) := ⟨_, rfl⟩
  rw [← hW] at HS0 HB0
  rw [← hW]
  clear hW
  obtain ⟨c0, c1, c2, f0, f1, f2⟩ := HB0.out
  go_wp2_with fail
  refine (HR.out _).mono ?_
  rintro e w1 ⟨rfl, hs⟩
  have HI0 : Hid (LsIn w (w1.alloc (.cells #[.int .i64 0] 3)) p 0 (.slice (some ⟨w1.heap.size, 0, none⟩) 1 1)) := by
    refine ⟨?_, (HB0.out.keep hs).alloc _, (HS0.out.trans hs).alloc _, ?_⟩
    · have := ownsRow_base (owns_new w1 #[.int .i64 0] 3 (by unfold maxLen; simp)) (show w.heap.size + 1 ≤ w1.heap.size from Nat.le_trans HB0.out.lt hs.size)
      simpa [show flagsUp p.fl 0 = [] from rfl] using this
    · have := hs.size
      have := HB0.out.lt
      simp
      omega
  clear hs c0 c1 c2 f0 f1 f2 HS0 HB0
  go_upto_region 5 with fail
  obtain ⟨W1, hW1⟩ : ∃ W1, W1 = (w1.alloc (.cells #[.int .i64 0] 3)) := ⟨_, rfl⟩
  rw [← hW1] at HI0
  rw [← hW1]
  clear hW1
  go_loopg [3, 4] 9 (fun g t i wr => ∃ k : Nat, k ≤ 9 ∧ g = 9 - k ∧ i = .int .i64 ((k : Int) + 1) ∧ Hid (LsIn w wr p k t))
  case atStart => exact ⟨0, Nat.zero_le _, rfl, rfl, HI0.out⟩
  case round =>
    obtain ⟨k, hk, rfl, rfl, HI⟩ := hrel
    obtain ⟨c0, c1, c2, f0, f1, f2⟩ := HI.out.box
    by_cases hlt : k < 9
    · have kz : (k : Int) < 9 := by omega
      have k0 : (0 : Int) ≤ k := by omega
      have HL := hide' (flagsUp_len p.fl k)
      obtain ⟨v, hv⟩ : ∃ v, v = val ((k : Int) + 1) := ⟨_, rfl⟩
      have HF := hide' (flag28 ((k : Int) + 1))
      rw [← hv] at HF
      by_cases hz : bits .and .i64 p.fl v = 0
      · have HZ : Hid (bits .and .i64 p.fl (val ((k : Int) + 1)) = 0) := show _ = _ from by rw [← hv]; exact hz
        have d : (bits .and .i64 p.fl v != 0) = false := by simpa using hz
        clear hz hv
        go_wp2_with fail
        refine wp_region_still_lit (by kernel_rfl) (by kernel_rfl) ?_
        repeat still_step
        still_call ((HF.out _).mono (fun _ _ h => ⟨h.1, h.2.symm⟩))
        repeat still_step
        refine wpStill_nil ?_
        have HI2 := hide' ((HI.out.no HZ.out).moved (Stay.refl _ _).drew)
        go_wp2
        go_roundg (9 - (k + 1))
        case rel => exact ⟨k + 1, by omega, rfl, by go_num, HI2.out⟩
        case measure => omega
      · have HZ : Hid (bits .and .i64 p.fl (val ((k : Int) + 1)) ≠ 0) := show _ ≠ _ from by rw [← hv]; exact hz
        have d : (bits .and .i64 p.fl v != 0) = true := by simpa using hz
        clear hz hv
        go_wp2_with fail
        refine wp_region_still_lit (by kernel_rfl) (by kernel_rfl) ?_
        repeat still_step
        still_call ((HF.out _).mono (fun _ _ h => ⟨h.1, h.2.symm⟩))
        repeat still_step
        refine wpStill_nil ?_
        have HI2 := hide' (HI.out.moved (Stay.refl _ _).drew)
        obtain ⟨W2, hW2⟩ : ∃ W2, W2 = wr.drew := ⟨_, rfl⟩
        rw [← hW2] at HI2
        change Exit.then _ _ _ _ wr.drew
        rw [← hW2]
        have HR := hide' (isRow_new W2 #[.int .i64 ((k : Int) + 1)] 3)
        have HO2 := hide' (own_new HI2.out.own (.cells #[.int .i64 ((k : Int) + 1)] 3))
        have HNE := hide' (own_base HI2.out.own)
        have hsz := HI2.out.size
        clear hW2 c0 c1 c2 f0 f1 f2
        go_wp2_with (at_builtin; refine appL (fun j => w.heap.size + 1 ≤ j) rfl _ _ 24 rfl Try.underlying24 Try.info3 rfl (by decide) HO2.out rfl HR.out rfl (by intro u hu; simp at hu; rcases hu with rfl; rfl) (by have := HL.out; simp; omega) (by simp; omega) HNE.out ?_; intro t2 w3 ho3 hs3; have HI3 := hide' (HI2.out.grown HZ.out ho3 rfl (((Stay.refl _ W2).alloc _).trans hs3)); clear ho3 hs3)
        go_roundg (9 - (k + 1))
        case rel => exact ⟨k + 1, by omega, rfl, by go_num, HI3.out⟩
        case measure => omega
    · have hk9 : k = 9 := by omega
      subst hk9
      have HL := hide' (flagsUp_len p.fl 9)
      have HA1 := hide' (add29 _ _ 38 p.fg _ wr HI.out.own (by have := HL.out; simp; omega) HI.out.size HC1.out)
      go_wp2_with fail
      refine HA1.out.mono ?_
      rintro e w2 ⟨t2, rfl, ho2, hs2⟩
      have HB2 := hide' (HI.out.box.stay hs2 (by omega))
      have HA2 := hide' (add29 _ _ 48 p.bg _ w2 ho2 (by have := HL.out; have := colL_len 38 p.fg; simp; omega) (Nat.le_trans HI.out.size hs2.size) HC2.out)
      have HS2 := hide' hs2
      clear ho2 hs2 c0 c1 c2 f0 f1 f2 HA1
      obtain ⟨c0, c1, c2, f0, f1, f2⟩ := HB2.out
      go_wp2_with fail
      refine HA2.out.mono ?_
      rintro e w3 ⟨t3, rfl, ho3, hs3⟩
      have HE := hide' (least_end HRT.out HI.out HS2.out hs3 ho3)
      clear ho3 hs3 HA2
      go_wp2
      go_ret
      exact HE.out

end Go.Proofs.Ytinikpadbocfaaa
