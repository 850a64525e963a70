/-
  A pen's parameters, in the document, walked. No conditions.
-/
import Derived.Test.YtinikpadbocfaaaF2
namespace Go.Proofs.Ytinikpadbocfaaa
open Go.RowKit

/-- A row to be appended. -/
def GivesSrc (l : List Int) (w : World) (e : Ending) (w' : World) : Prop := ∃ t, e = .returned t ∧ IsRow w' t (l.map (.int .i64 ·)) ∧ Stay (fun _ => False) w w'

theorem isRow_keep {w w' : World} {t : Value} {xs : List Value} (h : IsRow w t xs) (hs : Stay (fun _ => False) w w') : IsRow w' t xs := by
  rcases h with h | ⟨ad, m, c, h1, h2, h3⟩
  · exact .inl h
  · exact .inr ⟨ad, m, c, h1, h2, fun j u hu => keep_cell hs (h3 j u hu)⟩

theorem told30 (first c : Int) (w : World) (hc : colB c = true) : Calls Try.prog 30 #[.int .i64 first, .int .i64 c] w (GivesSrc (colL first c) w) := by
  unfold colB at hc
  simp only [Bool.or_eq_true, Bool.and_eq_true, decide_eq_true_eq] at hc
  by_cases h0 : c = 0
  · have HL : Hid (colL first c = []) := by
      show _ = _
      unfold colL; rw [if_pos h0]
    subst h0
    clear hc
    go_enter Try.func30, Try.ntmps30
    go_wp2
    go_ret
    exact ⟨_, rfl, by rw [HL.out]; exact .inl ⟨rfl, rfl⟩, Stay.refl _ _⟩
  have d0 : (c == 0) = false := by simpa using h0
  by_cases h1 : c ≤ 256
  · have HL : Hid (colL first c = [first, 5, c - 1]) := by
      show _ = _
      unfold colL; rw [if_neg h0, if_pos h1]
    have c0 : 0 ≤ c := by omega
    clear hc
    go_enter Try.func30, Try.ntmps30
    go_wp2
    go_ret
    exact ⟨_, rfl, by rw [HL.out]; exact isRow_new w #[.int .i64 first, .int .i64 5, .int .i64 (c - 1)] 3, (Stay.refl _ _).alloc _⟩
  · have HL : Hid (colL first c = [first, 2, (c - 16777216) / 65536, (c - 16777216) / 256 % 256, (c - 16777216) % 256]) := by
      show _ = _
      unfold colL; rw [if_neg h0, if_neg h1]
      rw [show c / 256 % 256 = (c - 16777216) / 256 % 256 by omega, show c % 256 = (c - 16777216) % 256 by omega]
    have c0 : 16777216 ≤ c := by omega
    have c9 : c ≤ 33554431 := by omega
    clear hc
    go_enter Try.func30, Try.ntmps30
    go_wp2
    go_ret
    exact ⟨_, rfl, by rw [HL.out]; exact isRow_new w #[.int .i64 first, .int .i64 2, .int .i64 ((c - 16777216) / 65536), .int .i64 ((c - 16777216) / 256 % 256), .int .i64 ((c - 16777216) % 256)] 3, (Stay.refl _ _).alloc _⟩

theorem flags_div : ∀ f : Nat, f < 256 → ∀ n ∈ [(1 : Int), 2, 3, 4, 5, 7, 8, 9], decide ((f : Int) / val n % 2 = 1) = decide (bits .and .i64 (f : Int) (val n) ≠ 0) := by decide +kernel

theorem flags_iff {f n : Int} (h0 : 0 ≤ f) (h1 : f ≤ 255) (hn : n ∈ [(1 : Int), 2, 3, 4, 5, 7, 8, 9]) : f / val n % 2 = 1 ↔ bits .and .i64 f (val n) ≠ 0 := by
  have := flags_div f.toNat (by omega) n hn
  rw [show ((f.toNat : Nat) : Int) = f by omega] at this
  exact decide_eq_decide.1 this

theorem least16_no (p : Pn) (w : World) (h : rightB p = false) : Calls Try.prog 16 #[.agg #[.int .i64 p.fg, .int .i64 p.bg, .int .i64 p.fl]] w (Gives (.slice none 0 0) w) := by
  have HS0 := hide' ((Stay.refl (fun _ => False) w).alloc (.cells #[.int .i64 p.fg, .int .i64 p.bg, .int .i64 p.fl] 23))
  have HB0 := hide' (Box.new (w := w) p rfl)
  have HR := hide' (right10 p)
  rw [h] at HR
  clear h
  go_enter Try.func16, Try.ntmps16
  go_upto_region 1 with fail
  obtain ⟨W, hW⟩ : ∃ W, W = (w.alloc (.cells #[.int .i64 p.fg, .int .i64 p.bg, .int .i64 p.fl] 23)) := ⟨_, rfl⟩
  rw [← hW] at HS0 HB0
  rw [← hW]
  clear hW
  obtain ⟨c0, c1, c2, f0, f1, f2⟩ := HB0.out
  go_wp2_with fail
  refine (HR.out _).mono ?_
  rintro e w1 ⟨rfl, hs⟩
  have HS := hide' (HS0.out.trans hs)
  clear hs c0 c1 c2 f0 f1 f2
  go_wp2
  go_ret
  exact ⟨rfl, HS.out⟩

set_option maxHeartbeats 4000000 in
theorem least16_yes (p : Pn) (w : World) (h : rightB p = true) : Calls Try.prog 16 #[.agg #[.int .i64 p.fg, .int .i64 p.bg, .int .i64 p.fl]] w (GivesRow (leastL p) w) := by
  have HRT := hide' h
  have h' := h
  unfold rightB at h'
  simp only [Bool.and_eq_true, decide_eq_true_eq] at h'
  have HC1 := hide' h'.1.1
  have HC2 := hide' h'.1.2
  obtain ⟨g0, g1⟩ := h'.2
  have HI9 : Hid (∀ n ∈ [(1 : Int), 2, 3, 4, 5, 7, 8, 9], p.fl / val n % 2 = 1 ↔ bits .and .i64 p.fl (val n) ≠ 0) := fun n hn => flags_iff g0 g1 hn
  have HS0 := hide' ((Stay.refl (fun _ => False) w).alloc (.cells #[.int .i64 p.fg, .int .i64 p.bg, .int .i64 p.fl] 23))
  have HB0 := hide' (Box.new (w := w) p rfl)
  have HR := hide' (right10 p)
  rw [h] at HR
  clear h h'
  go_enter Try.func16, Try.ntmps16
  go_upto_region 1 with fail
  obtain ⟨W, hW⟩ : ∃ W, W = (w.alloc (.cells #[.int .i64 p.fg, .int .i64 p.bg, .int .i64 p.fl] 23)) := ⟨_, rfl⟩
  rw [← hW] at HS0 HB0
  rw [← hW]
  clear hW
  obtain ⟨c0, c1, c2, f0, f1, f2⟩ := HB0.out
  go_wp2_with fail
  refine (HR.out _).mono ?_
  rintro e w1 ⟨rfl, hs⟩
  have HI0 : Hid (LsIn w (w1.alloc (.cells #[.int .i64 0] 3)) p 0 (.slice (some ⟨w1.heap.size, 0, none⟩) 1 1)) := by
    refine ⟨?_, (HB0.out.keep hs).alloc _, (HS0.out.trans hs).alloc _, ?_⟩
    · have := ownsRow_base (owns_new w1 #[.int .i64 0] 3 (by unfold maxLen; simp)) (show w.heap.size + 1 ≤ w1.heap.size from Nat.le_trans HB0.out.lt hs.size)
      simpa [show flagsUp p.fl 0 = [] from rfl] using this
    · have := hs.size
      have := HB0.out.lt
      simp
      omega
  clear hs c0 c1 c2 f0 f1 f2 HS0 HB0
  go_upto_region 5 with fail
  obtain ⟨W1, hW1⟩ : ∃ W1, W1 = (w1.alloc (.cells #[.int .i64 0] 3)) := ⟨_, rfl⟩
  rw [← hW1] at HI0
  rw [← hW1]
  clear hW1
  go_loopg [3, 4] 9 (fun g t i wr => ∃ k : Nat, k ≤ 9 ∧ g = 9 - k ∧ i = .int .i64 ((k : Int) + 1) ∧ Hid (LsIn w wr p k t))
  case atStart => exact ⟨0, Nat.zero_le _, rfl, rfl, HI0.out⟩
  case round =>
    obtain ⟨k, hk, rfl, rfl, HI⟩ := hrel
    obtain ⟨c0, c1, c2, f0, f1, f2⟩ := HI.out.box
    have HL := hide' (flagsUp_len p.fl k)
    have hk9 : k = 0 ∨ k = 1 ∨ k = 2 ∨ k = 3 ∨ k = 4 ∨ k = 5 ∨ k = 6 ∨ k = 7 ∨ k = 8 ∨ k = 9 := by omega
    rcases hk9 with rfl | rfl | rfl | rfl | rfl | rfl | rfl | rfl | rfl | rfl
    · have HV := hide' (value25 1)
      rw [show val 1 = 1 by decide] at HV
      have hi := HI9.out 1 (by decide)
      rw [show val 1 = 1 by decide] at hi
      by_cases hz : p.fl / 1 % 2 = 1
      · have HZ : Hid (bits .and .i64 p.fl (val (((0 : Nat) : Int) + 1)) ≠ 0) := show _ ≠ _ from by rw [show val (((0 : Nat) : Int) + 1) = 1 by decide]; exact hi.1 hz
        have d : (p.fl / 1 % 2 == 1) = true := by simpa using hz
        clear hi hz
        go_wp2_with fail
        refine (HV.out _).mono ?_
        rintro e w2 ⟨rfl, hs⟩
        have HI2 := hide' (HI.out.moved hs)
        clear hs c0 c1 c2 f0 f1 f2
        obtain ⟨c0, c1, c2, f0, f1, f2⟩ := HI2.out.box
        have HR := hide' (isRow_new w2 #[.int .i64 1] 3)
        have HO2 := hide' (own_new HI2.out.own (.cells #[.int .i64 1] 3))
        have HNE := hide' (own_base HI2.out.own)
        have hsz := HI2.out.size
        go_wp2_with (at_builtin; refine appL (fun j => w.heap.size + 1 ≤ j) rfl _ _ 24 rfl Try.underlying24 Try.info3 rfl (by decide) HO2.out rfl HR.out rfl (by intro u hu; simp at hu; rcases hu with rfl; rfl) (by have := HL.out; simp; omega) (by simp; omega) HNE.out ?_; intro t2 w3 ho3 hs3; have HI3 := hide' (HI2.out.grown (k := 0) HZ.out ho3 rfl (((Stay.refl _ w2).alloc _).trans hs3)); clear ho3 hs3)
        go_roundg (9 - (0 + 1))
        case rel => exact ⟨0 + 1, by omega, rfl, by go_num, HI3.out⟩
        case measure => omega
      · have HZ : Hid (bits .and .i64 p.fl (val (((0 : Nat) : Int) + 1)) = 0) := show _ = _ from by
          rw [show val (((0 : Nat) : Int) + 1) = 1 by decide]
          apply Classical.byContradiction
          intro hne
          exact hz (hi.2 hne)
        have d : (p.fl / 1 % 2 == 1) = false := by simpa using hz
        clear hi hz
        go_wp2_with fail
        refine (HV.out _).mono ?_
        rintro e w2 ⟨rfl, hs⟩
        have HI2 := hide' (HI.out.moved hs)
        clear hs c0 c1 c2 f0 f1 f2
        obtain ⟨c0, c1, c2, f0, f1, f2⟩ := HI2.out.box
        go_wp2
        go_roundg (9 - (0 + 1))
        case rel => exact ⟨0 + 1, by omega, rfl, by go_num, HI2.out.no HZ.out⟩
        case measure => omega
    · have HV := hide' (value25 2)
      rw [show val 2 = 2 by decide] at HV
      have hi := HI9.out 2 (by decide)
      rw [show val 2 = 2 by decide] at hi
      by_cases hz : p.fl / 2 % 2 = 1
      · have HZ : Hid (bits .and .i64 p.fl (val (((1 : Nat) : Int) + 1)) ≠ 0) := show _ ≠ _ from by rw [show val (((1 : Nat) : Int) + 1) = 2 by decide]; exact hi.1 hz
        have d : (p.fl / 2 % 2 == 1) = true := by simpa using hz
        clear hi hz
        go_wp2_with fail
        refine (HV.out _).mono ?_
        rintro e w2 ⟨rfl, hs⟩
        have HI2 := hide' (HI.out.moved hs)
        clear hs c0 c1 c2 f0 f1 f2
        obtain ⟨c0, c1, c2, f0, f1, f2⟩ := HI2.out.box
        have HR := hide' (isRow_new w2 #[.int .i64 2] 3)
        have HO2 := hide' (own_new HI2.out.own (.cells #[.int .i64 2] 3))
        have HNE := hide' (own_base HI2.out.own)
        have hsz := HI2.out.size
        go_wp2_with (at_builtin; refine appL (fun j => w.heap.size + 1 ≤ j) rfl _ _ 24 rfl Try.underlying24 Try.info3 rfl (by decide) HO2.out rfl HR.out rfl (by intro u hu; simp at hu; rcases hu with rfl; rfl) (by have := HL.out; simp; omega) (by simp; omega) HNE.out ?_; intro t2 w3 ho3 hs3; have HI3 := hide' (HI2.out.grown (k := 1) HZ.out ho3 rfl (((Stay.refl _ w2).alloc _).trans hs3)); clear ho3 hs3)
        go_roundg (9 - (1 + 1))
        case rel => exact ⟨1 + 1, by omega, rfl, by go_num, HI3.out⟩
        case measure => omega
      · have HZ : Hid (bits .and .i64 p.fl (val (((1 : Nat) : Int) + 1)) = 0) := show _ = _ from by
          rw [show val (((1 : Nat) : Int) + 1) = 2 by decide]
          apply Classical.byContradiction
          intro hne
          exact hz (hi.2 hne)
        have d : (p.fl / 2 % 2 == 1) = false := by simpa using hz
        clear hi hz
        go_wp2_with fail
        refine (HV.out _).mono ?_
        rintro e w2 ⟨rfl, hs⟩
        have HI2 := hide' (HI.out.moved hs)
        clear hs c0 c1 c2 f0 f1 f2
        obtain ⟨c0, c1, c2, f0, f1, f2⟩ := HI2.out.box
        go_wp2
        go_roundg (9 - (1 + 1))
        case rel => exact ⟨1 + 1, by omega, rfl, by go_num, HI2.out.no HZ.out⟩
        case measure => omega
    · have HV := hide' (value25 3)
      rw [show val 3 = 4 by decide] at HV
      have hi := HI9.out 3 (by decide)
      rw [show val 3 = 4 by decide] at hi
      by_cases hz : p.fl / 4 % 2 = 1
      · have HZ : Hid (bits .and .i64 p.fl (val (((2 : Nat) : Int) + 1)) ≠ 0) := show _ ≠ _ from by rw [show val (((2 : Nat) : Int) + 1) = 4 by decide]; exact hi.1 hz
        have d : (p.fl / 4 % 2 == 1) = true := by simpa using hz
        clear hi hz
        go_wp2_with fail
        refine (HV.out _).mono ?_
        rintro e w2 ⟨rfl, hs⟩
        have HI2 := hide' (HI.out.moved hs)
        clear hs c0 c1 c2 f0 f1 f2
        obtain ⟨c0, c1, c2, f0, f1, f2⟩ := HI2.out.box
        have HR := hide' (isRow_new w2 #[.int .i64 3] 3)
        have HO2 := hide' (own_new HI2.out.own (.cells #[.int .i64 3] 3))
        have HNE := hide' (own_base HI2.out.own)
        have hsz := HI2.out.size
        go_wp2_with (at_builtin; refine appL (fun j => w.heap.size + 1 ≤ j) rfl _ _ 24 rfl Try.underlying24 Try.info3 rfl (by decide) HO2.out rfl HR.out rfl (by intro u hu; simp at hu; rcases hu with rfl; rfl) (by have := HL.out; simp; omega) (by simp; omega) HNE.out ?_; intro t2 w3 ho3 hs3; have HI3 := hide' (HI2.out.grown (k := 2) HZ.out ho3 rfl (((Stay.refl _ w2).alloc _).trans hs3)); clear ho3 hs3)
        go_roundg (9 - (2 + 1))
        case rel => exact ⟨2 + 1, by omega, rfl, by go_num, HI3.out⟩
        case measure => omega
      · have HZ : Hid (bits .and .i64 p.fl (val (((2 : Nat) : Int) + 1)) = 0) := show _ = _ from by
          rw [show val (((2 : Nat) : Int) + 1) = 4 by decide]
          apply Classical.byContradiction
          intro hne
          exact hz (hi.2 hne)
        have d : (p.fl / 4 % 2 == 1) = false := by simpa using hz
        clear hi hz
        go_wp2_with fail
        refine (HV.out _).mono ?_
        rintro e w2 ⟨rfl, hs⟩
        have HI2 := hide' (HI.out.moved hs)
        clear hs c0 c1 c2 f0 f1 f2
        obtain ⟨c0, c1, c2, f0, f1, f2⟩ := HI2.out.box
        go_wp2
        go_roundg (9 - (2 + 1))
        case rel => exact ⟨2 + 1, by omega, rfl, by go_num, HI2.out.no HZ.out⟩
        case measure => omega
    · have HV := hide' (value25 4)
      rw [show val 4 = 8 by decide] at HV
      have hi := HI9.out 4 (by decide)
      rw [show val 4 = 8 by decide] at hi
      by_cases hz : p.fl / 8 % 2 = 1
      · have HZ : Hid (bits .and .i64 p.fl (val (((3 : Nat) : Int) + 1)) ≠ 0) := show _ ≠ _ from by rw [show val (((3 : Nat) : Int) + 1) = 8 by decide]; exact hi.1 hz
        have d : (p.fl / 8 % 2 == 1) = true := by simpa using hz
        clear hi hz
        go_wp2_with fail
        refine (HV.out _).mono ?_
        rintro e w2 ⟨rfl, hs⟩
        have HI2 := hide' (HI.out.moved hs)
        clear hs c0 c1 c2 f0 f1 f2
        obtain ⟨c0, c1, c2, f0, f1, f2⟩ := HI2.out.box
        have HR := hide' (isRow_new w2 #[.int .i64 4] 3)
        have HO2 := hide' (own_new HI2.out.own (.cells #[.int .i64 4] 3))
        have HNE := hide' (own_base HI2.out.own)
        have hsz := HI2.out.size
        go_wp2_with (at_builtin; refine appL (fun j => w.heap.size + 1 ≤ j) rfl _ _ 24 rfl Try.underlying24 Try.info3 rfl (by decide) HO2.out rfl HR.out rfl (by intro u hu; simp at hu; rcases hu with rfl; rfl) (by have := HL.out; simp; omega) (by simp; omega) HNE.out ?_; intro t2 w3 ho3 hs3; have HI3 := hide' (HI2.out.grown (k := 3) HZ.out ho3 rfl (((Stay.refl _ w2).alloc _).trans hs3)); clear ho3 hs3)
        go_roundg (9 - (3 + 1))
        case rel => exact ⟨3 + 1, by omega, rfl, by go_num, HI3.out⟩
        case measure => omega
      · have HZ : Hid (bits .and .i64 p.fl (val (((3 : Nat) : Int) + 1)) = 0) := show _ = _ from by
          rw [show val (((3 : Nat) : Int) + 1) = 8 by decide]
          apply Classical.byContradiction
          intro hne
          exact hz (hi.2 hne)
        have d : (p.fl / 8 % 2 == 1) = false := by simpa using hz
        clear hi hz
        go_wp2_with fail
        refine (HV.out _).mono ?_
        rintro e w2 ⟨rfl, hs⟩
        have HI2 := hide' (HI.out.moved hs)
        clear hs c0 c1 c2 f0 f1 f2
        obtain ⟨c0, c1, c2, f0, f1, f2⟩ := HI2.out.box
        go_wp2
        go_roundg (9 - (3 + 1))
        case rel => exact ⟨3 + 1, by omega, rfl, by go_num, HI2.out.no HZ.out⟩
        case measure => omega
    · have HV := hide' (value25 5)
      rw [show val 5 = 16 by decide] at HV
      have hi := HI9.out 5 (by decide)
      rw [show val 5 = 16 by decide] at hi
      by_cases hz : p.fl / 16 % 2 = 1
      · have HZ : Hid (bits .and .i64 p.fl (val (((4 : Nat) : Int) + 1)) ≠ 0) := show _ ≠ _ from by rw [show val (((4 : Nat) : Int) + 1) = 16 by decide]; exact hi.1 hz
        have d : (p.fl / 16 % 2 == 1) = true := by simpa using hz
        clear hi hz
        go_wp2_with fail
        refine (HV.out _).mono ?_
        rintro e w2 ⟨rfl, hs⟩
        have HI2 := hide' (HI.out.moved hs)
        clear hs c0 c1 c2 f0 f1 f2
        obtain ⟨c0, c1, c2, f0, f1, f2⟩ := HI2.out.box
        have HR := hide' (isRow_new w2 #[.int .i64 5] 3)
        have HO2 := hide' (own_new HI2.out.own (.cells #[.int .i64 5] 3))
        have HNE := hide' (own_base HI2.out.own)
        have hsz := HI2.out.size
        go_wp2_with (at_builtin; refine appL (fun j => w.heap.size + 1 ≤ j) rfl _ _ 24 rfl Try.underlying24 Try.info3 rfl (by decide) HO2.out rfl HR.out rfl (by intro u hu; simp at hu; rcases hu with rfl; rfl) (by have := HL.out; simp; omega) (by simp; omega) HNE.out ?_; intro t2 w3 ho3 hs3; have HI3 := hide' (HI2.out.grown (k := 4) HZ.out ho3 rfl (((Stay.refl _ w2).alloc _).trans hs3)); clear ho3 hs3)
        go_roundg (9 - (4 + 1))
        case rel => exact ⟨4 + 1, by omega, rfl, by go_num, HI3.out⟩
        case measure => omega
      · have HZ : Hid (bits .and .i64 p.fl (val (((4 : Nat) : Int) + 1)) = 0) := show _ = _ from by
          rw [show val (((4 : Nat) : Int) + 1) = 16 by decide]
          apply Classical.byContradiction
          intro hne
          exact hz (hi.2 hne)
        have d : (p.fl / 16 % 2 == 1) = false := by simpa using hz
        clear hi hz
        go_wp2_with fail
        refine (HV.out _).mono ?_
        rintro e w2 ⟨rfl, hs⟩
        have HI2 := hide' (HI.out.moved hs)
        clear hs c0 c1 c2 f0 f1 f2
        obtain ⟨c0, c1, c2, f0, f1, f2⟩ := HI2.out.box
        go_wp2
        go_roundg (9 - (4 + 1))
        case rel => exact ⟨4 + 1, by omega, rfl, by go_num, HI2.out.no HZ.out⟩
        case measure => omega
    · have HV := hide' (value25 6)
      rw [show val 6 = 0 by decide] at HV
      have HZ : Hid (bits .and .i64 p.fl (val (((5 : Nat) : Int) + 1)) = 0) := show _ = _ from by rw [show val (((5 : Nat) : Int) + 1) = 0 by decide]; exact and_zero _
      go_wp2_with fail
      refine (HV.out _).mono ?_
      rintro e w2 ⟨rfl, hs⟩
      have HI2 := hide' (HI.out.moved hs)
      clear hs c0 c1 c2 f0 f1 f2
      obtain ⟨c0, c1, c2, f0, f1, f2⟩ := HI2.out.box
      go_wp2
      go_roundg (9 - (5 + 1))
      case rel => exact ⟨5 + 1, by omega, rfl, by go_num, HI2.out.no HZ.out⟩
      case measure => omega
    · have HV := hide' (value25 7)
      rw [show val 7 = 32 by decide] at HV
      have hi := HI9.out 7 (by decide)
      rw [show val 7 = 32 by decide] at hi
      by_cases hz : p.fl / 32 % 2 = 1
      · have HZ : Hid (bits .and .i64 p.fl (val (((6 : Nat) : Int) + 1)) ≠ 0) := show _ ≠ _ from by rw [show val (((6 : Nat) : Int) + 1) = 32 by decide]; exact hi.1 hz
        have d : (p.fl / 32 % 2 == 1) = true := by simpa using hz
        clear hi hz
        go_wp2_with fail
        refine (HV.out _).mono ?_
        rintro e w2 ⟨rfl, hs⟩
        have HI2 := hide' (HI.out.moved hs)
        clear hs c0 c1 c2 f0 f1 f2
        obtain ⟨c0, c1, c2, f0, f1, f2⟩ := HI2.out.box
        have HR := hide' (isRow_new w2 #[.int .i64 7] 3)
        have HO2 := hide' (own_new HI2.out.own (.cells #[.int .i64 7] 3))
        have HNE := hide' (own_base HI2.out.own)
        have hsz := HI2.out.size
        go_wp2_with (at_builtin; refine appL (fun j => w.heap.size + 1 ≤ j) rfl _ _ 24 rfl Try.underlying24 Try.info3 rfl (by decide) HO2.out rfl HR.out rfl (by intro u hu; simp at hu; rcases hu with rfl; rfl) (by have := HL.out; simp; omega) (by simp; omega) HNE.out ?_; intro t2 w3 ho3 hs3; have HI3 := hide' (HI2.out.grown (k := 6) HZ.out ho3 rfl (((Stay.refl _ w2).alloc _).trans hs3)); clear ho3 hs3)
        go_roundg (9 - (6 + 1))
        case rel => exact ⟨6 + 1, by omega, rfl, by go_num, HI3.out⟩
        case measure => omega
      · have HZ : Hid (bits .and .i64 p.fl (val (((6 : Nat) : Int) + 1)) = 0) := show _ = _ from by
          rw [show val (((6 : Nat) : Int) + 1) = 32 by decide]
          apply Classical.byContradiction
          intro hne
          exact hz (hi.2 hne)
        have d : (p.fl / 32 % 2 == 1) = false := by simpa using hz
        clear hi hz
        go_wp2_with fail
        refine (HV.out _).mono ?_
        rintro e w2 ⟨rfl, hs⟩
        have HI2 := hide' (HI.out.moved hs)
        clear hs c0 c1 c2 f0 f1 f2
        obtain ⟨c0, c1, c2, f0, f1, f2⟩ := HI2.out.box
        go_wp2
        go_roundg (9 - (6 + 1))
        case rel => exact ⟨6 + 1, by omega, rfl, by go_num, HI2.out.no HZ.out⟩
        case measure => omega
    · have HV := hide' (value25 8)
      rw [show val 8 = 64 by decide] at HV
      have hi := HI9.out 8 (by decide)
      rw [show val 8 = 64 by decide] at hi
      by_cases hz : p.fl / 64 % 2 = 1
      · have HZ : Hid (bits .and .i64 p.fl (val (((7 : Nat) : Int) + 1)) ≠ 0) := show _ ≠ _ from by rw [show val (((7 : Nat) : Int) + 1) = 64 by decide]; exact hi.1 hz
        have d : (p.fl / 64 % 2 == 1) = true := by simpa using hz
        clear hi hz
        go_wp2_with fail
        refine (HV.out _).mono ?_
        rintro e w2 ⟨rfl, hs⟩
        have HI2 := hide' (HI.out.moved hs)
        clear hs c0 c1 c2 f0 f1 f2
        obtain ⟨c0, c1, c2, f0, f1, f2⟩ := HI2.out.box
        have HR := hide' (isRow_new w2 #[.int .i64 8] 3)
        have HO2 := hide' (own_new HI2.out.own (.cells #[.int .i64 8] 3))
        have HNE := hide' (own_base HI2.out.own)
        have hsz := HI2.out.size
        go_wp2_with (at_builtin; refine appL (fun j => w.heap.size + 1 ≤ j) rfl _ _ 24 rfl Try.underlying24 Try.info3 rfl (by decide) HO2.out rfl HR.out rfl (by intro u hu; simp at hu; rcases hu with rfl; rfl) (by have := HL.out; simp; omega) (by simp; omega) HNE.out ?_; intro t2 w3 ho3 hs3; have HI3 := hide' (HI2.out.grown (k := 7) HZ.out ho3 rfl (((Stay.refl _ w2).alloc _).trans hs3)); clear ho3 hs3)
        go_roundg (9 - (7 + 1))
        case rel => exact ⟨7 + 1, by omega, rfl, by go_num, HI3.out⟩
        case measure => omega
      · have HZ : Hid (bits .and .i64 p.fl (val (((7 : Nat) : Int) + 1)) = 0) := show _ = _ from by
          rw [show val (((7 : Nat) : Int) + 1) = 64 by decide]
          apply Classical.byContradiction
          intro hne
          exact hz (hi.2 hne)
        have d : (p.fl / 64 % 2 == 1) = false := by simpa using hz
        clear hi hz
        go_wp2_with fail
        refine (HV.out _).mono ?_
        rintro e w2 ⟨rfl, hs⟩
        have HI2 := hide' (HI.out.moved hs)
        clear hs c0 c1 c2 f0 f1 f2
        obtain ⟨c0, c1, c2, f0, f1, f2⟩ := HI2.out.box
        go_wp2
        go_roundg (9 - (7 + 1))
        case rel => exact ⟨7 + 1, by omega, rfl, by go_num, HI2.out.no HZ.out⟩
        case measure => omega
    · have HV := hide' (value25 9)
      rw [show val 9 = 128 by decide] at HV
      have hi := HI9.out 9 (by decide)
      rw [show val 9 = 128 by decide] at hi
      by_cases hz : p.fl / 128 % 2 = 1
      · have HZ : Hid (bits .and .i64 p.fl (val (((8 : Nat) : Int) + 1)) ≠ 0) := show _ ≠ _ from by rw [show val (((8 : Nat) : Int) + 1) = 128 by decide]; exact hi.1 hz
        have d : (p.fl / 128 % 2 == 1) = true := by simpa using hz
        clear hi hz
        go_wp2_with fail
        refine (HV.out _).mono ?_
        rintro e w2 ⟨rfl, hs⟩
        have HI2 := hide' (HI.out.moved hs)
        clear hs c0 c1 c2 f0 f1 f2
        obtain ⟨c0, c1, c2, f0, f1, f2⟩ := HI2.out.box
        have HR := hide' (isRow_new w2 #[.int .i64 9] 3)
        have HO2 := hide' (own_new HI2.out.own (.cells #[.int .i64 9] 3))
        have HNE := hide' (own_base HI2.out.own)
        have hsz := HI2.out.size
        go_wp2_with (at_builtin; refine appL (fun j => w.heap.size + 1 ≤ j) rfl _ _ 24 rfl Try.underlying24 Try.info3 rfl (by decide) HO2.out rfl HR.out rfl (by intro u hu; simp at hu; rcases hu with rfl; rfl) (by have := HL.out; simp; omega) (by simp; omega) HNE.out ?_; intro t2 w3 ho3 hs3; have HI3 := hide' (HI2.out.grown (k := 8) HZ.out ho3 rfl (((Stay.refl _ w2).alloc _).trans hs3)); clear ho3 hs3)
        go_roundg (9 - (8 + 1))
        case rel => exact ⟨8 + 1, by omega, rfl, by go_num, HI3.out⟩
        case measure => omega
      · have HZ : Hid (bits .and .i64 p.fl (val (((8 : Nat) : Int) + 1)) = 0) := show _ = _ from by
          rw [show val (((8 : Nat) : Int) + 1) = 128 by decide]
          apply Classical.byContradiction
          intro hne
          exact hz (hi.2 hne)
        have d : (p.fl / 128 % 2 == 1) = false := by simpa using hz
        clear hi hz
        go_wp2_with fail
        refine (HV.out _).mono ?_
        rintro e w2 ⟨rfl, hs⟩
        have HI2 := hide' (HI.out.moved hs)
        clear hs c0 c1 c2 f0 f1 f2
        obtain ⟨c0, c1, c2, f0, f1, f2⟩ := HI2.out.box
        go_wp2
        go_roundg (9 - (8 + 1))
        case rel => exact ⟨8 + 1, by omega, rfl, by go_num, HI2.out.no HZ.out⟩
        case measure => omega
    · have HT1 := hide' (fun w => told30 38 p.fg w HC1.out)
      have HT2 := hide' (fun w => told30 48 p.bg w HC2.out)
      go_wp2_with fail
      refine (HT1.out _).mono ?_
      rintro e w2 ⟨t2, rfl, hr2, hs2⟩
      have HI2 := hide' (HI.out.moved hs2)
      have HR2 := hide' hr2
      have HO2 := hide' HI2.out.own
      have HNE := hide' (own_base HI2.out.own)
      have hsz := HI2.out.size
      have hl2 := colL_len 38 p.fg
      have hl3 := colL_len 48 p.bg
      clear hs2 hr2 c0 c1 c2 f0 f1 f2
      obtain ⟨c0, c1, c2, f0, f1, f2⟩ := HI2.out.box
      go_wp2_with (at_builtin; refine appL (fun j => w.heap.size + 1 ≤ j) rfl _ _ 24 rfl Try.underlying24 Try.info3 rfl (by decide) HO2.out rfl HR2.out rfl (one_ints _ _) (by have := HL.out; simp; omega) hsz HNE.out ?_; intro t3 w3 ho3 hs3; have HO3 := hide' ho3; have HS3 := hide' hs3; have HB3 := hide' (HI2.out.box.stay hs3 (by omega)); clear ho3 hs3 c0 c1 c2 f0 f1 f2; obtain ⟨c0, c1, c2, f0, f1, f2⟩ := HB3.out; go_wp2_with fail)
      refine (HT2.out _).mono ?_
      rintro e w4 ⟨t4, rfl, hr4, hs4⟩
      have HR4 := hide' hr4
      have HO4 := hide' (hs4.owns HO3.out (fun _ _ h => h))
      have HNE4 := hide' (own_base HO4.out)
      have HS4 := hide' hs4
      have hsz4 : w.heap.size + 1 ≤ w4.heap.size := Nat.le_trans hsz (Nat.le_trans HS3.out.size hs4.size)
      clear hr4 hs4
      go_wp2_with (at_builtin; refine appL (fun j => w.heap.size + 1 ≤ j) rfl _ _ 24 rfl Try.underlying24 Try.info3 rfl (by decide) HO4.out rfl HR4.out rfl (one_ints _ _) (by have := HL.out; simp; omega) hsz4 HNE4.out ?_; intro t5 w5 ho5 hs5; have HO5 := hide' ho5; have HS5 := hide' hs5; clear ho5 hs5)
      go_ret
      refine least_end HRT.out HI2.out HS3.out ((HS4.out.mono (T := fun k => w.heap.size + 1 ≤ k) (fun _ _ h => h.elim)).trans HS5.out) ?_
      have ho := HO5.out
      have e : ((0 :: flagsUp p.fl 9) ++ colL 38 p.fg ++ colL 48 p.bg).map (Value.int .i64 ·) = (0 :: flagsUp p.fl 9).map (Value.int .i64 ·) ++ (colL 38 p.fg).map (Value.int .i64 ·) ++ (colL 48 p.bg).map (Value.int .i64 ·) := by rw [List.map_append, List.map_append]
      rw [e]
      have hn := ho.1
      have : ((0 :: flagsUp p.fl 9) ++ colL 38 p.fg ++ colL 48 p.bg).length = (0 :: flagsUp p.fl 9).length + ((colL 38 p.fg).map (Value.int .i64 ·)).length + ((colL 48 p.bg).map (Value.int .i64 ·)).length := by simp; omega
      rw [this]
      exact ho

end Go.Proofs.Ytinikpadbocfaaa
