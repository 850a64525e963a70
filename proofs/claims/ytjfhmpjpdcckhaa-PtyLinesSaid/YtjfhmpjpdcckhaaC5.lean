/-
  The size of a pair: walked. No conditions.
-/
import Derived.Test.YtjfhmpjpdcckhaaC4
import Derived.BigQuiet
namespace Go.Proofs.Ytjfhmpjpdcckhaa
open Go.RowKit
open L17 L18

/-- May there be n columns? -/
def fitB (n : Int) : Bool := decide (1 ≤ n) && decide (n ≤ 512)

theorem fits25 (n : Int) (w : World) : Calls Try.prog 25 #[.int .i64 n] w (Gives (.bool (fitB n)) w) := by
  have HS := hide' (Stay.refl (fun _ => False) w)
  by_cases h : 1 ≤ n
  · have h1 : decide (1 ≤ n) = true := decide_eq_true h
    go_enter Try.func25, Try.ntmps25
    go_wp2
    go_ret
    exact ⟨ret_bool (by unfold fitB; rw [h1]; rfl), HS.out⟩
  · have h1 : decide (1 ≤ n) = false := decide_eq_false h
    go_enter Try.func25, Try.ntmps25
    go_wp2
    go_ret
    exact ⟨ret_bool (by unfold fitB; rw [h1]; rfl), HS.out⟩

theorem eqlG_nil (a : Addr) (w : World) : (binOp .eql 24 (.pointer (some a)) (.pointer none)).run Try.prog w = .ok (.bool false) w := by
  simp only [binOp]
  have h : (Op.equal 24 (.pointer (some a)) (.pointer none)).run Try.prog w = .ok false w := by
    show (Op.equalIn (9999 + 1) 24 _ _).run Try.prog w = _
    generalize 9999 = d
    simp [Op.equalIn, run_underlying Try.underlying24]
  simp [h]

attribute [local go_sem] eqlG_nil

section
variable {w : World} {g p : Nat} {U : Nat → Prop} {s : Pq}

theorem size15 (h : PAt w g p U s) : Calls Try.prog 15 #[.pointer (some ⟨g, 0, none⟩)] w (Gives (.tuple #[.int .i64 s.w, .int .i64 s.h]) w) := by
  obtain ⟨O, v, hb, hU, _⟩ := h
  have HS := hide' (Stay.refl (fun _ => False) w)
  obtain ⟨c0, c1, c2, c3, c4, c5, c6, c7, c8, _⟩ := hb.box
  simp only at c5 c6
  clear c0 c1 c2 c3 c4 c7 c8 hb hU
  go_enter Try.func15, Try.ntmps15
  go_wp2_with fail
  go_quiet (fail)
  go_wp2
  go_returns
  exact ⟨rfl, HS.out.drewN _⟩

theorem resize14_not (a b : Int) (h : (fitB a && fitB b) = false) (g : Nat) (w : World) : Calls Try.prog 14 #[.pointer (some ⟨g, 0, none⟩), .int .i64 a, .int .i64 b] w (Gives (.tuple #[.bool false, .int .i64 2]) w) := by
  have HA := hide' (fits25 a)
  have HB := hide' (fits25 b)
  have HS := hide' (Stay.refl (fun _ => False) w)
  obtain ⟨x, hx⟩ : ∃ x, x = fitB a := ⟨_, rfl⟩
  obtain ⟨y, hy⟩ : ∃ y, y = fitB b := ⟨_, rfl⟩
  rw [← hx] at HA h
  rw [← hy] at HB h
  clear hx hy
  cases x
  · clear h HB
    go_enter Try.func14, Try.ntmps14
    go_wp2_with fail
    refine (HA.out _).mono ?_
    rintro e w1 ⟨rfl, hs⟩
    have HS1 := hide' (HS.out.trans hs)
    clear hs
    go_wp2
    go_returns
    exact ⟨rfl, HS1.out⟩
  · have h : y = false := h
    subst h
    go_enter Try.func14, Try.ntmps14
    go_wp2_with fail
    refine (HA.out _).mono ?_
    rintro e w1 ⟨rfl, hs⟩
    have HS1 := hide' (HS.out.trans hs)
    clear hs
    go_wp2_with fail
    refine (HB.out _).mono ?_
    rintro e w2 ⟨rfl, hs⟩
    have HS2 := hide' (HS1.out.trans hs)
    clear hs
    go_wp2
    go_returns
    exact ⟨rfl, HS2.out⟩

/-- Is it another size? -/
def othB (s : Pq) (a b : Int) : Bool := !(decide (a = s.w) && decide (b = s.h))

theorem resize14 (a b : Int) (h : PAt w g p U s) (ha : fitB a = true) (hb : fitB b = true) : Calls Try.prog 14 #[.pointer (some ⟨g, 0, none⟩), .int .i64 a, .int .i64 b] w (TurnQ g p U (s.setSize a b) (.tuple #[.bool (othB s a b), .int .i64 0]) w) := by
  have HA : Hid (∀ w, Calls Try.prog 25 #[.int .i64 a] w (Gives (.bool true) w)) := by rw [← ha]; exact fits25 a
  have HB : Hid (∀ w, Calls Try.prog 25 #[.int .i64 b] w (Gives (.bool true) w)) := by rw [← hb]; exact fits25 b
  have HS := hide' (Stay.refl (fun _ => False) w)
  obtain ⟨O, v, hp, hU, _⟩ := h
  have HP := hide' hp
  have HU := hide' hU
  obtain ⟨ot, hot⟩ : ∃ x, x = othB s a b := ⟨_, rfl⟩
  have HOT : Hid (ot = !(decide (a = s.w) && decide (b = s.h))) := hot
  rw [← hot]
  clear ha hb hp hU hot
  go_enter Try.func14, Try.ntmps14
  go_wp2_with fail
  refine (HA.out _).mono ?_
  rintro e w1 ⟨rfl, hs⟩
  have HS1 := hide' (HS.out.trans hs)
  clear hs
  go_wp2_with fail
  refine (HB.out _).mono ?_
  rintro e w2 ⟨rfl, hs⟩
  have HS2 := hide' (HS1.out.trans hs)
  have HP2 := hide' (HP.out.keep HS2.out)
  clear hs HA HB HS HS1 HP
  have hb1 : PB (w2.setCell ⟨g, 5, none⟩ (.int .i64 a)) g p O v (s.setSize a s.h) := HP2.out.boxed (HP2.out.box.put5 rfl) rfl rfl
  have hb2 : PB ((w2.setCell ⟨g, 5, none⟩ (.int .i64 a)).setCell ⟨g, 6, none⟩ (.int .i64 b)) g p O v (s.setSize a b) := hb1.boxed (hb1.box.put6 rfl) rfl rfl
  have HFB := hide' hb2
  have HFS : Hid (Stay (PU g O v) w ((w2.setCell ⟨g, 5, none⟩ (.int .i64 a)).setCell ⟨g, 6, none⟩ (.int .i64 b))) := (HS2.out.mono (T := PU g O v) (fun _ _ h => h.elim)).trans (((at_g w2 g 5 _).trans (at_g _ g 6 _)).mono (fun k _ e => .inl e))
  obtain ⟨c0, c1, c2, c3, c4, c5, c6, c7, c8, f0, f1, f2, f3, f4, f5, f6, f7, f8⟩ := HP2.out.box
  simp only at c5 c6
  clear c0 c1 c2 c3 c4 c7 c8 f0 f1 f2 f3 f4 f7 f8 hb1 hb2
  by_cases k1 : a = s.w
  · by_cases k2 : b = s.h
    · have HO : Hid (ot = false) := by rw [HOT.out, decide_eq_true k1, decide_eq_true k2]; rfl
      have e1 : (a != s.w) = false := by simpa using k1
      have e2 : (b != s.h) = false := by simpa using k2
      clear k1 k2
      go_wp2
      go_returns
      rw [HO.out]
      exact PB.turn HU.out HFB.out HFS.out (fun _ hk => .inl hk)
    · have HO : Hid (ot = true) := by rw [HOT.out, decide_eq_true k1, decide_eq_false k2]; rfl
      have e1 : (a != s.w) = false := by simpa using k1
      have e2 : (b != s.h) = true := by simpa using k2
      clear k1 k2
      go_wp2
      go_returns
      rw [HO.out]
      exact PB.turn HU.out HFB.out HFS.out (fun _ hk => .inl hk)
  · have HO : Hid (ot = true) := by rw [HOT.out, decide_eq_false k1]; rfl
    have e1 : (a != s.w) = true := by simpa using k1
    clear k1
    go_wp2
    go_returns
    rw [HO.out]
    exact PB.turn HU.out HFB.out HFS.out (fun _ hk => .inl hk)

end

end Go.Proofs.Ytjfhmpjpdcckhaa
