/-
  The library's merge in place where one side is one place: what the call does, in whatever world in which the row lies by itself.
-/
import Derived.Test.YtmkkkddadpcmeaaH0
namespace Go.Proofs.Ytmkkkddadpcmeaa
open Go.RowKit

/-- What a merge does. -/
def Merged (cf : Nat → Nat → Int) (w w' : World) (B n a b : Nat) (D : Nat → Nat) : Prop := ∃ E, SW w w' B n E ∧ PermW a b D E ∧ Chain cf a b E

theorem Cmp.le_lt {cf : Nat → Nat → Int} (h : Cmp cf) {x y z : Nat} (h1 : cf x y ≤ 0) (h2 : cf y z < 0) : cf x z < 0 := by
  have a1 := h.trans x y z h1 (by omega)
  have a2 := h.trans z x y
  have b1 := h.anti x z
  have b2 := h.anti y z
  omega
theorem Cmp.lt_le {cf : Nat → Nat → Int} (h : Cmp cf) {x y z : Nat} (h1 : cf x y < 0) (h2 : cf y z ≤ 0) : cf x z < 0 := by
  have a1 := h.trans x y z (by omega) h2
  have a2 := h.trans y z x
  have b1 := h.anti x z
  have b2 := h.anti x y
  omega
theorem Prec.le {cf : Nat → Nat → Int} {x y : Nat} (h : Prec cf x y) : cf x y ≤ 0 := by unfold Prec at h; omega

theorem left_step (D : Nat → Nat) (a k : Nat) (h : a ≤ k) : swf (rot D a (a + 1) (k + 1)) k (k + 1) = rot D a (a + 1) (k + 2) := by
  funext x
  unfold swf rot
  by_cases e1 : x = k
  · rw [if_pos e1, if_neg (by omega), if_neg (by omega), if_pos (by omega)]
    congr 1; omega
  · rw [if_neg e1]
    by_cases e2 : x = k + 1
    · rw [if_pos e2, if_neg (by omega), if_pos (by omega), if_neg (by omega), if_pos (by omega)]
      congr 1; omega
    · rw [if_neg e2]
      by_cases e3 : a ≤ x ∧ x < a + (k + 1 - (a + 1))
      · rw [if_pos e3, if_pos (by omega)]
      · rw [if_neg e3, if_neg (by omega), if_neg (by omega), if_neg (by omega)]

theorem rot_same (D : Nat → Nat) (l m : Nat) (_h : l ≤ m) : rot D l m m = D := by
  funext x
  unfold rot
  rw [if_neg (by omega)]
  by_cases e : l + (m - m) ≤ x ∧ x < m
  · rw [if_pos e]; congr 1; omega
  · rw [if_neg e]

theorem left_done {cf : Nat → Nat → Int} (hc : Cmp cf) {a b i : Nat} {D : Nat → Nat} (hi : a + 1 ≤ i) (hib : i ≤ b) (h2 : Chain cf (a + 1) b D) (hl : Less a (a + 1) b D)
    (lo : ∀ h, a + 1 ≤ h → h < i → cf (D h) (D a) < 0) (hi2 : ∀ h, i ≤ h → h < b → ¬ cf (D h) (D a) < 0) : Chain cf a b (rot D a (a + 1) i) := by
  have r1 : ∀ k, a ≤ k → k < i - 1 → rot D a (a + 1) i k = D (k + 1) := fun k k1 k2 => by unfold rot; rw [if_pos (by omega)]; congr 1; omega
  have r2 : rot D a (a + 1) i (i - 1) = D a := by unfold rot; rw [if_neg (by omega), if_pos (by omega)]; congr 1; omega
  have r3 : ∀ k, i ≤ k → rot D a (a + 1) i k = D k := fun k k1 => by unfold rot; rw [if_neg (by omega), if_neg (by omega)]
  intro x y x1 xy y1
  by_cases ex : x < i - 1
  · rw [r1 x x1 ex]
    by_cases ey : y < i - 1
    · rw [r1 y (by omega) ey]; exact h2 _ _ (by omega) (by omega) (by omega)
    · by_cases ey2 : y = i - 1
      · subst ey2; rw [r2]; exact Or.inl (lo _ (by omega) (by omega))
      · rw [r3 y (by omega)]; exact h2 _ _ (by omega) (by omega) y1
  · rw [r3 y (by omega)]
    by_cases ex2 : x = i - 1
    · subst ex2
      rw [r2]
      have q1 := hi2 y (by omega) y1
      have q2 := hc.anti (D y) (D a)
      have q3 := hl a y (Nat.le_refl _) (by omega) (by omega) y1
      unfold Prec; omega
    · rw [r3 x (by omega)]; exact h2 x y (by omega) xy y1

set_option maxHeartbeats 4000000 in
set_option maxRecDepth 1000000 in
theorem sym_left (g : Nat) (lb : Array Value) (cf : Nat → Nat → Int) (B n m a b cap : Nat) (D : Nat → Nat) (w w0 : World) (hab : a + 1 ≤ b) (hb : b ≤ n) (hn : n ≤ 64)
    (eg : ∀ args w, (callFunc g args).run Try.prog w = .ok (.enter g args) w) (hcf : Cmp cf) (hcmp : CmpOk g lb cf B m w) (hSW : SW w w0 B n D) (hm : ∀ k, a ≤ k → k < b → D k < m)
    (h2 : Chain cf (a + 1) b D) (hl : Less a (a + 1) b D) :
    Calls Try.prog 50 #[.slice (some ⟨B, 0, none⟩) n cap, .int .i64 (a : Int), .int .i64 ((a + 1 : Nat) : Int), .int .i64 (b : Int), .func (.func g) #[] lb] w0 fun e w' =>
      e = .returned (.tuple #[]) ∧ Hid (Merged cf w w' B n a b D) := by
  have HC := hide' hcf
  have HM := hide' hcmp
  have HS := hide' hSW
  have HL := hide' hm
  have H2 := hide' h2
  have HLS := hide' hl
  have d1 : ((a + 1 : Nat) : Int) - (a : Int) = 1 := by omega
  have wd1 : IntKind.i64.wrap (((a + 1 : Nat) : Int) - (a : Int)) = 1 := by rw [IntKind.wrap_i64]; omega
  obtain ⟨m1, hm1⟩ : ∃ m1, m1 = a + 1 := ⟨_, rfl⟩
  rw [← hm1] at d1 wd1 ⊢
  have M1 := hide' hm1
  clear hcf hcmp hSW hm h2 hl hm1
  go_enter Try.func50, Try.ntmps50
  go_wp2
  go_loopg [10, 11] b (fun gg vi vj wr => ∃ i j : Nat, vi = .int .i64 (i : Int) ∧ vj = .int .i64 (j : Int) ∧ m1 ≤ i ∧ i ≤ j ∧ j ≤ b ∧ j - i ≤ gg ∧ Hid (SW w wr B n D) ∧ Hid (∀ h, m1 ≤ h → h < i → cf (D h) (D a) < 0) ∧ Hid (∀ h, j ≤ h → h < b → ¬ cf (D h) (D a) < 0))
  case atStart => exact ⟨m1, b, rfl, rfl, Nat.le_refl _, by have := M1.out; omega, Nat.le_refl _, by omega, HS, fun h h1 h2 => by omega, fun h h1 h2 => by omega⟩
  case round =>
    obtain ⟨i, j, rfl, rfl, hi, hij, hj, hg, HW, LO, HI⟩ := hrel
    by_cases hlt : i < j
    · have hltz : (i : Int) < (j : Int) := by omega
      have hs0 : (0 : Int) ≤ (i : Int) + (j : Int) := by omega
      have hs1 : (i : Int) + (j : Int) ≤ 128 := by omega
      obtain ⟨h, hh⟩ : ∃ h, h = (i + j) / 2 := ⟨_, rfl⟩
      have eh : ((i : Int) + (j : Int)) / 2 = (h : Int) := by omega
      have hih : i ≤ h := by omega
      have hhj : h < j := by omega
      have hza : (a : Int) < (n : Int) := by omega
      have hzh : (h : Int) < (n : Int) := by omega
      clear hh
      have ca : wr.cell? ⟨B, a, none⟩ = some (.int .i64 (D a : Int)) := HW.out.row.cell (by omega)
      have ch : wr.cell? ⟨B, h, none⟩ = some (.int .i64 (D h : Int)) := HW.out.row.cell (by omega)
      have hc := fun q => HM.out (wr.drewN q) (HW.out.drewN q).only (D h) (D a) (HL.out h (by have := M1.out; omega) (by omega)) (HL.out a (by omega) (by omega))
      by_cases hlv : cf (D h) (D a) < 0
      · have LO2 : Hid (∀ x, m1 ≤ x → x < h + 1 → cf (D x) (D a) < 0) := fun x x1 x2 => by
          by_cases e : x = h
          · subst e; exact hlv
          · -- ahead of h: by the order
            exact HC.out.le_lt (H2.out x h (by have := M1.out; omega) (by omega) (by omega)).le hlv
        go_wp2_with fail
        go_quiet ((go_at_fn g; exact Calls.quiet_of (hc _)))
        go_wp2
        go_roundg (j - (h + 1))
        case measure => omega
        case rel => exact ⟨h + 1, j, by go_num, rfl, by omega, by omega, hj, Nat.le_refl _, HW.out.drewN _, LO2, HI⟩
      · have HI2 : Hid (∀ x, h ≤ x → x < b → ¬ cf (D x) (D a) < 0) := fun x x1 x2 => by
          by_cases e : x = h
          · subst e; exact hlv
          · intro hx
            exact hlv (HC.out.le_lt (H2.out h x (by have := M1.out; omega) (by omega) x2).le hx)
        go_wp2_with fail
        go_quiet ((go_at_fn g; exact Calls.quiet_of (hc _)))
        go_wp2
        go_roundg (h - i)
        case measure => omega
        case rel => exact ⟨i, h, rfl, rfl, hi, hih, by omega, Nat.le_refl _, HW.out.drewN _, LO, HI2⟩
    · have e : i = j := by omega
      subst e
      have hi1 : (1 : Int) ≤ (i : Int) := by have := M1.out; omega
      have HF : Hid (Chain cf a b (rot D a (a + 1) i)) := left_done HC.out (by have := M1.out; omega) hj H2.out HLS.out (fun h h1 h2 => LO.out h (by have := M1.out; omega) h2) HI.out
      have HP : Hid (PermW a b D (rot D a (a + 1) i)) := rot_perm D a b a (a + 1) i (Nat.le_refl _) (by omega) (by have := M1.out; omega) hj
      have hai : a + 1 ≤ i := by have := M1.out; omega
      go_wp2
      go_loopg [13] i (fun gg vk wr => ∃ k : Nat, vk = .int .i64 (k : Int) ∧ a ≤ k ∧ k + 1 ≤ i ∧ i - k ≤ gg ∧ Hid (SW w wr B n (rot D a (a + 1) (k + 1))))
      case atStart => exact ⟨a, rfl, Nat.le_refl _, hai, by omega, by rw [rot_same D a (a + 1) (by omega)]; exact HW⟩
      case round =>
        clear HW LO HI
        obtain ⟨k, rfl, hak, hki, hgk, HW⟩ := hrel
        by_cases hlt2 : k + 1 < i
        · have hlt2z : (k : Int) < (i : Int) - 1 := by omega
          obtain ⟨x1, hx1⟩ : ∃ x, x = rot D a (a + 1) (k + 1) k := ⟨_, rfl⟩
          obtain ⟨x0, hx0⟩ : ∃ x, x = rot D a (a + 1) (k + 1) (k + 1) := ⟨_, rfl⟩
          obtain ⟨k1, hk1⟩ : ∃ j1, j1 = k + 1 := ⟨_, rfl⟩
          have cj : wr.cell? ⟨B, k, none⟩ = some (.int .i64 (x1 : Int)) := by rw [hx1]; exact HW.out.row.cell (by omega)
          have cp : wr.cell? ⟨B, k1, none⟩ = some (.int .i64 (x0 : Int)) := by rw [hx0, hk1]; exact HW.out.row.cell (by omega)
          have fj : wr.frozen? ⟨B, k, none⟩ = false := HW.out.row.frozen _
          have fp : wr.frozen? ⟨B, k1, none⟩ = false := HW.out.row.frozen _
          have s1 : (k : Int) + 1 = (k1 : Int) := by omega
          have z1 : (k1 : Int) < (n : Int) := by omega
          have z0 : (k : Int) < (n : Int) := by omega
          have X1 := hide' hx1
          have X0 := hide' hx0
          have K1 := hide' hk1
          clear hx1 hx0 hk1
          go_wp2_with fail
          go_region
          all_goals go_wp2
          go_roundg (i - (k + 1))
          case measure => omega
          case rel =>
            refine ⟨k + 1, by first | rfl | go_num | (rw [K1.out]), by omega, by omega, Nat.le_refl _, ?_⟩
            have hs := HW.out.swap k (k + 1) (by omega)
            rw [left_step D a k hak, ← X1.out, ← X0.out, ← K1.out] at hs
            exact hs.drewN 1
        · have e : k + 1 = i := by omega
          have HW2 : Hid (SW w wr B n (rot D a (a + 1) i)) := by rw [← e]; exact HW
          go_wp2
          refine bodyPost_ret (results_none rfl _ _ _) rfl ?_
          exact ⟨rfl, _, HW2.out, HP.out, HF.out⟩

theorem right_step (D : Nat → Nat) (m k : Nat) (h : k + 1 ≤ m) : swf (rot D (k + 1) m (m + 1)) (k + 1) k = rot D k m (m + 1) := by
  funext x
  unfold swf rot
  by_cases e1 : x = k + 1
  · rw [if_pos e1, if_neg (by omega), if_neg (by omega), if_neg (by omega), if_pos (by omega)]
    congr 1; omega
  · rw [if_neg e1]
    by_cases e2 : x = k
    · rw [if_pos e2, if_pos (by omega), if_pos (by omega)]
      congr 1; omega
    · rw [if_neg e2, if_neg (show ¬ (k + 1 ≤ x ∧ x < k + 1 + (m + 1 - m)) by omega), if_neg (show ¬ (k ≤ x ∧ x < k + (m + 1 - m)) by omega)]
      by_cases e3 : k + 1 + (m + 1 - m) ≤ x ∧ x < m + 1
      · rw [if_pos e3, if_pos (by omega)]
        congr 1; omega
      · rw [if_neg e3, if_neg (by omega)]

theorem right_done {cf : Nat → Nat → Int} (hc : Cmp cf) {a m i : Nat} {D : Nat → Nat} (hai : a ≤ i) (him : i ≤ m) (h1 : Chain cf a m D) (hl : Less a m (m + 1) D)
    (lo : ∀ h, a ≤ h → h < i → ¬ cf (D m) (D h) < 0) (hi : ∀ h, i ≤ h → h < m → cf (D m) (D h) < 0) : Chain cf a (m + 1) (rot D i m (m + 1)) := by
  have r1 : ∀ k, k < i → rot D i m (m + 1) k = D k := fun k k1 => by unfold rot; rw [if_neg (by omega), if_neg (by omega)]
  have r2 : rot D i m (m + 1) i = D m := by unfold rot; rw [if_pos (by omega)]; congr 1; omega
  have r3 : ∀ k, i < k → k < m + 1 → rot D i m (m + 1) k = D (k - 1) := fun k k1 k2 => by unfold rot; rw [if_neg (by omega), if_pos (by omega)]; congr 1; omega
  intro x y x1 xy y1
  by_cases ex : x < i
  · rw [r1 x ex]
    by_cases ey : y < i
    · rw [r1 y ey]; exact h1 x y x1 xy (by omega)
    · by_cases ey2 : y = i
      · subst ey2
        rw [r2]
        have q1 := lo x x1 ex
        have q2 := hc.anti (D m) (D x)
        have q3 := hl x m x1 (by omega) (Nat.le_refl _) (by omega)
        unfold Prec; omega
      · rw [r3 y (by omega) y1]; exact h1 x _ x1 (by omega) (by omega)
  · rw [r3 y (by omega) y1]
    by_cases ex2 : x = i
    · subst ex2; rw [r2]; exact Or.inl (hi _ (by omega) (by omega))
    · rw [r3 x (by omega) (by omega)]; exact h1 _ _ (by omega) (by omega) (by omega)

set_option maxHeartbeats 4000000 in
set_option maxRecDepth 1000000 in
theorem sym_right (g : Nat) (lb : Array Value) (cf : Nat → Nat → Int) (B n mm a m cap : Nat) (D : Nat → Nat) (w w0 : World) (ham : a + 1 < m) (hb : m + 1 ≤ n) (hn : n ≤ 64)
    (eg : ∀ args w, (callFunc g args).run Try.prog w = .ok (.enter g args) w) (hcf : Cmp cf) (hcmp : CmpOk g lb cf B mm w) (hSW : SW w w0 B n D) (hm : ∀ k, a ≤ k → k < m + 1 → D k < mm)
    (h1 : Chain cf a m D) (hl : Less a m (m + 1) D) :
    Calls Try.prog 50 #[.slice (some ⟨B, 0, none⟩) n cap, .int .i64 (a : Int), .int .i64 (m : Int), .int .i64 ((m + 1 : Nat) : Int), .func (.func g) #[] lb] w0 fun e w' =>
      e = .returned (.tuple #[]) ∧ Hid (Merged cf w w' B n a (m + 1) D) := by
  have HC := hide' hcf
  have HM := hide' hcmp
  have HS := hide' hSW
  have HL := hide' hm
  have H1 := hide' h1
  have HLS := hide' hl
  have d0 : ((m : Int) - (a : Int) == 1) = false := by simp; omega
  have wd0 : (IntKind.i64.wrap ((m : Int) - (a : Int)) == 1) = false := by rw [IntKind.wrap_i64]; simp; omega
  have d1 : ((m + 1 : Nat) : Int) - (m : Int) = 1 := by omega
  have wd1 : IntKind.i64.wrap (((m + 1 : Nat) : Int) - (m : Int)) = 1 := by rw [IntKind.wrap_i64]; omega
  obtain ⟨b, hb1⟩ : ∃ b, b = m + 1 := ⟨_, rfl⟩
  rw [← hb1] at d1 wd1 ⊢
  have B1 := hide' hb1
  clear hcf hcmp hSW hm h1 hl hb1
  go_enter Try.func50, Try.ntmps50
  go_wp2
  go_loopg [14, 15] m (fun gg vi vj wr => ∃ i j : Nat, vi = .int .i64 (i : Int) ∧ vj = .int .i64 (j : Int) ∧ a ≤ i ∧ i ≤ j ∧ j ≤ m ∧ j - i ≤ gg ∧ Hid (SW w wr B n D) ∧ Hid (∀ h, a ≤ h → h < i → ¬ cf (D m) (D h) < 0) ∧ Hid (∀ h, j ≤ h → h < m → cf (D m) (D h) < 0))
  case atStart => exact ⟨a, m, rfl, rfl, Nat.le_refl _, by omega, Nat.le_refl _, by omega, HS, fun h h1 h2 => by omega, fun h h1 h2 => by omega⟩
  case round =>
    obtain ⟨i, j, rfl, rfl, hi, hij, hj, hg, HW, LO, HI⟩ := hrel
    by_cases hlt : i < j
    · have hltz : (i : Int) < (j : Int) := by omega
      have hs0 : (0 : Int) ≤ (i : Int) + (j : Int) := by omega
      have hs1 : (i : Int) + (j : Int) ≤ 128 := by omega
      obtain ⟨h, hh⟩ : ∃ h, h = (i + j) / 2 := ⟨_, rfl⟩
      have eh : ((i : Int) + (j : Int)) / 2 = (h : Int) := by omega
      have hih : i ≤ h := by omega
      have hhj : h < j := by omega
      have hza : (m : Int) < (n : Int) := by omega
      have hzh : (h : Int) < (n : Int) := by omega
      clear hh
      have ca : wr.cell? ⟨B, m, none⟩ = some (.int .i64 (D m : Int)) := HW.out.row.cell (by omega)
      have ch : wr.cell? ⟨B, h, none⟩ = some (.int .i64 (D h : Int)) := HW.out.row.cell (by omega)
      have hc := fun q => HM.out (wr.drewN q) (HW.out.drewN q).only (D m) (D h) (HL.out m (by omega) (by omega)) (HL.out h (by omega) (by omega))
      by_cases hlv : cf (D m) (D h) < 0
      · have HI2 : Hid (∀ x, h ≤ x → x < m → cf (D m) (D x) < 0) := fun x x1 x2 => by
          by_cases e : x = h
          · subst e; exact hlv
          · exact HC.out.lt_le hlv (H1.out h x (by omega) (by omega) x2).le
        have hd : decide (cf (D m) (D h) < 0) = true := decide_eq_true hlv
        go_wp2_with fail
        go_quiet ((go_at_fn g; exact Calls.quiet_of (hc _)))
        go_wp2
        go_roundg (h - i)
        case measure => omega
        case rel => exact ⟨i, h, rfl, rfl, hi, hih, by omega, Nat.le_refl _, HW.out.drewN _, LO, HI2⟩
      · have LO2 : Hid (∀ x, a ≤ x → x < h + 1 → ¬ cf (D m) (D x) < 0) := fun x x1 x2 => by
          by_cases e : x = h
          · subst e; exact hlv
          · intro hx
            exact hlv (HC.out.lt_le hx (H1.out x h x1 (by omega) (by omega)).le)
        have hd : decide (cf (D m) (D h) < 0) = false := decide_eq_false hlv
        clear hlv
        go_wp2_with fail
        go_quiet ((go_at_fn g; exact Calls.quiet_of (hc _)))
        go_wp2
        go_roundg (j - (h + 1))
        case measure => omega
        case rel => exact ⟨h + 1, j, by go_num, rfl, by omega, by omega, hj, Nat.le_refl _, HW.out.drewN _, LO2, HI⟩
    · have e : i = j := by omega
      subst e
      have HF : Hid (Chain cf a (m + 1) (rot D i m (m + 1))) := right_done HC.out hi hj H1.out HLS.out LO.out HI.out
      have HP : Hid (PermW a (m + 1) D (rot D i m (m + 1))) := rot_perm D a (m + 1) i m (m + 1) hi hj (by omega) (Nat.le_refl _)
      go_wp2
      go_loopg [17] m (fun gg vk wr => ∃ k : Nat, vk = .int .i64 (k : Int) ∧ i ≤ k ∧ k ≤ m ∧ k - i ≤ gg ∧ Hid (SW w wr B n (rot D k m (m + 1))))
      case atStart =>
        refine ⟨m, rfl, hj, Nat.le_refl _, by omega, ?_⟩
        have : rot D m m (m + 1) = D := by
          funext x
          unfold rot
          by_cases e : m ≤ x ∧ x < m + (m + 1 - m)
          · rw [if_pos e]; congr 1; omega
          · rw [if_neg e, if_neg (by omega)]
        rw [this]; exact HW
      case round =>
        clear HW LO HI
        obtain ⟨k0, rfl, hak, hki, hgk, HW⟩ := hrel
        by_cases hlt2 : i < k0
        · obtain ⟨k, rfl⟩ : ∃ k, k0 = k + 1 := ⟨k0 - 1, by omega⟩
          have hlt2z : (i : Int) < (k : Int) + 1 := by omega
          obtain ⟨x1, hx1⟩ : ∃ x, x = rot D (k + 1) m (m + 1) (k + 1) := ⟨_, rfl⟩
          obtain ⟨x0, hx0⟩ : ∃ x, x = rot D (k + 1) m (m + 1) k := ⟨_, rfl⟩
          obtain ⟨k1, hk1⟩ : ∃ j1, j1 = k + 1 := ⟨_, rfl⟩
          have hwp : IntKind.i64.wrap (k : Int) = (k : Int) := by rw [IntKind.wrap_i64]; omega
          have cj : wr.cell? ⟨B, k1, none⟩ = some (.int .i64 (x1 : Int)) := by rw [hx1, hk1]; exact HW.out.row.cell (by omega)
          have cp : wr.cell? ⟨B, k, none⟩ = some (.int .i64 (x0 : Int)) := by rw [hx0]; exact HW.out.row.cell (by omega)
          have fj : wr.frozen? ⟨B, k1, none⟩ = false := HW.out.row.frozen _
          have fp : wr.frozen? ⟨B, k, none⟩ = false := HW.out.row.frozen _
          have e0 : ((k : Int) + 1).toNat = k1 := by omega
          have z1 : (k : Int) + 1 < (n : Int) := by omega
          have z0 : (k : Int) < (n : Int) := by omega
          have X1 := hide' hx1
          have X0 := hide' hx0
          have K1 := hide' hk1
          clear hx1 hx0 hk1
          go_wp2_with fail
          go_region
          all_goals go_wp2
          go_roundg (k - i)
          case measure => omega
          case rel =>
            refine ⟨k, by first | rfl | go_num, by omega, by omega, Nat.le_refl _, ?_⟩
            have hs := HW.out.swap (k + 1) k (by omega)
            rw [right_step D m k hki, ← X1.out, ← X0.out, ← K1.out] at hs
            exact hs.drewN 1
        · have e : k0 = i := by omega
          subst e
          go_wp2
          refine bodyPost_ret (results_none rfl _ _ _) rfl ?_
          refine ⟨rfl, ?_⟩
          rw [B1.out]
          exact ⟨_, HW.out, HP.out, HF.out⟩

end Go.Proofs.Ytmkkkddadpcmeaa
