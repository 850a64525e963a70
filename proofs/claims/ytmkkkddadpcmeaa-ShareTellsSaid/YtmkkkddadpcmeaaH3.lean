/-
  The library's stable sort of up to 64 places does as it is said to.
-/
import Derived.Test.YtmkkkddadpcmeaaH2
import Derived.Test.YtmkkkddadpcmeaaA6
namespace Go.Proofs.Ytmkkkddadpcmeaa
open Go.RowKit

theorem sym_any (g : Nat) (lb : Array Value) (cf : Nat → Nat → Int) (B n mm cap : Nat) (w : World) (hn : n ≤ 64)
    (eg : ∀ args w, (callFunc g args).run Try.prog w = .ok (.enter g args) w) (hcf : Cmp cf) (hcmp : CmpOk g lb cf B mm w) : ∀ N, SymOk g lb cf B n mm cap N w := by
  intro N
  induction N with
  | zero => intro a m b D w0 h1 h2 h3 h4; omega
  | succ N ih =>
    intro a m b D w0 h1 h2 h3 h4 hs hm k1 k2 kl
    by_cases e1 : m = a + 1
    · subst e1
      exact sym_left g lb cf B n mm a b cap D w w0 (by omega) h3 hn eg hcf hcmp hs hm k2 kl
    · by_cases e2 : b = m + 1
      · subst e2
        exact sym_right g lb cf B n mm a m cap D w w0 (by omega) h3 hn eg hcf hcmp hs hm k1 kl
      · exact sym_step g lb cf B n mm a m b cap D w w0 (by omega) (by omega) h3 hn eg hcf hcmp hs hm k1 k2 kl
          (fun a' m' b' D' w0' q1 q2 q3 q4 => ih a' m' b' D' w0' q1 q2 q3 (by omega))

/-- Each number stands in the stretch of twenty in which it stood. -/
def Blk (n : Nat) (D E : Nat → Nat) : Prop := ∀ x, x < n → ∃ y, y < n ∧ y / 20 = x / 20 ∧ E x = D y

theorem Blk.step {n a b : Nat} {D E F : Nat → Nat} (h : Blk n D E) (hp : PermW a b E F) (hb : b ≤ n) (h1 : a % 20 = 0) (h2 : b ≤ a + 20) : Blk n D F := by
  intro x hx
  by_cases e : a ≤ x ∧ x < b
  · obtain ⟨k, k1, k2, k3⟩ := (hp.mem (F x)).1 ⟨x, e.1, e.2, rfl⟩
    obtain ⟨y, y1, y2, y3⟩ := h k (by omega)
    exact ⟨y, y1, by omega, by rw [← k3, y3]⟩
  · obtain ⟨y, y1, y2, y3⟩ := h x hx
    exact ⟨y, y1, y2, by rw [hp.out x (by omega), y3]⟩

theorem Blk.less {n a m b : Nat} {D E : Nat → Nat} (h : Blk n D E) (hD : ∀ k l, 0 ≤ k → k < l → l < n → D k < D l) (hm : m % 20 = 0) (hb : b ≤ n) : Less a m b E := by
  intro i j i1 i2 j1 j2
  obtain ⟨y, y1, y2, y3⟩ := h i (by omega)
  obtain ⟨z, z1, z2, z3⟩ := h j (by omega)
  rw [y3, z3]
  exact hD y z (Nat.zero_le _) (by omega) z1

/-- Stretches of twenty in order. -/
structure Ph1 (cf : Nat → Nat → Int) (n : Nat) (E : Nat → Nat) : Prop where
  c1 : Chain cf 0 (min 20 n) E
  c2 : Chain cf 20 (min 40 n) E
  c3 : Chain cf 40 (min 60 n) E
  c4 : Chain cf 60 n E
  l1 : Less 0 20 (min 40 n) E
  l2 : Less 40 60 n E
  l3 : Less 0 40 n E

/-- Stretches of forty in order. -/
structure Ph2 (cf : Nat → Nat → Int) (n : Nat) (E : Nat → Nat) : Prop where
  c1 : Chain cf 0 (min 40 n) E
  c2 : Chain cf 40 n E
  l1 : Less 0 40 n E

theorem Chain.empty {cf : Nat → Nat → Int} {a b : Nat} {E : Nat → Nat} (h : b ≤ a + 1) : Chain cf a b E := fun i j h1 h2 h3 => by omega

theorem ph1_of {cf : Nat → Nat → Int} {n k : Nat} {D E F : Nat → Nat} (hn : n ≤ 64) (hD : ∀ k l, 0 ≤ k → k < l → l < n → D k < D l) (hk : 20 * k ≤ n) (hk2 : n < 20 * k + 20) (hB : Blk n D E) (hc : ∀ t, t < k → Chain cf (20 * t) (20 * t + 20) E)
    (hp : PermW (20 * k) n E F) (hF : Chain cf (20 * k) n F) : Ph1 cf n F := by
  have hB2 : Blk n D F := hB.step hp (Nat.le_refl _) (by omega) (by omega)
  have key : ∀ t, t ≤ 3 → Chain cf (20 * t) (min (20 * t + 20) n) F := fun t ht => by
    rcases Nat.lt_trichotomy t k with h | h | h
    · rw [Nat.min_eq_left (by omega)]
      exact (hc t h).congr fun x _ hx => hp.out x (Or.inl (by omega))
    · subst h
      rw [Nat.min_eq_right (by omega)]
      exact hF
    · exact Chain.empty (by omega)
  have key4 : Chain cf 60 n F := by
    have := key 3 (Nat.le_refl _)
    rw [Nat.min_eq_right (by omega)] at this
    exact this
  exact ⟨key 0 (by omega), key 1 (by omega), key 2 (by omega), key4, hB2.less hD (by omega) (by omega), hB2.less hD (by omega) (Nat.le_refl _), hB2.less hD (by omega) (Nat.le_refl _)⟩

/-- The state of the sort's second part. -/
def Part2 (cf : Nat → Nat → Int) (n : Nat) (vb : Value) (g : Nat) (E : Nat → Nat) : Prop :=
  vb = .int .i64 20 ∧ g = 3 ∧ Ph1 cf n E ∨ vb = .int .i64 40 ∧ g = 2 ∧ Ph2 cf n E ∨ vb = .int .i64 80 ∧ g = 1 ∧ Chain cf 0 n E

set_option maxHeartbeats 8000000 in
set_option maxRecDepth 1000000 in
theorem stable_any (n g cap B mm : Nat) (lb : Array Value) (cf : Nat → Nat → Int) (D : Nat → Nat) (w w0 : World) (hn : n ≤ 64)
    (eg : ∀ args w, (callFunc g args).run Try.prog w = .ok (.enter g args) w) (hcf : Cmp cf) (hcmp : CmpOk g lb cf B mm w) (hSW : SW w w0 B n D) (hm : ∀ k, 0 ≤ k → k < n → D k < mm) (hD : ∀ k l, 0 ≤ k → k < l → l < n → D k < D l) :
    Calls Try.prog 47 #[.slice (some ⟨B, 0, none⟩) n cap, .int .i64 (n : Int), .func (.func g) #[] lb] w0 fun e w' => e = .returned (.tuple #[]) ∧ Hid (Merged cf w w' B n 0 n D) := by
  have HS := hide' hSW
  have HL := hide' hm
  have HDD := hide' hD
  have HI : Hid (∀ a b E W, a ≤ b → b ≤ n → SW w W B n E → (∀ k, a ≤ k → k < b → E k < mm) → (∀ k l, a ≤ k → k < l → l < b → E k < E l) → Calls Try.prog 49 #[.slice (some ⟨B, 0, none⟩) n cap, .int .i64 (a : Int), .int .i64 (b : Int), .func (.func g) #[] lb] W fun e w' => e = .returned (.tuple #[]) ∧ ∃ F, SW w w' B n F ∧ PermW a b E F ∧ Chain cf a b F) :=
    fun a b E W h1 h2 h3 h4 h5 => insertion_any g lb cf B n mm a b cap E w W h1 h2 hn eg hcf hcmp h3 h4 h5
  have HM := hide' (sym_any g lb cf B n mm cap w hn eg hcf hcmp 65)
  clear eg hcf hcmp hSW hm hD
  go_enter Try.func47, Try.ntmps47
  go_wp2_with fail
  go_loopg [7, 8] (n + 20) (fun gg va vb wr => ∃ (k : Nat) (E : Nat → Nat), va = .int .i64 ((20 * k : Nat) : Int) ∧ vb = .int .i64 ((20 * k + 20 : Nat) : Int) ∧ 20 * k ≤ n ∧ n + 20 ≤ gg + 20 * k ∧ Hid (SW w wr B n E) ∧ Hid (PermW 0 n D E) ∧ Hid (Blk n D E) ∧ Hid (∀ x, 20 * k ≤ x → E x = D x) ∧ Hid (∀ t, t < k → Chain cf (20 * t) (20 * t + 20) E))
  case atStart => exact ⟨0, D, rfl, rfl, by omega, by omega, HS, PermW.refl _ _ _, fun x hx => ⟨x, hx, rfl, rfl⟩, fun x _ => rfl, fun t ht => by omega⟩
  case round =>
    obtain ⟨k, E, rfl, rfl, hk, hg, HW, HP, HB, HE, HCH⟩ := hrel
    obtain ⟨a, ha⟩ : ∃ a, a = 20 * k := ⟨_, rfl⟩
    obtain ⟨b, hb⟩ : ∃ b, b = 20 * k + 20 := ⟨_, rfl⟩
    rw [← hb, ← ha]
    by_cases hbn : b ≤ n
    · have hbz : (b : Int) ≤ (n : Int) := by omega
      have hi := HI.out a b E wr (by omega) hbn HW.out (fun x x1 x2 => by rw [HE.out x (by omega)]; exact HL.out x (Nat.zero_le _) (by omega))
        (fun x y x1 x2 x3 => by rw [HE.out x (by omega), HE.out y (by omega)]; exact HDD.out x y (Nat.zero_le _) x2 (by omega))
      have HI2 := hide' hi
      clear hi
      have HA := hide' ha
      have HBB := hide' hb
      clear ha hb
      go_wp2_with fail
      refine HI2.out.mono ?_
      rintro e w' ⟨rfl, F, hF⟩
      have HF := hide' hF
      clear hF
      go_wp2_with fail
      go_roundg (n + 20 - (20 * (k + 1)))
      case measure => have := HBB.out; omega
      case rel =>
        obtain ⟨q1, q2, q3⟩ := HF.out
        have ha := HA.out
        have hb := HBB.out
        refine ⟨k + 1, F, by rw [hb]; first | rfl | go_num, by rw [hb]; first | rfl | go_num | (congr 1; omega), by omega, by omega, q1, HP.out.trans (q2.mono (Nat.zero_le _) hbn), HB.out.step q2 hbn (by omega) (by omega), fun x hx => ?_, fun t ht => ?_⟩
        · rw [q2.out x (Or.inr (by omega))]; exact HE.out x (by omega)
        · by_cases e : t = k
          · subst e; rw [ha, hb] at q3; exact q3
          · exact (HCH.out t (by omega)).congr fun x _ hx => q2.out x (Or.inl (by omega))
    · have hbz : ¬ (b : Int) ≤ (n : Int) := by omega
      have hi := HI.out a n E wr (by omega) (Nat.le_refl _) HW.out (fun x x1 x2 => by rw [HE.out x (by omega)]; exact HL.out x (Nat.zero_le _) (by omega))
        (fun x y x1 x2 x3 => by rw [HE.out x (by omega), HE.out y (by omega)]; exact HDD.out x y (Nat.zero_le _) x2 (by omega))
      have HI2 := hide' hi
      clear hi
      have HA := hide' ha
      have HBB := hide' hb
      clear ha hb
      go_wp2_with fail
      refine HI2.out.mono ?_
      rintro e w1 ⟨rfl, F, hF⟩
      have HF : Hid (∃ F, SW w w1 B n F ∧ PermW 0 n D F ∧ Ph1 cf n F) := by
        obtain ⟨q1, q2, q3⟩ := hF
        have ha := HA.out
        have hb := HBB.out
        rw [ha] at q2 q3
        exact ⟨F, q1, HP.out.trans (q2.mono (Nat.zero_le _) (Nat.le_refl _)), ph1_of hn HDD.out hk (by omega) HB.out HCH.out q2 q3⟩
      clear hF HW HP HB HE HCH HA HBB HI2
      go_wp2_with fail
      obtain ⟨F, q1, q2, q3⟩ := HF.out
      have HW := hide' q1
      have HP := hide' q2
      have HPH := hide' q3
      clear q1 q2 q3 HF
      go_loopg [6] 3 (fun gg vb wr => ∃ E, Hid (SW w wr B n E) ∧ Hid (PermW 0 n D E) ∧ (vb = .int .i64 20 ∧ gg = 3 ∧ Hid (Ph1 cf n E) ∨ vb = .int .i64 40 ∧ gg = 2 ∧ Hid (Ph2 cf n E) ∨ vb = .int .i64 80 ∧ gg = 1 ∧ Hid (Chain cf 0 n E)))
      case atStart => exact ⟨F, HW, HP, Or.inl ⟨rfl, rfl, HPH⟩⟩
      case round =>
        clear HW HP HPH F
        obtain ⟨E, HW, HP, hst⟩ := hrel
        have HMM : Hid (∀ x, 0 ≤ x → x < n → E x < mm) := fun x x1 x2 => HP.out.all (· < mm) HL.out x x1 x2
        rcases hst with ⟨rfl, rfl, H1⟩ | ⟨rfl, rfl, H2⟩ | ⟨rfl, rfl, H3⟩
        · by_cases h20 : 20 < n
          · have z20 : (20 : Int) < (n : Int) := by omega
            by_cases h40 : 40 ≤ n
            · have z40 : (40 : Int) ≤ (n : Int) := by omega
              have z80 : ¬ (80 : Int) ≤ (n : Int) := by omega
              have m1 : min 20 n = 20 := Nat.min_eq_left (by omega)
              have m2 : min 40 n = 40 := Nat.min_eq_left (by omega)
              have hc1 : Calls Try.prog 50 #[.slice (some ⟨B, 0, none⟩) n cap, .int .i64 0, .int .i64 20, .int .i64 40, .func (.func g) #[] lb] wr fun e w' => e = .returned (.tuple #[]) ∧ Hid (Merged cf w w' B n 0 40 E) :=
                HM.out 0 20 40 E wr (by omega) (by omega) h40 (by omega) HW.out (fun x x1 x2 => HMM.out x x1 (by omega)) (by have := H1.out.c1; rwa [m1] at this) (by have := H1.out.c2; rwa [m2] at this) (by have := H1.out.l1; rwa [m2] at this)
              have HC1 := hide' hc1
              clear hc1 m1 m2
              go_wp2_with fail
              go_loopg [7, 8] 2 (fun g2 va vb wx => (g2 = 2 ∧ va = .int .i64 0 ∧ vb = .int .i64 40 ∧ wx = wr) ∨ (g2 = 1 ∧ va = .int .i64 40 ∧ vb = .int .i64 80 ∧ Hid (Merged cf w wx B n 0 40 E)))
              case atStart => exact Or.inl ⟨rfl, rfl, rfl, rfl⟩
              case round =>
                rcases hrel with ⟨rfl, rfl, rfl, rfl⟩ | ⟨rfl, rfl, rfl, HE⟩
                · go_wp2_with fail
                  refine HC1.out.mono ?_
                  rintro e w2 ⟨rfl, HE⟩
                  go_wp2_with fail
                  go_roundg 1
                  case measure => omega
                  case rel => exact Or.inr ⟨rfl, rfl, rfl, HE⟩
                · have HE2 : Hid (∃ F, SW w wr B n F ∧ PermW 0 n D F ∧ Chain cf 0 40 F ∧ Chain cf 40 (min 60 n) F ∧ Chain cf 60 n F ∧ Less 40 60 n F ∧ Less 0 40 n F) := by
                    obtain ⟨F, e1, e2, e3⟩ := HE.out
                    have same : ∀ x, 40 ≤ x → F x = E x := fun x hx => e2.out x (Or.inr hx)
                    refine ⟨F, e1, HP.out.trans (e2.mono (Nat.le_refl _) h40), e3, H1.out.c3.congr fun x x1 _ => same x x1, H1.out.c4.congr fun x x1 _ => same x (by omega), H1.out.l2.congr fun x x1 _ => same x x1, ?_⟩
                    intro i j i1 i2 j1 j2
                    obtain ⟨k, k1, k2, k3⟩ := (e2.mem (F i)).1 ⟨i, i1, i2, rfl⟩
                    rw [← k3, same j j1]
                    exact H1.out.l3 k j k1 k2 j1 j2
                  clear HE HC1
                  obtain ⟨F, e1, e2, e3, e4, e5, e6, e7⟩ := HE2.out
                  have HW2 := hide' e1
                  have HP2 := hide' e2
                  have K3 := hide' e3
                  have K4 := hide' e4
                  have K5 := hide' e5
                  have K6 := hide' e6
                  have K7 := hide' e7
                  clear e1 e2 e3 e4 e5 e6 e7 HE2
                  by_cases h60 : 60 < n
                  · have z60 : (60 : Int) < (n : Int) := by omega
                    have hc2 : Calls Try.prog 50 #[.slice (some ⟨B, 0, none⟩) n cap, .int .i64 40, .int .i64 60, .int .i64 (n : Int), .func (.func g) #[] lb] wr fun e w' => e = .returned (.tuple #[]) ∧ Hid (Merged cf w w' B n 40 n F) :=
                      HM.out 40 60 n F wr (by omega) h60 (Nat.le_refl _) (by omega) HW2.out (fun x x1 x2 => HP2.out.all (· < mm) HL.out x (Nat.zero_le _) x2) (by have := K4.out; rwa [Nat.min_eq_left (by omega)] at this) K5.out K6.out
                    have HC2 := hide' hc2
                    clear hc2
                    go_wp2_with fail
                    refine HC2.out.mono ?_
                    rintro e w3 ⟨rfl, HE3⟩
                    go_wp2_with fail
                    go_roundg 2
                    case measure => omega
                    case rel =>
                      obtain ⟨G, e1, e2, e3⟩ := HE3.out
                      refine ⟨G, e1, HP2.out.trans (e2.mono (by omega) (Nat.le_refl _)), Or.inr (Or.inl ⟨rfl, rfl, ?_, e3, ?_⟩)⟩
                      · rw [Nat.min_eq_left h40]; exact K3.out.congr fun x _ hx => e2.out x (Or.inl hx)
                      · intro i j i1 i2 j1 j2
                        obtain ⟨k, k1, k2, k3⟩ := (e2.mem (G j)).1 ⟨j, j1, j2, rfl⟩
                        rw [← k3, e2.out i (Or.inl i2)]
                        exact K7.out i k i1 i2 k1 k2
                  · have z60 : ¬ (60 : Int) < (n : Int) := by omega
                    go_wp2_with fail
                    go_roundg 2
                    case measure => omega
                    case rel =>
                      refine ⟨F, HW2, HP2, Or.inr (Or.inl ⟨rfl, rfl, ?_, ?_, K7.out⟩)⟩
                      · rw [Nat.min_eq_left h40]; exact K3.out
                      · have := K4.out; rwa [Nat.min_eq_right (by omega)] at this
            · have z40 : ¬ (40 : Int) ≤ (n : Int) := by omega
              have m1 : min 20 n = 20 := Nat.min_eq_left (by omega)
              have m2 : min 40 n = n := Nat.min_eq_right (by omega)
              have hc1 : Calls Try.prog 50 #[.slice (some ⟨B, 0, none⟩) n cap, .int .i64 0, .int .i64 20, .int .i64 (n : Int), .func (.func g) #[] lb] wr fun e w' => e = .returned (.tuple #[]) ∧ Hid (Merged cf w w' B n 0 n E) :=
                HM.out 0 20 n E wr (by omega) h20 (Nat.le_refl _) (by omega) HW.out HMM.out (by have := H1.out.c1; rwa [m1] at this) (by have := H1.out.c2; rwa [m2] at this) (by have := H1.out.l1; rwa [m2] at this)
              have HC1 := hide' hc1
              have M2 := hide' m2
              clear hc1 m1 m2
              go_wp2_with fail
              go_loopg [7, 8] 2 (fun g2 va vb wx => va = .int .i64 0 ∧ vb = .int .i64 40 ∧ wx = wr)
              case atStart => exact ⟨rfl, rfl, rfl⟩
              case round =>
                obtain ⟨rfl, rfl, rfl⟩ := hrel
                go_wp2_with fail
                refine HC1.out.mono ?_
                rintro e w3 ⟨rfl, HE3⟩
                go_wp2_with fail
                go_roundg 2
                case measure => omega
                case rel =>
                  obtain ⟨G, e1, e2, e3⟩ := HE3.out
                  exact ⟨G, e1, HP.out.trans e2, Or.inr (Or.inl ⟨rfl, rfl, by rw [M2.out]; exact e3, Chain.empty (by omega), fun i j i1 i2 j1 j2 => by omega⟩)⟩
          · have z20 : ¬ (20 : Int) < (n : Int) := by omega
            go_wp2_with fail
            go_end0
            exact ⟨rfl, E, HW.out, HP.out, by have := H1.out.c1; rwa [Nat.min_eq_right (by omega)] at this⟩
        · by_cases h40 : 40 < n
          · have z40 : (40 : Int) < (n : Int) := by omega
            have z80 : ¬ (80 : Int) ≤ (n : Int) := by omega
            have hc1 : Calls Try.prog 50 #[.slice (some ⟨B, 0, none⟩) n cap, .int .i64 0, .int .i64 40, .int .i64 (n : Int), .func (.func g) #[] lb] wr fun e w' => e = .returned (.tuple #[]) ∧ Hid (Merged cf w w' B n 0 n E) :=
              HM.out 0 40 n E wr (by omega) h40 (Nat.le_refl _) (by omega) HW.out HMM.out (by have := H2.out.c1; rwa [Nat.min_eq_left (by omega)] at this) H2.out.c2 H2.out.l1
            have HC1 := hide' hc1
            clear hc1
            go_wp2_with fail
            go_loopg [7, 8] 2 (fun g2 va vb wx => va = .int .i64 0 ∧ vb = .int .i64 80 ∧ wx = wr)
            case atStart => exact ⟨rfl, rfl, rfl⟩
            case round =>
              obtain ⟨rfl, rfl, rfl⟩ := hrel
              go_wp2_with fail
              refine HC1.out.mono ?_
              rintro e w3 ⟨rfl, HE3⟩
              go_wp2_with fail
              go_roundg 1
              case measure => omega
              case rel =>
                obtain ⟨G, e1, e2, e3⟩ := HE3.out
                exact ⟨G, e1, HP.out.trans e2, Or.inr (Or.inr ⟨rfl, rfl, e3⟩)⟩
          · have z40 : ¬ (40 : Int) < (n : Int) := by omega
            go_wp2_with fail
            go_end0
            exact ⟨rfl, E, HW.out, HP.out, by have := H2.out.c1; rwa [Nat.min_eq_right (by omega)] at this⟩
        · have z80 : ¬ (80 : Int) < (n : Int) := by omega
          go_wp2_with fail
          go_end0
          exact ⟨rfl, E, HW.out, HP.out, H3.out⟩

set_option maxHeartbeats 1000000 in
theorem sort_any (n : Nat) (hn : n ≤ 64) : SortAt n := by
  intro g lb cf B m cap D w w0 eg hcf hcmp hSW hm hD
  have hI := stable_any n g cap B m lb cf D w w0 hn eg hcf hcmp hSW hm hD
  have HI := hide' hI
  clear hI eg hcf hcmp hSW hm hD
  go_enter Try.func43, Try.ntmps43
  go_wp2_with fail
  refine HI.out.mono ?_
  rintro e w' ⟨rfl, hE⟩
  go_wp2
  go_end0
  exact ⟨rfl, hE⟩

end Go.Proofs.Ytmkkkddadpcmeaa
