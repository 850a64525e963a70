/-
  The library's merge in place, whatever its sides: what the call does, in whatever world in which the row lies by itself.
-/
import Derived.Test.YtmkkkddadpcmeaaH1
namespace Go.Proofs.Ytmkkkddadpcmeaa
open Go.RowKit

/-- What is asked of a merge, and what it does: of stretches shorter than N. -/
def SymOk (g : Nat) (lb : Array Value) (cf : Nat → Nat → Int) (B n mm cap N : Nat) (w : World) : Prop :=
  ∀ (a m b : Nat) (D : Nat → Nat) (w0 : World), a < m → m < b → b ≤ n → b - a < N → SW w w0 B n D → (∀ k, a ≤ k → k < b → D k < mm) → Chain cf a m D → Chain cf m b D → Less a m b D →
    Calls Try.prog 50 #[.slice (some ⟨B, 0, none⟩) n cap, .int .i64 (a : Int), .int .i64 (m : Int), .int .i64 (b : Int), .func (.func g) #[] lb] w0 fun e w' =>
      e = .returned (.tuple #[]) ∧ Hid (Merged cf w w' B n a b D)

theorem rot_none (D : Nat → Nat) (l m h : Nat) (h1 : l ≤ m) (h2 : m ≤ h) (hn : ¬ l < m ∨ ¬ m < h) : rot D l m h = D := by
  funext x
  unfold rot
  by_cases e1 : l ≤ x ∧ x < l + (h - m)
  · rw [if_pos e1]; congr 1; omega
  · rw [if_neg e1]
    by_cases e2 : l + (h - m) ≤ x ∧ x < h
    · rw [if_pos e2]; congr 1; omega
    · rw [if_neg e2]

/-- Behind the first half's merge. -/
def First (cf : Nat → Nat → Int) (w W : World) (B n a mid : Nat) (F : Nat → Nat) : Prop := ∃ E, SW w W B n E ∧ PermW a mid F E ∧ Chain cf a mid E

theorem first_skip {cf : Nat → Nat → Int} {w W : World} {B n a b mid s e : Nat} {F : Nat → Nat} (hv : Halves cf a b mid s e F) (hs : SW w W B n F) (h : ¬ (a < s ∧ s < mid)) : First cf w W B n a mid F :=
  ⟨F, hs, .refl _ _ _, half_done hv.c1 hv.c2 h⟩

theorem first_call {g : Nat} {lb : Array Value} {cf : Nat → Nat → Int} {w W : World} {B n mm a b mid s e cap : Nat} {F : Nat → Nat} (hv : Halves cf a b mid s e F) (hIH : SymOk g lb cf B n mm cap (b - a) w) (hm : ∀ k, a ≤ k → k < b → F k < mm)
    (hb : b ≤ n) (hmb : mid < b) (hs : SW w W B n F) (h1 : a < s) (h2 : s < mid) :
    Calls Try.prog 50 #[.slice (some ⟨B, 0, none⟩) n cap, .int .i64 (a : Int), .int .i64 (s : Int), .int .i64 (mid : Int), .func (.func g) #[] lb] W fun e' w' => e' = .returned (.tuple #[]) ∧ Hid (First cf w w' B n a mid F) :=
  hIH a s mid F W h1 h2 (by omega) (by omega) hs (fun k k1 k2 => hm k k1 (by omega)) hv.c1 hv.c2 hv.l1

theorem second_end {cf : Nat → Nat → Int} {w W : World} {B n a b mid s e : Nat} {D F : Nat → Nat} (hv : Halves cf a b mid s e F) (hP : PermW a b D F) (_ha : a < mid) (hmb : mid < b) (hf : First cf w W B n a mid F) (h : ¬ (mid < e ∧ e < b)) : Merged cf w W B n a b D := by
  obtain ⟨E, h1, h2, h3⟩ := hf
  refine ⟨E, h1, hP.trans (h2.mono (Nat.le_refl _) (by omega)), hv.done h2 h3 (.refl _ _ _) ?_⟩
  exact (half_done hv.c3 hv.c4 h).congr fun k k1 _ => h2.out k (Or.inr k1)

theorem second_call {g : Nat} {lb : Array Value} {cf : Nat → Nat → Int} {w W : World} {B n mm a b mid s e cap : Nat} {D F : Nat → Nat} (hv : Halves cf a b mid s e F) (hP : PermW a b D F) (hIH : SymOk g lb cf B n mm cap (b - a) w) (hm : ∀ k, a ≤ k → k < b → F k < mm)
    (hb : b ≤ n) (ha : a < mid) (hf : First cf w W B n a mid F) (h1 : mid < e) (h2 : e < b) :
    Calls Try.prog 50 #[.slice (some ⟨B, 0, none⟩) n cap, .int .i64 (mid : Int), .int .i64 (e : Int), .int .i64 (b : Int), .func (.func g) #[] lb] W fun e' w' => e' = .returned (.tuple #[]) ∧ Hid (Merged cf w w' B n a b D) := by
  obtain ⟨E, k1, k2, k3⟩ := hf
  have same : ∀ k, mid ≤ k → E k = F k := fun k hk => k2.out k (Or.inr hk)
  refine (hIH mid e b E W h1 h2 hb (by omega) k1 (fun k q1 q2 => by rw [same k q1]; exact hm k (by omega) q2) (hv.c3.congr fun k q1 _ => same k q1) (hv.c4.congr fun k q1 _ => same k (by omega)) (hv.l2.congr fun k q1 _ => same k q1)).mono ?_
  rintro e' w' ⟨rfl, E2, j1, j2, j3⟩
  exact ⟨rfl, E2, j1, (hP.trans (k2.mono (Nat.le_refl _) (by omega))).trans (j2.mono (by omega) (Nat.le_refl _)), hv.done k2 k3 j2 j3⟩

set_option maxHeartbeats 8000000 in
set_option maxRecDepth 1000000 in
theorem sym_step (g : Nat) (lb : Array Value) (cf : Nat → Nat → Int) (B n mm a m b cap : Nat) (D : Nat → Nat) (w w0 : World) (ham : a + 1 < m) (hmb : m + 1 < b) (hb : b ≤ n) (hn : n ≤ 64)
    (eg : ∀ args w, (callFunc g args).run Try.prog w = .ok (.enter g args) w) (hcf : Cmp cf) (hcmp : CmpOk g lb cf B mm w) (hSW : SW w w0 B n D) (hm : ∀ k, a ≤ k → k < b → D k < mm)
    (h1 : Chain cf a m D) (h2 : Chain cf m b D) (hl : Less a m b D) (hIH : SymOk g lb cf B n mm cap (b - a) w) :
    Calls Try.prog 50 #[.slice (some ⟨B, 0, none⟩) n cap, .int .i64 (a : Int), .int .i64 (m : Int), .int .i64 (b : Int), .func (.func g) #[] lb] w0 fun e w' =>
      e = .returned (.tuple #[]) ∧ Hid (Merged cf w w' B n a b D) := by
  have HC := hide' hcf
  have HM := hide' hcmp
  have HS := hide' hSW
  have HL := hide' hm
  have H1 := hide' h1
  have H2 := hide' h2
  have HLS := hide' hl
  have IH := hide' hIH
  have d0 : ((m : Int) - (a : Int) == 1) = false := by simp; omega
  have wd0 : (IntKind.i64.wrap ((m : Int) - (a : Int)) == 1) = false := by rw [IntKind.wrap_i64]; simp; omega
  have d1 : ((b : Int) - (m : Int) == 1) = false := by simp; omega
  have wd1 : (IntKind.i64.wrap ((b : Int) - (m : Int)) == 1) = false := by rw [IntKind.wrap_i64]; simp; omega
  obtain ⟨mid, hmid⟩ : ∃ mid, mid = (a + b) / 2 := ⟨_, rfl⟩
  have em : ((a : Int) + (b : Int)) / 2 = (mid : Int) := by omega
  have hs0 : (0 : Int) ≤ (a : Int) + (b : Int) := by omega
  have hs1 : (a : Int) + (b : Int) ≤ 128 := by omega
  have ma : a < mid := by omega
  have mb : mid < b := by omega
  have md : b - mid ≤ mid - a + 1 := by omega
  have md2 : mid - a ≤ b - mid := by omega
  clear hcf hcmp hSW hm h1 h2 hl hIH hmid
  obtain ⟨q, hq⟩ : ∃ q, q = mid + m := ⟨_, rfl⟩
  have eq : (mid : Int) + (m : Int) = (q : Int) := by omega
  obtain ⟨p, hp⟩ : ∃ p, p = q - 1 := ⟨_, rfl⟩
  have ep : (q : Int) - 1 = (p : Int) := by omega
  have wep : IntKind.i64.wrap ((q : Int) - 1) = (p : Int) := by rw [IntKind.wrap_i64]; omega
  have Q := hide' hq
  have PP := hide' hp
  have hq128 : (q : Int) ≤ 128 := by omega
  -- how the search begins
  obtain ⟨lo, r0, hst, f1, f2, f3, f4, f5, F6, F7⟩ : ∃ lo r0 : Nat, (mid < m ∧ lo = q - b ∧ r0 = mid ∨ m ≤ mid ∧ lo = a ∧ r0 = m) ∧ a ≤ lo ∧ lo ≤ r0 ∧ r0 ≤ m ∧ r0 ≤ mid ∧ q ≤ b + lo ∧ Hid (lo = a ∨ lo + b = q) ∧ Hid (r0 = m ∨ r0 = mid) := by
    rcases Nat.lt_or_ge mid m with h | h
    · exact ⟨q - b, mid, Or.inl ⟨h, rfl, rfl⟩, by omega, by omega, by omega, by omega, by omega, Or.inr (by omega), Or.inr rfl⟩
    · exact ⟨a, m, Or.inr ⟨h, rfl, rfl⟩, by omega, by omega, by omega, by omega, by omega, Or.inl rfl, Or.inl rfl⟩
  have hsum : mid + m = q := hq.symm
  have HSUM := hide' hsum
  clear hq hp hsum
  rcases hst with ⟨hmm, hlo, hr0⟩ | ⟨hmm, hlo, hr0⟩
  · have hz : (mid : Int) < (m : Int) := by omega
    have hqb : b ≤ q := by have := Q.out; omega
    have el : (q : Int) - (b : Int) = (lo : Int) := by omega
    have wel : IntKind.i64.wrap ((q : Int) - (b : Int)) = (lo : Int) := by rw [IntKind.wrap_i64]; omega
    have HLO := hide' hlo
    have HR0 := hide' hr0
    clear hlo hr0 hqb
    go_enter Try.func50, Try.ntmps50
    go_wp2
    go_loopg [20, 21] b (fun gg vi vj wr => ∃ s r : Nat, vi = .int .i64 (s : Int) ∧ vj = .int .i64 (r : Int) ∧ lo ≤ s ∧ s ≤ r ∧ r ≤ r0 ∧ r - s ≤ gg ∧ Hid (SW w wr B n D) ∧ Hid (s = lo ∨ ¬ cf (D (q - s)) (D (s - 1)) < 0) ∧ Hid (r = r0 ∨ cf (D (q - 1 - r)) (D r) < 0))
    case atStart =>
      have a1 := HLO.out
      have a2 := HR0.out
      exact ⟨lo, mid, rfl, rfl, by omega, by omega, by omega, by omega, HS, Or.inl (by omega), Or.inl (by omega)⟩
    case round =>
      obtain ⟨s, r, rfl, rfl, hs, hsr, hr, hg, HW, LO, HI⟩ := hrel
      by_cases hlt : s < r
      · have hltz : (s : Int) < (r : Int) := by omega
        have hs0 : (0 : Int) ≤ (s : Int) + (r : Int) := by omega
        have hs1 : (s : Int) + (r : Int) ≤ 128 := by omega
        obtain ⟨c, hh⟩ : ∃ c, c = (s + r) / 2 := ⟨_, rfl⟩
        have eh : ((s : Int) + (r : Int)) / 2 = (c : Int) := by omega
        have hih : s ≤ c := by omega
        have hhj : c < r := by omega
        obtain ⟨x, hx⟩ : ∃ x, x = p - c := ⟨_, rfl⟩
        have hpq : p = q - 1 := PP.out
        have hqq := HSUM.out
        have ex : (p : Int) - (c : Int) = (x : Int) := by omega
        have wex : IntKind.i64.wrap ((p : Int) - (c : Int)) = (x : Int) := by rw [IntKind.wrap_i64]; omega
        have xm : m ≤ x := by omega
        have xb : x < b := by omega
        have hzx : (x : Int) < (n : Int) := by omega
        have hzc : (c : Int) < (n : Int) := by omega
        have X1 : Hid (q - (c + 1) = x) := by show q - (c + 1) = x; omega
        have X2 : Hid (q - 1 - c = x) := by show q - 1 - c = x; omega
        clear hh hx hpq hqq
        have ca : wr.cell? ⟨B, x, none⟩ = some (.int .i64 (D x : Int)) := HW.out.row.cell (by omega)
        have ch : wr.cell? ⟨B, c, none⟩ = some (.int .i64 (D c : Int)) := HW.out.row.cell (by omega)
        have hc := fun y => HM.out (wr.drewN y) (HW.out.drewN y).only (D x) (D c) (HL.out x (by omega) (by omega)) (HL.out c (by omega) (by omega))
        by_cases hlv : cf (D x) (D c) < 0
        · have hd : decide (cf (D x) (D c) < 0) = true := decide_eq_true hlv
          have HLV := hide' hlv
          clear hlv
          go_wp2_with fail
          go_quiet ((go_at_fn g; exact Calls.quiet_of (hc _)))
          go_wp2
          go_roundg (c - s)
          case measure => omega
          case rel => exact ⟨s, c, rfl, rfl, hs, hih, by omega, Nat.le_refl _, HW.out.drewN _, LO, Or.inr (by rw [X2.out]; exact HLV.out)⟩
        · have hd : decide (cf (D x) (D c) < 0) = false := decide_eq_false hlv
          have HLV := hide' hlv
          clear hlv
          go_wp2_with fail
          go_quiet ((go_at_fn g; exact Calls.quiet_of (hc _)))
          go_wp2
          go_roundg (r - (c + 1))
          case measure => omega
          case rel => exact ⟨c + 1, r, by go_num, rfl, by omega, by omega, hr, Nat.le_refl _, HW.out.drewN _, Or.inr (by rw [X1.out]; exact HLV.out), HI⟩
      · have e : s = r := by omega
        subst e
        obtain ⟨e, he⟩ : ∃ e, e = q - s := ⟨_, rfl⟩
        have hqq := HSUM.out
        have ee : (q : Int) - (s : Int) = (e : Int) := by omega
        have wee : IntKind.i64.wrap ((q : Int) - (s : Int)) = (e : Int) := by rw [IntKind.wrap_i64]; omega
        have HF : Hid (Found cf a m b mid s e D) := by
          have a6 := F6.out
          have a7 := F7.out
          have l1 := LO.out
          have l2 := HI.out
          refine ⟨by omega, by omega, by omega, by omega, by omega, ?_, ?_⟩
          · rcases l1 with l1 | l1
            · rcases a6 with a6 | a6
              · exact Or.inl (by omega)
              · exact Or.inr (Or.inl (by omega))
            · exact Or.inr (Or.inr (by rw [he]; exact l1))
          · rcases l2 with l2 | l2
            · rcases a7 with a7 | a7
              · exact Or.inl (by omega)
              · exact Or.inr (Or.inl (by omega))
            · exact Or.inr (Or.inr (by rw [show e - 1 = q - 1 - s by omega]; exact l2))
        have g1 := HF.out.as
        have g2 := HF.out.sm
        have g3 := HF.out.me
        have g4 := HF.out.eb
        have g5 : s + e = mid + m := HF.out.sum
        have G5 := hide' g5
        have g6 : s ≤ mid := by omega
        have g7 : mid ≤ e := by omega
        have HV : Hid (Halves cf a b mid s e (rot D s m e)) := HF.out.halves HC.out H1.out H2.out HLS.out
        have HP : Hid (PermW a b D (rot D s m e)) := rot_perm D a b s m e g1 g2 g3 g4
        have HMF : Hid (∀ k, a ≤ k → k < b → rot D s m e k < mm) := fun k k1 k2 => HP.out.all (· < mm) HL.out k k1 k2
        clear hqq he g5 LO HI
        have hlt : ¬ (s : Int) < (s : Int) := by omega
        go_wp2_with (first
          | (go_at_call 53; (with_reducible refine (rotate_any (.func (.func g) #[] lb) B n s m e cap D w wr hn (by omega) (by omega) (by omega) HW.out).mono ?_); rintro e' w1 ⟨rfl, HW1⟩)
          | (go_at_call 50; first
            | ((with_reducible refine (first_call HV.out IH.out HMF.out hb mb (by first | exact HW1.out | (rw [rot_none D s m e g2 g3 (by omega)]; exact HW.out)) (by omega) (by omega)).mono ?_); rintro e' w2 ⟨rfl, HE1⟩)
            | ((with_reducible refine (second_call HV.out HP.out IH.out HMF.out hb ma (by first | exact HE1.out | exact first_skip HV.out HW1.out (by omega) | exact first_skip HV.out (by rw [rot_none D s m e g2 g3 (by omega)]; exact HW.out) (by omega)) (by omega) (by omega)).mono ?_); rintro e' w3 ⟨rfl, HR⟩)))
        all_goals
          go_end0
          refine ⟨rfl, ?_⟩
          first
          | exact HR
          | exact second_end HV.out HP.out ma mb (by first | exact HE1.out | exact first_skip HV.out HW1.out (by omega) | exact first_skip HV.out (by rw [rot_none D s m e g2 g3 (by omega)]; exact HW.out) (by omega)) (by omega)
  · have hz : ¬ (mid : Int) < (m : Int) := by omega
    have HLO := hide' hlo
    have HR0 := hide' hr0
    clear hlo hr0
    go_enter Try.func50, Try.ntmps50
    go_wp2
    go_loopg [20, 21] b (fun gg vi vj wr => ∃ s r : Nat, vi = .int .i64 (s : Int) ∧ vj = .int .i64 (r : Int) ∧ lo ≤ s ∧ s ≤ r ∧ r ≤ r0 ∧ r - s ≤ gg ∧ Hid (SW w wr B n D) ∧ Hid (s = lo ∨ ¬ cf (D (q - s)) (D (s - 1)) < 0) ∧ Hid (r = r0 ∨ cf (D (q - 1 - r)) (D r) < 0))
    case atStart =>
      have a1 := HLO.out
      have a2 := HR0.out
      exact ⟨a, m, rfl, rfl, by omega, by omega, by omega, by omega, HS, Or.inl (by omega), Or.inl (by omega)⟩
    case round =>
      obtain ⟨s, r, rfl, rfl, hs, hsr, hr, hg, HW, LO, HI⟩ := hrel
      by_cases hlt : s < r
      · have hltz : (s : Int) < (r : Int) := by omega
        have hs0 : (0 : Int) ≤ (s : Int) + (r : Int) := by omega
        have hs1 : (s : Int) + (r : Int) ≤ 128 := by omega
        obtain ⟨c, hh⟩ : ∃ c, c = (s + r) / 2 := ⟨_, rfl⟩
        have eh : ((s : Int) + (r : Int)) / 2 = (c : Int) := by omega
        have hih : s ≤ c := by omega
        have hhj : c < r := by omega
        obtain ⟨x, hx⟩ : ∃ x, x = p - c := ⟨_, rfl⟩
        have hpq : p = q - 1 := PP.out
        have hqq := HSUM.out
        have ex : (p : Int) - (c : Int) = (x : Int) := by omega
        have wex : IntKind.i64.wrap ((p : Int) - (c : Int)) = (x : Int) := by rw [IntKind.wrap_i64]; omega
        have xm : m ≤ x := by omega
        have xb : x < b := by omega
        have hzx : (x : Int) < (n : Int) := by omega
        have hzc : (c : Int) < (n : Int) := by omega
        have X1 : Hid (q - (c + 1) = x) := by show q - (c + 1) = x; omega
        have X2 : Hid (q - 1 - c = x) := by show q - 1 - c = x; omega
        clear hh hx hpq hqq
        have ca : wr.cell? ⟨B, x, none⟩ = some (.int .i64 (D x : Int)) := HW.out.row.cell (by omega)
        have ch : wr.cell? ⟨B, c, none⟩ = some (.int .i64 (D c : Int)) := HW.out.row.cell (by omega)
        have hc := fun y => HM.out (wr.drewN y) (HW.out.drewN y).only (D x) (D c) (HL.out x (by omega) (by omega)) (HL.out c (by omega) (by omega))
        by_cases hlv : cf (D x) (D c) < 0
        · have hd : decide (cf (D x) (D c) < 0) = true := decide_eq_true hlv
          have HLV := hide' hlv
          clear hlv
          go_wp2_with fail
          go_quiet ((go_at_fn g; exact Calls.quiet_of (hc _)))
          go_wp2
          go_roundg (c - s)
          case measure => omega
          case rel => exact ⟨s, c, rfl, rfl, hs, hih, by omega, Nat.le_refl _, HW.out.drewN _, LO, Or.inr (by rw [X2.out]; exact HLV.out)⟩
        · have hd : decide (cf (D x) (D c) < 0) = false := decide_eq_false hlv
          have HLV := hide' hlv
          clear hlv
          go_wp2_with fail
          go_quiet ((go_at_fn g; exact Calls.quiet_of (hc _)))
          go_wp2
          go_roundg (r - (c + 1))
          case measure => omega
          case rel => exact ⟨c + 1, r, by go_num, rfl, by omega, by omega, hr, Nat.le_refl _, HW.out.drewN _, Or.inr (by rw [X1.out]; exact HLV.out), HI⟩
      · have e : s = r := by omega
        subst e
        obtain ⟨e, he⟩ : ∃ e, e = q - s := ⟨_, rfl⟩
        have hqq := HSUM.out
        have ee : (q : Int) - (s : Int) = (e : Int) := by omega
        have wee : IntKind.i64.wrap ((q : Int) - (s : Int)) = (e : Int) := by rw [IntKind.wrap_i64]; omega
        have HF : Hid (Found cf a m b mid s e D) := by
          have a6 := F6.out
          have a7 := F7.out
          have l1 := LO.out
          have l2 := HI.out
          refine ⟨by omega, by omega, by omega, by omega, by omega, ?_, ?_⟩
          · rcases l1 with l1 | l1
            · rcases a6 with a6 | a6
              · exact Or.inl (by omega)
              · exact Or.inr (Or.inl (by omega))
            · exact Or.inr (Or.inr (by rw [he]; exact l1))
          · rcases l2 with l2 | l2
            · rcases a7 with a7 | a7
              · exact Or.inl (by omega)
              · exact Or.inr (Or.inl (by omega))
            · exact Or.inr (Or.inr (by rw [show e - 1 = q - 1 - s by omega]; exact l2))
        have g1 := HF.out.as
        have g2 := HF.out.sm
        have g3 := HF.out.me
        have g4 := HF.out.eb
        have g5 : s + e = mid + m := HF.out.sum
        have G5 := hide' g5
        have g6 : s ≤ mid := by omega
        have g7 : mid ≤ e := by omega
        have HV : Hid (Halves cf a b mid s e (rot D s m e)) := HF.out.halves HC.out H1.out H2.out HLS.out
        have HP : Hid (PermW a b D (rot D s m e)) := rot_perm D a b s m e g1 g2 g3 g4
        have HMF : Hid (∀ k, a ≤ k → k < b → rot D s m e k < mm) := fun k k1 k2 => HP.out.all (· < mm) HL.out k k1 k2
        clear hqq he g5 LO HI
        have hlt : ¬ (s : Int) < (s : Int) := by omega
        go_wp2_with (first
          | (go_at_call 53; (with_reducible refine (rotate_any (.func (.func g) #[] lb) B n s m e cap D w wr hn (by omega) (by omega) (by omega) HW.out).mono ?_); rintro e' w1 ⟨rfl, HW1⟩)
          | (go_at_call 50; first
            | ((with_reducible refine (first_call HV.out IH.out HMF.out hb mb (by first | exact HW1.out | (rw [rot_none D s m e g2 g3 (by omega)]; exact HW.out)) (by omega) (by omega)).mono ?_); rintro e' w2 ⟨rfl, HE1⟩)
            | ((with_reducible refine (second_call HV.out HP.out IH.out HMF.out hb ma (by first | exact HE1.out | exact first_skip HV.out HW1.out (by omega) | exact first_skip HV.out (by rw [rot_none D s m e g2 g3 (by omega)]; exact HW.out) (by omega)) (by omega) (by omega)).mono ?_); rintro e' w3 ⟨rfl, HR⟩)))
        all_goals
          go_end0
          refine ⟨rfl, ?_⟩
          first
          | exact HR
          | exact second_end HV.out HP.out ma mb (by first | exact HE1.out | exact first_skip HV.out HW1.out (by omega) | exact first_skip HV.out (by rw [rot_none D s m e g2 g3 (by omega)]; exact HW.out) (by omega)) (by omega)

end Go.Proofs.Ytmkkkddadpcmeaa
