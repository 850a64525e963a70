/-
  Same numbers are taken together: walked. No conditions.
-/
import Derived.Test.YtlhfpnfiamgmlaaQ6
import Derived.Deep.DeepCutAuto
import Derived.BigQuiet
import Derived.Lib.SliceRun
import Derived.BigFrame
namespace Go.Proofs.Ytlhfpnfiamgmlaa
open Go.RowKit

/-- The first ones rise. -/
def Ris (h : Nat → Int) (k : Nat) : Prop := ∀ p q, p < q → q < k → h p < h q

/-- What comes of taking together. -/
def COut (B n cap : Nat) (g : Nat → Int) (w : World) (e : Ending) (w' : World) : Prop := ∃ (k : Nat) (h : Nat → Int), e = .returned (.slice (some ⟨B, 0, none⟩) k cap) ∧ k ≤ n ∧ Stay (fun j => j = B) w w' ∧ IRow w' B k h ∧ Ris h k ∧ ∀ v, (∃ i, i < k ∧ h i = v) ↔ (∃ i, i < n ∧ g i = v)

theorem compact43_small (a : Option Addr) (n cap : Nat) (w : World) (hn : n < 2) : Calls Try.prog 43 #[.slice a n cap] w (Gives (.slice a n cap) w) := by
  have HS := hide' (Stay.refl (fun _ => False) w)
  have hz : (n : Int) < 2 := by omega
  clear hn
  go_enter Try.func43, Try.ntmps43
  go_wp2
  go_ret
  exact ⟨rfl, HS.out⟩

/-- While same ones are passed by: those that are written so far. -/
structure CIn (w : World) (B n k0 : Nat) (g : Nat → Int) (c r : Nat) (wr : World) (h : Nat → Int) : Prop where
  stay : Stay (fun j => j = B) w wr
  row : IRow wr B n h
  lo : k0 ≤ c
  hi : c < r
  le : r ≤ n
  old : ∀ i, c ≤ i → i < n → h i = g i
  ris : Ris h c
  mem : ∀ v, (∃ i, i < c ∧ h i = v) ↔ (∃ i, i < r ∧ g i = v)

theorem CIn.skip {w wr : World} {B n k0 c r : Nat} {g h : Nat → Int} (H : CIn w B n k0 g c r wr h) (hr : r < n) (he : g r = g (r - 1)) : CIn w B n k0 g c (r + 1) wr h :=
  ⟨H.stay, H.row, H.lo, by have := H.hi; omega, by omega, H.old, H.ris, fun v => (H.mem v).trans ⟨fun ⟨i, a, b⟩ => ⟨i, by omega, b⟩, fun ⟨i, a, b⟩ => by
    by_cases e : i = r
    · subst e; exact ⟨i - 1, by have := H.hi; omega, by rw [← he]; exact b⟩
    · exact ⟨i, by omega, b⟩⟩⟩

theorem CIn.drewN {w wr : World} {B n k0 c r : Nat} {g h : Nat → Int} (H : CIn w B n k0 g c r wr h) (m : Nat) : CIn w B n k0 g c r (wr.drewN m) h := ⟨H.stay.drewN m, H.row, H.lo, H.hi, H.le, H.old, H.ris, H.mem⟩

theorem CIn.take {w wr : World} {B n k0 c r : Nat} {g h : Nat → Int} (H : CIn w B n k0 g c r wr h) (hs : Upto g n) (hr : r < n) (he : g r ≠ g (r - 1)) : CIn w B n k0 g (c + 1) (r + 1) (wr.setCell ⟨B, c, none⟩ (.int .i64 (g r))) (fun i => if i = c then g r else h i) := by
  have h1 := H.hi
  have hlast : ∀ p, p < c → h p < g r := fun p hp => by
    obtain ⟨i, hi, e⟩ := (H.mem (h p)).1 ⟨p, hp, rfl⟩
    rw [← e]
    have h2 : g (r - 1) < g r := by
      have := hs (r - 1) r (by omega) hr
      omega
    by_cases x : i = r - 1
    · rw [x]; exact h2
    · have := hs i (r - 1) (by omega) (by omega)
      omega
  refine ⟨H.stay.setCell (p := ⟨B, c, none⟩) rfl _, H.row.set (by omega) _, by have := H.lo; omega, by omega, by omega, fun i hi hin => by rw [if_neg (by omega)]; exact H.old i (by omega) hin, fun p q hp hq => ?_, fun v => ?_⟩
  · by_cases e : q = c
    · subst e; rw [if_neg (by omega), if_pos rfl]; exact hlast p hp
    · rw [if_neg (by omega), if_neg e]; exact H.ris p q hp (by omega)
  · constructor
    · rintro ⟨i, hi, e⟩
      by_cases x : i = c
      · subst x; rw [if_pos rfl] at e; exact ⟨r, by omega, e⟩
      · rw [if_neg x] at e
        obtain ⟨l, hl, e2⟩ := (H.mem v).1 ⟨i, by omega, e⟩
        exact ⟨l, by omega, e2⟩
    · rintro ⟨i, hi, e⟩
      by_cases x : i = r
      · subst x; exact ⟨c, by omega, by rw [if_pos rfl]; exact e⟩
      · obtain ⟨l, hl, e2⟩ := (H.mem v).2 ⟨i, by omega, e⟩
        exact ⟨l, by omega, by rw [if_neg (by omega)]; exact e2⟩

theorem IRow.first {w : World} {g n c : Nat} {h : Nat → Int} (H : IRow w g n h) (hc : c ≤ n) (vs : List Value) : IRow (w.setCells g c vs) g c h := fun i hi =>
  ⟨(World.cell?_setCells_out g vs c w ⟨g, i, none⟩ (fun _ _ => by show i < c ∨ c + vs.length ≤ i; omega)).trans (H i (by omega)).1, (World.frozen?_setCells g vs c w _).trans (H i (by omega)).2⟩

theorem zero3 (w : World) : (zeroValue 3).run Try.prog w = .ok (.int .i64 0) w := by kernel_rfl

set_option maxHeartbeats 4000000 in
theorem compact43 (B n cap : Nat) (g : Nat → Int) (w : World) (hr : IRow w B n g) (hs : Upto g n) (h2 : 2 ≤ n) (hn : n ≤ 20) (hc : n ≤ cap) : Calls Try.prog 43 #[.slice (some ⟨B, 0, none⟩) n cap] w (COut B n cap g w) := by
  have HR : Hid (Stay (fun j => j = B) w w ∧ IRow w B n g) := ⟨Stay.refl _ _, hr⟩
  have HS := hide' hs
  have HNN := hide' (show 2 ≤ n ∧ n ≤ 20 ∧ n ≤ cap from ⟨h2, hn, hc⟩)
  have hnz : (n : Int) ≤ 20 := by omega
  have hn2 : decide ((n : Int) < 2) = false := decide_eq_false (by omega)
  have hn3 : ¬ (n : Int) < 2 := by omega
  clear hr hs h2 hn hc
  go_enter Try.func43, Try.ntmps43
  go_wp2
  go_loopg [3] (n - 1) (fun gg v3 wr => ∃ k : Nat, v3 = .int .i64 (k : Int) ∧ 1 ≤ k ∧ k ≤ n ∧ gg = n - k ∧ Hid (Stay (fun j => j = B) w wr ∧ IRow wr B n g) ∧ Hid (Ris g k))
  case atStart => exact ⟨1, rfl, by omega, by have := HNN.out; omega, by omega, HR, fun p q h1 h2 => by omega⟩
  case round =>
    clear HR
    obtain ⟨k, rfl, hk1, hk, rfl, HR, HK⟩ := hrel
    by_cases hlt : k < n
    · obtain ⟨kp, rfl⟩ : ∃ kp, k = kp + 1 := ⟨k - 1, by omega⟩
      have kz : (kp : Int) + 1 < (n : Int) := by omega
      have kz1 : (kp : Int) < (n : Int) := by omega
      have p0 : (0 : Int) ≤ (kp : Int) + 1 := by omega
      have e0 : ((kp : Int) + 1).toNat = kp + 1 := by omega
      have hwp : IntKind.i64.wrap (kp : Int) = (kp : Int) := by rw [IntKind.wrap_i64]; omega
      obtain ⟨cj, fj⟩ := HR.out.2 (kp + 1) hlt
      obtain ⟨cp, fp⟩ := HR.out.2 kp (by omega)
      by_cases he : g (kp + 1) = g kp
      · have hb : (g (kp + 1) == g kp) = true := by rw [he]; simp
        go_wp2_with fail
        go_quiet (fail)
        have HC0 : Hid (CIn w B n (kp + 1) g (kp + 1) (kp + 1 + 1) (wr.drewN nq) g) := ⟨HR.out.1.drewN _, HR.out.2, Nat.le_refl _, by omega, by omega, fun _ _ _ => rfl, HK.out, fun v => ⟨fun ⟨i, a, b⟩ => ⟨i, by omega, b⟩, fun ⟨i, a, b⟩ => by
          by_cases e : i = kp + 1
          · subst e; exact ⟨kp, by omega, he.symm.trans b⟩
          · exact ⟨i, by omega, b⟩⟩⟩
        clear cj fj cp fp HR HK
        generalize wr.drewN nq = wq at HC0 ⊢
        obtain ⟨k0, hk0⟩ : ∃ k0, k0 = kp + 1 := ⟨_, rfl⟩
        rw [← hk0] at HC0 ⊢
        have k0z : (k0 : Int) < (n : Int) := by omega
        have k0n : k0 < n := by omega
        have k0c : k0 < cap := by have := HNN.out; omega
        have k0i : (k0 : Int) ≤ (n : Int) := by omega
        have hck : ¬ cap = k0 := by omega
        have hk01 : 1 ≤ k0 := by omega
        clear he hb hk0 kz kz1 p0 e0 hwp hlt hk hk1
        obtain ⟨m, hm⟩ : ∃ m, n - k0 = m := ⟨_, rfl⟩
        have HM : Hid (n = k0 + m) := by show n = k0 + m; omega
        have hmz : (m : Int) ≤ 20 := by omega
        have HC1 : Hid (∃ h, CIn w B n k0 g k0 (k0 + 1) wq h) := ⟨g, HC0.out⟩
        clear HC0
        go_wp2
        clear hm
        go_loopg [3, 5] (m - 1) (fun gg v3 v5 wr => ∃ c r2 : Nat, v3 = .int .i64 (c : Int) ∧ v5 = .int .i64 (r2 : Int) ∧ 1 ≤ r2 ∧ r2 ≤ m ∧ gg = m - r2 ∧ Hid (∃ h, CIn w B n k0 g c (k0 + r2) wr h))
        case atStart => exact ⟨k0, 1, rfl, rfl, by omega, by have := HM.out; omega, by omega, HC1⟩
        case round =>
          clear HC1
          obtain ⟨c, r2, rfl, rfl, hr1, hrm, rfl, HX⟩ := hrel
          obtain ⟨h, hX⟩ := HX.out
          have HCI := hide' hX
          clear HX hX
          by_cases hlt : r2 < m
          · obtain ⟨rp, rfl⟩ : ∃ rp, r2 = rp + 1 := ⟨r2 - 1, by omega⟩
            have rz : (rp : Int) + 1 < (m : Int) := by omega
            have rz1 : (rp : Int) < (m : Int) := by omega
            have p0 : (0 : Int) ≤ (rp : Int) + 1 := by omega
            have e0 : ((rp : Int) + 1).toNat = rp + 1 := by omega
            have hwp : IntKind.i64.wrap (rp : Int) = (rp : Int) := by rw [IntKind.wrap_i64]; have := HM.out; omega
            have hM := HM.out
            have hhi := HCI.out.hi
            obtain ⟨cj, fj⟩ := HCI.out.row (k0 + (rp + 1)) (by omega)
            obtain ⟨cp, fp⟩ := HCI.out.row (k0 + rp) (by omega)
            rw [HCI.out.old (k0 + (rp + 1)) (by omega) (by omega)] at cj
            rw [HCI.out.old (k0 + rp) (by omega) (by omega)] at cp
            obtain ⟨x1, hx1⟩ : ∃ x, x = g (k0 + (rp + 1)) := ⟨_, rfl⟩
            obtain ⟨x0, hx0⟩ : ∃ x, x = g (k0 + rp) := ⟨_, rfl⟩
            rw [← hx1] at cj
            rw [← hx0] at cp
            have X1 := hide' hx1
            have X0 := hide' hx0
            clear hx1 hx0 hM hhi
            by_cases he : x1 = x0
            · have hb : (x1 != x0) = false := by rw [he]; simp
              have HS2 : Hid (∃ h, CIn w B n k0 g c (k0 + (rp + 1 + 1)) wr h) := ⟨h, HCI.out.skip (by have := HM.out; omega) (by rw [show k0 + (rp + 1) - 1 = k0 + rp by omega, ← X1.out, ← X0.out]; exact he)⟩
              clear HCI
              go_wp2_with fail
              go_quiet (fail)
              go_wp2
              go_roundg (m - (rp + 1 + 1))
              case measure => omega
              case rel => exact ⟨c, rp + 1 + 1, rfl, by first | rfl | go_num | (congr 1; omega), by omega, by omega, rfl, by obtain ⟨h, hX⟩ := HS2.out; exact ⟨h, hX.drewN _⟩⟩
            · have hb : (x1 != x0) = true := bne_iff_ne.2 he
              have hcn : c < n := by have := HCI.out.hi; have := HM.out; omega
              obtain ⟨cc, fc⟩ := HCI.out.row c hcn
              have cz : (c : Int) < (n : Int) := by omega
              have c20 : (c : Int) ≤ 20 := by omega
              go_wp2_with fail
              go_quiet (fail)
              have HCQ := hide' (HCI.out.drewN nq)
              have cj2 : (wr.drewN nq).cell? ⟨B, k0 + (rp + 1), none⟩ = some (.int .i64 x1) := cj
              have cc2 : (wr.drewN nq).cell? ⟨B, c, none⟩ = some (.int .i64 (h c)) := cc
              have fc2 : (wr.drewN nq).frozen? ⟨B, c, none⟩ = false := fc
              have HEN := hide' he
              clear cj cp fj fp cc fc HCI he hb
              generalize wr.drewN nq = wq2 at HCQ cj2 cc2 fc2 ⊢
              go_wp2
              clear cj2 cc2 fc2
              generalize hWr : World.setCell _ _ _ = W5
              have HC5 : Hid (∃ h, CIn w B n k0 g (c + 1) (k0 + (rp + 1 + 1)) W5 h) := by
                have ht := HCQ.out.take HS.out (by have := HM.out; omega) (by rw [show k0 + (rp + 1) - 1 = k0 + rp by omega, ← X1.out, ← X0.out]; exact HEN.out)
                rw [← X1.out, hWr] at ht
                exact ⟨_, ht⟩
              clear hWr HCQ
              go_roundg (m - (rp + 1 + 1))
              case measure => omega
              case rel => exact ⟨c + 1, rp + 1 + 1, by first | rfl | go_num | (congr 1; omega), by first | rfl | go_num | (congr 1; omega), by omega, by omega, rfl, HC5⟩
          · have hrm2 : r2 = m := by omega
            subst hrm2
            have hcn : c < n := by have := HCI.out.hi; have := HM.out; omega
            have hcc : c < cap := by have := HNN.out; omega
            have hck2 : ¬ cap = c := by omega
            have ci : (c : Int) ≤ (n : Int) := by omega
            have ci2 : (c : Int) ≤ (cap : Int) := by omega
            obtain ⟨z, hz⟩ : ∃ z, n - c = z := ⟨_, rfl⟩
            have hcl : ∀ ty, (Builtin.clear_ #[53] ty #[.slice (some ⟨B, c, none⟩) z (cap - c)]).run Try.prog wr = .ok (.tuple #[]) (wr.setCells B c (List.replicate z (.int .i64 0))) := fun ty => Lib.run_clear_slice wr 53 3 ty (.int .i64 0) Try.underlying53 zero3 rfl rfl B c z (cap - c) (by omega) (fun j hj => by rw [(HCI.out.row (c + j) (by omega)).1]; rfl) (fun j hj => (HCI.out.row (c + j) (by omega)).2)
            have HMEM := hide' HCI.out.mem
            have HRS := hide' HCI.out.ris
            have HST := hide' HCI.out.stay
            have HRW := hide' HCI.out.row
            have HNE : Hid (n = k0 + r2) := HM.out
            clear HCI
            go_wp2_with (simp only [hcl])
            go_ret
            exact ⟨c, h, rfl, by omega, HST.out.trans ((Stay.refl (fun j => j = B) wr).setCells B _ _ rfl), HRW.out.first (by omega) _, HRS.out, fun v => (HMEM.out v).trans (by rw [← HNE.out])⟩
      · have hb : (g (kp + 1) == g kp) = false := beq_eq_false_iff_ne.2 he
        have HK2 : Hid (Ris g (kp + 1 + 1)) := fun p q h1 h3 => by
          by_cases e : q = kp + 1
          · subst e
            have h4 := HS.out kp (kp + 1) (by omega) hlt
            by_cases e2 : p = kp
            · subst e2; omega
            · have := HS.out p kp (by omega) (by omega); omega
          · exact HK.out p q h1 (by omega)
        go_wp2_with fail
        go_quiet (fail)
        go_wp2
        go_roundg (n - (kp + 1 + 1))
        case measure => omega
        case rel => exact ⟨kp + 1 + 1, by first | rfl | go_num | (congr 1; omega), by omega, by omega, rfl, ⟨HR.out.1.drewN _, HR.out.2⟩, HK2⟩
    · have hkn : k = n := by omega
      subst hkn
      go_wp2
      go_ret
      exact ⟨k, g, rfl, Nat.le_refl _, HR.out.1, HR.out.2, HK.out, fun _ => Iff.rfl⟩

end Go.Proofs.Ytlhfpnfiamgmlaa
