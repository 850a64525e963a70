/-
  The document's own beginnings of forms, walked. No conditions.
-/
import Derived.Test.YticccknocjnkpaaDoorUH
namespace Go.Proofs.YticccknocjnkpaaDoor.Utf
open Go.RowKit

/-- May d stand at place i behind c? -/
def okAt (c i d : Nat) : Bool := if i = 1 then second c d else cont d

theorem beg_iff : ∀ (l : List Nat), 0 < l.length → (beg l = true ↔ lead (l.getD 0 0) = true ∧ l.length ≤ long (l.getD 0 0) ∧ ∀ i, 1 ≤ i → i < l.length → okAt (l.getD 0 0) i (l.getD i 0) = true)
  | [c], _ => by
    have := long_bd c
    simp [beg]; intro _; exact ⟨by omega, fun i h1 h2 => by omega⟩
  | [c, d], _ => by
    have := long_bd c
    simp only [beg, Bool.and_eq_true]
    refine ⟨fun ⟨h1, h2⟩ => ⟨h1, by simp; omega, fun i hi hl => ?_⟩, fun ⟨h1, _, h3⟩ => ⟨h1, by simpa [okAt] using h3 1 (by omega) (by simp)⟩⟩
    obtain rfl : i = 1 := by simp at hl; omega
    simpa [okAt] using h2
  | [c, d, e], _ => by
    simp only [beg, Bool.and_eq_true, decide_eq_true_eq]
    refine ⟨fun ⟨⟨⟨h1, h2⟩, h3⟩, h4⟩ => ⟨h1, by simp [long]; split <;> (try split) <;> omega, fun i hi hl => ?_⟩, fun ⟨h1, h2, h3⟩ => ⟨⟨⟨h1, ?_⟩, by simpa [okAt] using h3 1 (by omega) (by simp)⟩, by simpa [okAt] using h3 2 (by omega) (by simp)⟩⟩
    · have hi' : i = 1 ∨ i = 2 := by simp at hl; omega
      rcases hi' with rfl | rfl
      · simpa [okAt] using h3
      · simpa [okAt] using h4
    · have : 3 ≤ long c := by simpa using h2
      unfold long at this
      split at this <;> (try split at this) <;> omega
  | [c, d, e, f], _ => by
    simp only [beg, Bool.and_eq_true, decide_eq_true_eq]
    refine ⟨fun ⟨⟨⟨⟨h1, h2⟩, h3⟩, h4⟩, h5⟩ => ⟨h1, by simp [long]; split <;> (try split) <;> omega, fun i hi hl => ?_⟩,
      fun ⟨h1, h2, h3⟩ => ⟨⟨⟨⟨h1, ?_⟩, by simpa [okAt] using h3 1 (by omega) (by simp)⟩, by simpa [okAt] using h3 2 (by omega) (by simp)⟩, by simpa [okAt] using h3 3 (by omega) (by simp)⟩⟩
    · have hi' : i = 1 ∨ i = 2 ∨ i = 3 := by simp at hl; omega
      rcases hi' with rfl | rfl | rfl
      · simpa [okAt] using h3
      · simpa [okAt] using h4
      · simpa [okAt] using h5
    · have : 4 ≤ long c := by simpa using h2
      unfold long at this
      split at this <;> (try split at this) <;> omega
  | c :: d :: e :: f :: g :: r, _ => by
    have := (long_bd c).2
    refine ⟨fun h => by simp [beg] at h, fun ⟨_, h2, _⟩ => ?_⟩
    simp at h2
    omega

theorem beg_false {l : List Nat} (h0 : 0 < l.length) (h : ¬ (lead (l.getD 0 0) = true ∧ l.length ≤ long (l.getD 0 0) ∧ ∀ i, 1 ≤ i → i < l.length → okAt (l.getD 0 0) i (l.getD i 0) = true)) : beg l = false := by
  cases e : beg l with
  | false => rfl
  | true => exact absurd ((beg_iff l h0).1 e) h

theorem ret_bool {a b : Bool} (h : a = b) : Ending.returned (.bool a) = .returned (.bool b) := by rw [h]

theorem okAt_second {c i d lo hi : Nat} (h1 : i = 1) (hlo : (if c = 224 then 160 else if c = 240 then 144 else 128) = lo) (hhi : (if c = 237 then 159 else if c = 244 then 143 else 191) = hi) : okAt c i d = (decide (lo ≤ d) && decide (d ≤ hi)) := by
  unfold okAt second; rw [if_pos h1, hlo, hhi]

theorem okAt_cont {c i d : Nat} (h1 : i ≠ 1) : okAt c i d = (decide (128 ≤ d) && decide (d ≤ 191)) := by
  unfold okAt cont; rw [if_neg h1]

set_option maxHeartbeats 4000000 in
theorem begins_any (l : List Nat) (b off cap : Nat) (w : World) (h0 : 0 < l.length) (hl : l.length ≤ 100000) (hB : Bytes w b off l) :
    Calls Tryd.prog 49 #[.slice (some ⟨b, off, none⟩) l.length cap] w fun e w' => e = .returned (.bool (beg l)) ∧ w = w' := by
  have HB := hide' hB
  obtain ⟨c, hc⟩ : ∃ c, c = l.getD 0 0 := ⟨_, rfl⟩
  have c0 : w.cell? ⟨b, off, none⟩ = some (.int .u8 (c : Nat)) := by have := hB.1 0 h0; rwa [Nat.add_zero, ← hc] at this
  have hc256 : c < 256 := by rw [hc]; exact hB.lt 0 h0
  have HBF := hide' (@beg_false l h0)
  have HBI := hide' (beg_iff l h0)
  rw [← hc] at HBF HBI
  obtain ⟨n, hn⟩ : ∃ n, n = l.length := ⟨_, rfl⟩
  rw [← hn] at h0 hl HBF HBI ⊢
  have HN := hide' hn
  have HC := hide' hc
  have n0 : (0 : Int) < n := by omega
  have n5 : (n : Int) ≤ 100000 := by omega
  have q0 : (0 : Int) ≤ c := by omega
  have q1 : (c : Int) < 256 := by omega
  clear hB hc hn
  by_cases hlo : c < 194
  · have d1 : decide ((c : Int) < 194) = true := by simp; omega
    have HR : Hid (beg l = false) := HBF.out (fun h => by have := lead_iff.1 h.1; omega)
    go_enter Tryd.func49, Tryd.ntmps49
    go_wp2
    go_ret
    exact ⟨ret_bool HR.out.symm, rfl⟩
  have d1 : decide ((c : Int) < 194) = false := by simp; omega
  by_cases hhi : 244 < c
  · have d2 : decide ((244 : Int) < c) = true := by simp; omega
    have HR : Hid (beg l = false) := HBF.out (fun h => by have := lead_iff.1 h.1; omega)
    go_enter Tryd.func49, Tryd.ntmps49
    go_wp2
    go_ret
    exact ⟨ret_bool HR.out.symm, rfl⟩
  have d2 : decide ((244 : Int) < c) = false := by simp; omega
  obtain ⟨L, hL⟩ : ∃ L, L = long c := ⟨_, rfl⟩
  have HLg := hide' hL
  have hL3 : (c < 224 ∧ L = 2) ∨ (224 ≤ c ∧ c < 240 ∧ L = 3) ∨ (240 ≤ c ∧ L = 4) := by
    rw [hL]; unfold long; split <;> (try split) <;> omega
  clear hL
  rcases hL3 with ⟨h2, rfl⟩ | ⟨h2, h3, rfl⟩ | ⟨h2, rfl⟩
  · have d3 : decide ((224 : Int) ≤ c) = false := by simp; omega
    have d4 : decide ((240 : Int) ≤ c) = false := by simp; omega
    by_cases hnl : 2 < n
    · have d5 : decide ((2 : Int) < n) = true := by simp; omega
      have HR : Hid (beg l = false) := HBF.out (fun h => by have := h.2.1; have := HLg.out; omega)
      go_enter Tryd.func49, Tryd.ntmps49
      go_wp2
      go_ret
      exact ⟨ret_bool HR.out.symm, rfl⟩
    have d5 : decide ((2 : Int) < n) = false := by simp; omega
    have HLen : Hid (n ≤ long c) := by show n ≤ long c; have := HLg.out; omega
    have HLead : Hid (lead c = true) := lead_iff.2 ⟨by omega, by omega⟩
    go_enter Tryd.func49, Tryd.ntmps49
    go_wp2
    go_loopg [5, 6, 7] (n - 1) (fun g i u v wr => ∃ k : Nat, 1 ≤ k ∧ k ≤ n ∧ g = n - k ∧ i = .int .i64 (k : Int) ∧ Hid (∀ j, 1 ≤ j → j < k → okAt c j (l.getD j 0) = true) ∧ wr = w)
    case atStart => exact ⟨1, Nat.le_refl _, by omega, rfl, rfl, fun j h1 h2 => by omega, rfl⟩
    case round =>
      obtain ⟨k, hk1, hk, rfl, rfl, HI, rfl⟩ := hrel
      by_cases hlt : k < n
      · have hlk : k < l.length := by have := HN.out; omega
        have c1 : wr.cell? ⟨b, off + k, none⟩ = some (.int .u8 (l.getD k 0 : Nat)) := HB.out.1 k hlk
        have hd256 := HB.out.lt k hlk
        obtain ⟨d, hd⟩ : ∃ d, d = l.getD k 0 := ⟨_, rfl⟩
        rw [← hd] at c1 hd256
        have HD := hide' hd
        have k0 : (0 : Int) ≤ k := by omega
        have kn : (k : Int) < n := by omega
        have e0 : (0 : Int) ≤ d := by omega
        have e1 : (d : Int) < 256 := by omega
        clear hd
        have hno : okAt c k d = false → Hid (beg l = false) := fun h => HBF.out (fun hh => by
          have := hh.2.2 k hk1 hlt
          rw [← HD.out, h] at this
          cases this)
        have hyes : okAt c k d = true → Hid (∀ j, 1 ≤ j → j < k + 1 → okAt c j (l.getD j 0) = true) := fun h j h1 h2 => by
          by_cases e : j = k
          · rw [e, ← HD.out]; exact h
          · exact HI.out j h1 (by omega)
        by_cases hk2 : k = 1
        · have kb : ((k : Int) == 1) = true := by simp; omega
          have x224 : ((c : Int) == 224) = false := by simp; omega
          have x237 : ((c : Int) == 237) = false := by simp; omega
          have x240 : ((c : Int) == 240) = false := by simp; omega
          have x244 : ((c : Int) == 244) = false := by simp; omega
          have hok := okAt_second (c := c) (d := d) hk2 (lo := 128) (hi := 191) (by rw [if_neg (by omega), if_neg (by omega)]) (by rw [if_neg (by omega), if_neg (by omega)])
          clear hk2
          by_cases g1 : d < 128
          · have b1 : decide ((d : Int) < 128) = true := by simp; omega
            have HR := hno (by rw [hok, decide_eq_false (by omega)]; rfl)
            clear hno hyes hok
            go_wp2
            go_ret
            exact ⟨ret_bool HR.out.symm, rfl⟩
          have b1 : decide ((d : Int) < 128) = false := by simp; omega
          by_cases g2 : 191 < d
          · have b2 : decide ((191 : Int) < d) = true := by simp; omega
            have HR := hno (by rw [hok, decide_eq_false (p := d ≤ 191) (by omega), Bool.and_false])
            clear hno hyes hok
            go_wp2
            go_ret
            exact ⟨ret_bool HR.out.symm, rfl⟩
          have b2 : decide ((191 : Int) < d) = false := by simp; omega
          have HY := hyes (by rw [hok, decide_eq_true (p := 128 ≤ d) (by omega), decide_eq_true (p := d ≤ 191) (by omega)]; rfl)
          clear hno hyes hok
          go_wp2
          go_roundg (n - (k + 1))
          case rel => exact ⟨k + 1, by omega, by omega, rfl, by go_num, HY, rfl⟩
          case measure => omega
        · have kb : ((k : Int) == 1) = false := by simp; omega
          have hok := okAt_cont (c := c) (d := d) hk2
          clear hk2
          by_cases g1 : d < 128
          · have b1 : decide ((d : Int) < 128) = true := by simp; omega
            have HR := hno (by rw [hok, decide_eq_false (by omega)]; rfl)
            clear hno hyes hok
            go_wp2
            go_ret
            exact ⟨ret_bool HR.out.symm, rfl⟩
          have b1 : decide ((d : Int) < 128) = false := by simp; omega
          by_cases g2 : 191 < d
          · have b2 : decide ((191 : Int) < d) = true := by simp; omega
            have HR := hno (by rw [hok, decide_eq_false (p := d ≤ 191) (by omega), Bool.and_false])
            clear hno hyes hok
            go_wp2
            go_ret
            exact ⟨ret_bool HR.out.symm, rfl⟩
          have b2 : decide ((191 : Int) < d) = false := by simp; omega
          have HY := hyes (by rw [hok, decide_eq_true (p := 128 ≤ d) (by omega), decide_eq_true (p := d ≤ 191) (by omega)]; rfl)
          clear hno hyes hok
          go_wp2
          go_roundg (n - (k + 1))
          case rel => exact ⟨k + 1, by omega, by omega, rfl, by go_num, HY, rfl⟩
          case measure => omega
      · have HR : Hid (beg l = true) := HBI.out.2 ⟨HLead.out, HLen.out, fun i h1 h2 => HI.out i h1 (by omega)⟩
        go_wp2
        go_ret
        exact ⟨ret_bool HR.out.symm, rfl⟩
  · have d3 : decide ((224 : Int) ≤ c) = true := by simp; omega
    have d4 : decide ((240 : Int) ≤ c) = false := by simp; omega
    by_cases hnl : 3 < n
    · have d5 : decide ((3 : Int) < n) = true := by simp; omega
      have HR : Hid (beg l = false) := HBF.out (fun h => by have := h.2.1; have := HLg.out; omega)
      go_enter Tryd.func49, Tryd.ntmps49
      go_wp2
      go_ret
      exact ⟨ret_bool HR.out.symm, rfl⟩
    have d5 : decide ((3 : Int) < n) = false := by simp; omega
    have HLen : Hid (n ≤ long c) := by show n ≤ long c; have := HLg.out; omega
    have HLead : Hid (lead c = true) := lead_iff.2 ⟨by omega, by omega⟩
    go_enter Tryd.func49, Tryd.ntmps49
    go_wp2
    go_loopg [5, 6, 7] (n - 1) (fun g i u v wr => ∃ k : Nat, 1 ≤ k ∧ k ≤ n ∧ g = n - k ∧ i = .int .i64 (k : Int) ∧ Hid (∀ j, 1 ≤ j → j < k → okAt c j (l.getD j 0) = true) ∧ wr = w)
    case atStart => exact ⟨1, Nat.le_refl _, by omega, rfl, rfl, fun j h1 h2 => by omega, rfl⟩
    case round =>
      obtain ⟨k, hk1, hk, rfl, rfl, HI, rfl⟩ := hrel
      by_cases hlt : k < n
      · have hlk : k < l.length := by have := HN.out; omega
        have c1 : wr.cell? ⟨b, off + k, none⟩ = some (.int .u8 (l.getD k 0 : Nat)) := HB.out.1 k hlk
        have hd256 := HB.out.lt k hlk
        obtain ⟨d, hd⟩ : ∃ d, d = l.getD k 0 := ⟨_, rfl⟩
        rw [← hd] at c1 hd256
        have HD := hide' hd
        have k0 : (0 : Int) ≤ k := by omega
        have kn : (k : Int) < n := by omega
        have e0 : (0 : Int) ≤ d := by omega
        have e1 : (d : Int) < 256 := by omega
        clear hd
        have hno : okAt c k d = false → Hid (beg l = false) := fun h => HBF.out (fun hh => by
          have := hh.2.2 k hk1 hlt
          rw [← HD.out, h] at this
          cases this)
        have hyes : okAt c k d = true → Hid (∀ j, 1 ≤ j → j < k + 1 → okAt c j (l.getD j 0) = true) := fun h j h1 h2 => by
          by_cases e : j = k
          · rw [e, ← HD.out]; exact h
          · exact HI.out j h1 (by omega)
        by_cases hk2 : k = 1
        · have kb : ((k : Int) == 1) = true := by simp; omega
          by_cases hc224 : c = 224
          · have x224 : ((c : Int) == 224) = true := by simp; omega
            have x237 : ((c : Int) == 237) = false := by simp; omega
            have x240 : ((c : Int) == 240) = false := by simp; omega
            have x244 : ((c : Int) == 244) = false := by simp; omega
            have hok := okAt_second (c := c) (d := d) hk2 (lo := 160) (hi := 191) (by subst hc224; rfl) (by subst hc224; rfl)
            clear hk2 hc224
            by_cases g1 : d < 160
            · have b1 : decide ((d : Int) < 160) = true := by simp; omega
              have HR := hno (by rw [hok, decide_eq_false (by omega)]; rfl)
              clear hno hyes hok
              go_wp2
              go_ret
              exact ⟨ret_bool HR.out.symm, rfl⟩
            have b1 : decide ((d : Int) < 160) = false := by simp; omega
            by_cases g2 : 191 < d
            · have b2 : decide ((191 : Int) < d) = true := by simp; omega
              have HR := hno (by rw [hok, decide_eq_false (p := d ≤ 191) (by omega), Bool.and_false])
              clear hno hyes hok
              go_wp2
              go_ret
              exact ⟨ret_bool HR.out.symm, rfl⟩
            have b2 : decide ((191 : Int) < d) = false := by simp; omega
            have HY := hyes (by rw [hok, decide_eq_true (p := 160 ≤ d) (by omega), decide_eq_true (p := d ≤ 191) (by omega)]; rfl)
            clear hno hyes hok
            go_wp2
            go_roundg (n - (k + 1))
            case rel => exact ⟨k + 1, by omega, by omega, rfl, by go_num, HY, rfl⟩
            case measure => omega
          by_cases hc237 : c = 237
          · have x224 : ((c : Int) == 224) = false := by simp; omega
            have x237 : ((c : Int) == 237) = true := by simp; omega
            have x240 : ((c : Int) == 240) = false := by simp; omega
            have x244 : ((c : Int) == 244) = false := by simp; omega
            have hok := okAt_second (c := c) (d := d) hk2 (lo := 128) (hi := 159) (by subst hc237; rfl) (by subst hc237; rfl)
            clear hk2 hc237
            by_cases g1 : d < 128
            · have b1 : decide ((d : Int) < 128) = true := by simp; omega
              have HR := hno (by rw [hok, decide_eq_false (by omega)]; rfl)
              clear hno hyes hok
              go_wp2
              go_ret
              exact ⟨ret_bool HR.out.symm, rfl⟩
            have b1 : decide ((d : Int) < 128) = false := by simp; omega
            by_cases g2 : 159 < d
            · have b2 : decide ((159 : Int) < d) = true := by simp; omega
              have HR := hno (by rw [hok, decide_eq_false (p := d ≤ 159) (by omega), Bool.and_false])
              clear hno hyes hok
              go_wp2
              go_ret
              exact ⟨ret_bool HR.out.symm, rfl⟩
            have b2 : decide ((159 : Int) < d) = false := by simp; omega
            have HY := hyes (by rw [hok, decide_eq_true (p := 128 ≤ d) (by omega), decide_eq_true (p := d ≤ 159) (by omega)]; rfl)
            clear hno hyes hok
            go_wp2
            go_roundg (n - (k + 1))
            case rel => exact ⟨k + 1, by omega, by omega, rfl, by go_num, HY, rfl⟩
            case measure => omega
          have x224 : ((c : Int) == 224) = false := by simp; omega
          have x237 : ((c : Int) == 237) = false := by simp; omega
          have x240 : ((c : Int) == 240) = false := by simp; omega
          have x244 : ((c : Int) == 244) = false := by simp; omega
          have hok := okAt_second (c := c) (d := d) hk2 (lo := 128) (hi := 191) (by rw [if_neg (by omega), if_neg (by omega)]) (by rw [if_neg (by omega), if_neg (by omega)])
          clear hk2
          by_cases g1 : d < 128
          · have b1 : decide ((d : Int) < 128) = true := by simp; omega
            have HR := hno (by rw [hok, decide_eq_false (by omega)]; rfl)
            clear hno hyes hok
            go_wp2
            go_ret
            exact ⟨ret_bool HR.out.symm, rfl⟩
          have b1 : decide ((d : Int) < 128) = false := by simp; omega
          by_cases g2 : 191 < d
          · have b2 : decide ((191 : Int) < d) = true := by simp; omega
            have HR := hno (by rw [hok, decide_eq_false (p := d ≤ 191) (by omega), Bool.and_false])
            clear hno hyes hok
            go_wp2
            go_ret
            exact ⟨ret_bool HR.out.symm, rfl⟩
          have b2 : decide ((191 : Int) < d) = false := by simp; omega
          have HY := hyes (by rw [hok, decide_eq_true (p := 128 ≤ d) (by omega), decide_eq_true (p := d ≤ 191) (by omega)]; rfl)
          clear hno hyes hok
          go_wp2
          go_roundg (n - (k + 1))
          case rel => exact ⟨k + 1, by omega, by omega, rfl, by go_num, HY, rfl⟩
          case measure => omega
        · have kb : ((k : Int) == 1) = false := by simp; omega
          have hok := okAt_cont (c := c) (d := d) hk2
          clear hk2
          by_cases g1 : d < 128
          · have b1 : decide ((d : Int) < 128) = true := by simp; omega
            have HR := hno (by rw [hok, decide_eq_false (by omega)]; rfl)
            clear hno hyes hok
            go_wp2
            go_ret
            exact ⟨ret_bool HR.out.symm, rfl⟩
          have b1 : decide ((d : Int) < 128) = false := by simp; omega
          by_cases g2 : 191 < d
          · have b2 : decide ((191 : Int) < d) = true := by simp; omega
            have HR := hno (by rw [hok, decide_eq_false (p := d ≤ 191) (by omega), Bool.and_false])
            clear hno hyes hok
            go_wp2
            go_ret
            exact ⟨ret_bool HR.out.symm, rfl⟩
          have b2 : decide ((191 : Int) < d) = false := by simp; omega
          have HY := hyes (by rw [hok, decide_eq_true (p := 128 ≤ d) (by omega), decide_eq_true (p := d ≤ 191) (by omega)]; rfl)
          clear hno hyes hok
          go_wp2
          go_roundg (n - (k + 1))
          case rel => exact ⟨k + 1, by omega, by omega, rfl, by go_num, HY, rfl⟩
          case measure => omega
      · have HR : Hid (beg l = true) := HBI.out.2 ⟨HLead.out, HLen.out, fun i h1 h2 => HI.out i h1 (by omega)⟩
        go_wp2
        go_ret
        exact ⟨ret_bool HR.out.symm, rfl⟩
  · have d3 : decide ((224 : Int) ≤ c) = true := by simp; omega
    have d4 : decide ((240 : Int) ≤ c) = true := by simp; omega
    by_cases hnl : 4 < n
    · have d5 : decide ((4 : Int) < n) = true := by simp; omega
      have HR : Hid (beg l = false) := HBF.out (fun h => by have := h.2.1; have := HLg.out; omega)
      go_enter Tryd.func49, Tryd.ntmps49
      go_wp2
      go_ret
      exact ⟨ret_bool HR.out.symm, rfl⟩
    have d5 : decide ((4 : Int) < n) = false := by simp; omega
    have HLen : Hid (n ≤ long c) := by show n ≤ long c; have := HLg.out; omega
    have HLead : Hid (lead c = true) := lead_iff.2 ⟨by omega, by omega⟩
    go_enter Tryd.func49, Tryd.ntmps49
    go_wp2
    go_loopg [5, 6, 7] (n - 1) (fun g i u v wr => ∃ k : Nat, 1 ≤ k ∧ k ≤ n ∧ g = n - k ∧ i = .int .i64 (k : Int) ∧ Hid (∀ j, 1 ≤ j → j < k → okAt c j (l.getD j 0) = true) ∧ wr = w)
    case atStart => exact ⟨1, Nat.le_refl _, by omega, rfl, rfl, fun j h1 h2 => by omega, rfl⟩
    case round =>
      obtain ⟨k, hk1, hk, rfl, rfl, HI, rfl⟩ := hrel
      by_cases hlt : k < n
      · have hlk : k < l.length := by have := HN.out; omega
        have c1 : wr.cell? ⟨b, off + k, none⟩ = some (.int .u8 (l.getD k 0 : Nat)) := HB.out.1 k hlk
        have hd256 := HB.out.lt k hlk
        obtain ⟨d, hd⟩ : ∃ d, d = l.getD k 0 := ⟨_, rfl⟩
        rw [← hd] at c1 hd256
        have HD := hide' hd
        have k0 : (0 : Int) ≤ k := by omega
        have kn : (k : Int) < n := by omega
        have e0 : (0 : Int) ≤ d := by omega
        have e1 : (d : Int) < 256 := by omega
        clear hd
        have hno : okAt c k d = false → Hid (beg l = false) := fun h => HBF.out (fun hh => by
          have := hh.2.2 k hk1 hlt
          rw [← HD.out, h] at this
          cases this)
        have hyes : okAt c k d = true → Hid (∀ j, 1 ≤ j → j < k + 1 → okAt c j (l.getD j 0) = true) := fun h j h1 h2 => by
          by_cases e : j = k
          · rw [e, ← HD.out]; exact h
          · exact HI.out j h1 (by omega)
        by_cases hk2 : k = 1
        · have kb : ((k : Int) == 1) = true := by simp; omega
          by_cases hc240 : c = 240
          · have x224 : ((c : Int) == 224) = false := by simp; omega
            have x237 : ((c : Int) == 237) = false := by simp; omega
            have x240 : ((c : Int) == 240) = true := by simp; omega
            have x244 : ((c : Int) == 244) = false := by simp; omega
            have hok := okAt_second (c := c) (d := d) hk2 (lo := 144) (hi := 191) (by subst hc240; rfl) (by subst hc240; rfl)
            clear hk2 hc240
            by_cases g1 : d < 144
            · have b1 : decide ((d : Int) < 144) = true := by simp; omega
              have HR := hno (by rw [hok, decide_eq_false (by omega)]; rfl)
              clear hno hyes hok
              go_wp2
              go_ret
              exact ⟨ret_bool HR.out.symm, rfl⟩
            have b1 : decide ((d : Int) < 144) = false := by simp; omega
            by_cases g2 : 191 < d
            · have b2 : decide ((191 : Int) < d) = true := by simp; omega
              have HR := hno (by rw [hok, decide_eq_false (p := d ≤ 191) (by omega), Bool.and_false])
              clear hno hyes hok
              go_wp2
              go_ret
              exact ⟨ret_bool HR.out.symm, rfl⟩
            have b2 : decide ((191 : Int) < d) = false := by simp; omega
            have HY := hyes (by rw [hok, decide_eq_true (p := 144 ≤ d) (by omega), decide_eq_true (p := d ≤ 191) (by omega)]; rfl)
            clear hno hyes hok
            go_wp2
            go_roundg (n - (k + 1))
            case rel => exact ⟨k + 1, by omega, by omega, rfl, by go_num, HY, rfl⟩
            case measure => omega
          by_cases hc244 : c = 244
          · have x224 : ((c : Int) == 224) = false := by simp; omega
            have x237 : ((c : Int) == 237) = false := by simp; omega
            have x240 : ((c : Int) == 240) = false := by simp; omega
            have x244 : ((c : Int) == 244) = true := by simp; omega
            have hok := okAt_second (c := c) (d := d) hk2 (lo := 128) (hi := 143) (by subst hc244; rfl) (by subst hc244; rfl)
            clear hk2 hc244
            by_cases g1 : d < 128
            · have b1 : decide ((d : Int) < 128) = true := by simp; omega
              have HR := hno (by rw [hok, decide_eq_false (by omega)]; rfl)
              clear hno hyes hok
              go_wp2
              go_ret
              exact ⟨ret_bool HR.out.symm, rfl⟩
            have b1 : decide ((d : Int) < 128) = false := by simp; omega
            by_cases g2 : 143 < d
            · have b2 : decide ((143 : Int) < d) = true := by simp; omega
              have HR := hno (by rw [hok, decide_eq_false (p := d ≤ 143) (by omega), Bool.and_false])
              clear hno hyes hok
              go_wp2
              go_ret
              exact ⟨ret_bool HR.out.symm, rfl⟩
            have b2 : decide ((143 : Int) < d) = false := by simp; omega
            have HY := hyes (by rw [hok, decide_eq_true (p := 128 ≤ d) (by omega), decide_eq_true (p := d ≤ 143) (by omega)]; rfl)
            clear hno hyes hok
            go_wp2
            go_roundg (n - (k + 1))
            case rel => exact ⟨k + 1, by omega, by omega, rfl, by go_num, HY, rfl⟩
            case measure => omega
          have x224 : ((c : Int) == 224) = false := by simp; omega
          have x237 : ((c : Int) == 237) = false := by simp; omega
          have x240 : ((c : Int) == 240) = false := by simp; omega
          have x244 : ((c : Int) == 244) = false := by simp; omega
          have hok := okAt_second (c := c) (d := d) hk2 (lo := 128) (hi := 191) (by rw [if_neg (by omega), if_neg (by omega)]) (by rw [if_neg (by omega), if_neg (by omega)])
          clear hk2
          by_cases g1 : d < 128
          · have b1 : decide ((d : Int) < 128) = true := by simp; omega
            have HR := hno (by rw [hok, decide_eq_false (by omega)]; rfl)
            clear hno hyes hok
            go_wp2
            go_ret
            exact ⟨ret_bool HR.out.symm, rfl⟩
          have b1 : decide ((d : Int) < 128) = false := by simp; omega
          by_cases g2 : 191 < d
          · have b2 : decide ((191 : Int) < d) = true := by simp; omega
            have HR := hno (by rw [hok, decide_eq_false (p := d ≤ 191) (by omega), Bool.and_false])
            clear hno hyes hok
            go_wp2
            go_ret
            exact ⟨ret_bool HR.out.symm, rfl⟩
          have b2 : decide ((191 : Int) < d) = false := by simp; omega
          have HY := hyes (by rw [hok, decide_eq_true (p := 128 ≤ d) (by omega), decide_eq_true (p := d ≤ 191) (by omega)]; rfl)
          clear hno hyes hok
          go_wp2
          go_roundg (n - (k + 1))
          case rel => exact ⟨k + 1, by omega, by omega, rfl, by go_num, HY, rfl⟩
          case measure => omega
        · have kb : ((k : Int) == 1) = false := by simp; omega
          have hok := okAt_cont (c := c) (d := d) hk2
          clear hk2
          by_cases g1 : d < 128
          · have b1 : decide ((d : Int) < 128) = true := by simp; omega
            have HR := hno (by rw [hok, decide_eq_false (by omega)]; rfl)
            clear hno hyes hok
            go_wp2
            go_ret
            exact ⟨ret_bool HR.out.symm, rfl⟩
          have b1 : decide ((d : Int) < 128) = false := by simp; omega
          by_cases g2 : 191 < d
          · have b2 : decide ((191 : Int) < d) = true := by simp; omega
            have HR := hno (by rw [hok, decide_eq_false (p := d ≤ 191) (by omega), Bool.and_false])
            clear hno hyes hok
            go_wp2
            go_ret
            exact ⟨ret_bool HR.out.symm, rfl⟩
          have b2 : decide ((191 : Int) < d) = false := by simp; omega
          have HY := hyes (by rw [hok, decide_eq_true (p := 128 ≤ d) (by omega), decide_eq_true (p := d ≤ 191) (by omega)]; rfl)
          clear hno hyes hok
          go_wp2
          go_roundg (n - (k + 1))
          case rel => exact ⟨k + 1, by omega, by omega, rfl, by go_num, HY, rfl⟩
          case measure => omega
      · have HR : Hid (beg l = true) := HBI.out.2 ⟨HLead.out, HLen.out, fun i h1 h2 => HI.out i h1 (by omega)⟩
        go_wp2
        go_ret
        exact ⟨ret_bool HR.out.symm, rfl⟩

end Go.Proofs.YticccknocjnkpaaDoor.Utf
