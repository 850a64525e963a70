/-
  FifoCounts walked: true of any arguments. No conditions.
-/
import Derived.Test.YtcikjghgpppokaaE1
import Derived.Test.YtcikjghgpppokaaA3
namespace Go.Proofs.Ytcikjghgpppokaa
open Go.RowKit

theorem extract0 (x y : Value) (w : World) : (Instr.extract (.tuple #[x, y]) 0).run Try.prog w = .ok x w := rfl
theorem extract1 (x y : Value) (w : World) : (Instr.extract (.tuple #[x, y]) 1).run Try.prog w = .ok y w := rfl

attribute [local go_sem] extract0 extract1

theorem tmod_nat (x : Nat) : ((x : Nat) : Int).tmod 20 = ((x % 20 : Nat) : Int) := by
  rw [Int.tmod_eq_emod_of_nonneg (by omega)]; rfl

theorem own_took {q : Qu} {j : Nat} (h : q.took.own j) : q.own j := h

theorem take_in {w0 w : World} {q : Qu} {L : List Int} (h : QIn w0 w q L) (hn : 0 < q.n) : Calls Try.prog 9 #[.pointer (some ⟨q.b, 0, none⟩)] w fun e w' => e = .returned (.tuple #[.int .i64 (L.getD 0 0), .bool true]) ∧ QIn w0 w' q.took L.tail ∧ Stay (fun j => j = q.b) w w' := by
  refine (take9 q L w h.at' hn).mono ?_
  rintro e w' ⟨he, hs, hq⟩
  exact ⟨he, ⟨h.stay.trans2 hs (fun j hj hj2 => by have := h.new j (.inl hj2); omega), hq, fun j hj => h.new j hj⟩, hs⟩

theorem clear_in {w0 w : World} {q : Qu} {L : List Int} (h : QIn w0 w q L) : Calls Try.prog 10 #[.pointer (some ⟨q.b, 0, none⟩)] w fun e w' => e = .returned (.tuple #[]) ∧ QIn w0 w' q.none [] := by
  refine (clear10 q L w h.at').mono ?_
  rintro e w' ⟨he, hs, hq⟩
  exact ⟨he, ⟨h.stay.trans2 hs (fun j hj hj2 => by have := h.new j (.inl hj2); omega), hq, fun j hj => by
    rcases hj with hj | hj
    · exact h.new j (.inl hj)
    · cases hj⟩⟩

set_option maxRecDepth 100000 in
theorem counts_long (ad : Option Addr) (n cap : Nat) (x y : Int) (w : World) (hle : (n : Int) ≤ 9223372036854775807) (hn : 100 < n) : Calls Try.prog 4 #[.int .u8 x, .int .i64 y, .slice ad n cap] w (LawTrue w) := by
  have n1 : (100 : Int) < (n : Nat) := by omega
  have HAW := hide' awake5
  go_enter Try.func4, Try.ntmps4
  go_wp2_with fail
  refine (HAW.out _).mono ?_
  rintro e w9 ⟨rfl, hs⟩
  have HE := hide' hs
  clear hs
  go_wp2
  go_ret
  exact ⟨rfl, HE.out⟩

/-- What stands at the head of a round of FifoCounts. -/
structure CH (w : World) (b k c t d : Nat) (q : Qu) (L : List Int) (wr : World) : Prop where
  qin : QIn w wr q L
  b : q.b = b
  sum : c = t + d + q.n + q.z
  le : c ≤ k

set_option maxRecDepth 100000 in
set_option maxHeartbeats 1000000 in
theorem counts_go (ad : Option Addr) (n cap : Nat) (F : Nat → Nat → Int) (x : Nat) (y : Int) (w : World) (hA : Rows' [.i64, .i64] w ad n F) (hn : n ≤ 100) (hx : x < 256) : Calls Try.prog 4 #[.int .u8 (x : Nat), .int .i64 y, .slice ad n cap] w (LawTrue w) := by
  have HA := hide' hA
  have HAW := hide' awake5
  have n1 : (n : Int) ≤ 100 := by omega
  have xw : IntKind.i64.wrap (x : Int) = x := by rw [IntKind.wrap_i64]; omega
  have xt := tmod_nat x
  obtain ⟨xr, hxr⟩ : ∃ n, n = x % 20 := ⟨_, rfl⟩
  rw [← hxr] at xt
  have g3 : IntKind.i64.wrap (xr : Int) = xr := by rw [IntKind.wrap_i64]; omega
  obtain ⟨r, hr⟩ : ∃ n, n = 1 + xr := ⟨_, rfl⟩
  have g5 : IntKind.i64.wrap (1 + (xr : Int)) = (r : Nat) := by rw [IntKind.wrap_i64]; omega
  have HN := hide' (new_in (w0 := w) r y (Stay.refl _ w) (by omega) (by omega))
  clear hA hxr hr
  go_enter Try.func4, Try.ntmps4
  go_wp2_with fail
  refine HN.out.mono ?_
  rintro e w1 ⟨q0, rfl, hq0, _, hr0, hk0, hn0, hp0, hz0⟩
  have HC0 : Hid (CH w q0.b 0 0 0 0 q0 [] w1) := ⟨hq0, rfl, by omega, Nat.le_refl _⟩
  obtain ⟨b, hb⟩ : ∃ b, b = q0.b := ⟨_, rfl⟩
  rw [← hb] at HC0
  rw [← hb]
  clear hq0 hr0 hk0 hn0 hp0 hz0 hb HN xw xt g3 g5
  go_wp2_with fail
  go_loopg [8, 9, 10, 11] n (fun gg v8 v9 v10 v11 wr => ∃ k c t d : Nat, k ≤ n ∧ gg = n - k ∧ v8 = .int .i64 (c : Int) ∧ v9 = .int .i64 (t : Int) ∧ v10 = .int .i64 (d : Int) ∧ v11 = .int .i64 (k : Int) ∧ ∃ q L, Hid (CH w b k c t d q L wr))
  case atStart => exact ⟨0, 0, 0, 0, Nat.zero_le _, rfl, rfl, rfl, rfl, rfl, q0, [], HC0⟩
  case round =>
    clear HC0
    obtain ⟨k, c, t, d, hk, rfl, rfl, rfl, rfl, rfl, q, L, HC⟩ := hrel
    by_cases hlt : k < n
    · have kn : (k : Int) < (n : Nat) := by omega
      obtain ⟨ba, o, rfl, hac⟩ := HA.out.at' k hlt
      obtain ⟨a, ha⟩ : ∃ a, a = F k 0 := ⟨_, rfl⟩
      obtain ⟨v, hv⟩ : ∃ a, a = F k 1 := ⟨_, rfl⟩
      have c0 := keep_cell HC.out.qin.stay (hac 0 .i64 rfl)
      have c1 := keep_cell HC.out.qin.stay (hac 1 .i64 rfl)
      simp only [List.length_cons, List.length_nil, Nat.zero_add, Nat.reduceAdd, Nat.add_zero] at c0 c1
      rw [← ha] at c0
      rw [← hv] at c1
      clear hac ha hv
      by_cases h0 : a = 0
      · subst h0
        obtain ⟨bo, hbo⟩ : ∃ b, b = q.okB v := ⟨_, rfl⟩
        have HP := hide' (show Calls Try.prog 7 #[.pointer (some ⟨b, 0, none⟩), .int .i64 v] wr (PutIn w q L v bo wr) from by
          have h := put_in v bo HC.out.qin (by have := HC.out.sum; have := HC.out.le; omega) hbo.symm
          rwa [HC.out.b] at h)
        have HC2 := HC
        clear hbo HC
        go_wp2_with fail
        refine HP.out.mono ?_
        rintro e w2 ⟨q2, L2, rfl, hq, ⟨k1, k2, k3⟩, _, _, hcs⟩
        have HH := hide' hq
        have HB : Hid (q2.b = b) := k1.trans HC2.out.b
        have hsum : c + 1 = t + d + q2.n + q2.z := by have := HC2.out.sum; rcases hcs with ⟨_, _, h1, h2, _⟩ | ⟨_, _, h1, h2, _⟩ <;> omega
        have HSUM := hide' hsum
        have HLE := hide' HC2.out.le
        have hcb : c + 1 ≤ 101 := by have := HC2.out.le; omega
        clear hq k1 k2 k3 hcs HP HC2
        have HL := hide' (show Calls Try.prog 8 #[.pointer (some ⟨b, 0, none⟩)] w2 (Gives (.int .i64 (q2.n : Nat)) w2) from by
          have h := len8 q2 w2 HH.out.at'.box
          rwa [HB.out] at h)
        go_wp2_with fail
        refine HL.out.mono ?_
        rintro e wl ⟨rfl, hs⟩
        have HH2 := hide' (HH.out.keep hs)
        clear hs HL HH
        have HZ := hide' (show Calls Try.prog 11 #[.pointer (some ⟨b, 0, none⟩)] wl (Gives (.int .i64 (q2.z : Nat)) wl) from by
          have h := lost11 q2 wl HH2.out.at'.box
          rwa [HB.out] at h)
        go_wp2_with fail
        refine HZ.out.mono ?_
        rintro e wz ⟨rfl, hs⟩
        have HH3 := hide' (HH2.out.keep hs)
        clear hs HZ HH2
        go_wp2
        go_roundg (n - (k + 1))
        case measure => omega
        case rel => exact ⟨k + 1, c + 1, t, d, by omega, rfl, by go_num, rfl, rfl, by go_num, q2, L2, HH3.out, HB.out, HSUM.out, by have := HLE.out; omega⟩
      by_cases h1 : a = 1
      · subst h1
        by_cases hn0 : q.n = 0
        · have HT := hide' (show Calls Try.prog 9 #[.pointer (some ⟨b, 0, none⟩)] wr (Gives (.tuple #[.int .i64 0, .bool false]) wr) from by
            have h := take9_no q L wr HC.out.qin.at' hn0
            rwa [HC.out.b] at h)
          have HC2 := HC
          clear HC
          go_wp2_with fail
          refine HT.out.mono ?_
          rintro e w2 ⟨rfl, hs⟩
          have HH := hide' (HC2.out.qin.keep hs)
          have HB := hide' HC2.out.b
          have hsum := HC2.out.sum
          have HSUM := hide' hsum
          have HLE := hide' HC2.out.le
          have hcb : c ≤ 100 := by have := HC2.out.le; omega
          clear hs HT HC2
          have HL := hide' (show Calls Try.prog 8 #[.pointer (some ⟨b, 0, none⟩)] w2 (Gives (.int .i64 (q.n : Nat)) w2) from by
            have h := len8 q w2 HH.out.at'.box
            rwa [HB.out] at h)
          go_wp2_with fail
          refine HL.out.mono ?_
          rintro e wl ⟨rfl, hs⟩
          have HH2 := hide' (HH.out.keep hs)
          clear hs HL HH
          have HZ := hide' (show Calls Try.prog 11 #[.pointer (some ⟨b, 0, none⟩)] wl (Gives (.int .i64 (q.z : Nat)) wl) from by
            have h := lost11 q wl HH2.out.at'.box
            rwa [HB.out] at h)
          go_wp2_with fail
          refine HZ.out.mono ?_
          rintro e wz ⟨rfl, hs⟩
          have HH3 := hide' (HH2.out.keep hs)
          clear hs HZ HH2
          go_wp2
          go_roundg (n - (k + 1))
          case measure => omega
          case rel => exact ⟨k + 1, c, t, d, by omega, rfl, (by first | rfl | go_num | (congr 1; have := HSUM.out; omega)), rfl, rfl, by go_num, q, L, HH3.out, HB.out, HSUM.out, by have := HLE.out; omega⟩
        · have hn0 : 0 < q.n := by omega
          have HT := hide' (show Calls Try.prog 9 #[.pointer (some ⟨b, 0, none⟩)] wr (fun e w' => e = .returned (.tuple #[.int .i64 (L.getD 0 0), .bool true]) ∧ QIn w w' q.took L.tail ∧ Stay (fun j => j = b) wr w') from by
            have h := take_in HC.out.qin hn0
            rwa [HC.out.b] at h)
          have HC2 := HC
          clear HC
          obtain ⟨q2, hq2⟩ : ∃ x, x = q.took := ⟨_, rfl⟩
          have HNZ : Hid (q2.n = q.n - 1 ∧ q2.z = q.z ∧ q2.b = q.b) := by rw [hq2]; exact ⟨rfl, rfl, rfl⟩
          rw [← hq2] at HT
          clear hq2
          go_wp2_with fail
          refine HT.out.mono ?_
          rintro e w2 ⟨rfl, hq, _⟩
          have HH := hide' hq
          have HB : Hid (q2.b = b) := HNZ.out.2.2.trans HC2.out.b
          have hsum : c = t + 1 + d + q2.n + q2.z := by have := HC2.out.sum; have h1 := HNZ.out.1; have h2 := HNZ.out.2.1; omega
          have HSUM := hide' hsum
          have HLE := hide' HC2.out.le
          have hcb : c ≤ 100 := by have := HC2.out.le; omega
          clear hq HT HC2 HNZ
          have HL := hide' (show Calls Try.prog 8 #[.pointer (some ⟨b, 0, none⟩)] w2 (Gives (.int .i64 (q2.n : Nat)) w2) from by
            have h := len8 q2 w2 HH.out.at'.box
            rwa [HB.out] at h)
          go_wp2_with fail
          refine HL.out.mono ?_
          rintro e wl ⟨rfl, hs⟩
          have HH2 := hide' (HH.out.keep hs)
          clear hs HL HH
          have HZ := hide' (show Calls Try.prog 11 #[.pointer (some ⟨b, 0, none⟩)] wl (Gives (.int .i64 (q2.z : Nat)) wl) from by
            have h := lost11 q2 wl HH2.out.at'.box
            rwa [HB.out] at h)
          go_wp2_with fail
          refine HZ.out.mono ?_
          rintro e wz ⟨rfl, hs⟩
          have HH3 := hide' (HH2.out.keep hs)
          clear hs HZ HH2
          go_wp2
          go_roundg (n - (k + 1))
          case measure => omega
          case rel => exact ⟨k + 1, c, t + 1, d, by omega, rfl, (by first | rfl | go_num | (congr 1; have := HSUM.out; omega)), by go_num, rfl, by go_num, q2, L.tail, HH3.out, HB.out, HSUM.out, by have := HLE.out; omega⟩
      by_cases h2 : a = 2
      · subst h2
        have HL0 := hide' (show Calls Try.prog 8 #[.pointer (some ⟨b, 0, none⟩)] wr (Gives (.int .i64 (q.n : Nat)) wr) from by
          have h := len8 q wr HC.out.qin.at'.box
          rwa [HC.out.b] at h)
        have HC2 := HC
        have hs0 := HC.out.sum
        have hle0 : c ≤ 100 := by have := HC.out.le; omega
        clear HC
        go_wp2_with fail
        refine HL0.out.mono ?_
        rintro e w1 ⟨rfl, hs⟩
        have HH1 := hide' (HC2.out.qin.keep hs)
        clear hs HL0
        have HCL := hide' (show Calls Try.prog 10 #[.pointer (some ⟨b, 0, none⟩)] w1 (fun e w' => e = .returned (.tuple #[]) ∧ QIn w w' q.none []) from by
          have h := clear_in HH1.out
          rwa [HC2.out.b] at h)
        obtain ⟨q2, hq2⟩ : ∃ x, x = q.none := ⟨_, rfl⟩
        have HNZ : Hid (q2.n = 0 ∧ q2.z = q.z ∧ q2.b = q.b) := by rw [hq2]; exact ⟨rfl, rfl, rfl⟩
        rw [← hq2] at HCL
        clear hq2 HH1
        go_wp2_with fail
        refine HCL.out.mono ?_
        rintro e w2 ⟨rfl, hq⟩
        have HH := hide' hq
        have HB : Hid (q2.b = b) := HNZ.out.2.2.trans HC2.out.b
        have hsum : c = t + (d + q.n) + q2.n + q2.z := by have h1 := HNZ.out.1; have h2 := HNZ.out.2.1; omega
        have HSUM := hide' hsum
        have HLE := hide' HC2.out.le
        clear hq HCL HC2 HNZ
        have HL := hide' (show Calls Try.prog 8 #[.pointer (some ⟨b, 0, none⟩)] w2 (Gives (.int .i64 (q2.n : Nat)) w2) from by
          have h := len8 q2 w2 HH.out.at'.box
          rwa [HB.out] at h)
        go_wp2_with fail
        refine HL.out.mono ?_
        rintro e wl ⟨rfl, hs⟩
        have HH2 := hide' (HH.out.keep hs)
        clear hs HL HH
        have HZ := hide' (show Calls Try.prog 11 #[.pointer (some ⟨b, 0, none⟩)] wl (Gives (.int .i64 (q2.z : Nat)) wl) from by
          have h := lost11 q2 wl HH2.out.at'.box
          rwa [HB.out] at h)
        go_wp2_with fail
        refine HZ.out.mono ?_
        rintro e wz ⟨rfl, hs⟩
        have HH3 := hide' (HH2.out.keep hs)
        clear hs HZ HH2
        go_wp2
        go_roundg (n - (k + 1))
        case measure => omega
        case rel => exact ⟨k + 1, c, t, d + q.n, by omega, rfl, (by first | rfl | go_num | (congr 1; have := HSUM.out; omega)), rfl, by go_num, by go_num, q2, [], HH3.out, HB.out, HSUM.out, by have := HLE.out; omega⟩
      · skip
        have HH := hide' HC.out.qin
        have HB := hide' HC.out.b
        have hsum := HC.out.sum
        have HSUM := hide' hsum
        have HLE := hide' HC.out.le
        have hcb : c ≤ 100 := by have := HC.out.le; omega
        clear HC
        have HL := hide' (show Calls Try.prog 8 #[.pointer (some ⟨b, 0, none⟩)] wr (Gives (.int .i64 (q.n : Nat)) wr) from by
          have h := len8 q wr HH.out.at'.box
          rwa [HB.out] at h)
        go_wp2_with fail
        refine HL.out.mono ?_
        rintro e wl ⟨rfl, hs⟩
        have HH2 := hide' (HH.out.keep hs)
        clear hs HL HH
        have HZ := hide' (show Calls Try.prog 11 #[.pointer (some ⟨b, 0, none⟩)] wl (Gives (.int .i64 (q.z : Nat)) wl) from by
          have h := lost11 q wl HH2.out.at'.box
          rwa [HB.out] at h)
        go_wp2_with fail
        refine HZ.out.mono ?_
        rintro e wz ⟨rfl, hs⟩
        have HH3 := hide' (HH2.out.keep hs)
        clear hs HZ HH2
        go_wp2
        go_roundg (n - (k + 1))
        case measure => omega
        case rel => exact ⟨k + 1, c, t, d, by omega, rfl, (by first | rfl | go_num | (congr 1; have := HSUM.out; omega)), rfl, rfl, by go_num, q, L, HH3.out, HB.out, HSUM.out, by have := HLE.out; omega⟩
    · have hkn : k = n := by omega
      subst hkn
      have HSW := hide' HC.out.qin.stay
      clear HC
      go_wp2_with fail
      refine (HAW.out _).mono ?_
      rintro e w9 ⟨rfl, hs⟩
      have HE := hide' (HSW.out.trans hs)
      clear hs
      go_wp2
      go_ret
      exact ⟨rfl, HE.out⟩

end Go.Proofs.Ytcikjghgpppokaa
