/-
  A rune's bytes, of the code and of the document; whether bytes are the same: walked. No conditions.
-/
import Derived.Test.YtofecgjlghfnlaaDoorP1
namespace Go.Proofs.YtofecgjlghfnlaaDoor
open Go.RowKit

/-- The cells of an own row of bytes. -/
theorem owned_cells {w : World} {base : Nat} {v : Value} {l : List Nat} (h : w.ownsRow base 5 1 v l.length (l.map bv)) :
    ∃ a cap, v = .slice a l.length cap ∧ (l ≠ [] → ∃ g, a = some ⟨g, 0, none⟩ ∧ ∀ j, j < l.length → w.cell? ⟨g, j, none⟩ = some (bv (l.getD j 0))) := by
  rcases h.2 with ⟨rfl, h0⟩ | ⟨g, cap, cur, rfl, hbg, hg, hnc, hcm, _⟩
  · have : l = [] := List.eq_nil_of_length_eq_zero h0
    subst this
    exact ⟨none, 0, rfl, fun h => absurd rfl h⟩
  · refine ⟨_, cap, rfl, fun _ => ⟨g, rfl, fun j hj => ?_⟩⟩
    have := h.cells (g := g) rfl j (bv (l.getD j 0)) (by rw [List.getElem?_map, List.getElem?_eq_getElem hj, List.getD_eq_getElem?_getD, List.getElem?_eq_getElem hj]; rfl)
    rw [addr_add] at this
    simpa using this

theorem app29_any (r : Int) (w : World) (h : ¬ (0 ≤ r ∧ r ≤ 127)) (h0 : -2147483648 ≤ r) (h1 : r ≤ 2147483647) : Calls Tryd.prog 29 #[.slice none 0 0, .int .i32 r] w (NewBs (putL r) w) := by
  by_cases a1 : r < 0
  · exact app29_neg r w a1 h0
  by_cases a2 : r ≤ 2047
  · exact app29_two r w (by omega) a2
  by_cases a3 : r ≤ 55295
  · exact app29_three0 r w (by omega) a3
  by_cases a4 : r ≤ 57343
  · exact app29_sur r w (by omega) a4
  by_cases a5 : r ≤ 65535
  · exact app29_three1 r w (by omega) a5
  by_cases a6 : r ≤ 1114111
  · exact app29_four r w (by omega) a6
  · exact app29_big r w (by omega) h1

theorem app24_any (r : Int) (w : World) (h0 : -2147483648 ≤ r) (h1 : r ≤ 2147483647) : Calls Tryd.prog 24 #[.slice none 0 0, .int .i32 r] w (NewBs (putL r) w) := by
  by_cases h : 0 ≤ r ∧ r ≤ 127
  · exact app24_ascii r w h.1 h.2
  · have H := hide' (fun wx => app29_any r wx h h0 h1)
    by_cases hn : r < 0
    · have hw : IntKind.u32.wrap r = r + 4294967296 := by rw [IntKind.wrap_u32]; omega
      have g1 : 2147483648 ≤ r + 4294967296 := by omega
      go_enter Tryd.func24, Tryd.ntmps24
      go_wp2_with fail
      refine (H.out _).mono ?_
      rintro e w1 ⟨t, rfl, ho, hs⟩
      have HO := hide' ho
      have HS := hide' hs
      clear ho hs
      go_wp2
      go_ret
      exact ⟨t, rfl, HO.out, HS.out⟩
    · have g1 : 128 ≤ r := by omega
      go_enter Tryd.func24, Tryd.ntmps24
      go_wp2_with fail
      refine (H.out _).mono ?_
      rintro e w1 ⟨t, rfl, ho, hs⟩
      have HO := hide' ho
      have HS := hide' hs
      clear ho hs
      go_wp2
      go_ret
      exact ⟨t, rfl, HO.out, HS.out⟩

theorem put16_any (r : Int) (w : World) (h0 : -2147483648 ≤ r) (h1 : r ≤ 2147483647) : Calls Tryd.prog 16 #[.int .i32 r] w (NewBs (putL r) w) := by
  have H := hide' (fun wx => app24_any r wx h0 h1)
  go_enter Tryd.func16, Tryd.ntmps16
  go_wp2_with fail
  refine (H.out _).mono ?_
  rintro e w1 ⟨t, rfl, ho, hs⟩
  have HO := hide' ho
  have HS := hide' hs
  clear ho hs
  go_wp2
  go_ret
  exact ⟨t, rfl, HO.out, HS.out⟩

set_option maxHeartbeats 1000000 in
theorem form_two (r : Int) (w : World) (h0 : 128 ≤ r) (h1 : r ≤ 2047) : Calls Tryd.prog 25 #[.int .i64 r] w (NewBs (formL r.toNat) w) := by
  have HP : Hid (formL r.toNat = [192 + r.toNat / 64, 128 + r.toNat % 64]) := by
    show formL r.toNat = [192 + r.toNat / 64, 128 + r.toNat % 64]
    unfold formL; rw [if_neg (by omega), if_pos (by omega)]
  go_enter Tryd.func25, Tryd.ntmps25
  go_wp2
  go_ret
  exact newBs_of (owns_new w #[.int .u8 (192 + r / 64), .int .u8 (128 + r % 64)] 5 (by unfold maxLen; simp)) (by rw [HP.out]; simp [bv] <;> omega) ((Stay.refl (fun _ => False) w).alloc _) (fun i hi h => h)

set_option maxHeartbeats 1000000 in
theorem form_three (r : Int) (w : World) (h0 : 2048 ≤ r) (h1 : r ≤ 65535) : Calls Tryd.prog 25 #[.int .i64 r] w (NewBs (formL r.toNat) w) := by
  have HP : Hid (formL r.toNat = [224 + r.toNat / 4096, 128 + r.toNat / 64 % 64, 128 + r.toNat % 64]) := by
    show formL r.toNat = [224 + r.toNat / 4096, 128 + r.toNat / 64 % 64, 128 + r.toNat % 64]
    unfold formL; rw [if_neg (by omega), if_neg (by omega), if_pos (by omega)]
  go_enter Tryd.func25, Tryd.ntmps25
  go_wp2
  go_ret
  exact newBs_of (owns_new w #[.int .u8 (224 + r / 4096), .int .u8 (128 + r / 64 % 64), .int .u8 (128 + r % 64)] 5 (by unfold maxLen; simp)) (by rw [HP.out]; simp [bv] <;> omega) ((Stay.refl (fun _ => False) w).alloc _) (fun i hi h => h)

set_option maxHeartbeats 1000000 in
theorem form_four (r : Int) (w : World) (h0 : 65536 ≤ r) (h1 : r ≤ 1114111) : Calls Tryd.prog 25 #[.int .i64 r] w (NewBs (formL r.toNat) w) := by
  have HP : Hid (formL r.toNat = [240 + r.toNat / 262144, 128 + r.toNat / 4096 % 64, 128 + r.toNat / 64 % 64, 128 + r.toNat % 64]) := by
    show formL r.toNat = [240 + r.toNat / 262144, 128 + r.toNat / 4096 % 64, 128 + r.toNat / 64 % 64, 128 + r.toNat % 64]
    unfold formL; rw [if_neg (by omega), if_neg (by omega), if_neg (by omega)]
  go_enter Tryd.func25, Tryd.ntmps25
  go_wp2
  go_ret
  exact newBs_of (owns_new w #[.int .u8 (240 + r / 262144), .int .u8 (128 + r / 4096 % 64), .int .u8 (128 + r / 64 % 64), .int .u8 (128 + r % 64)] 5 (by unfold maxLen; simp)) (by rw [HP.out]; simp [bv] <;> omega) ((Stay.refl (fun _ => False) w).alloc _) (fun i hi h => h)

set_option maxHeartbeats 1000000 in
theorem rput_ascii (r : Int) (w : World) (h0 : 0 ≤ r) (h1 : r ≤ 127) : Calls Tryd.prog 18 #[.int .i64 r] w (NewBs (putL r) w) := by
  have HP : Hid (putL r = [r.toNat]) := by
    show putL r = [r.toNat]
    unfold putL formL; rw [if_pos ⟨h0, by omega, by omega⟩, if_pos (by omega)]
  go_enter Tryd.func18, Tryd.ntmps18
  go_wp2
  go_ret
  exact newBs_of (owns_new w #[.int .u8 (r)] 5 (by unfold maxLen; simp)) (by rw [HP.out]; simp [bv] <;> omega) ((Stay.refl (fun _ => False) w).alloc _) (fun i hi h => h)

set_option maxHeartbeats 1000000 in
theorem rput_neg (r : Int) (w : World) (h0 : r < 0) : Calls Tryd.prog 18 #[.int .i64 r] w (NewBs (putL r) w) := by
  have HP : Hid (putL r = [239, 191, 189]) := by
    show putL r = [239, 191, 189]
    unfold putL; rw [if_neg (by unfold isR; omega)]
  go_enter Tryd.func18, Tryd.ntmps18
  go_wp2
  go_ret
  exact newBs_of (owns_new w #[.int .u8 (239), .int .u8 (191), .int .u8 (189)] 5 (by unfold maxLen; simp)) (by rw [HP.out]; simp [bv] <;> omega) ((Stay.refl (fun _ => False) w).alloc _) (fun i hi h => h)

set_option maxHeartbeats 1000000 in
theorem rput_big (r : Int) (w : World) (h0 : 1114112 ≤ r) : Calls Tryd.prog 18 #[.int .i64 r] w (NewBs (putL r) w) := by
  have HP : Hid (putL r = [239, 191, 189]) := by
    show putL r = [239, 191, 189]
    unfold putL; rw [if_neg (by unfold isR; omega)]
  go_enter Tryd.func18, Tryd.ntmps18
  go_wp2
  go_ret
  exact newBs_of (owns_new w #[.int .u8 (239), .int .u8 (191), .int .u8 (189)] 5 (by unfold maxLen; simp)) (by rw [HP.out]; simp [bv] <;> omega) ((Stay.refl (fun _ => False) w).alloc _) (fun i hi h => h)

set_option maxHeartbeats 1000000 in
theorem rput_sur (r : Int) (w : World) (h0 : 55296 ≤ r) (h1 : r ≤ 57343) : Calls Tryd.prog 18 #[.int .i64 r] w (NewBs (putL r) w) := by
  have HP : Hid (putL r = [239, 191, 189]) := by
    show putL r = [239, 191, 189]
    unfold putL; rw [if_neg (by unfold isR; omega)]
  go_enter Tryd.func18, Tryd.ntmps18
  go_wp2
  go_ret
  exact newBs_of (owns_new w #[.int .u8 (239), .int .u8 (191), .int .u8 (189)] 5 (by unfold maxLen; simp)) (by rw [HP.out]; simp [bv] <;> omega) ((Stay.refl (fun _ => False) w).alloc _) (fun i hi h => h)

theorem rput_any (r : Int) (w : World) : Calls Tryd.prog 18 #[.int .i64 r] w (NewBs (putL r) w) := by
  by_cases a1 : r < 0
  · exact rput_neg r w a1
  by_cases a2 : r ≤ 127
  · exact rput_ascii r w (by omega) a2
  by_cases a3 : 1114112 ≤ r
  · exact rput_big r w a3
  by_cases a4 : 55296 ≤ r ∧ r ≤ 57343
  · exact rput_sur r w a4.1 a4.2
  have HP : Hid (putL r = formL r.toNat) := by
    show putL r = formL r.toNat
    unfold putL; rw [if_pos ⟨by omega, by omega, a4⟩]
  have HF : Hid (∀ wx, Calls Tryd.prog 25 #[.int .i64 r] wx (NewBs (formL r.toNat) wx)) := fun wx => by
    by_cases b1 : r ≤ 2047
    · exact form_two r wx (by omega) b1
    by_cases b2 : r ≤ 65535
    · exact form_three r wx (by omega) b2
    · exact form_four r wx (by omega) (by omega)
  have g1 : 128 ≤ r := by omega
  have g2 : r ≤ 1114111 := by omega
  by_cases g3 : r < 55296
  all_goals
    try have g4 : 57344 ≤ r := by omega
    clear a1 a2 a3 a4
    go_enter Tryd.func18, Tryd.ntmps18
    go_wp2_with fail
    refine (HF.out _).mono ?_
    rintro e w1 ⟨t, rfl, ho, hs⟩
    have HO := hide' ho
    have HS := hide' hs
    clear ho hs
    go_wp2
    go_ret
    exact ⟨t, rfl, by rw [HP.out]; exact HO.out, HS.out⟩

set_option maxHeartbeats 400000 in
theorem sameB_true (l : List Nat) (b1 b2 : Nat) (v1 v2 : Value) (w : World) (hl : l.length ≤ 100000) (h0 : l ≠ []) (h1 : w.ownsRow b1 5 1 v1 l.length (l.map bv)) (h2 : w.ownsRow b2 5 1 v2 l.length (l.map bv)) :
    Calls Tryd.prog 17 #[v1, v2] w fun e w' => e = .returned (.bool true) ∧ Stay (fun _ => False) w w' := by
  obtain ⟨a1, c1, hA1⟩ := owned_cells h1
  obtain ⟨a2, c2, hA2⟩ := owned_cells h2
  obtain ⟨rfl, k1⟩ := hA1
  obtain ⟨rfl, k2⟩ := hA2
  obtain ⟨g1, rfl, m1⟩ := k1 h0
  obtain ⟨g2, rfl, m2⟩ := k2 h0
  have H1 := hide' m1
  have H2 := hide' m2
  obtain ⟨n, hn⟩ : ∃ n, n = l.length := ⟨_, rfl⟩
  rw [← hn] at H1 H2 hl ⊢
  have n5 : (n : Int) ≤ 100000 := by omega
  clear h1 h2 hn h0 k1 k2 m1 m2
  go_enter Tryd.func17, Tryd.ntmps17
  go_wp2
  go_loopg [5] n (fun g i wr => ∃ k : Nat, k ≤ n ∧ g = n - k ∧ i = .int .i64 (k : Int) ∧ Hid (∃ q, wr = w.drewN q))
  case atStart => exact ⟨0, Nat.zero_le _, rfl, rfl, 0, rfl⟩
  case round =>
    obtain ⟨k, hk, rfl, rfl, HQ⟩ := hrel
    by_cases hlt : k < n
    · obtain ⟨z, hz⟩ : ∃ z, z = l.getD k 0 := ⟨_, rfl⟩
      have a1 : wr.cell? ⟨g1, k, none⟩ = some (.int .u8 (z : Nat)) := by obtain ⟨q, hq⟩ := HQ.out; rw [hq, hz]; exact H1.out k hlt
      have a2 : wr.cell? ⟨g2, k, none⟩ = some (.int .u8 (z : Nat)) := by obtain ⟨q, hq⟩ := HQ.out; rw [hq, hz]; exact H2.out k hlt
      have k0 : (0 : Int) ≤ k := by omega
      have kn : (k : Int) < n := by omega
      clear hz
      go_wp2_with fail
      go_quiet (fail)
      go_wp2
      go_roundg (n - (k + 1))
      case rel => exact ⟨k + 1, by omega, rfl, by go_num, by obtain ⟨q, hq⟩ := HQ.out; exact ⟨q + nq, by rw [hq]; simp [World.drewN, Nat.add_assoc]⟩⟩
      case measure => omega
    · go_wp2
      go_ret
      obtain ⟨q, rfl⟩ := HQ.out
      exact ⟨rfl, (Stay.refl _ _).drewN _⟩

end Go.Proofs.YtofecgjlghfnlaaDoor
