/-
  The document's own answer for what waits; whether runes are the same: walked. No conditions.
-/
import Derived.Test.YtofecgjlghfnlaaDoorD2
namespace Go.Proofs.YtofecgjlghfnlaaDoor
open Go.RowKit

theorem ret_i64 {a b : Int} (h : a = b) : Ending.returned (.int .i64 a) = .returned (.int .i64 b) := by rw [h]

theorem whole_any (c : Nat) (w : World) : Calls Tryd.prog 23 #[.int .u8 (c : Nat)] w fun e w' => e = .returned (.int .i64 (long c : Nat)) ∧ w = w' := by
  by_cases h1 : 240 ≤ c
  · have d1 : decide ((240 : Int) ≤ c) = true := by simp; omega
    have HR : Hid (long c = 4) := by show long c = 4; unfold long; rw [if_pos h1]
    go_enter Tryd.func23, Tryd.ntmps23
    go_wp2
    go_ret
    exact ⟨ret_i64 (by rw [HR.out]; rfl), rfl⟩
  · have d1 : decide ((240 : Int) ≤ c) = false := by simp; omega
    by_cases h2 : 224 ≤ c
    · have d2 : decide ((224 : Int) ≤ c) = true := by simp; omega
      have HR : Hid (long c = 3) := by show long c = 3; unfold long; rw [if_neg h1, if_pos h2]
      go_enter Tryd.func23, Tryd.ntmps23
      go_wp2
      go_ret
      exact ⟨ret_i64 (by rw [HR.out]; rfl), rfl⟩
    · have d2 : decide ((224 : Int) ≤ c) = false := by simp; omega
      have HR : Hid (long c = 2) := by show long c = 2; unfold long; rw [if_neg h1, if_neg h2]
      go_enter Tryd.func23, Tryd.ntmps23
      go_wp2
      go_ret
      exact ⟨ret_i64 (by rw [HR.out]; rfl), rfl⟩

theorem new_one (w : World) (X Y : Value) (t : TypeId) : (w.alloc (.cells #[X, Y] t)).cell? ⟨w.heap.size, 0, none⟩ = some X := by simp

/-- What waits, as an ending. -/
def WaitsE (l : List Nat) (w : World) (e : Ending) (w' : World) : Prop := e = .returned (.int .i64 (waitsOf l : Nat)) ∧ Stay (fun _ => False) w w'

structure WaitIn (w wr : World) (l : List Nat) (k : Nat) : Prop where
  said : waitsOf l = waitsOf (l.drop k)
  stay : Stay (fun _ => False) w wr
  le : k ≤ l.length

theorem getD_headD (l : List Nat) : l.getD 0 0 = l.headD 0 := by cases l <;> rfl

set_option maxHeartbeats 4000000 in
set_option maxRecDepth 100000 in
theorem refWaits_any (l : List Nat) (b off cap : Nat) (w : World) (hl : l.length ≤ 5000) (hcap : l.length ≤ cap) (hcm : cap ≤ maxLen) (hB : Bytes w b off l) :
    Calls Tryd.prog 14 #[.slice (some ⟨b, off, none⟩) l.length cap] w (WaitsE l w) := by
  have HB := hide' hB
  have hcm' : (cap : Int) ≤ 9223372036854775807 := by unfold maxLen at hcm; omega
  obtain ⟨n, hn⟩ : ∃ n, n = l.length := ⟨_, rfl⟩
  have HAT := hide' (fun k wr (h : Stay (fun _ => False) w wr) (hk : k < l.length) => at_any l k b off cap wr hk (by omega) hcap hcm (h.bytes hB (fun _ h => h)))
  rw [← hn] at HAT hcap ⊢
  have HN := hide' hn
  have hl' : n ≤ 5000 := by omega
  clear hB hn hcm
  go_enter Tryd.func14, Tryd.ntmps14
  go_wp2_with fail
  go_loopg [3, 4] n (fun g i u wr => ∃ (k : Nat), g = n - k ∧ i = .int .i64 (k : Int) ∧ Hid (WaitIn w wr l k))
  case atStart => exact ⟨0, rfl, rfl, rfl, Stay.refl _ _, Nat.zero_le _⟩
  case round =>
    obtain ⟨k, rfl, rfl, HI⟩ := hrel
    have hkn : k ≤ n := by have := HI.out.le; have := HN.out; omega
    by_cases hlt : k < n
    · have hA := HAT.out k wr HI.out.stay hlt
      have hne : l.drop k ≠ [] := drop_ne (by have := HN.out; omega)
      have hBk := HB.out.drop k
      have hlen : (l.drop k).length = n - k := by rw [List.length_drop, ← HN.out]
      obtain ⟨m, hm⟩ : ∃ m, m = l.drop k := ⟨_, rfl⟩
      have HSD : Hid (waitsOf l = waitsOf m) := by show waitsOf l = waitsOf m; rw [hm]; exact HI.out.said
      have HDR : Hid (∀ j, m.drop j = l.drop (k + j)) := by rw [hm]; exact fun j => by rw [List.drop_drop]
      rw [← hm] at hA hne hBk hlen
      have h0 : 0 < m.length := List.length_pos_iff.2 hne
      have hv := atV_lt m (hBk.lt 0 h0)
      have hN := atN_le m hne
      have hhere := waits_here hne
      have hon := waits_on hne
      have hc0 : w.cell? ⟨b, off + k, none⟩ = some (.int .u8 (m.getD 0 0 : Nat)) := by have := hBk.1 0 h0; rwa [Nat.add_zero] at this
      have hcl : m.headD 0 = m.getD 0 0 := (getD_headD m).symm
      rw [hcl] at hhere hon
      obtain ⟨c, hc⟩ : ∃ c, c = m.getD 0 0 := ⟨_, rfl⟩
      rw [← hc] at hc0 hhere hon
      have HBG := hide' (fun wx (h : Stay (fun _ => False) w wx) => begins_any m b (off + k) (cap - k) wx h0 (by omega) (h.bytes hBk (fun _ h => h)))
      rw [hlen] at HBG
      obtain ⟨v, hv'⟩ : ∃ v, v = atV m := ⟨_, rfl⟩
      obtain ⟨s, hs'⟩ : ∃ s, s = atN m := ⟨_, rfl⟩
      unfold AtE at hA
      rw [← hv', ← hs'] at hA
      rw [← hv'] at hv hhere
      rw [← hs'] at hN hhere hon
      rw [hlen] at hN hhere hon
      have HA := hide' hA
      have HHERE := hide' hhere
      have HON := hide' hon
      have v0 : (0 : Int) ≤ v := by omega
      have v1 : (v : Int) < 2097152 := by omega
      have m0 : (0 : Int) ≤ s := by omega
      have hsn : k + s ≤ n := by omega
      have m1 : (k : Int) + s ≤ 5000 := by omega
      have k0 : (0 : Int) ≤ k := by omega
      have kn : (k : Int) < n := by omega
      have hs1 := hN.1
      have hbl : b < w.heap.size := World.block_lt_of_cell? _ _ hc0
      have HC0 := hide' hc0
      have L := long_bd c
      have L0 : (0 : Int) ≤ long c := by omega
      have L1 : (long c : Int) ≤ 4 := by omega
      have HWH := hide' (fun wx => whole_any c wx)
      obtain ⟨lc, hlc⟩ : ∃ lc, lc = long c := ⟨_, rfl⟩
      rw [← hlc] at HHERE HON HWH L0 L1
      have r0 := fun w1 => new_one w1 (.int .i64 (v : Nat)) (.int .i64 (s : Nat)) 42
      have r1 := fun w1 => new_two w1 (.int .i64 (v : Nat)) (.int .i64 (s : Nat)) 42
      have HR0 := hide' r0
      have HR1 := hide' r1
      clear hA hhere hon hv' hs' hN hc0 hc hcl hv hm hBk h0 hlen L hlc r0 r1 hne
      by_cases hall : beg m = true ∧ n - k < lc
      · skip
        obtain ⟨e1, e2, e3⟩ := HHERE.out hall.1 hall.2
        have HE1 := hide' e1
        have t1 : ((k : Int) + s == n) = true := by simp; omega
        have t2 : ((v : Int) == 65533) = true := by simp; omega
        have t3 : decide ((n : Int) - k < lc) = true := by have := hall.2; simp; omega
        have hbm := hall.1
        rw [hbm] at HBG
        clear e1 e2 e3 hbm hall
        go_wp2_with fail
        refine HA.out.mono ?_
        rintro e w1 ⟨rfl, hs1'⟩
        have HS1 : Hid (Stay (fun _ => False) w w1) := HI.out.stay.trans hs1'
        have HS2 : Hid (Stay (fun _ => False) w (w1.alloc (.cells #[.int .i64 (v : Nat), .int .i64 (s : Nat)] 42))) := HS1.out.alloc _
        have d2 := (HS1.out.cell (p := ⟨b, off + k, none⟩) hbl (fun h => h)).trans HC0.out
        have hbl1 : b < w1.heap.size := World.block_lt_of_cell? _ _ d2
        clear hs1'
        go_wp2_with fail
        refine (HBG.out _ HS2.out).mono ?_
        rintro e w2 ⟨rfl, rfl⟩
        go_wp2_with fail
        refine (HWH.out _).mono ?_
        rintro e w2 ⟨rfl, rfl⟩
        go_wp2
        go_ret
        exact ⟨ret_i64 (by rw [HSD.out, HE1.out]; omega), HS2.out⟩
      · skip
        have HI2' : ∀ w1, Stay (fun _ => False) w w1 → WaitIn w w1 l (k + s) := fun w1 h => ⟨by rw [HSD.out, HON.out hall, HDR.out], h, by have := HN.out; omega⟩
        have HI3 := hide' HI2'
        clear HI2'
        by_cases q1 : k + s = n
        · have t1 : ((k : Int) + s == n) = true := by simp; omega
          by_cases q2 : v = 65533
          · have t2 : ((v : Int) == 65533) = true := by simp; omega
            clear q1 q2
            cases hbm : beg m
            · rw [hbm] at HBG
              clear hbm hall
              go_wp2_with fail
              refine HA.out.mono ?_
              rintro e w1 ⟨rfl, hs1'⟩
              have HS1 : Hid (Stay (fun _ => False) w w1) := HI.out.stay.trans hs1'
              have HS2 : Hid (Stay (fun _ => False) w (w1.alloc (.cells #[.int .i64 (v : Nat), .int .i64 (s : Nat)] 42))) := HS1.out.alloc _
              have d2 := (HS1.out.cell (p := ⟨b, off + k, none⟩) hbl (fun h => h)).trans HC0.out
              have hbl1 : b < w1.heap.size := World.block_lt_of_cell? _ _ d2
              clear hs1'
              go_wp2_with fail
              refine (HBG.out _ HS2.out).mono ?_
              rintro e w2 ⟨rfl, rfl⟩
              have HI2 := hide' (HI3.out _ HS2.out)
              go_wp2
              go_roundg (n - (k + s))
              case rel => exact ⟨k + s, rfl, by go_num, HI2⟩
              case measure => omega
            · have t3 : decide ((n : Int) - k < lc) = false := by
                have : ¬ n - k < lc := fun h => hall ⟨hbm, h⟩
                simp; omega
              rw [hbm] at HBG
              clear hbm hall
              go_wp2_with fail
              refine HA.out.mono ?_
              rintro e w1 ⟨rfl, hs1'⟩
              have HS1 : Hid (Stay (fun _ => False) w w1) := HI.out.stay.trans hs1'
              have HS2 : Hid (Stay (fun _ => False) w (w1.alloc (.cells #[.int .i64 (v : Nat), .int .i64 (s : Nat)] 42))) := HS1.out.alloc _
              have d2 := (HS1.out.cell (p := ⟨b, off + k, none⟩) hbl (fun h => h)).trans HC0.out
              have hbl1 : b < w1.heap.size := World.block_lt_of_cell? _ _ d2
              clear hs1'
              go_wp2_with fail
              refine (HBG.out _ HS2.out).mono ?_
              rintro e w2 ⟨rfl, rfl⟩
              go_wp2_with fail
              refine (HWH.out _).mono ?_
              rintro e w2 ⟨rfl, rfl⟩
              have HI2 := hide' (HI3.out _ HS2.out)
              go_wp2
              go_roundg (n - (k + s))
              case rel => exact ⟨k + s, rfl, by go_num, HI2⟩
              case measure => omega
          · have t2 : ((v : Int) == 65533) = false := by simp; omega
            clear q1 q2 hall
            go_wp2_with fail
            refine HA.out.mono ?_
            rintro e w1 ⟨rfl, hs1'⟩
            have HS1 : Hid (Stay (fun _ => False) w w1) := HI.out.stay.trans hs1'
            have HS2 : Hid (Stay (fun _ => False) w (w1.alloc (.cells #[.int .i64 (v : Nat), .int .i64 (s : Nat)] 42))) := HS1.out.alloc _
            have d2 := (HS1.out.cell (p := ⟨b, off + k, none⟩) hbl (fun h => h)).trans HC0.out
            have hbl1 : b < w1.heap.size := World.block_lt_of_cell? _ _ d2
            clear hs1'
            have HI2 := hide' (HI3.out _ HS2.out)
            go_wp2
            go_roundg (n - (k + s))
            case rel => exact ⟨k + s, rfl, by go_num, HI2⟩
            case measure => omega
        · have t1 : ((k : Int) + s == n) = false := by simp; omega
          clear q1 hall
          go_wp2_with fail
          refine HA.out.mono ?_
          rintro e w1 ⟨rfl, hs1'⟩
          have HS1 : Hid (Stay (fun _ => False) w w1) := HI.out.stay.trans hs1'
          have HS2 : Hid (Stay (fun _ => False) w (w1.alloc (.cells #[.int .i64 (v : Nat), .int .i64 (s : Nat)] 42))) := HS1.out.alloc _
          have d2 := (HS1.out.cell (p := ⟨b, off + k, none⟩) hbl (fun h => h)).trans HC0.out
          have hbl1 : b < w1.heap.size := World.block_lt_of_cell? _ _ d2
          clear hs1'
          have HI2 := hide' (HI3.out _ HS2.out)
          go_wp2
          go_roundg (n - (k + s))
          case rel => exact ⟨k + s, rfl, by go_num, HI2⟩
          case measure => omega
    · have hd : l.drop k = [] := List.drop_of_length_le (by have := HN.out; omega)
      have ho := HI.out.said
      rw [hd] at ho
      have HO := hide' ho
      clear hd ho
      go_wp2
      go_ret
      exact ⟨ret_i64 (by rw [HO.out]; rfl), HI.out.stay⟩

end Go.Proofs.YtofecgjlghfnlaaDoor
