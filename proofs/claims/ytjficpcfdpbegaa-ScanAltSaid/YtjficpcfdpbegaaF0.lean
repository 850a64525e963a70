/-
  Whether bytes are the same; what a scancode tells: walked. No conditions.
-/
import Derived.Test.YtjficpcfdpbegaaE5
namespace Go.Proofs.Ytjficpcfdpbegaa
open Go.RowKit

theorem same12_nil (a1 a2 : Option Addr) (k1 k2 : Nat) (w : World) : Calls Try.prog 12 #[.slice a1 0 k1, .slice a2 0 k2] w (Gives (.bool true) w) := by
  go_enter Try.func12, Try.ntmps12
  go_wp2_with fail
  go_loopg [5] 0 (fun g i wr => g = 0 ∧ i = .int .i64 0 ∧ wr = w)
  case atStart => exact ⟨rfl, rfl, rfl⟩
  case round =>
    obtain ⟨rfl, rfl, rfl⟩ := hrel
    go_wp2
    go_ret
    exact ⟨rfl, Stay.refl _ _⟩

set_option maxHeartbeats 1000000 in
theorem same12_some (l : List Int) (b1 o1 k1 b2 o2 k2 n : Nat) (w : World) (hn : n ≤ 1000) (hl : l.length = n) (h1 : Ints .u8 w b1 o1 l) (h2 : Ints .u8 w b2 o2 l) :
    Calls Try.prog 12 #[.slice (some ⟨b1, o1, none⟩) n k1, .slice (some ⟨b2, o2, none⟩) n k2] w (Gives (.bool true) w) := by
  have H1 := hide' h1
  have H2 := hide' h2
  have HL := hide' hl
  have hnz : (n : Int) ≤ 1000 := by omega
  clear h1 h2 hn hl
  go_enter Try.func12, Try.ntmps12
  go_wp2_with fail
  go_loopg [5] n (fun g i wr => ∃ j : Nat, j ≤ n ∧ g = n - j ∧ i = .int .i64 (j : Int) ∧ ∃ q, wr = w.drewN q)
  case atStart => exact ⟨0, Nat.zero_le _, rfl, rfl, 0, rfl⟩
  case round =>
    obtain ⟨j, hj, rfl, rfl, q, rfl⟩ := hrel
    by_cases hlt : j < n
    · have a1 : w.cell? ⟨b1, o1 + j, none⟩ = some (.int .u8 (l.getD j 0)) := H1.out j (by have := HL.out; omega)
      have a2 : w.cell? ⟨b2, o2 + j, none⟩ = some (.int .u8 (l.getD j 0)) := H2.out j (by have := HL.out; omega)
      obtain ⟨x, hx⟩ : ∃ x, x = l.getD j 0 := ⟨_, rfl⟩
      rw [← hx] at a1 a2
      clear hx
      have jz : (j : Int) < n := by omega
      have j0 : (0 : Int) ≤ j := by omega
      go_wp2_with fail
      go_quiet (fail)
      go_wp2
      go_roundg (n - (j + 1))
      case measure => omega
      case rel => exact ⟨j + 1, by omega, rfl, by go_num, _, rfl⟩
    · have : j = n := by omega
      subst this
      go_wp2
      go_ret
      exact ⟨rfl, (Stay.refl _ _).drewN _⟩

theorem same12 (v1 v2 : Value) (l : List Int) (w : World) (h1 : Bs w v1 l) (h2 : Bs w v2 l) (hn : l.length ≤ 1000) : Calls Try.prog 12 #[v1, v2] w (Gives (.bool true) w) := by
  obtain ⟨a1, k1, rfl, _, c1⟩ := h1
  obtain ⟨a2, k2, rfl, _, c2⟩ := h2
  by_cases h : l = []
  · subst h
    exact same12_nil a1 a2 k1 k2 w
  · obtain ⟨b1, o1, rfl, i1⟩ := c1 h
    obtain ⟨b2, o2, rfl, i2⟩ := c2 h
    exact same12_some l b1 o1 k1 b2 o2 k2 l.length w hn rfl i1 i2

theorem mods11 (b : Nat) (m : Int) (w : World) (hb : DBox w b ⟨m⟩) : Calls Try.prog 11 #[.pointer (some ⟨b, 0, none⟩)] w fun e w' => e = .returned (.int .i64 m) ∧ w = w' := by
  obtain ⟨c0, _⟩ := hb
  go_enter Try.func11, Try.ntmps11
  go_wp2
  go_ret
  exact ⟨rfl, rfl⟩

theorem results_k_bool {fn : Func} {p t : Tmp} (h : fn.results = #[.cell p 27, .tmp t]) (tmps : Array Value) (w : World) (g : Nat) (r : Ky) (n : Bool) (hp : tmps.getD p undef = .pointer (some ⟨g, 0, none⟩)) (ht : tmps.getD t undef = .bool n) (hb : KBox w g r) :
    (results fn tmps).run Try.prog w = .ok (.tuple #[.agg #[.int .i64 r.c, .int .i64 r.m], .bool n]) w := by
  have hp' : tmps[p]?.getD undef = .pointer (some ⟨g, 0, none⟩) := by simpa using hp
  have ht' : tmps[t]?.getD undef = .bool n := by simpa using ht
  simp [results, h, hp', ht', asAddr, run_loadVar_cells w g 0 27 _ _ hb.cells Try.underlying27 rfl (by kernel_rfl)]

/-- Which modifiers are down behind a scancode. -/
def nmI (m x : Int) : Int := if modI (x % 128) = 0 then m else if x < 128 then bits .or .i64 m (modI (x % 128)) else bits .andNot .i64 m (modI (x % 128))

/-- Does a scancode tell a key? -/
def isB (x : Int) : Bool := decide (x < 128) && telB (x % 128)

/-- What a scancode tells. -/
def keyOf (m x : Int) : Ky := if isB x then ⟨x, m⟩ else ⟨0, 0⟩

/-- What is behind a scancode. -/
def Fed (b : Nat) (m x : Int) (w : World) (e : Ending) (w' : World) : Prop :=
  e = .returned (.tuple #[.agg #[.int .i64 (keyOf m x).c, .int .i64 (keyOf m x).m], .bool (isB x)]) ∧ Stay (fun j => j = b) w w' ∧ DBox w' b ⟨nmI m x⟩

theorem low7 (x : Int) (h1 : 0 ≤ x) (h2 : x < 256) : bits .andNot .u8 x 128 = x % 128 := all_keys (fun x => bits .andNot .u8 x 128 = x % 128) 0 256 (by decide +kernel) x h1 h2

theorem fed_mk {b : Nat} {m x m' : Int} {w W : World} {is : Bool} {k : Ky} (hi : isB x = is) (hk : k = if is then ⟨x, m⟩ else ⟨0, 0⟩) (hn : nmI m x = m') (hs : Stay (fun j => j = b) w W) (hd : DBox W b ⟨m'⟩) :
    Fed b m x w (.returned (.tuple #[.agg #[.int .i64 k.c, .int .i64 k.m], .bool is])) W := by
  subst hi hk hn
  exact ⟨rfl, hs, hd⟩

theorem feed9_d0 (b : Nat) (m : Int) (w : World) (hb : DBox w b ⟨m⟩) : Calls Try.prog 9 #[.pointer (some ⟨b, 0, none⟩), .int .u8 96] w (Fed b m 96 w) := by
  have HD := hide' (hb.alloc (.cells #[.int .i64 0, .int .i64 0] 27))
  have hlt := hb.lt
  obtain ⟨d0, d1⟩ := HD.out
  have HX := hide' hb
  have HI := hide' (show isB 96 = false by decide)
  have HN := hide' (show nmI m 96 = bits .or .i64 m 1 from rfl)
  have ea : bits .andNot .u8 96 128 = 96 := by decide
  have H15 := hide' (modifier15 (96))
  rw [show modI (96) = 1 from by decide] at H15
  clear hb
  go_enter Try.func9, Try.ntmps9
  go_wp2_with fail
  refine (H15.out _).mono ?_
  rintro e w' ⟨rfl, rfl⟩
  go_wp2
  exact bodyPost_ret (results_k_bool rfl _ _ w.heap.size ⟨0, 0⟩ false rfl rfl (KBox.new ⟨0, 0⟩ (by simp [World.setCell]))) rfl (fed_mk (k := ⟨0, 0⟩) HI.out rfl HN.out ((Stay.setCell (S := fun j => j = b) (Stay.refl _ _) rfl _).alloc _) ((HX.out.put0 rfl).alloc _))

theorem feed9_u0 (b : Nat) (m : Int) (w : World) (hb : DBox w b ⟨m⟩) : Calls Try.prog 9 #[.pointer (some ⟨b, 0, none⟩), .int .u8 224] w (Fed b m 224 w) := by
  have HD := hide' (hb.alloc (.cells #[.int .i64 0, .int .i64 0] 27))
  have hlt := hb.lt
  obtain ⟨d0, d1⟩ := HD.out
  have HX := hide' hb
  have HI := hide' (show isB 224 = false by decide)
  have HN := hide' (show nmI m 224 = bits .andNot .i64 m 1 from rfl)
  have ea : bits .andNot .u8 224 128 = 96 := by decide
  have H15 := hide' (modifier15 (96))
  rw [show modI (96) = 1 from by decide] at H15
  clear hb
  go_enter Try.func9, Try.ntmps9
  go_wp2_with fail
  refine (H15.out _).mono ?_
  rintro e w' ⟨rfl, rfl⟩
  go_wp2
  exact bodyPost_ret (results_k_bool rfl _ _ w.heap.size ⟨0, 0⟩ false rfl rfl (KBox.new ⟨0, 0⟩ (by simp [World.setCell]))) rfl (fed_mk (k := ⟨0, 0⟩) HI.out rfl HN.out ((Stay.setCell (S := fun j => j = b) (Stay.refl _ _) rfl _).alloc _) ((HX.out.put0 rfl).alloc _))

theorem feed9_d1 (b : Nat) (m : Int) (w : World) (hb : DBox w b ⟨m⟩) : Calls Try.prog 9 #[.pointer (some ⟨b, 0, none⟩), .int .u8 97] w (Fed b m 97 w) := by
  have HD := hide' (hb.alloc (.cells #[.int .i64 0, .int .i64 0] 27))
  have hlt := hb.lt
  obtain ⟨d0, d1⟩ := HD.out
  have HX := hide' hb
  have HI := hide' (show isB 97 = false by decide)
  have HN := hide' (show nmI m 97 = bits .or .i64 m 2 from rfl)
  have ea : bits .andNot .u8 97 128 = 97 := by decide
  have H15 := hide' (modifier15 (97))
  rw [show modI (97) = 2 from by decide] at H15
  clear hb
  go_enter Try.func9, Try.ntmps9
  go_wp2_with fail
  refine (H15.out _).mono ?_
  rintro e w' ⟨rfl, rfl⟩
  go_wp2
  exact bodyPost_ret (results_k_bool rfl _ _ w.heap.size ⟨0, 0⟩ false rfl rfl (KBox.new ⟨0, 0⟩ (by simp [World.setCell]))) rfl (fed_mk (k := ⟨0, 0⟩) HI.out rfl HN.out ((Stay.setCell (S := fun j => j = b) (Stay.refl _ _) rfl _).alloc _) ((HX.out.put0 rfl).alloc _))

theorem feed9_u1 (b : Nat) (m : Int) (w : World) (hb : DBox w b ⟨m⟩) : Calls Try.prog 9 #[.pointer (some ⟨b, 0, none⟩), .int .u8 225] w (Fed b m 225 w) := by
  have HD := hide' (hb.alloc (.cells #[.int .i64 0, .int .i64 0] 27))
  have hlt := hb.lt
  obtain ⟨d0, d1⟩ := HD.out
  have HX := hide' hb
  have HI := hide' (show isB 225 = false by decide)
  have HN := hide' (show nmI m 225 = bits .andNot .i64 m 2 from rfl)
  have ea : bits .andNot .u8 225 128 = 97 := by decide
  have H15 := hide' (modifier15 (97))
  rw [show modI (97) = 2 from by decide] at H15
  clear hb
  go_enter Try.func9, Try.ntmps9
  go_wp2_with fail
  refine (H15.out _).mono ?_
  rintro e w' ⟨rfl, rfl⟩
  go_wp2
  exact bodyPost_ret (results_k_bool rfl _ _ w.heap.size ⟨0, 0⟩ false rfl rfl (KBox.new ⟨0, 0⟩ (by simp [World.setCell]))) rfl (fed_mk (k := ⟨0, 0⟩) HI.out rfl HN.out ((Stay.setCell (S := fun j => j = b) (Stay.refl _ _) rfl _).alloc _) ((HX.out.put0 rfl).alloc _))

theorem feed9_d2 (b : Nat) (m : Int) (w : World) (hb : DBox w b ⟨m⟩) : Calls Try.prog 9 #[.pointer (some ⟨b, 0, none⟩), .int .u8 98] w (Fed b m 98 w) := by
  have HD := hide' (hb.alloc (.cells #[.int .i64 0, .int .i64 0] 27))
  have hlt := hb.lt
  obtain ⟨d0, d1⟩ := HD.out
  have HX := hide' hb
  have HI := hide' (show isB 98 = false by decide)
  have HN := hide' (show nmI m 98 = bits .or .i64 m 4 from rfl)
  have ea : bits .andNot .u8 98 128 = 98 := by decide
  have H15 := hide' (modifier15 (98))
  rw [show modI (98) = 4 from by decide] at H15
  clear hb
  go_enter Try.func9, Try.ntmps9
  go_wp2_with fail
  refine (H15.out _).mono ?_
  rintro e w' ⟨rfl, rfl⟩
  go_wp2
  exact bodyPost_ret (results_k_bool rfl _ _ w.heap.size ⟨0, 0⟩ false rfl rfl (KBox.new ⟨0, 0⟩ (by simp [World.setCell]))) rfl (fed_mk (k := ⟨0, 0⟩) HI.out rfl HN.out ((Stay.setCell (S := fun j => j = b) (Stay.refl _ _) rfl _).alloc _) ((HX.out.put0 rfl).alloc _))

theorem feed9_u2 (b : Nat) (m : Int) (w : World) (hb : DBox w b ⟨m⟩) : Calls Try.prog 9 #[.pointer (some ⟨b, 0, none⟩), .int .u8 226] w (Fed b m 226 w) := by
  have HD := hide' (hb.alloc (.cells #[.int .i64 0, .int .i64 0] 27))
  have hlt := hb.lt
  obtain ⟨d0, d1⟩ := HD.out
  have HX := hide' hb
  have HI := hide' (show isB 226 = false by decide)
  have HN := hide' (show nmI m 226 = bits .andNot .i64 m 4 from rfl)
  have ea : bits .andNot .u8 226 128 = 98 := by decide
  have H15 := hide' (modifier15 (98))
  rw [show modI (98) = 4 from by decide] at H15
  clear hb
  go_enter Try.func9, Try.ntmps9
  go_wp2_with fail
  refine (H15.out _).mono ?_
  rintro e w' ⟨rfl, rfl⟩
  go_wp2
  exact bodyPost_ret (results_k_bool rfl _ _ w.heap.size ⟨0, 0⟩ false rfl rfl (KBox.new ⟨0, 0⟩ (by simp [World.setCell]))) rfl (fed_mk (k := ⟨0, 0⟩) HI.out rfl HN.out ((Stay.setCell (S := fun j => j = b) (Stay.refl _ _) rfl _).alloc _) ((HX.out.put0 rfl).alloc _))

theorem feed9_key (b : Nat) (m : Int) (x : Int) (w : World) (hb : DBox w b ⟨m⟩) (g1 : 0 ≤ x) (g2 : x < 128) (HM : modI x = 0) (HT : telB x = true) : Calls Try.prog 9 #[.pointer (some ⟨b, 0, none⟩), .int .u8 x] w (Fed b m x w) := by
  have HD := hide' (hb.alloc (.cells #[.int .i64 0, .int .i64 0] 27))
  have hlt := hb.lt
  obtain ⟨d0, d1⟩ := HD.out
  have HX := hide' hb
  have HI : Hid (isB x = true) := by
    show _ = _
    unfold isB
    rw [show x % 128 = x by omega, HT]; simp; omega
  have HN : Hid (nmI m x = m) := by
    show _ = _
    unfold nmI
    rw [show x % 128 = x by omega, if_pos HM]
  have ea : bits .andNot .u8 x 128 = x := by rw [low7 x g1 (by omega)]; omega
  have H15 := hide' (modifier15 (x))
  rw [show modI (x) = 0 from HM] at H15
  have H16 := hide' (tells16 (x))
  rw [show telB (x) = true from HT] at H16
  clear HM HT
  clear hb
  go_enter Try.func9, Try.ntmps9
  go_wp2_with fail
  refine (H15.out _).mono ?_
  rintro e w' ⟨rfl, rfl⟩
  go_wp2_with fail
  refine (H16.out _).mono ?_
  rintro e w' ⟨rfl, rfl⟩
  go_wp2
  exact bodyPost_ret (results_k_bool rfl _ _ w.heap.size ⟨x, m⟩ true rfl rfl (KBox.new ⟨x, m⟩ rfl)) rfl (fed_mk (k := ⟨x, m⟩) HI.out rfl HN.out ((Stay.refl _ _).alloc _) (HX.out.alloc _))

theorem feed9_none (b : Nat) (m : Int) (x : Int) (w : World) (hb : DBox w b ⟨m⟩) (g1 : 0 ≤ x) (g2 : x < 128) (HM : modI x = 0) (HT : telB x = false) : Calls Try.prog 9 #[.pointer (some ⟨b, 0, none⟩), .int .u8 x] w (Fed b m x w) := by
  have HD := hide' (hb.alloc (.cells #[.int .i64 0, .int .i64 0] 27))
  have hlt := hb.lt
  obtain ⟨d0, d1⟩ := HD.out
  have HX := hide' hb
  have HI : Hid (isB x = false) := by
    show _ = _
    unfold isB
    rw [show x % 128 = x by omega, HT]; simp
  have HN : Hid (nmI m x = m) := by
    show _ = _
    unfold nmI
    rw [show x % 128 = x by omega, if_pos HM]
  have ea : bits .andNot .u8 x 128 = x := by rw [low7 x g1 (by omega)]; omega
  have H15 := hide' (modifier15 (x))
  rw [show modI (x) = 0 from HM] at H15
  have H16 := hide' (tells16 (x))
  rw [show telB (x) = false from HT] at H16
  clear HM HT
  clear hb
  go_enter Try.func9, Try.ntmps9
  go_wp2_with fail
  refine (H15.out _).mono ?_
  rintro e w' ⟨rfl, rfl⟩
  go_wp2_with fail
  refine (H16.out _).mono ?_
  rintro e w' ⟨rfl, rfl⟩
  go_wp2
  exact bodyPost_ret (results_k_bool rfl _ _ w.heap.size ⟨0, 0⟩ false rfl rfl (KBox.new ⟨0, 0⟩ rfl)) rfl (fed_mk (k := ⟨0, 0⟩) HI.out rfl HN.out ((Stay.refl _ _).alloc _) (HD.out))

theorem feed9_up (b : Nat) (m : Int) (x : Int) (w : World) (hb : DBox w b ⟨m⟩) (g1 : 128 ≤ x) (g2 : x < 256) (HM : modI (x - 128) = 0) : Calls Try.prog 9 #[.pointer (some ⟨b, 0, none⟩), .int .u8 x] w (Fed b m x w) := by
  have HD := hide' (hb.alloc (.cells #[.int .i64 0, .int .i64 0] 27))
  have hlt := hb.lt
  obtain ⟨d0, d1⟩ := HD.out
  have HX := hide' hb
  have HI : Hid (isB x = false) := by
    show _ = _
    unfold isB
    simp; intro h; omega
  have HN : Hid (nmI m x = m) := by
    show _ = _
    unfold nmI
    rw [show x % 128 = x - 128 by omega, if_pos HM]
  have ea : bits .andNot .u8 x 128 = x - 128 := by rw [low7 x (by omega) g2]; omega
  have H15 := hide' (modifier15 (x - 128))
  rw [show modI (x - 128) = 0 from HM] at H15
  clear HM
  clear hb
  go_enter Try.func9, Try.ntmps9
  go_wp2_with fail
  refine (H15.out _).mono ?_
  rintro e w' ⟨rfl, rfl⟩
  go_wp2
  exact bodyPost_ret (results_k_bool rfl _ _ w.heap.size ⟨0, 0⟩ false rfl rfl (KBox.new ⟨0, 0⟩ rfl)) rfl (fed_mk (k := ⟨0, 0⟩) HI.out rfl HN.out ((Stay.refl _ _).alloc _) (HD.out))

theorem mod_no (c : Int) (h1 : c ≠ 96) (h2 : c ≠ 97) (h3 : c ≠ 98) : modI c = 0 := by
  unfold modI
  rw [if_neg h1, if_neg h2, if_neg h3]

theorem feed9 (b : Nat) (m x : Int) (w : World) (hb : DBox w b ⟨m⟩) (h0 : 0 ≤ x) (h1 : x < 256) : Calls Try.prog 9 #[.pointer (some ⟨b, 0, none⟩), .int .u8 x] w (Fed b m x w) := by
  by_cases hx : x = 96 ∨ x = 97 ∨ x = 98 ∨ x = 224 ∨ x = 225 ∨ x = 226
  · rcases hx with rfl | rfl | rfl | rfl | rfl | rfl
    · exact feed9_d0 b m w hb
    · exact feed9_d1 b m w hb
    · exact feed9_d2 b m w hb
    · exact feed9_u0 b m w hb
    · exact feed9_u1 b m w hb
    · exact feed9_u2 b m w hb
  · by_cases h : x < 128
    · cases ht : telB x
      · exact feed9_none b m x w hb h0 h (mod_no x (by omega) (by omega) (by omega)) ht
      · exact feed9_key b m x w hb h0 h (mod_no x (by omega) (by omega) (by omega)) ht
    · exact feed9_up b m x w hb (by omega) h1 (mod_no _ (by omega) (by omega) (by omega))

/-- A scancode, with what is known of it. -/
theorem feed_to {b : Nat} {m x m' kc km : Int} {is : Bool} {w : World} (hb : DBox w b ⟨m⟩) (h0 : 0 ≤ x) (h1 : x < 256) (hi : isB x = is) (hk : keyOf m x = ⟨kc, km⟩) (hn : nmI m x = m') :
    Calls Try.prog 9 #[.pointer (some ⟨b, 0, none⟩), .int .u8 x] w fun e w' => e = .returned (.tuple #[.agg #[.int .i64 kc, .int .i64 km], .bool is]) ∧ Stay (fun j => j = b) w w' ∧ DBox w' b ⟨m'⟩ := by
  refine (feed9 b m x w hb h0 h1).mono ?_
  rintro e w' ⟨rfl, hs, hd⟩
  rw [hi, hk]
  rw [hn] at hd
  exact ⟨rfl, hs, hd⟩

end Go.Proofs.Ytjficpcfdpbegaa
