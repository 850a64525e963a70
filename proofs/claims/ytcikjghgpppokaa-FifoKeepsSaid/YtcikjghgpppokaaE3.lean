/-
  FifoKeeps walked: true of any arguments. No conditions.
-/
import Derived.Test.YtcikjghgpppokaaE2
namespace Go.Proofs.Ytcikjghgpppokaa
open Go.RowKit

attribute [local go_sem] extract0 extract1

/-- Is the number among the first k? -/
def seenB (l : List Int) (y : Int) (k : Nat) : Bool := (l.take k).any (fun z => decide (z = y))

theorem seen_zero (l : List Int) (y : Int) : seenB l y 0 = false := by unfold seenB; simp

theorem seen_next {l : List Int} {y : Int} {k : Nat} (h : k < l.length) : seenB l y (k + 1) = (seenB l y k || decide (l.getD k 0 = y)) := by
  unfold seenB
  rw [List.take_add_one, List.getElem?_eq_getElem h, List.any_append, List.getD_eq_getElem?_getD, List.getElem?_eq_getElem h]
  simp

theorem QIn.other {w0 w w1 : World} {q : Qu} {L : List Int} {T : Nat → Prop} (h : QIn w0 w q L) (hs : Stay T w w1) (hT : ∀ j, T j → w0.heap.size ≤ j ∧ ¬ q.own j) : QIn w0 w1 q L :=
  ⟨h.stay.trans2 hs (fun j hj hj2 => by have := (hT j hj2).1; omega), h.at'.stay hs (fun j hj hj2 => (hT j hj2).2 hj), h.new⟩

/-- What stands at the head of a round of FifoKeeps, while numbers are brought. -/
structure KH (w : World) (l : List Int) (y : Int) (b r k c : Nat) (t : Value) (q : Qu) (L : List Int) (wr : World) : Prop where
  qin : QIn w wr q L
  b : q.b = b
  r : q.r = r
  kk : q.k = y
  own : wr.ownsRow w.heap.size 3 1 t L.length (L.map (Value.int .i64 ·))
  off : ∀ j, t.ownBlock = some j → ¬ q.own j
  len : L.length ≤ k
  cnt : c ≤ k
  seen : seenB l y k = decide (0 < c)
  pz : c = 0 → q.p = 0
  z : q.z ≤ k

theorem KH.keep {w : World} {l : List Int} {y : Int} {b r k c : Nat} {t : Value} {q : Qu} {L : List Int} {wr w1 : World} (h : KH w l y b r k c t q L wr) (hs : Stay (fun _ => False) wr w1) : KH w l y b r k c t q L w1 :=
  ⟨h.qin.keep hs, h.b, h.r, h.kk, hs.owns h.own (fun _ _ h => h), h.off, h.len, h.cnt, h.seen, h.pz, h.z⟩

/-- The number was lost. -/
theorem KH.lost {w : World} {l : List Int} {y x : Int} {b r k c : Nat} {t : Value} {q q2 : Qu} {L L2 : List Int} {wr w2 : World} (h : KH w l y b r k c t q L wr) (hk : k < l.length) (hx : x = l.getD k 0) (hb : q.okB x = false) (hq : QIn w w2 q2 L2) (e : q2.b = q.b ∧ q2.r = q.r ∧ q2.k = q.k) (hs : Stay q.own wr w2)
    (ho : ∀ j, q2.own j → q.own j ∨ wr.heap.size ≤ j) (hl : L2 = L) (hz : q2.z = q.z + 1) (hp : q2.p = q.p) : KH w l y b r (k + 1) c t q2 L2 w2 := by
  subst hl
  have hlt := h.own.lt
  refine ⟨hq, e.1.trans h.b, e.2.1.trans h.r, e.2.2.trans h.kk, hs.owns h.own (fun j hj => h.off j hj), fun j hj h2 => ?_, by have := h.len; omega, by have := h.cnt; omega, ?_, fun h0 => by rw [hp]; exact h.pz h0, by have := h.z; omega⟩
  · rcases ho j h2 with h3 | h3
    · exact h.off j hj h3
    · have := (hlt j hj).2; omega
  · rw [seen_next hk, h.seen, ← hx]
    by_cases hc : 0 < c
    · simp [hc]
    · have hne : ¬ x = y := fun e2 => by
        unfold Qu.okB at hb
        rw [h.kk, decide_eq_true e2, h.pz (by omega)] at hb
        simp at hb
      simp [hne]

/-- The number was taken in. -/
theorem KH.more {w : World} {l : List Int} {y x : Int} {b r k c c2 : Nat} {t v : Value} {q q2 : Qu} {L L2 : List Int} {wr w2 w3 w4 : World} (h : KH w l y b r k c t q L wr) (hk : k < l.length) (hx : x = l.getD k 0) (hb : q.okB x = true) (hq : QIn w w2 q2 L2) (e : q2.b = q.b ∧ q2.r = q.r ∧ q2.k = q.k)
    (ho : ∀ j, q2.own j → q.own j ∨ wr.heap.size ≤ j) (hL : L2 = L ++ [x]) (hz : q2.z = q.z) (hp : q2.p = if q.cnt < q.r then q.p else q.n + 1) (hc : c2 = if x = y then c + 1 else c)
    (hs3 : Stay (fun _ => False) w2 w3) (hs4 : Stay (fun j => t.ownBlock = some j) w3 w4) (ho4 : w4.ownsRow w.heap.size 3 1 v (L.length + 1) (L.map (Value.int .i64 ·) ++ [.int .i64 x])) (hv : v.ownBlock = t.ownBlock ∨ v.ownBlock = some w3.heap.size) : KH w l y b r (k + 1) c2 v q2 L2 w4 := by
  have hlt := h.own.lt
  have hoff : ∀ j, t.ownBlock = some j → ¬ q2.own j := fun j hj h2 => by
    rcases ho j h2 with h3 | h3
    · exact h.off j hj h3
    · have := (hlt j hj).2; omega
  subst hL
  refine ⟨(hq.keep hs3).other hs4 (fun j hj => ⟨(hlt j hj).1, hoff j hj⟩), e.1.trans h.b, e.2.1.trans h.r, e.2.2.trans h.kk, by simpa using ho4, fun j hj h2 => ?_, by have := h.len; simp; omega, by have := h.cnt; rw [hc]; split <;> omega, ?_, fun h0 => ?_, by have := h.z; omega⟩
  · rcases hv with hv | hv
    · exact hoff j (hv ▸ hj) h2
    · rw [hv] at hj
      cases hj
      have h3 := hq.at'.lt _ h2
      have h4 := hs3.size
      omega
  · rw [seen_next hk, h.seen, ← hx, hc]
    by_cases hxy : x = y
    · simp [hxy]
    · simp [hxy]
  · have hxy : ¬ x = y := fun e2 => by rw [if_pos e2] at hc; omega
    rw [if_neg hxy] at hc
    rw [hp]
    by_cases hcr : q.cnt < q.r
    · rw [if_pos hcr]
      exact h.pz (by omega)
    · exfalso
      unfold Qu.okB at hb
      rw [h.kk, decide_eq_false hcr, decide_eq_false hxy] at hb
      simp at hb

/-- What stands while numbers are taken. -/
structure TH (w : World) (b k : Nat) (t : Value) (q : Qu) (L : List Int) (wr : World) : Prop where
  qin : QIn w wr q (L.drop k)
  b : q.b = b
  own : wr.ownsRow w.heap.size 3 1 t L.length (L.map (Value.int .i64 ·))
  off : ∀ j, t.ownBlock = some j → ¬ q.own j

set_option maxRecDepth 100000 in
theorem keeps_long (ad : Option Addr) (n cap : Nat) (x y : Int) (w : World) (hle : (n : Int) ≤ 9223372036854775807) (hn : 60 < n) : Calls Try.prog 3 #[.int .u8 x, .int .i64 y, .slice ad n cap] w (LawTrue w) := by
  have n1 : (60 : Int) < (n : Nat) := by omega
  have HAW := hide' awake5
  go_enter Try.func3, Try.ntmps3
  go_wp2_with fail
  refine (HAW.out _).mono ?_
  rintro e w9 ⟨rfl, hs⟩
  have HE := hide' hs
  clear hs
  go_wp2
  go_ret
  exact ⟨rfl, HE.out⟩

set_option maxRecDepth 100000 in
set_option maxHeartbeats 4000000 in
theorem keeps_go (ad : Option Addr) (n cap : Nat) (l : List Int) (x : Nat) (y : Int) (w : World) (hA : ∀ k, k < n → ∃ b o, ad = some ⟨b, o, none⟩ ∧ w.cell? ⟨b, o + k, none⟩ = some (.int .i64 (l.getD k 0))) (hl : l.length = n) (hn : n ≤ 60) (hx : x < 256) : Calls Try.prog 3 #[.int .u8 (x : Nat), .int .i64 y, .slice ad n cap] w (LawTrue w) := by
  have HA := hide' hA
  have HAW := hide' awake5
  have n1 : (n : Int) ≤ 60 := by omega
  have xw : IntKind.i64.wrap (x : Int) = x := by rw [IntKind.wrap_i64]; omega
  have xt := tmod_nat x
  obtain ⟨xr, hxr⟩ : ∃ n, n = x % 20 := ⟨_, rfl⟩
  rw [← hxr] at xt
  have g3 : IntKind.i64.wrap (xr : Int) = xr := by rw [IntKind.wrap_i64]; omega
  obtain ⟨r, hr⟩ : ∃ n, n = 1 + xr := ⟨_, rfl⟩
  obtain ⟨r2, hr2⟩ : ∃ n, n = 2 + xr := ⟨_, rfl⟩
  have g5 : IntKind.i64.wrap (1 + (xr : Int)) = (r : Nat) := by rw [IntKind.wrap_i64]; omega
  have g6 : IntKind.i64.wrap (2 + (xr : Int)) = (r2 : Nat) := by rw [IntKind.wrap_i64]; omega
  have HX := hide' (show _ ∧ _ ∧ _ ∧ _ from ⟨xw, xt, g3, g6⟩)
  have HR2 : Hid (r2 = r + 1) := by show r2 = r + 1; omega
  have HN := hide' (new_in (w0 := w) r y (Stay.refl _ w) (by omega) (by omega))
  clear hA hxr hr hr2 g6
  go_enter Try.func3, Try.ntmps3
  go_wp2_with fail
  refine HN.out.mono ?_
  rintro e w1 ⟨q0, rfl, hq0, _, hr0, hk0, hn0, hp0, hz0⟩
  have HC0 : Hid (KH w l y q0.b r 0 0 (.slice none 0 0) q0 [] w1) := ⟨hq0, rfl, hr0, hk0, ⟨rfl, .inl ⟨rfl, rfl⟩⟩, (fun j hj => by cases hj), Nat.le_refl _, Nat.le_refl _, by rw [seen_zero]; rfl, fun _ => hp0, by omega⟩
  obtain ⟨b, hb⟩ : ∃ b, b = q0.b := ⟨_, rfl⟩
  rw [← hb] at HC0
  rw [← hb]
  clear hq0 hr0 hk0 hn0 hp0 hz0 hb HN xw xt g3 g5
  go_wp2_with fail
  go_loopg [8, 9, 10] n (fun gg v8 v9 v10 wr => ∃ k c : Nat, k ≤ n ∧ gg = n - k ∧ v8 = .int .i64 (c : Int) ∧ v10 = .int .i64 (k : Int) ∧ ∃ t, t = v9 ∧ ∃ q L, Hid (KH w l y b r k c t q L wr))
  case atStart => exact ⟨0, 0, Nat.zero_le _, rfl, rfl, rfl, _, rfl, q0, [], HC0⟩
  case round =>
    clear HC0
    obtain ⟨k, c, hk, rfl, rfl, rfl, t, rfl, q, L, HC⟩ := hrel
    by_cases hlt : k < n
    · have kn : (k : Int) < (n : Nat) := by omega
      have hck : c ≤ 60 := by have := HC.out.cnt; omega
      obtain ⟨ba, o, rfl, hac⟩ := HA.out k hlt
      obtain ⟨z, hz⟩ : ∃ a, a = l.getD k 0 := ⟨_, rfl⟩
      rw [← hz] at hac
      have HAC := hide' hac
      have hac1 := keep_cell HC.out.qin.stay hac
      have HZZ := hide' hz
      have HK : Hid (k < l.length) := by rw [hl]; exact hlt
      obtain ⟨bo, hbo⟩ : ∃ b, b = q.okB z := ⟨_, rfl⟩
      clear hac hz
      cases bo
      · have HP := hide' (show Calls Try.prog 7 #[.pointer (some ⟨b, 0, none⟩), .int .i64 z] wr (PutIn w q L z false wr) from by
          have h := put_in z false HC.out.qin (by have := HC.out.z; omega) hbo.symm
          rwa [HC.out.b] at h)
        have HBO := hide' hbo
        clear hbo
        go_wp2_with fail
        refine HP.out.mono ?_
        rintro e w2 ⟨q2, L2, rfl, hq, hk3, hst, hown, hcs⟩
        have HN : Hid (KH w l y b r (k + 1) c t q2 L2 w2) := by
          rcases hcs with ⟨h, _⟩ | ⟨_, h1, _, h2, h3⟩
          · cases h
          · exact HC.out.lost HK.out HZZ.out HBO.out.symm hq hk3 hst hown h1 h2 h3
        clear hq hk3 hst hown hcs HP HC HBO HZZ HK
        go_wp2
        go_roundg (n - (k + 1))
        case measure => omega
        case rel => exact ⟨k + 1, c, by omega, rfl, rfl, by go_num, t, rfl, q2, L2, HN⟩
      · have HP := hide' (show Calls Try.prog 7 #[.pointer (some ⟨b, 0, none⟩), .int .i64 z] wr (PutIn w q L z true wr) from by
          have h := put_in z true HC.out.qin (by have := HC.out.z; omega) hbo.symm
          rwa [HC.out.b] at h)
        have HBO := hide' hbo
        clear hbo
        go_wp2_with fail
        refine HP.out.mono ?_
        rintro e w2 ⟨q2, L2, rfl, hq, hk3, hst, hown, hcs⟩
        have HM : Hid (∀ (c2 : Nat) (v : Value) (w3 w4 : World), (c2 = if z = y then c + 1 else c) → Stay (fun _ => False) w2 w3 → Stay (fun j => t.ownBlock = some j) w3 w4 → w4.ownsRow w.heap.size 3 1 v (L.length + 1) (L.map (Value.int .i64 ·) ++ [.int .i64 z]) → (v.ownBlock = t.ownBlock ∨ v.ownBlock = some w3.heap.size) → KH w l y b r (k + 1) c2 v q2 L2 w4) := by
          rcases hcs with ⟨_, h1, _, h2, h3⟩ | ⟨h, _⟩
          · exact fun c2 v w3 w4 g1 g2 g3 g4 g5 => HC.out.more HK.out HZZ.out HBO.out.symm hq hk3 hown h1 h2 h3 g1 g2 g3 g4 g5
          · cases h
        have hac2 : w2.cell? ⟨ba, o + k, none⟩ = some (.int .i64 z) := keep_cell hq.stay HAC.out
        have HO3 : Hid ((w2.alloc (.cells #[.int .i64 z] 3)).ownsRow w.heap.size 3 1 t L.length (L.map (Value.int .i64 ·))) := own_new (hst.owns HC.out.own (fun j hj => HC.out.off j hj)) _
        have HSRC : Hid (IsRowS (w2.alloc (.cells #[.int .i64 z] 3)) 1 (.slice (some ⟨w2.heap.size, 0, none⟩) 1 1) 1 [.int .i64 z]) := isRowS_new w2 #[.int .i64 z] 3 1 1 rfl
        have HBW : Hid (w.heap.size ≤ (w2.alloc (.cells #[.int .i64 z] 3)).heap.size) := Nat.le_trans hq.stay.size ((Stay.refl (fun _ => False) w2).alloc (.cells #[.int .i64 z] 3)).size
        have HLL : Hid (L.length + 1 ≤ 1000000) := by have := HC.out.len; show L.length + 1 ≤ 1000000; omega
        have HQS := hide' hq.stay
        clear hq hk3 hst hown hcs HP HC HBO HZZ HK
        have hck2 : c ≤ 60 := hck
        by_cases hzy : z = y
        · have HM2 := hide' (fun v w3 w4 => HM.out (c + 1) v w3 w4 (by rw [if_pos hzy]))
          clear HM
          subst hzy
          go_wp2_with (at_builtin; go_must (refine appS rfl _ _ 22 rfl Try.underlying22 info3 rfl (by decide) (by decide) HO3.out rfl HSRC.out rfl (by simp [Value.oneCell']) HLL.out HBW.out ?_; intro v w4 ho hst hb; have HO4 := hide' ho; have HT4 := hide' hst; have HB4 := hide' hb; clear ho hst hb; have HC4 : Hid (KH w l z b r (k + 1) (c + 1) v q2 L2 w4) := HM2.out v _ w4 ((Stay.refl _ _).alloc _) HT4.out HO4.out HB4.out; have hac4 : w4.cell? ⟨ba, o + k, none⟩ = some (.int .i64 z) := keep_cell HC4.out.qin.stay HAC.out; clear HM2 HO3 HSRC HBW HLL HO4 HT4 HB4 HQS hac2))
          go_wp2
          go_roundg (n - (k + 1))
          case measure => omega
          case rel => exact ⟨k + 1, c + 1, by omega, rfl, by first | rfl | go_num, by go_num, v, rfl, q2, L2, HC4⟩
        · have hzb : (z == y) = false := by simpa using hzy
          have HM2 := hide' (fun v w3 w4 => HM.out c v w3 w4 (by rw [if_neg hzy]))
          clear HM
          go_wp2_with (at_builtin; go_must (refine appS rfl _ _ 22 rfl Try.underlying22 info3 rfl (by decide) (by decide) HO3.out rfl HSRC.out rfl (by simp [Value.oneCell']) HLL.out HBW.out ?_; intro v w4 ho hst hb; have HO4 := hide' ho; have HT4 := hide' hst; have HB4 := hide' hb; clear ho hst hb; have HC4 : Hid (KH w l y b r (k + 1) c v q2 L2 w4) := HM2.out v _ w4 ((Stay.refl _ _).alloc _) HT4.out HO4.out HB4.out; have hac4 : w4.cell? ⟨ba, o + k, none⟩ = some (.int .i64 z) := keep_cell HC4.out.qin.stay HAC.out; clear HM2 HO3 HSRC HBW HLL HO4 HT4 HB4 HQS hac2))
          go_wp2
          go_roundg (n - (k + 1))
          case measure => omega
          case rel => exact ⟨k + 1, c, by omega, rfl, rfl, by go_num, v, rfl, q2, L2, HC4⟩
    · have hkn : n = k := by omega
      subst hkn
      go_wp2_with fail
      go_loopg [11, 12] n (fun gg v11 v12 wr => ∃ k : Nat, k ≤ n ∧ gg = n - k ∧ v11 = .bool (seenB l y k) ∧ v12 = .int .i64 (k : Int) ∧ Hid (KH w l y b r n c t q L wr))
      case atStart => exact ⟨0, Nat.zero_le _, rfl, by rw [seen_zero], rfl, HC⟩
      case round =>
        clear HC
        obtain ⟨k, hk, rfl, rfl, rfl, HC⟩ := hrel
        by_cases hlt : k < n
        · have kn : (k : Int) < (n : Nat) := by omega
          obtain ⟨ba, o, rfl, hac⟩ := HA.out k hlt
          obtain ⟨z, hz⟩ : ∃ a, a = l.getD k 0 := ⟨_, rfl⟩
          rw [← hz] at hac
          have hac1 := keep_cell HC.out.qin.stay hac
          have HSN : Hid (seenB l y (k + 1) = (seenB l y k || decide (z = y))) := by rw [hz]; exact seen_next (by omega)
          obtain ⟨sb, hsb⟩ : ∃ b, b = seenB l y k := ⟨_, rfl⟩
          rw [← hsb] at HSN
          rw [← hsb]
          clear hz hac hsb
          cases sb
          · by_cases hzy : z = y
            · rw [decide_eq_true hzy] at HSN
              have hzb : (z == y) = true := by simpa using hzy
              go_wp2
              go_roundg (n - (k + 1))
              case measure => omega
              case rel => exact ⟨k + 1, by omega, rfl, by rw [HSN.out]; rfl, by go_num, HC⟩
            · rw [decide_eq_false hzy] at HSN
              have hzb : (z == y) = false := by simpa using hzy
              go_wp2
              go_roundg (n - (k + 1))
              case measure => omega
              case rel => exact ⟨k + 1, by omega, rfl, by rw [HSN.out]; rfl, by go_num, HC⟩
          · go_wp2
            go_roundg (n - (k + 1))
            case measure => omega
            case rel => exact ⟨k + 1, by omega, rfl, by rw [HSN.out]; rfl, by go_num, HC⟩
        · have hkn : n = k := by omega
          subst hkn
          obtain ⟨ta, tc, rfl, hl1, hl2⟩ := ownsRow_shape HC.out.own
          have HCELL := hide' hl2
          clear hl1 hl2
          have hse := HC.out.seen
          have hqn : q.n ≤ r + 1 := by have h1 := HC.out.qin.at'.m1; have h2 := HC.out.r; omega
          have hqi : ¬ ((r2 : Nat) : Int) < (q.n : Nat) := by have := HR2.out; omega
          have hqd : decide (r2 < q.n) = false := by have := HR2.out; simp; omega
          have HL := hide' (show Calls Try.prog 8 #[.pointer (some ⟨b, 0, none⟩)] wr (Gives (.int .i64 (q.n : Nat)) wr) from by
            have h := len8 q wr HC.out.qin.at'.box
            rwa [HC.out.b] at h)
          obtain ⟨xw, xt, g3, g6⟩ := HX.out
          obtain ⟨m, hm⟩ : ∃ m, m = L.length := ⟨_, rfl⟩
          have HT0 : Hid (TH w b 0 (.slice ta m tc) q L wr) := by rw [hm]; exact ⟨HC.out.qin, HC.out.b, HC.out.own, HC.out.off⟩
          have HM := hide' hm
          have hm60 : m ≤ 60 := by have := HC.out.len; omega
          have i0 : (0 : Int) ≤ (q.n : Nat) := by omega
          rw [← hm]
          rw [hse]
          clear hse hqn hm HC
          by_cases hc0 : 0 < c
          · rw [decide_eq_true hc0]
            have hci : (0 : Int) < (c : Nat) := by omega
            go_wp2_with fail
            refine HL.out.mono ?_
            rintro e w5 ⟨rfl, hs⟩
            have HT1 : Hid (TH w b 0 (.slice ta m tc) q L w5) := ⟨HT0.out.qin.keep hs, HT0.out.b, hs.owns HT0.out.own (fun _ _ h => h), HT0.out.off⟩
            clear hs HT0 HL
            go_wp2_with fail
            go_loopg [13] m (fun gg v13 wr => ∃ k : Nat, k ≤ m ∧ gg = m - k ∧ v13 = .int .i64 (k : Int) ∧ ∃ q, Hid (TH w b k (.slice ta m tc) q L wr))
            case atStart => exact ⟨0, Nat.zero_le _, rfl, rfl, q, HT1⟩
            case round =>
              clear HT1
              obtain ⟨k, hk2, rfl, rfl, q, HT⟩ := hrel
              by_cases hlt2 : k < m
              · have kn2 : (k : Int) < (m : Nat) := by omega
                have hqn : 0 < q.n := by rw [← HT.out.qin.at'.len, List.length_drop, ← HM.out]; omega
                obtain ⟨z, hz⟩ : ∃ z, z = L.getD k 0 := ⟨_, rfl⟩
                have hz0 : (L.drop k).getD 0 0 = z := by rw [hz]; simp [List.getD_eq_getElem?_getD, List.getElem?_drop]
                have HTK := hide' (show Calls Try.prog 9 #[.pointer (some ⟨b, 0, none⟩)] wr (fun e w' => e = .returned (.tuple #[.int .i64 z, .bool true]) ∧ QIn w w' q.took (L.drop (k + 1)) ∧ Stay (fun j => j = b) wr w') from by
                  have h := take_in HT.out.qin hqn
                  rwa [HT.out.b, hz0, List.tail_drop] at h)
                have HZ := hide' hz
                clear hz hz0 hqn
                go_wp2_with fail
                refine HTK.out.mono ?_
                rintro e w6 ⟨rfl, hq, hs⟩
                have HT2 : Hid (TH w b (k + 1) (.slice ta m tc) q.took L w6) := ⟨hq, HT.out.b, hs.owns HT.out.own (fun j hj e => HT.out.off j hj (.inl (by rw [HT.out.b]; exact e))), HT.out.off⟩
                obtain ⟨ta', tc', he, _, hcl⟩ := ownsRow_shape HT2.out.own
                simp only [Value.slice.injEq] at he
                obtain ⟨he1, he2, he3⟩ := he
                clear he2
                subst he1 he3
                obtain ⟨g, rfl, _, hcell⟩ := hcl k (.int .i64 z) (by rw [List.getElem?_map, List.getElem?_eq_getElem (by rw [← HM.out]; exact hlt2), HZ.out, List.getD_eq_getElem?_getD, List.getElem?_eq_getElem (by rw [← HM.out]; exact hlt2)]; rfl)
                clear hq hs hcl HT HTK HZ
                go_wp2
                go_roundg (m - (k + 1))
                case measure => omega
                case rel => exact ⟨k + 1, by omega, rfl, by go_num, q.took, HT2⟩
              · have hkm : m = k := by omega
                subst hkm
                have hq0 : q.n = 0 := by rw [← HT.out.qin.at'.len, List.length_drop, ← HM.out]; omega
                have HL := hide' (show Calls Try.prog 8 #[.pointer (some ⟨b, 0, none⟩)] wr (Gives (.int .i64 0) wr) from by
                  have h := len8 q wr HT.out.qin.at'.box
                  rwa [HT.out.b, hq0] at h)
                have HSW := hide' HT.out.qin.stay
                clear HT hq0
                go_wp2_with fail
                refine HL.out.mono ?_
                rintro e w7 ⟨rfl, hs⟩
                have HS7 := hide' (HSW.out.trans hs)
                clear hs HSW HL
                go_wp2_with fail
                refine (HAW.out _).mono ?_
                rintro e w9 ⟨rfl, hs⟩
                have HE := hide' (HS7.out.trans hs)
                clear hs HS7
                go_wp2
                go_ret
                exact ⟨rfl, HE.out⟩
          · rw [decide_eq_false hc0]
            have hci : ¬ (0 : Int) < (c : Nat) := by omega
            go_wp2_with fail
            refine HL.out.mono ?_
            rintro e w5 ⟨rfl, hs⟩
            have HT1 : Hid (TH w b 0 (.slice ta m tc) q L w5) := ⟨HT0.out.qin.keep hs, HT0.out.b, hs.owns HT0.out.own (fun _ _ h => h), HT0.out.off⟩
            clear hs HT0 HL
            go_wp2_with fail
            go_loopg [13] m (fun gg v13 wr => ∃ k : Nat, k ≤ m ∧ gg = m - k ∧ v13 = .int .i64 (k : Int) ∧ ∃ q, Hid (TH w b k (.slice ta m tc) q L wr))
            case atStart => exact ⟨0, Nat.zero_le _, rfl, rfl, q, HT1⟩
            case round =>
              clear HT1
              obtain ⟨k, hk2, rfl, rfl, q, HT⟩ := hrel
              by_cases hlt2 : k < m
              · have kn2 : (k : Int) < (m : Nat) := by omega
                have hqn : 0 < q.n := by rw [← HT.out.qin.at'.len, List.length_drop, ← HM.out]; omega
                obtain ⟨z, hz⟩ : ∃ z, z = L.getD k 0 := ⟨_, rfl⟩
                have hz0 : (L.drop k).getD 0 0 = z := by rw [hz]; simp [List.getD_eq_getElem?_getD, List.getElem?_drop]
                have HTK := hide' (show Calls Try.prog 9 #[.pointer (some ⟨b, 0, none⟩)] wr (fun e w' => e = .returned (.tuple #[.int .i64 z, .bool true]) ∧ QIn w w' q.took (L.drop (k + 1)) ∧ Stay (fun j => j = b) wr w') from by
                  have h := take_in HT.out.qin hqn
                  rwa [HT.out.b, hz0, List.tail_drop] at h)
                have HZ := hide' hz
                clear hz hz0 hqn
                go_wp2_with fail
                refine HTK.out.mono ?_
                rintro e w6 ⟨rfl, hq, hs⟩
                have HT2 : Hid (TH w b (k + 1) (.slice ta m tc) q.took L w6) := ⟨hq, HT.out.b, hs.owns HT.out.own (fun j hj e => HT.out.off j hj (.inl (by rw [HT.out.b]; exact e))), HT.out.off⟩
                obtain ⟨ta', tc', he, _, hcl⟩ := ownsRow_shape HT2.out.own
                simp only [Value.slice.injEq] at he
                obtain ⟨he1, he2, he3⟩ := he
                clear he2
                subst he1 he3
                obtain ⟨g, rfl, _, hcell⟩ := hcl k (.int .i64 z) (by rw [List.getElem?_map, List.getElem?_eq_getElem (by rw [← HM.out]; exact hlt2), HZ.out, List.getD_eq_getElem?_getD, List.getElem?_eq_getElem (by rw [← HM.out]; exact hlt2)]; rfl)
                clear hq hs hcl HT HTK HZ
                go_wp2
                go_roundg (m - (k + 1))
                case measure => omega
                case rel => exact ⟨k + 1, by omega, rfl, by go_num, q.took, HT2⟩
              · have hkm : m = k := by omega
                subst hkm
                have hq0 : q.n = 0 := by rw [← HT.out.qin.at'.len, List.length_drop, ← HM.out]; omega
                have HL := hide' (show Calls Try.prog 8 #[.pointer (some ⟨b, 0, none⟩)] wr (Gives (.int .i64 0) wr) from by
                  have h := len8 q wr HT.out.qin.at'.box
                  rwa [HT.out.b, hq0] at h)
                have HSW := hide' HT.out.qin.stay
                clear HT hq0
                go_wp2_with fail
                refine HL.out.mono ?_
                rintro e w7 ⟨rfl, hs⟩
                have HS7 := hide' (HSW.out.trans hs)
                clear hs HSW HL
                go_wp2_with fail
                refine (HAW.out _).mono ?_
                rintro e w9 ⟨rfl, hs⟩
                have HE := hide' (HS7.out.trans hs)
                clear hs HS7
                go_wp2
                go_ret
                exact ⟨rfl, HE.out⟩

end Go.Proofs.Ytcikjghgpppokaa
