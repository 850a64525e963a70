/-
  UartSends walked: true of any arguments. No conditions.
-/
import Derived.Test.YtffdkkbinkonbaaE0
import Derived.Test.YtffdkkbinkonbaaA3
namespace Go.Proofs.Ytffdkkbinkonbaa
open Go.RowKit

attribute [local go_sem] extract0 extract1

theorem tmod_9 (x : Nat) : ((x : Nat) : Int).tmod 9 = ((x % 9 : Nat) : Int) := by
  rw [Int.tmod_eq_emod_of_nonneg (by omega)]; rfl

theorem src_of_arg {W : World} {v : Value} {l : List Int} {a : Option Addr} {cap : Nat} (h : IArg .u8 W v l a cap) : Src W a l.length (bys l) :=
  ⟨fun ad e j u hu => by
    have hne : l ≠ [] := fun e2 => by rw [e2] at hu; simp [bys] at hu
    obtain ⟨b, off, e3, _, hi⟩ := h.cells hne
    rw [e] at e3
    cases e3
    rw [addr_add]
    unfold bys at hu
    rw [List.getElem?_map, Option.map_eq_some_iff] at hu
    obtain ⟨z, hz, rfl⟩ := hu
    have hj := (List.getElem?_eq_some_iff.1 hz).1
    rw [hi j hj, List.getD_eq_getElem?_getD, hz]
    rfl, fun e => by have := h.nilCap e; have := h.lenLe; omega⟩

theorem rowS_of_arg {W : World} {v : Value} {l : List Int} {a : Option Addr} {cap : Nat} (h : IArg .u8 W v l a cap) : IsRowS W 1 (.slice a l.length cap) l.length (bys l) := by
  have h1 := isRowS_of h.row
  rw [h.shape, List.length_map] at h1
  exact h1

theorem rowS_of_owns {w : World} {base e size n : Nat} {v : Value} {xs : List Value} (h : w.ownsRow base e size v n xs) : IsRowS w size v n xs := by
  have h1 := h.1
  rcases h.2 with ⟨h, h0⟩ | ⟨g, c, cur, hv, _⟩
  · refine .inl ⟨h, h0, List.eq_nil_of_length_eq_zero (by rw [h1, h0, Nat.zero_mul])⟩
  · exact .inr ⟨_, c, hv, h1, h.cells (by rw [hv]; rfl)⟩

set_option maxRecDepth 100000 in
theorem sends_long1 (aa ab : Option Addr) (n1 c1 n2 c2 : Nat) (x : Int) (w : World) (hle : (n1 : Int) ≤ 9223372036854775807) (hn : 60 < n1) : Calls Try.prog 5 #[.slice aa n1 c1, .slice ab n2 c2, .int .u8 x] w (LawTrue w) := by
  have i1 : (60 : Int) < (n1 : Nat) := by omega
  have HAW := hide' awake6
  go_enter Try.func5, Try.ntmps5
  go_wp2_with fail
  refine (HAW.out _).mono ?_
  rintro e w9 ⟨rfl, hs⟩
  have HE := hide' hs
  clear hs
  go_wp2
  go_ret
  exact ⟨rfl, HE.out⟩

set_option maxRecDepth 100000 in
theorem sends_long2 (aa ab : Option Addr) (n1 c1 n2 c2 : Nat) (x : Int) (w : World) (hle : (n2 : Int) ≤ 9223372036854775807) (hn1 : n1 ≤ 60) (hn : 60 < n2) : Calls Try.prog 5 #[.slice aa n1 c1, .slice ab n2 c2, .int .u8 x] w (LawTrue w) := by
  have i0 : ¬ (60 : Int) < (n1 : Nat) := by omega
  have i1 : (60 : Int) < (n2 : Nat) := by omega
  have HAW := hide' awake6
  go_enter Try.func5, Try.ntmps5
  go_wp2_with fail
  refine (HAW.out _).mono ?_
  rintro e w9 ⟨rfl, hs⟩
  have HE := hide' hs
  clear hs
  go_wp2
  go_ret
  exact ⟨rfl, HE.out⟩

/-- What stands at the head of a round of UartSends. -/
structure SH (w : World) (b : Nat) (D : List Int) (t : Nat) (v : Value) (q : Ln) (wr : World) : Prop where
  lin : LIn w wr b 200 false q [] (D.drop t)
  own : wr.ownsRow w.heap.size 5 1 v t (bys (D.take t))
  off : ∀ j, v.ownBlock = some j → ¬ q.own j

/-- Bytes more have gone out. -/
theorem SH.more {w : World} {b : Nat} {D : List Int} {t k : Nat} {v _t1 v2 : Value} {q q2 : Ln} {wr w1 w2 : World} (h : SH w b D t v q wr) (hl : LIn w w1 b 200 false q2 [] ((D.drop t).drop k)) (hm : Moved q q2 wr w1)
    (ho : w2.ownsRow w.heap.size 5 1 v2 (t + k) (bys (D.take t) ++ bys ((D.drop t).take k))) (hs : Stay (fun j => v.ownBlock = some j) w1 w2) (hb : v2.ownBlock = v.ownBlock ∨ v2.ownBlock = some w1.heap.size) : SH w b D (t + k) v2 q2 w2 := by
  have hlt := h.own.lt
  have hoff : ∀ j, v.ownBlock = some j → ¬ q2.own j := fun j hj h2 => by
    rcases hm.2 j h2 with h3 | h3
    · exact h.off j hj h3
    · have := (hlt j hj).2; omega
  rw [List.drop_drop] at hl
  refine ⟨hl.other hs (fun j hj => ⟨(hlt j hj).1, hoff j hj⟩), ?_, fun j hj h2 => ?_⟩
  · rw [← bys_append, ← List.take_add] at ho
    exact ho
  · rcases hb with hb | hb
    · exact hoff j (by rw [← hb]; exact hj) h2
    · rw [hb] at hj
      cases hj
      have := hl.at'.lt _ h2
      omega

set_option maxRecDepth 100000 in
set_option maxHeartbeats 1000000 in
theorem sends_go (aa ab : Option Addr) (n1 c1 n2 c2 : Nat) (A B : List Int) (x : Nat) (w : World) (hA : IArg .u8 w (.slice aa n1 c1) A aa c1) (hB : IArg .u8 w (.slice ab n2 c2) B ab c2) (hl1 : A.length = n1) (hl2 : B.length = n2) (hn1 : n1 ≤ 60) (hn2 : n2 ≤ 60) (hx : x < 256) : Calls Try.prog 5 #[.slice aa n1 c1, .slice ab n2 c2, .int .u8 (x : Nat)] w (LawTrue w) := by
  have HA := hide' hA
  have HB := hide' hB
  have HAW := hide' awake6
  have i1 : ¬ (60 : Int) < (n1 : Nat) := by omega
  have i2 : ¬ (60 : Int) < (n2 : Nat) := by omega
  have xw : IntKind.i64.wrap (x : Int) = x := by rw [IntKind.wrap_i64]; omega
  have xt := tmod_9 x
  obtain ⟨xr, hxr⟩ : ∃ n, n = x % 9 := ⟨_, rfl⟩
  rw [← hxr] at xt
  have g3 : IntKind.i64.wrap (xr : Int) = xr := by rw [IntKind.wrap_i64]; omega
  obtain ⟨c, hc⟩ : ∃ n, n = 1 + xr := ⟨_, rfl⟩
  have g5 : IntKind.i64.wrap (1 + (xr : Int)) = (c : Nat) := by rw [IntKind.wrap_i64]; omega
  have HX : Hid (_ ∧ _ ∧ _ ∧ _) := hide' ⟨xw, xt, g3, g5⟩
  have HCC : Hid (1 ≤ c ∧ c ≤ 9) := by show 1 ≤ c ∧ c ≤ 9; omega
  have HLL : Hid (A.length = n1 ∧ B.length = n2 ∧ n1 ≤ 60 ∧ n2 ≤ 60) := ⟨hl1, hl2, hn1, hn2⟩
  have hnew := new_in (w0 := w) 200 (Stay.refl _ w) (by decide) (by decide)
  have HN := hide' hnew
  clear hA hB hl1 hl2 hxr hc xw xt g3 g5 hnew
  go_enter Try.func5, Try.ntmps5
  go_wp2_with fail
  refine HN.out.mono ?_
  rintro e w1 ⟨q0, rfl, hi, hs⟩
  obtain ⟨b, hb⟩ : ∃ b, b = q0.b := ⟨_, rfl⟩
  rw [← hb] at hi
  rw [← hb]
  have hA1 := HA.out.stay0 hs
  have HS1 := hide' hs
  have HP1 := hide' (send_in aa n1 c1 n1 A hi (by have := src_of_arg hA1; rwa [HLL.out.1] at this) HLL.out.1 (by have := hA1.lenLe; rwa [HLL.out.1] at this) (by omega) (by have := HLL.out.2.2.1; simp; omega))
  clear hb hi hs HN hA1
  go_wp2_with fail
  refine HP1.out.mono ?_
  rintro e w2 ⟨q1, rfl, hi, hm⟩
  rw [List.nil_append, List.take_of_length_le (by have := HLL.out.1; omega)] at hi
  have hB2 := HB.out.stay0 hi.stay
  have HP2 := hide' (send_in ab n2 c2 n2 B hi (by have := src_of_arg hB2; rwa [HLL.out.2.1] at this) HLL.out.2.1 (by have := hB2.lenLe; rwa [HLL.out.2.1] at this) (by omega) (by have := HLL.out; omega))
  clear hi hm HP1 hB2 HS1
  go_wp2_with fail
  refine HP2.out.mono ?_
  rintro e w3 ⟨q2, rfl, hi, hm⟩
  rw [List.take_of_length_le (by have := HLL.out.2.1; omega)] at hi
  obtain ⟨D, hD⟩ : ∃ D, D = A ++ B := ⟨_, rfl⟩
  rw [← hD] at hi
  have HC0 : Hid (SH w b D 0 (.slice none 0 0) q2 w3) := ⟨hi, World.ownsRow_nil _ _ _ _, fun j hj => by cases hj⟩
  obtain ⟨N, hN⟩ : ∃ N, N = D.length := ⟨_, rfl⟩
  have HNN : Hid (N = D.length ∧ N ≤ 120 ∧ D = A ++ B) := ⟨hN, by have := HLL.out; rw [hN, hD, List.length_append]; omega, hD⟩
  clear hi hm HP2 hD hN
  go_wp2_with fail
  go_loopg [8, 9] 130 (fun gg v8 v9 wr => ∃ i t : Nat, i ≤ 130 ∧ gg = 130 - i ∧ v9 = .int .i64 (i : Int) ∧ ∃ v, v = v8 ∧ ∃ q, Hid (SH w b D t v q wr ∧ t ≤ N ∧ (i ≤ t ∨ t = N)))
  case atStart => exact ⟨0, 0, Nat.zero_le _, rfl, rfl, _, rfl, q2, HC0.out, Nat.zero_le _, .inl (Nat.le_refl _)⟩
  case round =>
    clear HC0
    obtain ⟨i, t, hi, rfl, rfl, v, rfl, q, HC⟩ := hrel
    obtain ⟨xw, xt, g3, g5⟩ := HX.out
    by_cases hlt : i < 130
    · have kn : (i : Int) < 130 := by omega
      obtain ⟨k, hk⟩ : ∃ k, k = min c (N - t) := ⟨_, rfl⟩
      have hlen : (D.drop t).length = N - t := by rw [List.length_drop, HNN.out.1]
      have HS := hide' (sent_in (c : Nat) k HC.out.1.lin (by rw [hlen, hk]; omega))
      have HK := hide' hk
      clear hk hlen
      go_wp2_with fail
      refine HS.out.mono ?_
      rintro e w4 ⟨q3, tv, rfl, ht, hl, hm⟩
      have HO4 : Hid (w4.ownsRow w.heap.size 5 1 v t (bys (D.take t))) := hm.1.owns HC.out.1.own (fun j hj => HC.out.1.off j hj)
      have HSRC : Hid (IsRowS w4 1 tv k (bys ((D.drop t).take k))) := rowS_of_owns ht
      have HTN : Hid (t + k ≤ 1000000) := by have h1 := HC.out.2.1; have h2 := HNN.out.2.1; have h3 := HK.out; show t + k ≤ 1000000; omega
      have HBW : Hid (w.heap.size ≤ w4.heap.size) := hl.stay.size
      have HM : Hid (∀ v2 w5, w5.ownsRow w.heap.size 5 1 v2 (t + k) (bys (D.take t) ++ bys ((D.drop t).take k)) → Stay (fun j => v.ownBlock = some j) w4 w5 → (v2.ownBlock = v.ownBlock ∨ v2.ownBlock = some w4.heap.size) → SH w b D (t + k) v2 q3 w5) := fun v2 w5 h1 h2 h3 => HC.out.1.more (_t1 := tv) hl hm h1 h2 h3
      clear ht hl hm HS
      go_wp2_with (at_builtin; go_must (refine appS rfl _ _ 27 rfl Try.underlying27 info5 rfl (by decide) (by decide) HO4.out rfl HSRC.out rfl (bys_one _) HTN.out HBW.out ?_; intro v2 w5 ho hst hb; have HC5 := hide' (HM.out v2 w5 ho hst hb); clear ho hst hb HM HO4 HSRC HTN HBW))
      go_roundg (130 - (i + 1))
      case measure => omega
      case rel => exact ⟨i + 1, t + k, by omega, rfl, by go_num, v2, rfl, q3, HC5.out, by have := HC.out.2.1; have := HK.out; omega, by have := HC.out.2; have := HK.out; have := HCC.out.1; omega⟩
    · have hin : i = 130 := by omega
      subst hin
      have htN : t = N := by have h0 := HC.out.2.1; have h1 := HC.out.2.2; have h2 := HNN.out.2.1; omega
      subst htN
      have hdn : D.drop t = [] := by rw [HNN.out.1]; exact List.drop_length
      have HWT := hide' (waits_in 0 0 HC.out.1.lin rfl (by rw [hdn]; rfl))
      have HV : Hid (Bs wr v (A ++ B)) := by
        have h := bs_owned HC.out.1.own
        rwa [HNN.out.1, List.take_length, HNN.out.2.2] at h
      have HSW := hide' HC.out.1.lin.stay
      clear HC hdn
      go_wp2_with fail
      refine HWT.out.mono ?_
      rintro e w4 ⟨rfl, _, hs⟩
      have HV4 := hide' (HV.out.keep hs)
      have HS4 := hide' (HSW.out.trans hs)
      clear hs HWT HV HSW
      have HO0 : Hid ((w4.alloc (.cells #[] 5)).ownsRow w4.heap.size 5 1 (.slice (some ⟨w4.heap.size, 0, none⟩) 0 0) 0 []) := owns_newS w4 #[] 5 1 0 rfl (by decide)
      have HA4 : Hid (IsRowS (w4.alloc (.cells #[] 5)) 1 (.slice aa n1 c1) n1 (bys A)) := by
        have h := rowS_of_arg (HA.out.stay0 (HS4.out.alloc (.cells #[] 5)))
        rwa [HLL.out.1] at h
      have HB0 : Hid (w4.heap.size ≤ (w4.alloc (.cells #[] 5)).heap.size) := ((Stay.refl (fun _ => False) w4).alloc _).size
      have HN0 : Hid (0 + n1 ≤ 1000000) := by show 0 + n1 ≤ 1000000; omega
      have HN1 : Hid (0 + n1 + n2 ≤ 1000000) := by show 0 + n1 + n2 ≤ 1000000; omega
      go_wp2_with (at_builtin; go_must (refine appS rfl _ _ 27 rfl Try.underlying27 info5 rfl (by decide) (by decide) HO0.out rfl HA4.out rfl (bys_one _) HN0.out HB0.out ?_; intro v1 w5 ho1 hs1 hb1; have hst1 : Stay (fun _ => False) w4 w5 := ((Stay.refl (fun _ => False) w4).alloc (.cells #[] 5)).trans2 hs1 (fun j hj e => by cases e; exact absurd hj (Nat.lt_irrefl _)); have HO1 := hide' ho1; have HB1 : Hid (w4.heap.size ≤ w5.heap.size) := hst1.size; have HB5 : Hid (IsRowS w5 1 (.slice ab n2 c2) n2 (bys B)) := (by have h := rowS_of_arg (HB.out.stay0 (HS4.out.trans hst1)); rwa [HLL.out.2.1] at h); have HS5 := hide' hst1; clear ho1 hs1 hb1 hst1; go_wp2_with (at_builtin; go_must (refine appS rfl _ _ 27 rfl Try.underlying27 info5 rfl (by decide) (by decide) HO1.out rfl HB5.out rfl (bys_one _) HN1.out HB1.out ?_; intro v2 w6 ho2 hs2 hb2; have hst2 : Stay (fun _ => False) w4 w6 := HS5.out.trans2 hs2 (fun j hj e => by have := (HO1.out.lt j e).1; omega); have HV6 := hide' (HV4.out.keep hst2); have HS6 := hide' (HS4.out.trans hst2); have HR6 : Hid (Bs w6 v2 (A ++ B)) := (by rw [List.nil_append, ← bys_append] at ho2; exact bs_owned ho2); clear ho2 hs2 hb2 hst2; have HSM := hide' (same12 v v2 (A ++ B) w6 HV6.out HR6.out (by rw [List.length_append]; have := HLL.out; omega)); go_wp2_with fail))))
      refine HSM.out.mono ?_
      rintro e w7 ⟨rfl, hs⟩
      have HS7 := hide' (HS6.out.trans hs)
      clear hs HSM HV6 HR6 HS6 HV4 HS4
      go_wp2_with fail
      refine (HAW.out _).mono ?_
      rintro e w9 ⟨rfl, hs⟩
      have HE := hide' (HS7.out.trans hs)
      clear hs HS7
      go_wp2
      go_ret
      exact ⟨rfl, HE.out⟩

end Go.Proofs.Ytffdkkbinkonbaa
