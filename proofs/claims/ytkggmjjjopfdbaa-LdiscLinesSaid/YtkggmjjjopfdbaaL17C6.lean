/-
  The plain setting by the document: walked. No conditions.
-/
import Derived.Test.YtkggmjjjopfdbaaL17C5
import Derived.Deep.MidRow
namespace Go.Proofs.Ytkggmjjjopfdbaa.L17
open Go.RowKit

/-- The first k special characters are there. -/
def chars (k : Nat) : Int := [(3 : Int), (28 : Int), (26 : Int), (4 : Int), (0 : Int), (127 : Int), (21 : Int), (23 : Int), (18 : Int), (22 : Int), (17 : Int), (19 : Int)].getD k 0
def at17 (n k : Nat) : Int := if k < n then chars k else 0
def mid (n : Nat) : Tm := ⟨84, 3, 623, at17 n 0, at17 n 1, at17 n 2, at17 n 3, at17 n 4, at17 n 5, at17 n 6, at17 n 7, at17 n 8, at17 n 9, at17 n 10, at17 n 11, 1, 0⟩

theorem mid_put {w : World} {b k : Nat} (hk : k < 12) (h : TBox w b (mid k)) : TBox (w.setCell ⟨b, 3 + k, none⟩ (.int .i64 (chars k))) b (mid (k + 1)) := by
  have : k = 0 ∨ k = 1 ∨ k = 2 ∨ k = 3 ∨ k = 4 ∨ k = 5 ∨ k = 6 ∨ k = 7 ∨ k = 8 ∨ k = 9 ∨ k = 10 ∨ k = 11 := by omega
  rcases this with rfl | rfl | rfl | rfl | rfl | rfl | rfl | rfl | rfl | rfl | rfl | rfl
  · exact h.put3 rfl
  · exact h.put4 rfl
  · exact h.put5 rfl
  · exact h.put6 rfl
  · exact h.put7 rfl
  · exact h.put8 rfl
  · exact h.put9 rfl
  · exact h.put10 rfl
  · exact h.put11 rfl
  · exact h.put12 rfl
  · exact h.put13 rfl
  · exact h.put14 rfl

theorem mid_frozen {w : World} {b k : Nat} (hk : k < 12) (h : TBox w b (mid k)) : w.frozen? ⟨b, 3 + k, none⟩ = false := by
  have : k = 0 ∨ k = 1 ∨ k = 2 ∨ k = 3 ∨ k = 4 ∨ k = 5 ∨ k = 6 ∨ k = 7 ∨ k = 8 ∨ k = 9 ∨ k = 10 ∨ k = 11 := by omega
  rcases this with rfl | rfl | rfl | rfl | rfl | rfl | rfl | rfl | rfl | rfl | rfl | rfl
  · exact h.f3
  · exact h.f4
  · exact h.f5
  · exact h.f6
  · exact h.f7
  · exact h.f8
  · exact h.f9
  · exact h.f10
  · exact h.f11
  · exact h.f12
  · exact h.f13
  · exact h.f14

theorem row_chars (w : World) (k : Nat) (hk : k < 12) : (w.alloc (.cells #[.int .i64 3, .int .i64 28, .int .i64 26, .int .i64 4, .int .i64 0, .int .i64 127, .int .i64 21, .int .i64 23, .int .i64 18, .int .i64 22, .int .i64 17, .int .i64 19] 3)).cell? ⟨w.heap.size, k, none⟩ = some (.int .i64 (chars k)) := by
  have : k = 0 ∨ k = 1 ∨ k = 2 ∨ k = 3 ∨ k = 4 ∨ k = 5 ∨ k = 6 ∨ k = 7 ∨ k = 8 ∨ k = 9 ∨ k = 10 ∨ k = 11 := by omega
  rcases this with rfl | rfl | rfl | rfl | rfl | rfl | rfl | rfl | rfl | rfl | rfl | rfl <;> simp [chars]

theorem wpList_exec {P : Program} {ops : Array Oper} {rest : List Oper} {o : Oper} {a : Act} {w : World} {Q : Exit → Act → World → Prop} {v : Value} (hgd : o.guard = none) (hr : (execOp a.eval o).run P w = .ok (.value v) w) (h : wpList P ops Q rest (a.put o.dst v) w) : wpList P ops Q (o :: rest) a w :=
  wpList_plain hgd fun _ hK => by
    unfold Oper.wp
    rw [hr]
    exact hK _ _ h

theorem TBox.there {w : World} {b : Nat} {r : Tm} (h : TBox w b r) : w.there b 0 17 := by
  intro j hj
  have : j = 0 ∨ j = 1 ∨ j = 2 ∨ j = 3 ∨ j = 4 ∨ j = 5 ∨ j = 6 ∨ j = 7 ∨ j = 8 ∨ j = 9 ∨ j = 10 ∨ j = 11 ∨ j = 12 ∨ j = 13 ∨ j = 14 ∨ j = 15 ∨ j = 16 := by omega
  rcases this with rfl | rfl | rfl | rfl | rfl | rfl | rfl | rfl | rfl | rfl | rfl | rfl | rfl | rfl | rfl | rfl | rfl
  · exact ⟨Option.isSome_iff_exists.2 ⟨_, h.c0⟩, h.f0⟩
  · exact ⟨Option.isSome_iff_exists.2 ⟨_, h.c1⟩, h.f1⟩
  · exact ⟨Option.isSome_iff_exists.2 ⟨_, h.c2⟩, h.f2⟩
  · exact ⟨Option.isSome_iff_exists.2 ⟨_, h.c3⟩, h.f3⟩
  · exact ⟨Option.isSome_iff_exists.2 ⟨_, h.c4⟩, h.f4⟩
  · exact ⟨Option.isSome_iff_exists.2 ⟨_, h.c5⟩, h.f5⟩
  · exact ⟨Option.isSome_iff_exists.2 ⟨_, h.c6⟩, h.f6⟩
  · exact ⟨Option.isSome_iff_exists.2 ⟨_, h.c7⟩, h.f7⟩
  · exact ⟨Option.isSome_iff_exists.2 ⟨_, h.c8⟩, h.f8⟩
  · exact ⟨Option.isSome_iff_exists.2 ⟨_, h.c9⟩, h.f9⟩
  · exact ⟨Option.isSome_iff_exists.2 ⟨_, h.c10⟩, h.f10⟩
  · exact ⟨Option.isSome_iff_exists.2 ⟨_, h.c11⟩, h.f11⟩
  · exact ⟨Option.isSome_iff_exists.2 ⟨_, h.c12⟩, h.f12⟩
  · exact ⟨Option.isSome_iff_exists.2 ⟨_, h.c13⟩, h.f13⟩
  · exact ⟨Option.isSome_iff_exists.2 ⟨_, h.c14⟩, h.f14⟩
  · exact ⟨Option.isSome_iff_exists.2 ⟨_, h.c15⟩, h.f15⟩
  · exact ⟨Option.isSome_iff_exists.2 ⟨_, h.c16⟩, h.f16⟩

theorem set_all (w : World) (b : Nat) (q : Tm) : w.setCells b 0 (#[.int .i64 q.fi, .int .i64 q.fo, .int .i64 q.fl, .int .i64 q.k0, .int .i64 q.k1, .int .i64 q.k2, .int .i64 q.k3, .int .i64 q.k4, .int .i64 q.k5, .int .i64 q.k6, .int .i64 q.k7, .int .i64 q.k8, .int .i64 q.k9, .int .i64 q.k10, .int .i64 q.k11, .int .i64 q.mn, .int .i64 q.ti] : Array Value).toList = (((((((((((((((((w.setCell ⟨b, 0, none⟩ (.int .i64 q.fi)).setCell ⟨b, 1, none⟩ (.int .i64 q.fo)).setCell ⟨b, 2, none⟩ (.int .i64 q.fl)).setCell ⟨b, 3, none⟩ (.int .i64 q.k0)).setCell ⟨b, 4, none⟩ (.int .i64 q.k1)).setCell ⟨b, 5, none⟩ (.int .i64 q.k2)).setCell ⟨b, 6, none⟩ (.int .i64 q.k3)).setCell ⟨b, 7, none⟩ (.int .i64 q.k4)).setCell ⟨b, 8, none⟩ (.int .i64 q.k5)).setCell ⟨b, 9, none⟩ (.int .i64 q.k6)).setCell ⟨b, 10, none⟩ (.int .i64 q.k7)).setCell ⟨b, 11, none⟩ (.int .i64 q.k8)).setCell ⟨b, 12, none⟩ (.int .i64 q.k9)).setCell ⟨b, 13, none⟩ (.int .i64 q.k10)).setCell ⟨b, 14, none⟩ (.int .i64 q.k11)).setCell ⟨b, 15, none⟩ (.int .i64 q.mn)).setCell ⟨b, 16, none⟩ (.int .i64 q.ti)) := rfl

theorem TBox.all {w : World} {b : Nat} {r0 : Tm} (h : TBox w b r0) (q : Tm) : TBox (w.setCells b 0 (#[.int .i64 q.fi, .int .i64 q.fo, .int .i64 q.fl, .int .i64 q.k0, .int .i64 q.k1, .int .i64 q.k2, .int .i64 q.k3, .int .i64 q.k4, .int .i64 q.k5, .int .i64 q.k6, .int .i64 q.k7, .int .i64 q.k8, .int .i64 q.k9, .int .i64 q.k10, .int .i64 q.k11, .int .i64 q.mn, .int .i64 q.ti] : Array Value).toList) b q := by
  rw [set_all]; exact h.put q

theorem TBox.stay_all {S : Nat → Prop} {w w1 : World} {b : Nat} (h : Stay S w w1) (hb : w.heap.size ≤ b) (q : Tm) : Stay S w (w1.setCells b 0 (#[.int .i64 q.fi, .int .i64 q.fo, .int .i64 q.fl, .int .i64 q.k0, .int .i64 q.k1, .int .i64 q.k2, .int .i64 q.k3, .int .i64 q.k4, .int .i64 q.k5, .int .i64 q.k6, .int .i64 q.k7, .int .i64 q.k8, .int .i64 q.k9, .int .i64 q.k10, .int .i64 q.k11, .int .i64 q.mn, .int .i64 q.ti] : Array Value).toList) := by
  rw [set_all]; exact TBox.stay_put h hb _ _ _ _ _ _ _ _ _ _ _ _ _ _ _ _ _

theorem mid_end : mid 12 = plainT := by rfl

set_option maxRecDepth 100000 in
theorem plain26 (w : World) : Calls Try.prog 26 #[] w (Gives (.agg #[.int .i64 plainT.fi, .int .i64 plainT.fo, .int .i64 plainT.fl, .int .i64 plainT.k0, .int .i64 plainT.k1, .int .i64 plainT.k2, .int .i64 plainT.k3, .int .i64 plainT.k4, .int .i64 plainT.k5, .int .i64 plainT.k6, .int .i64 plainT.k7, .int .i64 plainT.k8, .int .i64 plainT.k9, .int .i64 plainT.k10, .int .i64 plainT.k11, .int .i64 plainT.mn, .int .i64 plainT.ti]) w) := by
  have HX := hide' (TBox.new (w := w) zeroT rfl)
  have HS := hide' ((Stay.refl (fun _ => False) w).alloc (.cells #[.int .i64 zeroT.fi, .int .i64 zeroT.fo, .int .i64 zeroT.fl, .int .i64 zeroT.k0, .int .i64 zeroT.k1, .int .i64 zeroT.k2, .int .i64 zeroT.k3, .int .i64 zeroT.k4, .int .i64 zeroT.k5, .int .i64 zeroT.k6, .int .i64 zeroT.k7, .int .i64 zeroT.k8, .int .i64 zeroT.k9, .int .i64 zeroT.k10, .int .i64 zeroT.k11, .int .i64 zeroT.mn, .int .i64 zeroT.ti] 24))
  obtain ⟨p, hp⟩ : ∃ p, p = plainT := ⟨_, rfl⟩
  have HP : Hid (mid 12 = p) := mid_end.trans hp.symm
  rw [← hp]
  clear hp
  go_enter Try.func26, Try.ntmps26
  go_upto_region 1 with fail
  obtain ⟨W, hW⟩ : ∃ W, W = w.alloc (.cells #[.int .i64 0, .int .i64 0, .int .i64 0, .int .i64 0, .int .i64 0, .int .i64 0, .int .i64 0, .int .i64 0, .int .i64 0, .int .i64 0, .int .i64 0, .int .i64 0, .int .i64 0, .int .i64 0, .int .i64 0, .int .i64 0, .int .i64 0] 24) := ⟨_, rfl⟩
  have HX2 : Hid (TBox W w.heap.size zeroT) := by rw [hW]; exact HX.out
  have HS2 : Hid (Stay (fun _ => False) w W) := by rw [hW]; exact HS.out
  obtain ⟨b, hb⟩ : ∃ b, b = w.heap.size := ⟨_, rfl⟩
  have hz : b + 1 = W.heap.size := by rw [hW, hb]; simp
  rw [← hW]
  rw [← hb] at HX2 ⊢
  have HB : Hid (w.heap.size ≤ b) := by show w.heap.size ≤ b; omega
  have HZ := hide' hz
  clear hW hb HX HS hz
  go_upto_region 2 with fail
  have HM := hide' (TBox.new (w := W) (mid 0) rfl)
  have HXA := hide' (HX2.out.alloc (.cells #[.int .i64 (mid 0).fi, .int .i64 (mid 0).fo, .int .i64 (mid 0).fl, .int .i64 (mid 0).k0, .int .i64 (mid 0).k1, .int .i64 (mid 0).k2, .int .i64 (mid 0).k3, .int .i64 (mid 0).k4, .int .i64 (mid 0).k5, .int .i64 (mid 0).k6, .int .i64 (mid 0).k7, .int .i64 (mid 0).k8, .int .i64 (mid 0).k9, .int .i64 (mid 0).k10, .int .i64 (mid 0).k11, .int .i64 (mid 0).mn, .int .i64 (mid 0).ti] 24))
  have HSA := hide' (HS2.out.alloc (.cells #[.int .i64 (mid 0).fi, .int .i64 (mid 0).fo, .int .i64 (mid 0).fl, .int .i64 (mid 0).k0, .int .i64 (mid 0).k1, .int .i64 (mid 0).k2, .int .i64 (mid 0).k3, .int .i64 (mid 0).k4, .int .i64 (mid 0).k5, .int .i64 (mid 0).k6, .int .i64 (mid 0).k7, .int .i64 (mid 0).k8, .int .i64 (mid 0).k9, .int .i64 (mid 0).k10, .int .i64 (mid 0).k11, .int .i64 (mid 0).mn, .int .i64 (mid 0).ti] 24))
  obtain ⟨W2, hW2⟩ : ∃ W2, W2 = W.alloc (.cells #[.int .i64 84, .int .i64 3, .int .i64 623, .int .i64 0, .int .i64 0, .int .i64 0, .int .i64 0, .int .i64 0, .int .i64 0, .int .i64 0, .int .i64 0, .int .i64 0, .int .i64 0, .int .i64 0, .int .i64 0, .int .i64 1, .int .i64 0] 24) := ⟨_, rfl⟩
  have HM2 : Hid (TBox W2 W.heap.size (mid 0)) := by rw [hW2]; exact HM.out
  have HX3 : Hid (TBox W2 b zeroT) := by rw [hW2]; exact HXA.out
  have HS3 : Hid (Stay (fun _ => False) w W2) := by rw [hW2]; exact HSA.out
  obtain ⟨d, hd⟩ : ∃ d, d = W.heap.size := ⟨_, rfl⟩
  have HD : Hid (d + 1 = W2.heap.size) := by show d + 1 = W2.heap.size; rw [hW2, hd]; simp
  have HBD : Hid (b < d ∧ w.heap.size ≤ d) := by have := HZ.out; have := HB.out; show b < d ∧ w.heap.size ≤ d; omega
  rw [← hd] at HM2 ⊢
  rw [← hW2]
  clear hW2 hd HX2 HS2 HZ HM HXA HSA
  go_upto_region 4 with fail
  have HC := hide' (row_chars W2)
  have HMA := hide' (HM2.out.alloc (.cells #[.int .i64 3, .int .i64 28, .int .i64 26, .int .i64 4, .int .i64 0, .int .i64 127, .int .i64 21, .int .i64 23, .int .i64 18, .int .i64 22, .int .i64 17, .int .i64 19] 3))
  have HXA := hide' (HX3.out.alloc (.cells #[.int .i64 3, .int .i64 28, .int .i64 26, .int .i64 4, .int .i64 0, .int .i64 127, .int .i64 21, .int .i64 23, .int .i64 18, .int .i64 22, .int .i64 17, .int .i64 19] 3))
  have HSA := hide' (HS3.out.alloc (.cells #[.int .i64 3, .int .i64 28, .int .i64 26, .int .i64 4, .int .i64 0, .int .i64 127, .int .i64 21, .int .i64 23, .int .i64 18, .int .i64 22, .int .i64 17, .int .i64 19] 3))
  have HSz : Hid (d + 1 < (W2.alloc (.cells #[.int .i64 3, .int .i64 28, .int .i64 26, .int .i64 4, .int .i64 0, .int .i64 127, .int .i64 21, .int .i64 23, .int .i64 18, .int .i64 22, .int .i64 17, .int .i64 19] 3)).heap.size) := by
    have := HD.out
    show d + 1 < (W2.alloc (.cells #[.int .i64 3, .int .i64 28, .int .i64 26, .int .i64 4, .int .i64 0, .int .i64 127, .int .i64 21, .int .i64 23, .int .i64 18, .int .i64 22, .int .i64 17, .int .i64 19] 3)).heap.size
    simp; omega
  obtain ⟨g, hg⟩ : ∃ g, g = W2.heap.size := ⟨_, rfl⟩
  obtain ⟨W3, hW3⟩ : ∃ W3, W3 = W2.alloc (.cells #[.int .i64 3, .int .i64 28, .int .i64 26, .int .i64 4, .int .i64 0, .int .i64 127, .int .i64 21, .int .i64 23, .int .i64 18, .int .i64 22, .int .i64 17, .int .i64 19] 3) := ⟨_, rfl⟩
  rw [← hW3] at HC HMA HXA HSA HSz ⊢
  rw [← hg] at HC HD ⊢
  clear hg hW3 HM2 HX3 HS3
  go_wp2
  go_loopg [3] 12 (fun gg v3 wr => ∃ k : Nat, k ≤ 12 ∧ gg = 12 - k ∧ v3 = .int .i64 (k : Int) ∧ Hid (TBox wr d (mid k) ∧ Stay (fun _ => False) w wr ∧ Stay (fun j => j = d) W3 wr))
  case atStart => exact ⟨0, Nat.zero_le _, rfl, rfl, HMA.out, HSA.out, Stay.refl _ _⟩
  case round =>
    obtain ⟨k, hk, rfl, rfl, HR⟩ := hrel
    by_cases hlt : k < 12
    · have kn : (k : Int) < 12 := by omega
      have hcell : wr.cell? ⟨g, k, none⟩ = some (.int .i64 (chars k)) := by
        have h1 := HC.out k hlt
        have h2 := HR.out.2.2.cell (p := ⟨g, k, none⟩) (by have := HD.out; have := HSz.out; show g < W3.heap.size; omega) (by have := HD.out; show ¬ g = d; omega)
        exact h2.trans h1
      have hfr := mid_frozen hlt HR.out.1
      obtain ⟨old, hold⟩ : ∃ v, wr.cell? ⟨d, 3 + k, none⟩ = some v := ⟨_, HR.out.1.cc hlt⟩
      have HN : Hid (TBox (wr.setCell ⟨d, 3 + k, none⟩ (.int .i64 (chars k))) d (mid (k + 1)) ∧ Stay (fun _ => False) w (wr.setCell ⟨d, 3 + k, none⟩ (.int .i64 (chars k))) ∧ Stay (fun j => j = d) W3 (wr.setCell ⟨d, 3 + k, none⟩ (.int .i64 (chars k)))) :=
        ⟨mid_put hlt HR.out.1, HR.out.2.1.setNew HBD.out.2 _, HR.out.2.2.setCell (S := fun j => j = d) (p := ⟨d, 3 + k, none⟩) rfl _⟩
      obtain ⟨x, hx⟩ : ∃ x, x = chars k := ⟨_, rfl⟩
      rw [← hx] at hcell HN
      clear hx HR
      go_wp2
      go_roundg (12 - (k + 1))
      case measure => omega
      case rel => exact ⟨k + 1, by omega, rfl, by go_num, HN⟩
    · have e : k = 12 := by omega
      subst e
      have HM4 : Hid (TBox wr d p) := by have h := HR.out.1; rw [HP.out] at h; exact h
      have HX4 := hide' (HXA.out.stay HR.out.2.2 (by have := HBD.out.1; omega))
      have HS4 := hide' HR.out.2.1
      clear HMA HXA HSA hlt HR HC
      have HXQ := hide' (HX4.out.all p)
      have HSQ := hide' (TBox.stay_all HS4.out HB.out p)
      have HT := hide' HX4.out.there
      obtain ⟨W5, hW5⟩ : ∃ W5, W5 = wr.setCells b 0 (#[.int .i64 p.fi, .int .i64 p.fo, .int .i64 p.fl, .int .i64 p.k0, .int .i64 p.k1, .int .i64 p.k2, .int .i64 p.k3, .int .i64 p.k4, .int .i64 p.k5, .int .i64 p.k6, .int .i64 p.k7, .int .i64 p.k8, .int .i64 p.k9, .int .i64 p.k10, .int .i64 p.k11, .int .i64 p.mn, .int .i64 p.ti] : Array Value).toList := ⟨_, rfl⟩
      rw [← hW5] at HXQ HSQ
      go_wp2_with (first
        | refine wpList_exec rfl (run_load_TBox rfl rfl HM4.out) ?_
        | (refine wpList_store_mid rfl 24 (.tmp 0) (.tmp 17) rfl b 0 #[.int .i64 p.fi, .int .i64 p.fo, .int .i64 p.fl, .int .i64 p.k0, .int .i64 p.k1, .int .i64 p.k2, .int .i64 p.k3, .int .i64 p.k4, .int .i64 p.k5, .int .i64 p.k6, .int .i64 p.k7, .int .i64 p.k8, .int .i64 p.k9, .int .i64 p.k10, .int .i64 p.k11, .int .i64 p.mn, .int .i64 p.ti] rfl rfl HT.out (by kernel_rfl) (by simp [Value.oneCell']) ?_
           rw [← hW5]; clear hW5))
      exact TBox.ends (r := p) rfl rfl HXQ.out rfl HSQ.out rfl

end Go.Proofs.Ytkggmjjjopfdbaa.L17
