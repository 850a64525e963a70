/-
  Acts are played: walked. No conditions.
-/
import Derived.Test.YticccknocjnkpaaGA
import Derived.Deep.DeepCutAuto
namespace Go.Proofs.Yticccknocjnkpaa
open Go.RowKit

/-- Acts that can be read. -/
def ARd (w : World) (q0 : Sm) (la : Option Addr) (n : Nat) (ac : Nat → Ac) : Prop := ∀ i, i < n → ∃ g o, la = some ⟨g, o, none⟩ ∧ ABoxAt w g (o + i * 7) (ac i) ∧ ¬ q0.own g

theorem ARd.at {w wr : World} {q0 : Sm} {la : Option Addr} {n i : Nat} {ac : Nat → Ac} (h : ARd w q0 la n ac) (hs : Stay q0.own w wr) (hi : i < n) : ∃ g o, la = some ⟨g, o, none⟩ ∧ ABoxAt wr g (o + i * 7) (ac i) := by
  obtain ⟨g, o, e, hb, hn⟩ := h i hi
  have hlt : g < w.heap.size := World.block_lt_of_cell? _ _ hb.c0
  have c : ∀ o, wr.cell? ⟨g, o, none⟩ = w.cell? ⟨g, o, none⟩ := fun o => hs.cell (p := ⟨g, o, none⟩) hlt hn
  exact ⟨g, o, e, (c _).trans hb.c0, (c _).trans hb.c1, (c _).trans hb.c2, (c _).trans hb.c3, (c _).trans hb.c4, (c _).trans hb.c5, (c _).trans hb.c6⟩

/-- What comes of acts. -/
def PlayOut (q0 : Sm) (sw sh : Int) (y : List Wn × Int) (w : World) (e : Ending) (w' : World) : Prop := ∃ v xa xc, e = .returned (.tuple #[.slice xa y.1.length xc, .bool true]) ∧ PlIn w q0 q0.b v xa xc sw sh y.2 y.1 w'

set_option maxRecDepth 100000 in
set_option maxHeartbeats 8000000 in
theorem play10 (q0 : Sm) (sw sh : Int) (la : Option Addr) (n lc : Nat) (ac : Nat → Ac) (w : World) (h : SAt w q0 sw sh 0 []) (h1 : scrB sw = true) (h2 : scrB sh = true) (hn : n ≤ 20) (hl : ARd w q0 la n ac) :
    Calls Try.prog 10 #[.pointer (some ⟨q0.b, 0, none⟩), .int .i64 sw, .int .i64 sh, .slice la n lc] w (PlayOut q0 sw sh (playK sw sh ac n) w) := by
  have HSC := hide' (show scrB sw = true ∧ scrB sh = true from ⟨h1, h2⟩)
  have HLR := hide' hl
  have HOK := hide' (playK_ok sw sh ac)
  have hnz : (n : Int) ≤ 20 := by omega
  have HP0 : Hid (∃ v, PlIn w q0 q0.b v none 0 sw sh (playK sw sh ac 0).2 (playK sw sh ac 0).1 w ∧ 0 = (playK sw sh ac 0).1.length ∧ (1 : Int) = (playK sw sh ac 0).2 + 1) := hide' ⟨q0.v, ⟨Stay.refl _ _, h, Ws.empty _, fun j hj => .inl hj, fun k hk => by cases hk⟩, rfl, rfl⟩
  clear h h1 h2 hl
  go_enter Try.func10, Try.ntmps10
  go_wp2
  go_loopg [10, 11, 12] n (fun gg v10 v11 v12 wr => ∃ (k : Nat) (xa : Option Addr) (xn xc : Nat) (nx : Int), k ≤ n ∧ gg = n - k ∧ v10 = .slice xa xn xc ∧ v11 = .int .i64 nx ∧ v12 = .int .i64 (k : Int) ∧ Hid (∃ v, PlIn w q0 q0.b v xa xc sw sh (playK sw sh ac k).2 (playK sw sh ac k).1 wr ∧ xn = (playK sw sh ac k).1.length ∧ nx = (playK sw sh ac k).2 + 1))
  case atStart => exact ⟨0, none, 0, 0, 1, Nat.zero_le _, rfl, rfl, rfl, rfl, HP0⟩
  case round =>
    clear HP0
    obtain ⟨k, xa, xn, xc, nx, hkn, rfl, rfl, rfl, rfl, HQ⟩ := hrel
    obtain ⟨v, hP, hxn, hnx⟩ := HQ.out
    have hok := HOK.out k (by omega)
    obtain ⟨LL, hLL⟩ : ∃ s, s = playK sw sh ac k := ⟨_, rfl⟩
    have hPK : playK sw sh ac (k + 1) = playR sw sh LL (ac k) := by rw [hLL]; rfl
    rw [← hLL] at hP hxn hnx hok
    by_cases hlt : k < n
    · have kn : (k : Int) < (n : Nat) := by omega
      obtain ⟨L, mm⟩ := LL
      simp only at hP hxn hnx
      obtain ⟨A, hA⟩ : ∃ A, A = ac k := ⟨_, rfl⟩
      rw [← hA] at hPK
      obtain ⟨ga, go, e, hb⟩ := HLR.out.at hP.stay hlt
      rw [← hA] at hb
      subst e
      obtain ⟨d, ev, id, x, y, ww, hh⟩ := A
      obtain ⟨r0, r1, r2, r3, r4, r5, r6⟩ := hb
      simp only at r0 r1 r2 r3 r4 r5 r6
      have hnb : 1 ≤ nx ∧ nx ≤ 21 := by have h3 := hok.2.1; have h4 := hok.2.2.1; simp only at h3 h4; omega
      have HMM : Hid (0 ≤ mm ∧ mm ≤ 1000000) := hide' (by omega)
      have HLN : Hid (L.length ≤ 20) := hide' (by have h3 := hok.2.2.2; have h4 := hok.2.2.1; simp only at h3 h4; omega)
      have hnb1 := hnb.1
      have hnb2 := hnb.2
      have HNX := hide' hnx
      have HXN := hide' hxn
      have HPK : Hid (playK sw sh ac (k + 1) = playR sw sh (L, mm) ⟨d, ev, id, x, y, ww, hh⟩) := hide' hPK
      obtain ⟨w0', hw0'⟩ : ∃ W, W = wr.alloc (.cells #[.int .i64 d, .int .i64 ev, .int .i64 id, .int .i64 x, .int .i64 y, .int .i64 ww, .int .i64 hh] 74) := ⟨_, rfl⟩
      obtain ⟨bA, hbA⟩ : ∃ b, b = wr.heap.size := ⟨_, rfl⟩
      have hst : Stay (fun _ => False) wr w0' := by rw [hw0']; exact (Stay.refl _ _).alloc _
      have HAB0 := hide' (show ABox w0' bA ⟨d, ev, id, x, y, ww, hh⟩ by rw [hw0']; exact ABox.new ⟨d, ev, id, x, y, ww, hh⟩ hbA.symm)
      have HBA : Hid (¬ (⟨q0.b, v⟩ : Sm).own bA) := hide' (fun e => by have := hP.s.lt bA e; omega)
      have HPW := hide' (hP.keep hst)
      have HAT := hide' (at26 xa xn xc L id w0' (hP.keep hst).x.rds hxn.symm (by have := HLN.out; omega))
      obtain ⟨pl, hpl⟩ : ∃ x, x = plI L id := ⟨_, rfl⟩
      rw [← hpl] at HAT
      obtain ⟨i, hi⟩ : ∃ i, plN L id = i := ⟨_, rfl⟩
      have HPI : Hid (pl = if i < L.length then ((i : Nat) : Int) else -1) := hide' (by rw [hpl]; unfold plI; rw [hi])
      have HII := hide' hi
      clear HQ hP hxn hnx hok hLL hPK hA hnb hst hpl hi
      go_upto_region 7 with fail
      rw [← hw0', ← hbA]
      clear hw0' hbA r0 r1 r2 r3 r4 r5 r6
      obtain ⟨_, _, a2, _⟩ := HAB0.out
      simp only at a2
      go_wp2_with fail
      refine HAT.out.mono ?_
      rintro _ w1 ⟨rfl, hs⟩
      have HP := hide' (HPW.out.keep hs)
      have HAB := hide' (HAB0.out.keep hs)
      clear hs HPW HAB0 HAT a2
      by_cases hd0 : d = 0
      · subst hd0
        by_cases hlt : i < L.length
        · obtain ⟨p, hp⟩ : ∃ p, L[i]? = some p := ⟨_, List.getElem?_eq_getElem hlt⟩
          obtain ⟨g, e, _⟩ := HP.out.x.at hp
          subst e
          have HPP := hide' hp
          have hiz : (0 : Int) ≤ (i : Nat) := by omega
          have hiz2 : (i : Int) ≤ 20 := by have := HLN.out; omega
          have hxp : pl = (i : Nat) := by rw [HPI.out, if_pos hlt]
          subst hxp
          have HHT := hide' hlt
          clear hp hlt
          have HPA : Hid (playK sw sh ac (k + 1) = ((addR sw sh mm L ev ⟨x, y, ww, hh⟩).2.1, (addR sw sh mm L ev ⟨x, y, ww, hh⟩).1)) := hide' (by rw [HPK.out]; rfl)
          clear HPK
          have HPK := HPA
          clear HPA
          have hln := HLN.out
          have hxn := HXN.out
          have hxz : (xn : Int) ≤ 20 := by omega
          have hxd : ¬ (256 : Int) ≤ (xn : Nat) := by omega
          have hxe : decide ((256 : Int) ≤ (xn : Nat)) = false := decide_eq_false hxd
          clear hln hxn
          have HFT := hide' (fits20 sw sh ⟨x, y, ww, hh⟩ w1 HSC.out.1 HSC.out.2)
          obtain ⟨fb, hfb⟩ : ∃ b, b = fitB sw sh ⟨x, y, ww, hh⟩ := ⟨_, rfl⟩
          rw [← hfb] at HFT
          have HFB := hide' hfb
          clear hfb
          obtain ⟨a0, a1, a2, a3, a4, a5, a6, _⟩ := HAB.out
          simp only at a0 a1 a2 a3 a4 a5 a6
          go_wp2_with fail
          refine HFT.out.mono ?_
          rintro _ w2 ⟨rfl, hs⟩
          have HP' := hide' (HP.out.keep hs)
          have HAB' := hide' (HAB.out.keep hs)
          clear hs HFT a0 a1 a2 a3 a4 a5 a6
          clear HP
          have HP := HP'
          clear HP'
          clear HAB
          have HAB := HAB'
          clear HAB'
          by_cases hev : ev < 0
          · have HE0 := hide' hev
            cases fb
            · skip
              have hy : addR sw sh mm L ev ⟨x, y, ww, hh⟩ = (mm, L, 0, 1) := by unfold addR; rw [if_pos hev]
              have HPK2 : Hid (playK sw sh ac (k + 1) = (L, mm)) := hide' (by rw [HPK.out]; show (( addR sw sh mm L ev ⟨x, y, ww, hh⟩).2.1, (addR sw sh mm L ev ⟨x, y, ww, hh⟩).1) = _; rw [hy])
              clear HPK
              have HPK := HPK2
              clear HPK2
              have HAD := hide' (add21 ⟨q0.b, v⟩ sw sh mm L ev ⟨x, y, ww, hh⟩ w2 HP.out.s HSC.out.1 HSC.out.2 HMM.out.1 HMM.out.2)
              rw [hy] at HAD
              clear hy
              obtain ⟨a0, a1, a2, a3, a4, a5, a6, _⟩ := HAB.out
              simp only at a0 a1 a2 a3 a4 a5 a6
              go_wp2_with fail
              refine HAD.out.mono ?_
              rintro _ w3 ⟨v2, rfl, hs, hm⟩
              have HM := hide' (HP.out.moved hs hm)
              have HAB' := hide' (HAB.out.stay hm.1 HBA.out)
              clear hs hm HAD a0 a1 a2 a3 a4 a5 a6
              clear HAB
              have HAB := HAB'
              clear HAB'
              simp only at HM ⊢
              have HX : Hid (∃ v, PlIn w q0 q0.b v (some ⟨g, 0, none⟩) xc sw sh (playK sw sh ac (k + 1)).2 (playK sw sh ac (k + 1)).1 w3 ∧ xn = (playK sw sh ac (k + 1)).1.length ∧ nx = (playK sw sh ac (k + 1)).2 + 1) := hide' (by
                rw [HPK.out]
                exact ⟨v2, ⟨HM.out.1, HM.out.2.1, HM.out.2.2.1, HM.out.2.2.2.1, HM.out.2.2.2.2⟩, HXN.out, HNX.out⟩)
              clear HM HP HAB
              go_wp2
              go_roundg (n - (k + 1))
              case measure => omega
              case rel => exact ⟨k + 1, (some ⟨g, 0, none⟩), xn, xc, nx, by omega, rfl, rfl, rfl, by go_num, HX⟩
            · skip
              have hy : addR sw sh mm L ev ⟨x, y, ww, hh⟩ = (mm, L, 0, 1) := by unfold addR; rw [if_pos hev]
              have HPK2 : Hid (playK sw sh ac (k + 1) = (L, mm)) := hide' (by rw [HPK.out]; show (( addR sw sh mm L ev ⟨x, y, ww, hh⟩).2.1, (addR sw sh mm L ev ⟨x, y, ww, hh⟩).1) = _; rw [hy])
              clear HPK
              have HPK := HPK2
              clear HPK2
              have HAD := hide' (add21 ⟨q0.b, v⟩ sw sh mm L ev ⟨x, y, ww, hh⟩ w2 HP.out.s HSC.out.1 HSC.out.2 HMM.out.1 HMM.out.2)
              rw [hy] at HAD
              clear hy
              obtain ⟨a0, a1, a2, a3, a4, a5, a6, _⟩ := HAB.out
              simp only at a0 a1 a2 a3 a4 a5 a6
              go_wp2_with fail
              refine HAD.out.mono ?_
              rintro _ w3 ⟨v2, rfl, hs, hm⟩
              have HM := hide' (HP.out.moved hs hm)
              have HAB' := hide' (HAB.out.stay hm.1 HBA.out)
              clear hs hm HAD a0 a1 a2 a3 a4 a5 a6
              clear HAB
              have HAB := HAB'
              clear HAB'
              simp only at HM ⊢
              have HX : Hid (∃ v, PlIn w q0 q0.b v (some ⟨g, 0, none⟩) xc sw sh (playK sw sh ac (k + 1)).2 (playK sw sh ac (k + 1)).1 w3 ∧ xn = (playK sw sh ac (k + 1)).1.length ∧ nx = (playK sw sh ac (k + 1)).2 + 1) := hide' (by
                rw [HPK.out]
                exact ⟨v2, ⟨HM.out.1, HM.out.2.1, HM.out.2.2.1, HM.out.2.2.2.1, HM.out.2.2.2.2⟩, HXN.out, HNX.out⟩)
              clear HM HP HAB
              go_wp2
              go_roundg (n - (k + 1))
              case measure => omega
              case rel => exact ⟨k + 1, (some ⟨g, 0, none⟩), xn, xc, nx, by omega, rfl, rfl, rfl, by go_num, HX⟩
          · have HE0 := hide' hev
            cases fb
            · skip
              have hy : addR sw sh mm L ev ⟨x, y, ww, hh⟩ = (mm, L, 0, 2) := by unfold addR; rw [if_neg hev, ← HFB.out, if_pos rfl]
              have HPK2 : Hid (playK sw sh ac (k + 1) = (L, mm)) := hide' (by rw [HPK.out]; show (( addR sw sh mm L ev ⟨x, y, ww, hh⟩).2.1, (addR sw sh mm L ev ⟨x, y, ww, hh⟩).1) = _; rw [hy])
              clear HPK
              have HPK := HPK2
              clear HPK2
              have HAD := hide' (add21 ⟨q0.b, v⟩ sw sh mm L ev ⟨x, y, ww, hh⟩ w2 HP.out.s HSC.out.1 HSC.out.2 HMM.out.1 HMM.out.2)
              rw [hy] at HAD
              clear hy
              obtain ⟨a0, a1, a2, a3, a4, a5, a6, _⟩ := HAB.out
              simp only at a0 a1 a2 a3 a4 a5 a6
              go_wp2_with fail
              refine HAD.out.mono ?_
              rintro _ w3 ⟨v2, rfl, hs, hm⟩
              have HM := hide' (HP.out.moved hs hm)
              have HAB' := hide' (HAB.out.stay hm.1 HBA.out)
              clear hs hm HAD a0 a1 a2 a3 a4 a5 a6
              clear HAB
              have HAB := HAB'
              clear HAB'
              simp only at HM ⊢
              have HX : Hid (∃ v, PlIn w q0 q0.b v (some ⟨g, 0, none⟩) xc sw sh (playK sw sh ac (k + 1)).2 (playK sw sh ac (k + 1)).1 w3 ∧ xn = (playK sw sh ac (k + 1)).1.length ∧ nx = (playK sw sh ac (k + 1)).2 + 1) := hide' (by
                rw [HPK.out]
                exact ⟨v2, ⟨HM.out.1, HM.out.2.1, HM.out.2.2.1, HM.out.2.2.2.1, HM.out.2.2.2.2⟩, HXN.out, HNX.out⟩)
              clear HM HP HAB
              go_wp2
              go_roundg (n - (k + 1))
              case measure => omega
              case rel => exact ⟨k + 1, (some ⟨g, 0, none⟩), xn, xc, nx, by omega, rfl, rfl, rfl, by go_num, HX⟩
            · skip
              have hy : addR sw sh mm L ev ⟨x, y, ww, hh⟩ = (mm + 1, ⟨mm + 1, ev, x, y, ww, hh, false⟩ :: L, mm + 1, 0) := by unfold addR; rw [if_neg hev, ← HFB.out, if_neg (by decide), if_neg (by have := HLN.out; omega)]
              have HPK2 : Hid (playK sw sh ac (k + 1) = (⟨mm + 1, ev, x, y, ww, hh, false⟩ :: L, mm + 1)) := hide' (by rw [HPK.out]; show (( addR sw sh mm L ev ⟨x, y, ww, hh⟩).2.1, (addR sw sh mm L ev ⟨x, y, ww, hh⟩).1) = _; rw [hy])
              clear HPK
              have HPK := HPK2
              clear HPK2
              have HAD := hide' (add21 ⟨q0.b, v⟩ sw sh mm L ev ⟨x, y, ww, hh⟩ w2 HP.out.s HSC.out.1 HSC.out.2 HMM.out.1 HMM.out.2)
              rw [hy] at HAD
              clear hy
              obtain ⟨a0, a1, a2, a3, a4, a5, a6, _⟩ := HAB.out
              simp only at a0 a1 a2 a3 a4 a5 a6
              go_wp2_with fail
              refine HAD.out.mono ?_
              rintro _ w3 ⟨v2, rfl, hs, hm⟩
              have HM := hide' (HP.out.moved hs hm)
              have HAB' := hide' (HAB.out.stay hm.1 HBA.out)
              clear hs hm HAD a0 a1 a2 a3 a4 a5 a6
              clear HAB
              have HAB := HAB'
              clear HAB'
              simp only at HM ⊢
              obtain ⟨a0, a1, a2, a3, a4, a5, a6, _⟩ := HAB.out
              simp only at a0 a1 a2 a3 a4 a5 a6
              have hnx : mm + 1 = nx := HNX.out.symm
              rw [hnx] at HM ⊢
              have HFI := hide' (first27 (some ⟨g, 0, none⟩) xn xc L ⟨nx, ev, x, y, ww, hh, false⟩ w3 (by rw [HXN.out]; exact HM.out.2.2.1) (by have := HLN.out; have := HXN.out; omega))
              clear hnx
              go_wp2_with fail
              refine HFI.out.mono ?_
              rintro _ w4 ⟨xa2, xc2, rfl, hx2, hs2, hn2⟩
              have HLL : Hid ((⟨nx, ev, x, y, ww, hh, false⟩ :: L : List Wn).length = xn + 1) := hide' (by rw [List.length_cons, HXN.out])
              rw [HLL.out]
              have HX : Hid (∃ v, PlIn w q0 q0.b v xa2 xc2 sw sh (playK sw sh ac (k + 1)).2 (playK sw sh ac (k + 1)).1 w4 ∧ xn + 1 = (playK sw sh ac (k + 1)).1.length ∧ nx + 1 = (playK sw sh ac (k + 1)).2 + 1) := hide' (by
                rw [HPK.out, ← HNX.out]
                exact ⟨v2, PlIn.fresh ⟨HM.out.1, HM.out.2.1, HM.out.2.2.2.1⟩ hx2 hs2 hn2, HLL.out.symm, rfl⟩)
              have hwn : IntKind.i64.wrap (nx + 1) = nx + 1 := by rw [IntKind.wrap_i64]; omega
              have hwm : IntKind.i64.wrap nx = nx := by rw [IntKind.wrap_i64]; omega
              clear hx2 hs2 hn2 HM HP HFI HAB a0 a1 a2 a3 a4 a5 a6
              go_wp2
              go_roundg (n - (k + 1))
              case measure => omega
              case rel => exact ⟨k + 1, xa2, xn + 1, xc2, nx + 1, by omega, rfl, rfl, rfl, by go_num, HX⟩
        · have hxp : pl = -1 := by rw [HPI.out, if_neg hlt]
          subst hxp
          have HHT : Hid (¬ plN L id < L.length) := hide' (by rw [HII.out]; exact hlt)
          clear hlt
          have HPA : Hid (playK sw sh ac (k + 1) = ((addR sw sh mm L ev ⟨x, y, ww, hh⟩).2.1, (addR sw sh mm L ev ⟨x, y, ww, hh⟩).1)) := hide' (by rw [HPK.out]; rfl)
          clear HPK
          have HPK := HPA
          clear HPA
          have hln := HLN.out
          have hxn := HXN.out
          have hxz : (xn : Int) ≤ 20 := by omega
          have hxd : ¬ (256 : Int) ≤ (xn : Nat) := by omega
          have hxe : decide ((256 : Int) ≤ (xn : Nat)) = false := decide_eq_false hxd
          clear hln hxn
          have HFT := hide' (fits20 sw sh ⟨x, y, ww, hh⟩ w1 HSC.out.1 HSC.out.2)
          obtain ⟨fb, hfb⟩ : ∃ b, b = fitB sw sh ⟨x, y, ww, hh⟩ := ⟨_, rfl⟩
          rw [← hfb] at HFT
          have HFB := hide' hfb
          clear hfb
          obtain ⟨a0, a1, a2, a3, a4, a5, a6, _⟩ := HAB.out
          simp only at a0 a1 a2 a3 a4 a5 a6
          go_wp2_with fail
          refine HFT.out.mono ?_
          rintro _ w2 ⟨rfl, hs⟩
          have HP' := hide' (HP.out.keep hs)
          have HAB' := hide' (HAB.out.keep hs)
          clear hs HFT a0 a1 a2 a3 a4 a5 a6
          clear HP
          have HP := HP'
          clear HP'
          clear HAB
          have HAB := HAB'
          clear HAB'
          by_cases hev : ev < 0
          · have HE0 := hide' hev
            cases fb
            · skip
              have hy : addR sw sh mm L ev ⟨x, y, ww, hh⟩ = (mm, L, 0, 1) := by unfold addR; rw [if_pos hev]
              have HPK2 : Hid (playK sw sh ac (k + 1) = (L, mm)) := hide' (by rw [HPK.out]; show (( addR sw sh mm L ev ⟨x, y, ww, hh⟩).2.1, (addR sw sh mm L ev ⟨x, y, ww, hh⟩).1) = _; rw [hy])
              clear HPK
              have HPK := HPK2
              clear HPK2
              have HAD := hide' (add21 ⟨q0.b, v⟩ sw sh mm L ev ⟨x, y, ww, hh⟩ w2 HP.out.s HSC.out.1 HSC.out.2 HMM.out.1 HMM.out.2)
              rw [hy] at HAD
              clear hy
              obtain ⟨a0, a1, a2, a3, a4, a5, a6, _⟩ := HAB.out
              simp only at a0 a1 a2 a3 a4 a5 a6
              go_wp2_with fail
              refine HAD.out.mono ?_
              rintro _ w3 ⟨v2, rfl, hs, hm⟩
              have HM := hide' (HP.out.moved hs hm)
              have HAB' := hide' (HAB.out.stay hm.1 HBA.out)
              clear hs hm HAD a0 a1 a2 a3 a4 a5 a6
              clear HAB
              have HAB := HAB'
              clear HAB'
              simp only at HM ⊢
              have HX : Hid (∃ v, PlIn w q0 q0.b v xa xc sw sh (playK sw sh ac (k + 1)).2 (playK sw sh ac (k + 1)).1 w3 ∧ xn = (playK sw sh ac (k + 1)).1.length ∧ nx = (playK sw sh ac (k + 1)).2 + 1) := hide' (by
                rw [HPK.out]
                exact ⟨v2, ⟨HM.out.1, HM.out.2.1, HM.out.2.2.1, HM.out.2.2.2.1, HM.out.2.2.2.2⟩, HXN.out, HNX.out⟩)
              clear HM HP HAB
              go_wp2
              go_roundg (n - (k + 1))
              case measure => omega
              case rel => exact ⟨k + 1, xa, xn, xc, nx, by omega, rfl, rfl, rfl, by go_num, HX⟩
            · skip
              have hy : addR sw sh mm L ev ⟨x, y, ww, hh⟩ = (mm, L, 0, 1) := by unfold addR; rw [if_pos hev]
              have HPK2 : Hid (playK sw sh ac (k + 1) = (L, mm)) := hide' (by rw [HPK.out]; show (( addR sw sh mm L ev ⟨x, y, ww, hh⟩).2.1, (addR sw sh mm L ev ⟨x, y, ww, hh⟩).1) = _; rw [hy])
              clear HPK
              have HPK := HPK2
              clear HPK2
              have HAD := hide' (add21 ⟨q0.b, v⟩ sw sh mm L ev ⟨x, y, ww, hh⟩ w2 HP.out.s HSC.out.1 HSC.out.2 HMM.out.1 HMM.out.2)
              rw [hy] at HAD
              clear hy
              obtain ⟨a0, a1, a2, a3, a4, a5, a6, _⟩ := HAB.out
              simp only at a0 a1 a2 a3 a4 a5 a6
              go_wp2_with fail
              refine HAD.out.mono ?_
              rintro _ w3 ⟨v2, rfl, hs, hm⟩
              have HM := hide' (HP.out.moved hs hm)
              have HAB' := hide' (HAB.out.stay hm.1 HBA.out)
              clear hs hm HAD a0 a1 a2 a3 a4 a5 a6
              clear HAB
              have HAB := HAB'
              clear HAB'
              simp only at HM ⊢
              have HX : Hid (∃ v, PlIn w q0 q0.b v xa xc sw sh (playK sw sh ac (k + 1)).2 (playK sw sh ac (k + 1)).1 w3 ∧ xn = (playK sw sh ac (k + 1)).1.length ∧ nx = (playK sw sh ac (k + 1)).2 + 1) := hide' (by
                rw [HPK.out]
                exact ⟨v2, ⟨HM.out.1, HM.out.2.1, HM.out.2.2.1, HM.out.2.2.2.1, HM.out.2.2.2.2⟩, HXN.out, HNX.out⟩)
              clear HM HP HAB
              go_wp2
              go_roundg (n - (k + 1))
              case measure => omega
              case rel => exact ⟨k + 1, xa, xn, xc, nx, by omega, rfl, rfl, rfl, by go_num, HX⟩
          · have HE0 := hide' hev
            cases fb
            · skip
              have hy : addR sw sh mm L ev ⟨x, y, ww, hh⟩ = (mm, L, 0, 2) := by unfold addR; rw [if_neg hev, ← HFB.out, if_pos rfl]
              have HPK2 : Hid (playK sw sh ac (k + 1) = (L, mm)) := hide' (by rw [HPK.out]; show (( addR sw sh mm L ev ⟨x, y, ww, hh⟩).2.1, (addR sw sh mm L ev ⟨x, y, ww, hh⟩).1) = _; rw [hy])
              clear HPK
              have HPK := HPK2
              clear HPK2
              have HAD := hide' (add21 ⟨q0.b, v⟩ sw sh mm L ev ⟨x, y, ww, hh⟩ w2 HP.out.s HSC.out.1 HSC.out.2 HMM.out.1 HMM.out.2)
              rw [hy] at HAD
              clear hy
              obtain ⟨a0, a1, a2, a3, a4, a5, a6, _⟩ := HAB.out
              simp only at a0 a1 a2 a3 a4 a5 a6
              go_wp2_with fail
              refine HAD.out.mono ?_
              rintro _ w3 ⟨v2, rfl, hs, hm⟩
              have HM := hide' (HP.out.moved hs hm)
              have HAB' := hide' (HAB.out.stay hm.1 HBA.out)
              clear hs hm HAD a0 a1 a2 a3 a4 a5 a6
              clear HAB
              have HAB := HAB'
              clear HAB'
              simp only at HM ⊢
              have HX : Hid (∃ v, PlIn w q0 q0.b v xa xc sw sh (playK sw sh ac (k + 1)).2 (playK sw sh ac (k + 1)).1 w3 ∧ xn = (playK sw sh ac (k + 1)).1.length ∧ nx = (playK sw sh ac (k + 1)).2 + 1) := hide' (by
                rw [HPK.out]
                exact ⟨v2, ⟨HM.out.1, HM.out.2.1, HM.out.2.2.1, HM.out.2.2.2.1, HM.out.2.2.2.2⟩, HXN.out, HNX.out⟩)
              clear HM HP HAB
              go_wp2
              go_roundg (n - (k + 1))
              case measure => omega
              case rel => exact ⟨k + 1, xa, xn, xc, nx, by omega, rfl, rfl, rfl, by go_num, HX⟩
            · skip
              have hy : addR sw sh mm L ev ⟨x, y, ww, hh⟩ = (mm + 1, ⟨mm + 1, ev, x, y, ww, hh, false⟩ :: L, mm + 1, 0) := by unfold addR; rw [if_neg hev, ← HFB.out, if_neg (by decide), if_neg (by have := HLN.out; omega)]
              have HPK2 : Hid (playK sw sh ac (k + 1) = (⟨mm + 1, ev, x, y, ww, hh, false⟩ :: L, mm + 1)) := hide' (by rw [HPK.out]; show (( addR sw sh mm L ev ⟨x, y, ww, hh⟩).2.1, (addR sw sh mm L ev ⟨x, y, ww, hh⟩).1) = _; rw [hy])
              clear HPK
              have HPK := HPK2
              clear HPK2
              have HAD := hide' (add21 ⟨q0.b, v⟩ sw sh mm L ev ⟨x, y, ww, hh⟩ w2 HP.out.s HSC.out.1 HSC.out.2 HMM.out.1 HMM.out.2)
              rw [hy] at HAD
              clear hy
              obtain ⟨a0, a1, a2, a3, a4, a5, a6, _⟩ := HAB.out
              simp only at a0 a1 a2 a3 a4 a5 a6
              go_wp2_with fail
              refine HAD.out.mono ?_
              rintro _ w3 ⟨v2, rfl, hs, hm⟩
              have HM := hide' (HP.out.moved hs hm)
              have HAB' := hide' (HAB.out.stay hm.1 HBA.out)
              clear hs hm HAD a0 a1 a2 a3 a4 a5 a6
              clear HAB
              have HAB := HAB'
              clear HAB'
              simp only at HM ⊢
              obtain ⟨a0, a1, a2, a3, a4, a5, a6, _⟩ := HAB.out
              simp only at a0 a1 a2 a3 a4 a5 a6
              have hnx : mm + 1 = nx := HNX.out.symm
              rw [hnx] at HM ⊢
              have HFI := hide' (first27 xa xn xc L ⟨nx, ev, x, y, ww, hh, false⟩ w3 (by rw [HXN.out]; exact HM.out.2.2.1) (by have := HLN.out; have := HXN.out; omega))
              clear hnx
              go_wp2_with fail
              refine HFI.out.mono ?_
              rintro _ w4 ⟨xa2, xc2, rfl, hx2, hs2, hn2⟩
              have HLL : Hid ((⟨nx, ev, x, y, ww, hh, false⟩ :: L : List Wn).length = xn + 1) := hide' (by rw [List.length_cons, HXN.out])
              rw [HLL.out]
              have HX : Hid (∃ v, PlIn w q0 q0.b v xa2 xc2 sw sh (playK sw sh ac (k + 1)).2 (playK sw sh ac (k + 1)).1 w4 ∧ xn + 1 = (playK sw sh ac (k + 1)).1.length ∧ nx + 1 = (playK sw sh ac (k + 1)).2 + 1) := hide' (by
                rw [HPK.out, ← HNX.out]
                exact ⟨v2, PlIn.fresh ⟨HM.out.1, HM.out.2.1, HM.out.2.2.2.1⟩ hx2 hs2 hn2, HLL.out.symm, rfl⟩)
              have hwn : IntKind.i64.wrap (nx + 1) = nx + 1 := by rw [IntKind.wrap_i64]; omega
              have hwm : IntKind.i64.wrap nx = nx := by rw [IntKind.wrap_i64]; omega
              clear hx2 hs2 hn2 HM HP HFI HAB a0 a1 a2 a3 a4 a5 a6
              go_wp2
              go_roundg (n - (k + 1))
              case measure => omega
              case rel => exact ⟨k + 1, xa2, xn + 1, xc2, nx + 1, by omega, rfl, rfl, rfl, by go_num, HX⟩
      by_cases hd1 : d = 1
      · subst hd1
        by_cases hlt : i < L.length
        · obtain ⟨p, hp⟩ : ∃ p, L[i]? = some p := ⟨_, List.getElem?_eq_getElem hlt⟩
          obtain ⟨g, e, _⟩ := HP.out.x.at hp
          subst e
          have HPP := hide' hp
          have hiz : (0 : Int) ≤ (i : Nat) := by omega
          have hiz2 : (i : Int) ≤ 20 := by have := HLN.out; omega
          have hxp : pl = (i : Nat) := by rw [HPI.out, if_pos hlt]
          subst hxp
          have HHT := hide' hlt
          clear hp hlt
          have HYR : Hid (dropR L id = (L.eraseIdx i, 0)) := hide' (by unfold dropR; rw [HII.out, if_pos HHT.out])
          have HPK2 : Hid (playK sw sh ac (k + 1) = (L.eraseIdx i, mm)) := hide' (by rw [HPK.out]; show ((dropR L id).1, mm) = _; rw [HYR.out])
          clear HPK
          have HPK := HPK2
          clear HPK2
          obtain ⟨a0, a1, a2, a3, a4, a5, a6, _⟩ := HAB.out
          simp only at a0 a1 a2 a3 a4 a5 a6
          have HER := hide' (drop28 ⟨q0.b, v⟩ sw sh mm L id w1 HP.out.s)
          rw [HYR.out] at HER
          go_wp2_with fail
          refine HER.out.mono ?_
          rintro _ w2 ⟨v2, rfl, hs, hm⟩
          have HM := hide' (HP.out.moved hs hm)
          have HAB' := hide' (HAB.out.stay hm.1 HBA.out)
          clear hs hm HER a0 a1 a2 a3 a4 a5 a6
          simp only at HM ⊢
          clear HAB
          have HAB := HAB'
          clear HAB'
          obtain ⟨a0, a1, a2, a3, a4, a5, a6, _⟩ := HAB.out
          simp only at a0 a1 a2 a3 a4 a5 a6
          have HOU := hide' (out29 g xn xc i L w2 (by rw [HXN.out]; exact HM.out.2.2.1) (by have := HHT.out; have := HXN.out; omega) (by have := HLN.out; have := HXN.out; omega))
          go_wp2_with fail
          refine HOU.out.mono ?_
          rintro _ w3 ⟨xa2, xc2, rfl, hx2, hs2, hn2⟩
          have HX : Hid (∃ v, PlIn w q0 q0.b v xa2 xc2 sw sh (playK sw sh ac (k + 1)).2 (playK sw sh ac (k + 1)).1 w3 ∧ (L.eraseIdx i).length = (playK sw sh ac (k + 1)).1.length ∧ nx = (playK sw sh ac (k + 1)).2 + 1) := hide' (by
            rw [HPK.out]
            exact ⟨v2, PlIn.fresh ⟨HM.out.1, HM.out.2.1, HM.out.2.2.2.1⟩ hx2 hs2 hn2, rfl, HNX.out⟩)
          clear hx2 hs2 hn2 HM HP HOU HAB a0 a1 a2 a3 a4 a5 a6
          go_wp2
          go_roundg (n - (k + 1))
          case measure => omega
          case rel => exact ⟨k + 1, xa2, (L.eraseIdx i).length, xc2, nx, by omega, rfl, rfl, rfl, by go_num, HX⟩
        · have hxp : pl = -1 := by rw [HPI.out, if_neg hlt]
          subst hxp
          have HHT : Hid (¬ plN L id < L.length) := hide' (by rw [HII.out]; exact hlt)
          clear hlt
          have HYR : Hid (dropR L id = (L, 5)) := hide' (by unfold dropR; rw [if_neg HHT.out])
          have HPK2 : Hid (playK sw sh ac (k + 1) = (L, mm)) := hide' (by rw [HPK.out]; show ((dropR L id).1, mm) = _; rw [HYR.out])
          clear HPK
          have HPK := HPK2
          clear HPK2
          obtain ⟨a0, a1, a2, a3, a4, a5, a6, _⟩ := HAB.out
          simp only at a0 a1 a2 a3 a4 a5 a6
          have HER := hide' (drop28 ⟨q0.b, v⟩ sw sh mm L id w1 HP.out.s)
          rw [HYR.out] at HER
          go_wp2_with fail
          refine HER.out.mono ?_
          rintro _ w2 ⟨v2, rfl, hs, hm⟩
          have HM := hide' (HP.out.moved hs hm)
          have HAB' := hide' (HAB.out.stay hm.1 HBA.out)
          clear hs hm HER a0 a1 a2 a3 a4 a5 a6
          simp only at HM ⊢
          clear HAB
          have HAB := HAB'
          clear HAB'
          obtain ⟨a0, a1, a2, a3, a4, a5, a6, _⟩ := HAB.out
          simp only at a0 a1 a2 a3 a4 a5 a6
          have HX : Hid (∃ v, PlIn w q0 q0.b v xa xc sw sh (playK sw sh ac (k + 1)).2 (playK sw sh ac (k + 1)).1 w2 ∧ xn = (playK sw sh ac (k + 1)).1.length ∧ nx = (playK sw sh ac (k + 1)).2 + 1) := hide' (by
            rw [HPK.out]
            exact ⟨v2, ⟨HM.out.1, HM.out.2.1, HM.out.2.2.1, HM.out.2.2.2.1, HM.out.2.2.2.2⟩, HXN.out, HNX.out⟩)
          clear HM HP HAB
          go_wp2
          go_roundg (n - (k + 1))
          case measure => omega
          case rel => exact ⟨k + 1, xa, xn, xc, nx, by omega, rfl, rfl, rfl, by go_num, HX⟩
      by_cases hd2 : d = 2
      · subst hd2
        by_cases hlt : i < L.length
        · obtain ⟨p, hp⟩ : ∃ p, L[i]? = some p := ⟨_, List.getElem?_eq_getElem hlt⟩
          obtain ⟨g, e, _⟩ := HP.out.x.at hp
          subst e
          have HPP := hide' hp
          have hiz : (0 : Int) ≤ (i : Nat) := by omega
          have hiz2 : (i : Int) ≤ 20 := by have := HLN.out; omega
          have hxp : pl = (i : Nat) := by rw [HPI.out, if_pos hlt]
          subst hxp
          have HHT := hide' hlt
          clear hp hlt
          have HYR : Hid (topR L id = (p :: L.eraseIdx i, 0)) := hide' (by unfold topR; rw [HII.out, HPP.out])
          have HPK2 : Hid (playK sw sh ac (k + 1) = (p :: L.eraseIdx i, mm)) := hide' (by rw [HPK.out]; show ((topR L id).1, mm) = _; rw [HYR.out])
          clear HPK
          have HPK := HPK2
          clear HPK2
          obtain ⟨a0, a1, a2, a3, a4, a5, a6, _⟩ := HAB.out
          simp only at a0 a1 a2 a3 a4 a5 a6
          have HER := hide' (top30 ⟨q0.b, v⟩ sw sh mm L id w1 HP.out.s)
          rw [HYR.out] at HER
          go_wp2_with fail
          refine HER.out.mono ?_
          rintro _ w2 ⟨v2, rfl, hs, hm⟩
          have HM := hide' (HP.out.moved hs hm)
          have HAB' := hide' (HAB.out.stay hm.1 HBA.out)
          clear hs hm HER a0 a1 a2 a3 a4 a5 a6
          simp only at HM ⊢
          clear HAB
          have HAB := HAB'
          clear HAB'
          obtain ⟨a0, a1, a2, a3, a4, a5, a6, _⟩ := HAB.out
          simp only at a0 a1 a2 a3 a4 a5 a6
          obtain ⟨wz, hwz⟩ : ∃ W, W = w2.drew := ⟨_, rfl⟩
          have hsz : Stay (fun _ => False) w2 wz := by rw [hwz]; exact (Stay.refl _ _).drew
          have HOU := hide' (out29 g xn xc i L wz (by rw [HXN.out]; exact HM.out.2.2.1.keep hsz) (by have := HHT.out; have := HXN.out; omega) (by have := HLN.out; have := HXN.out; omega))
          have HRD : Hid (∀ W, Stay (fun _ => False) wz W → ∃ g', (some ⟨g, 0, none⟩ : Option Addr) = some ⟨g', 0, none⟩ ∧ NBoxAt W g' (i * 7) p) := hide' (fun W hs => (HM.out.2.2.1.keep (hsz.trans hs)).at HPP.out)
          have hS : (fun w' => Stay (fun _ => False) wz w') w2.drew := by rw [← hwz]; exact Stay.refl _ _
          have HSZ := hide' hsz
          clear hsz
          have hxi : (i : Int) < (xn : Nat) := by have := HHT.out; have := HXN.out; omega
          have hxj : i < xn := by omega
          go_upto_region 36 with fail
          refine wp_region_mix (fun w' => Stay (fun _ => False) wz w') [(0, true), (1, true), (3, true), (4, true), (5, true), (6, true), (2, false), (7, false), (8, true)] (by kernel_rfl) (by kernel_rfl) (fun _ d _ _ _ h => by cases d <;> exact h) hS ?_
          refine mix_begin (fun K0 hK0 => ?_)
          refine mix_take hK0 (some 97) (.move (.tmp 10)) 30 _ (by kernel_rfl) (by kernel_rfl) (fun w' hS' => by (obtain ⟨g', e, u0, u1, u2, u3, u4, u5, u6⟩ := HRD.out _ hS'; cases e; simp only [opr]; go_simp; try with_reducible rfl)) (fun K1 hK1 => ?_)
          clear hK0 K0
          simp only [Act.put, List.setIfInBounds_toArray, List.set_cons_zero, List.set_cons_succ]
          refine mix_take hK1 (some 98) (.move (.tmp 14)) 3 _ (by kernel_rfl) (by kernel_rfl) (fun w' hS' => by (obtain ⟨g', e, u0, u1, u2, u3, u4, u5, u6⟩ := HRD.out _ hS'; cases e; simp only [opr]; go_simp; try with_reducible rfl)) (fun K2 hK2 => ?_)
          clear hK1 K1
          simp only [Act.put, List.setIfInBounds_toArray, List.set_cons_zero, List.set_cons_succ]
          refine mix_take hK2 (some 100) (.move (.tmp 10)) 30 _ (by kernel_rfl) (by kernel_rfl) (fun w' hS' => by (obtain ⟨g', e, u0, u1, u2, u3, u4, u5, u6⟩ := HRD.out _ hS'; cases e; simp only [opr]; go_simp; try with_reducible rfl)) (fun K3 hK3 => ?_)
          clear hK2 K2
          simp only [Act.put, List.setIfInBounds_toArray, List.set_cons_zero, List.set_cons_succ]
          refine mix_take hK3 (some 101) (.move (.tmp 14)) 3 _ (by kernel_rfl) (by kernel_rfl) (fun w' hS' => by (obtain ⟨g', e, u0, u1, u2, u3, u4, u5, u6⟩ := HRD.out _ hS'; cases e; simp only [opr]; go_simp; try with_reducible rfl)) (fun K4 hK4 => ?_)
          clear hK3 K3
          simp only [Act.put, List.setIfInBounds_toArray, List.set_cons_zero, List.set_cons_succ]
          refine mix_take hK4 (some 102) (.indexAddr 30 (.tmp 100) (.tmp 101)) 0 _ (by kernel_rfl) (by kernel_rfl) (fun w' hS' => by (obtain ⟨g', e, u0, u1, u2, u3, u4, u5, u6⟩ := HRD.out _ hS'; cases e; simp only [opr]; go_simp; try with_reducible rfl)) (fun K5 hK5 => ?_)
          clear hK4 K4
          simp only [Act.put, List.setIfInBounds_toArray, List.set_cons_zero, List.set_cons_succ]
          refine mix_take hK5 (some 103) (.load 78 (.tmp 102)) 78 _ (by kernel_rfl) (by kernel_rfl) (fun w' hS' => by (obtain ⟨g', e, u0, u1, u2, u3, u4, u5, u6⟩ := HRD.out _ hS'; cases e; simp only [opr]; go_simp; try with_reducible rfl)) (fun K6 hK6 => ?_)
          clear hK5 K5
          simp only [Act.put, List.setIfInBounds_toArray, List.set_cons_zero, List.set_cons_succ]
          refine mix_chain hK6 (fun K6c hK6c => ?_)
          clear hK6 K6
          refine op_plain (some 99) (.call { callee := Callee.value (.func 29), args := #[.tmp 97, .tmp 98], argTypes := #[30, 3] }) 30 (by kernel_rfl) (by kernel_rfl) ?_
          rw [← hwz]
          clear hwz
          go_wp2_with fail
          refine HOU.out.mono ?_
          rintro _ w3 ⟨xa2, xc2, rfl, hx2, hs2, hn2⟩
          have HX2 := hide' hx2
          have HS2 := hide' hs2
          have HN2 := hide' hn2
          have hS3 : (fun w' => Stay (fun _ => False) wz w') w3 := hs2
          clear hx2 hs2 hn2 HOU
          go_wp2
          refine hK6c _ _ hS3 (mix_begin fun K7 hK7 => ?_)
          clear hK6c K6c
          try simp only [Act.put, List.setIfInBounds_toArray, List.set_cons_zero, List.set_cons_succ]
          refine mix_chain hK7 (fun K7c hK7c => ?_)
          clear hK7 K7
          refine op_plain (some 104) (.call { callee := Callee.value (.func 27), args := #[.tmp 99, .tmp 103], argTypes := #[30, 78] }) 30 (by kernel_rfl) (by kernel_rfl) ?_
          have HFI := hide' (first27 xa2 (L.eraseIdx i).length xc2 (L.eraseIdx i) p w3 HX2.out (by have := HLN.out; have := List.length_eraseIdx_le L i; omega))
          go_wp2_with fail
          refine HFI.out.mono ?_
          rintro _ w4 ⟨xa3, xc3, rfl, hx3, hs3, hn3⟩
          have hS4 : (fun w' => Stay (fun _ => False) wz w') w4 := hS3.trans hs3
          have HX3 := hide' hx3
          have HN3 := hide' (show ∀ k, xa3.map Addr.block = some k → wz.heap.size ≤ k from fun k hk => Nat.le_trans HS2.out.size (hn3 k hk))
          clear hx3 hs3 hn3 HFI
          go_wp2
          refine hK7c _ _ hS4 (mix_begin fun K8 hK8 => ?_)
          clear hK7c K7c
          try simp only [Act.put, List.setIfInBounds_toArray, List.set_cons_zero, List.set_cons_succ]
          refine mix_take hK8 (some 10) (.assign (.tmp 104)) 30 _ (by kernel_rfl) (by kernel_rfl) (fun w' hS' => by (obtain ⟨g', e, u0, u1, u2, u3, u4, u5, u6⟩ := HRD.out _ hS'; cases e; simp only [opr]; go_simp; try with_reducible rfl)) (fun K9 hK9 => ?_)
          clear hK8 K8
          simp only [Act.put, List.setIfInBounds_toArray, List.set_cons_zero, List.set_cons_succ]
          refine hK9 _ _ (mix_nil ?_)
          clear hK9 K9
          have HX : Hid (∃ v, PlIn w q0 q0.b v xa3 xc3 sw sh (playK sw sh ac (k + 1)).2 (playK sw sh ac (k + 1)).1 w4 ∧ (p :: L.eraseIdx i).length = (playK sw sh ac (k + 1)).1.length ∧ nx = (playK sw sh ac (k + 1)).2 + 1) := hide' (by
            rw [HPK.out]
            exact ⟨v2, PlIn.fresh ⟨HM.out.1.trans (HSZ.out.mono (fun _ _ h => h.elim)), HM.out.2.1.keep HSZ.out, HM.out.2.2.2.1⟩ HX3.out hS4 HN3.out, rfl, HNX.out⟩)
          clear HX2 HS2 HN2 HX3 HN3 HM HP HAB HRD HSZ hS4 a0 a1 a2 a3 a4 a5 a6
          go_wp2
          go_roundg (n - (k + 1))
          case measure => omega
          case rel => exact ⟨k + 1, xa3, (p :: L.eraseIdx i).length, xc3, nx, by omega, rfl, rfl, rfl, by go_num, HX⟩
        · have hxp : pl = -1 := by rw [HPI.out, if_neg hlt]
          subst hxp
          have HHT : Hid (¬ plN L id < L.length) := hide' (by rw [HII.out]; exact hlt)
          clear hlt
          have HYR : Hid (topR L id = (L, 5)) := hide' (by unfold topR; rw [List.getElem?_eq_none (by have := HHT.out; omega)])
          have HPK2 : Hid (playK sw sh ac (k + 1) = (L, mm)) := hide' (by rw [HPK.out]; show ((topR L id).1, mm) = _; rw [HYR.out])
          clear HPK
          have HPK := HPK2
          clear HPK2
          obtain ⟨a0, a1, a2, a3, a4, a5, a6, _⟩ := HAB.out
          simp only at a0 a1 a2 a3 a4 a5 a6
          have HER := hide' (top30 ⟨q0.b, v⟩ sw sh mm L id w1 HP.out.s)
          rw [HYR.out] at HER
          go_wp2_with fail
          refine HER.out.mono ?_
          rintro _ w2 ⟨v2, rfl, hs, hm⟩
          have HM := hide' (HP.out.moved hs hm)
          have HAB' := hide' (HAB.out.stay hm.1 HBA.out)
          clear hs hm HER a0 a1 a2 a3 a4 a5 a6
          simp only at HM ⊢
          clear HAB
          have HAB := HAB'
          clear HAB'
          obtain ⟨a0, a1, a2, a3, a4, a5, a6, _⟩ := HAB.out
          simp only at a0 a1 a2 a3 a4 a5 a6
          have HX : Hid (∃ v, PlIn w q0 q0.b v xa xc sw sh (playK sw sh ac (k + 1)).2 (playK sw sh ac (k + 1)).1 w2 ∧ xn = (playK sw sh ac (k + 1)).1.length ∧ nx = (playK sw sh ac (k + 1)).2 + 1) := hide' (by
            rw [HPK.out]
            exact ⟨v2, ⟨HM.out.1, HM.out.2.1, HM.out.2.2.1, HM.out.2.2.2.1, HM.out.2.2.2.2⟩, HXN.out, HNX.out⟩)
          clear HM HP HAB
          go_wp2
          go_roundg (n - (k + 1))
          case measure => omega
          case rel => exact ⟨k + 1, xa, xn, xc, nx, by omega, rfl, rfl, rfl, by go_num, HX⟩
      by_cases hd3 : d = 3
      · subst hd3
        by_cases hlt : i < L.length
        · obtain ⟨p, hp⟩ : ∃ p, L[i]? = some p := ⟨_, List.getElem?_eq_getElem hlt⟩
          obtain ⟨g, e, _⟩ := HP.out.x.at hp
          subst e
          have HPP := hide' hp
          have hiz : (0 : Int) ≤ (i : Nat) := by omega
          have hiz2 : (i : Int) ≤ 20 := by have := HLN.out; omega
          have hxp : pl = (i : Nat) := by rw [HPI.out, if_pos hlt]
          subst hxp
          have HHT := hide' hlt
          clear hp hlt
          have HYR : Hid (hideR L id true = (L.set i ⟨p.id, p.env, p.x, p.y, p.w, p.h, true⟩, 0)) := hide' (by unfold hideR; rw [HII.out, HPP.out])
          have HPK2 : Hid (playK sw sh ac (k + 1) = (L.set i ⟨p.id, p.env, p.x, p.y, p.w, p.h, true⟩, mm)) := hide' (by rw [HPK.out]; show ((hideR L id true).1, mm) = _; rw [HYR.out])
          clear HPK
          have HPK := HPK2
          clear HPK2
          obtain ⟨a0, a1, a2, a3, a4, a5, a6, _⟩ := HAB.out
          simp only at a0 a1 a2 a3 a4 a5 a6
          have HER := hide' (hide31 ⟨q0.b, v⟩ sw sh mm L id true w1 HP.out.s)
          rw [HYR.out] at HER
          go_wp2_with fail
          refine HER.out.mono ?_
          rintro _ w2 ⟨v2, rfl, hs, hm⟩
          have HM := hide' (HP.out.moved hs hm)
          have HAB' := hide' (HAB.out.stay hm.1 HBA.out)
          clear hs hm HER a0 a1 a2 a3 a4 a5 a6
          simp only at HM ⊢
          clear HAB
          have HAB := HAB'
          clear HAB'
          obtain ⟨a0, a1, a2, a3, a4, a5, a6, _⟩ := HAB.out
          simp only at a0 a1 a2 a3 a4 a5 a6
          have hgx : g < w2.heap.size ∧ w2.there g 0 (xc * 7) := by
            rcases HM.out.2.2.1.2.2.2 with ⟨e, _⟩ | ⟨g', e, h1, _, h3⟩
            · cases e
            · cases e; exact ⟨h1, h3⟩
          have hcx : xn ≤ xc := by have := HM.out.2.2.1.2.1; have := HXN.out; omega
          have hxi : (i : Int) < (xn : Nat) := by have := HHT.out; have := HXN.out; omega
          have hxj : i < xn := by omega
          obtain ⟨x0, x1⟩ := hgx.2 (i * 7 + 6) (by omega)
          rw [Nat.zero_add] at x0 x1
          obtain ⟨g', e, hbx⟩ := HM.out.2.2.1.at HPP.out
          cases e
          have x2 := hbx.c6
          obtain ⟨w3, hw3⟩ : ∃ W, W = w2.setCell ⟨g, i * 7 + 6, none⟩ (.bool true) := ⟨_, rfl⟩
          have hst : Stay (fun j => j = g) w2 w3 := by rw [hw3]; exact (Stay.refl (fun j => j = g) w2).setCell (p := ⟨g, i * 7 + 6, none⟩) rfl _
          have hws : Ws w3 (some ⟨g, 0, none⟩) L.length xc (L.set i ⟨p.id, p.env, p.x, p.y, p.w, p.h, true⟩) := by
            rw [hw3]
            exact HM.out.2.2.1.part (k := 6) (vs := [.bool true]) HPP.out (by simp) rfl
          have HX : Hid (∃ v, PlIn w q0 q0.b v (some ⟨g, 0, none⟩) xc sw sh (playK sw sh ac (k + 1)).2 (playK sw sh ac (k + 1)).1 w3 ∧ xn = (playK sw sh ac (k + 1)).1.length ∧ nx = (playK sw sh ac (k + 1)).2 + 1) := hide' (by
            rw [HPK.out]
            exact ⟨v2, PlIn.wrote ⟨HM.out.1, HM.out.2.1, HM.out.2.2.2.1, HM.out.2.2.2.2⟩ (by rw [List.length_set]; exact hws) hst, by rw [List.length_set]; exact HXN.out, HNX.out⟩)
          clear hst hws hbx hgx HM HP HAB hcx
          rw [hw3] at HX
          clear hw3
          go_wp2
          go_roundg (n - (k + 1))
          case measure => omega
          case rel => exact ⟨k + 1, some ⟨g, 0, none⟩, xn, xc, nx, by omega, rfl, rfl, rfl, by go_num, HX⟩
        · have hxp : pl = -1 := by rw [HPI.out, if_neg hlt]
          subst hxp
          have HHT : Hid (¬ plN L id < L.length) := hide' (by rw [HII.out]; exact hlt)
          clear hlt
          have HYR : Hid (hideR L id true = (L, 5)) := hide' (by unfold hideR; rw [List.getElem?_eq_none (by have := HHT.out; omega)])
          have HPK2 : Hid (playK sw sh ac (k + 1) = (L, mm)) := hide' (by rw [HPK.out]; show ((hideR L id true).1, mm) = _; rw [HYR.out])
          clear HPK
          have HPK := HPK2
          clear HPK2
          obtain ⟨a0, a1, a2, a3, a4, a5, a6, _⟩ := HAB.out
          simp only at a0 a1 a2 a3 a4 a5 a6
          have HER := hide' (hide31 ⟨q0.b, v⟩ sw sh mm L id true w1 HP.out.s)
          rw [HYR.out] at HER
          go_wp2_with fail
          refine HER.out.mono ?_
          rintro _ w2 ⟨v2, rfl, hs, hm⟩
          have HM := hide' (HP.out.moved hs hm)
          have HAB' := hide' (HAB.out.stay hm.1 HBA.out)
          clear hs hm HER a0 a1 a2 a3 a4 a5 a6
          simp only at HM ⊢
          clear HAB
          have HAB := HAB'
          clear HAB'
          obtain ⟨a0, a1, a2, a3, a4, a5, a6, _⟩ := HAB.out
          simp only at a0 a1 a2 a3 a4 a5 a6
          have HX : Hid (∃ v, PlIn w q0 q0.b v xa xc sw sh (playK sw sh ac (k + 1)).2 (playK sw sh ac (k + 1)).1 w2 ∧ xn = (playK sw sh ac (k + 1)).1.length ∧ nx = (playK sw sh ac (k + 1)).2 + 1) := hide' (by
            rw [HPK.out]
            exact ⟨v2, ⟨HM.out.1, HM.out.2.1, HM.out.2.2.1, HM.out.2.2.2.1, HM.out.2.2.2.2⟩, HXN.out, HNX.out⟩)
          clear HM HP HAB
          go_wp2
          go_roundg (n - (k + 1))
          case measure => omega
          case rel => exact ⟨k + 1, xa, xn, xc, nx, by omega, rfl, rfl, rfl, by go_num, HX⟩
      by_cases hd4 : d = 4
      · subst hd4
        by_cases hlt : i < L.length
        · obtain ⟨p, hp⟩ : ∃ p, L[i]? = some p := ⟨_, List.getElem?_eq_getElem hlt⟩
          obtain ⟨g, e, _⟩ := HP.out.x.at hp
          subst e
          have HPP := hide' hp
          have hiz : (0 : Int) ≤ (i : Nat) := by omega
          have hiz2 : (i : Int) ≤ 20 := by have := HLN.out; omega
          have hxp : pl = (i : Nat) := by rw [HPI.out, if_pos hlt]
          subst hxp
          have HHT := hide' hlt
          clear hp hlt
          have HYR : Hid (hideR L id false = (L.set i ⟨p.id, p.env, p.x, p.y, p.w, p.h, false⟩, 0)) := hide' (by unfold hideR; rw [HII.out, HPP.out])
          have HPK2 : Hid (playK sw sh ac (k + 1) = (L.set i ⟨p.id, p.env, p.x, p.y, p.w, p.h, false⟩, mm)) := hide' (by rw [HPK.out]; show ((hideR L id false).1, mm) = _; rw [HYR.out])
          clear HPK
          have HPK := HPK2
          clear HPK2
          obtain ⟨a0, a1, a2, a3, a4, a5, a6, _⟩ := HAB.out
          simp only at a0 a1 a2 a3 a4 a5 a6
          have HER := hide' (hide31 ⟨q0.b, v⟩ sw sh mm L id false w1 HP.out.s)
          rw [HYR.out] at HER
          go_wp2_with fail
          refine HER.out.mono ?_
          rintro _ w2 ⟨v2, rfl, hs, hm⟩
          have HM := hide' (HP.out.moved hs hm)
          have HAB' := hide' (HAB.out.stay hm.1 HBA.out)
          clear hs hm HER a0 a1 a2 a3 a4 a5 a6
          simp only at HM ⊢
          clear HAB
          have HAB := HAB'
          clear HAB'
          obtain ⟨a0, a1, a2, a3, a4, a5, a6, _⟩ := HAB.out
          simp only at a0 a1 a2 a3 a4 a5 a6
          have hgx : g < w2.heap.size ∧ w2.there g 0 (xc * 7) := by
            rcases HM.out.2.2.1.2.2.2 with ⟨e, _⟩ | ⟨g', e, h1, _, h3⟩
            · cases e
            · cases e; exact ⟨h1, h3⟩
          have hcx : xn ≤ xc := by have := HM.out.2.2.1.2.1; have := HXN.out; omega
          have hxi : (i : Int) < (xn : Nat) := by have := HHT.out; have := HXN.out; omega
          have hxj : i < xn := by omega
          obtain ⟨x0, x1⟩ := hgx.2 (i * 7 + 6) (by omega)
          rw [Nat.zero_add] at x0 x1
          obtain ⟨g', e, hbx⟩ := HM.out.2.2.1.at HPP.out
          cases e
          have x2 := hbx.c6
          obtain ⟨w3, hw3⟩ : ∃ W, W = w2.setCell ⟨g, i * 7 + 6, none⟩ (.bool false) := ⟨_, rfl⟩
          have hst : Stay (fun j => j = g) w2 w3 := by rw [hw3]; exact (Stay.refl (fun j => j = g) w2).setCell (p := ⟨g, i * 7 + 6, none⟩) rfl _
          have hws : Ws w3 (some ⟨g, 0, none⟩) L.length xc (L.set i ⟨p.id, p.env, p.x, p.y, p.w, p.h, false⟩) := by
            rw [hw3]
            exact HM.out.2.2.1.part (k := 6) (vs := [.bool false]) HPP.out (by simp) rfl
          have HX : Hid (∃ v, PlIn w q0 q0.b v (some ⟨g, 0, none⟩) xc sw sh (playK sw sh ac (k + 1)).2 (playK sw sh ac (k + 1)).1 w3 ∧ xn = (playK sw sh ac (k + 1)).1.length ∧ nx = (playK sw sh ac (k + 1)).2 + 1) := hide' (by
            rw [HPK.out]
            exact ⟨v2, PlIn.wrote ⟨HM.out.1, HM.out.2.1, HM.out.2.2.2.1, HM.out.2.2.2.2⟩ (by rw [List.length_set]; exact hws) hst, by rw [List.length_set]; exact HXN.out, HNX.out⟩)
          clear hst hws hbx hgx HM HP HAB hcx
          rw [hw3] at HX
          clear hw3
          go_wp2
          go_roundg (n - (k + 1))
          case measure => omega
          case rel => exact ⟨k + 1, some ⟨g, 0, none⟩, xn, xc, nx, by omega, rfl, rfl, rfl, by go_num, HX⟩
        · have hxp : pl = -1 := by rw [HPI.out, if_neg hlt]
          subst hxp
          have HHT : Hid (¬ plN L id < L.length) := hide' (by rw [HII.out]; exact hlt)
          clear hlt
          have HYR : Hid (hideR L id false = (L, 5)) := hide' (by unfold hideR; rw [List.getElem?_eq_none (by have := HHT.out; omega)])
          have HPK2 : Hid (playK sw sh ac (k + 1) = (L, mm)) := hide' (by rw [HPK.out]; show ((hideR L id false).1, mm) = _; rw [HYR.out])
          clear HPK
          have HPK := HPK2
          clear HPK2
          obtain ⟨a0, a1, a2, a3, a4, a5, a6, _⟩ := HAB.out
          simp only at a0 a1 a2 a3 a4 a5 a6
          have HER := hide' (hide31 ⟨q0.b, v⟩ sw sh mm L id false w1 HP.out.s)
          rw [HYR.out] at HER
          go_wp2_with fail
          refine HER.out.mono ?_
          rintro _ w2 ⟨v2, rfl, hs, hm⟩
          have HM := hide' (HP.out.moved hs hm)
          have HAB' := hide' (HAB.out.stay hm.1 HBA.out)
          clear hs hm HER a0 a1 a2 a3 a4 a5 a6
          simp only at HM ⊢
          clear HAB
          have HAB := HAB'
          clear HAB'
          obtain ⟨a0, a1, a2, a3, a4, a5, a6, _⟩ := HAB.out
          simp only at a0 a1 a2 a3 a4 a5 a6
          have HX : Hid (∃ v, PlIn w q0 q0.b v xa xc sw sh (playK sw sh ac (k + 1)).2 (playK sw sh ac (k + 1)).1 w2 ∧ xn = (playK sw sh ac (k + 1)).1.length ∧ nx = (playK sw sh ac (k + 1)).2 + 1) := hide' (by
            rw [HPK.out]
            exact ⟨v2, ⟨HM.out.1, HM.out.2.1, HM.out.2.2.1, HM.out.2.2.2.1, HM.out.2.2.2.2⟩, HXN.out, HNX.out⟩)
          clear HM HP HAB
          go_wp2
          go_roundg (n - (k + 1))
          case measure => omega
          case rel => exact ⟨k + 1, xa, xn, xc, nx, by omega, rfl, rfl, rfl, by go_num, HX⟩
      by_cases hd5 : d = 5
      · subst hd5
        by_cases hlt : i < L.length
        · obtain ⟨p, hp⟩ : ∃ p, L[i]? = some p := ⟨_, List.getElem?_eq_getElem hlt⟩
          obtain ⟨g, e, _⟩ := HP.out.x.at hp
          subst e
          have HPP := hide' hp
          have hiz : (0 : Int) ≤ (i : Nat) := by omega
          have hiz2 : (i : Int) ≤ 20 := by have := HLN.out; omega
          have hxp : pl = (i : Nat) := by rw [HPI.out, if_pos hlt]
          subst hxp
          have HHT := hide' hlt
          clear hp hlt
          have HMV := hide' (move32 ⟨q0.b, v⟩ sw sh mm L id ⟨x, y, ww, hh⟩ w1 HP.out.s HSC.out.1 HSC.out.2)
          have HFT := hide' (fun W => fits20 sw sh ⟨x, y, ww, hh⟩ W HSC.out.1 HSC.out.2)
          have HPA : Hid (playK sw sh ac (k + 1) = ((moveR sw sh L id ⟨x, y, ww, hh⟩).1, mm)) := hide' (by rw [HPK.out]; rfl)
          clear HPK
          have HYQ : Hid (moveR sw sh L id ⟨x, y, ww, hh⟩ = if fitB sw sh ⟨x, y, ww, hh⟩ = true then (L.set i ⟨p.id, p.env, x, y, ww, hh, p.hid⟩, 0) else (L, 2)) := hide' (by unfold moveR; rw [HII.out, HPP.out])
          obtain ⟨fb, hfb⟩ : ∃ b, b = fitB sw sh ⟨x, y, ww, hh⟩ := ⟨_, rfl⟩
          rw [← hfb] at HFT HYQ
          clear hfb
          cases fb
          · skip
            have HYR : Hid (moveR sw sh L id ⟨x, y, ww, hh⟩ = (L, 2)) := hide' (by rw [HYQ.out]; rfl)
            have HPK : Hid (playK sw sh ac (k + 1) = (L, mm)) := hide' (by rw [HPA.out, HYR.out])
            clear HYQ HPA
            obtain ⟨a0, a1, a2, a3, a4, a5, a6, _⟩ := HAB.out
            simp only at a0 a1 a2 a3 a4 a5 a6
            have HER := HMV
            clear HMV
            rw [HYR.out] at HER
            go_wp2_with fail
            refine HER.out.mono ?_
            rintro _ w2 ⟨v2, rfl, hs, hm⟩
            have HM := hide' (HP.out.moved hs hm)
            have HAB' := hide' (HAB.out.stay hm.1 HBA.out)
            clear hs hm HER a0 a1 a2 a3 a4 a5 a6
            simp only at HM ⊢
            clear HAB
            have HAB := HAB'
            clear HAB'
            obtain ⟨a0, a1, a2, a3, a4, a5, a6, _⟩ := HAB.out
            simp only at a0 a1 a2 a3 a4 a5 a6
            go_wp2_with fail
            refine (HFT.out _).mono ?_
            rintro _ w3 ⟨rfl, hs⟩
            have HM' := hide' (show Stay q0.own w w3 ∧ SAt w3 ⟨q0.b, v2⟩ sw sh mm _ ∧ Ws w3 (some ⟨g, 0, none⟩) L.length xc L ∧ _ ∧ _ from ⟨HM.out.1.trans (hs.mono (fun _ _ h => h.elim)), HM.out.2.1.keep hs, HM.out.2.2.1.keep hs, HM.out.2.2.2⟩)
            have HAB' := hide' (HAB.out.keep hs)
            clear hs HFT a0 a1 a2 a3 a4 a5 a6
            clear HM
            have HM := HM'
            clear HM'
            clear HAB
            have HAB := HAB'
            clear HAB'
            have HX : Hid (∃ v, PlIn w q0 q0.b v (some ⟨g, 0, none⟩) xc sw sh (playK sw sh ac (k + 1)).2 (playK sw sh ac (k + 1)).1 w3 ∧ xn = (playK sw sh ac (k + 1)).1.length ∧ nx = (playK sw sh ac (k + 1)).2 + 1) := hide' (by
              rw [HPK.out]
              exact ⟨v2, ⟨HM.out.1, HM.out.2.1, HM.out.2.2.1, HM.out.2.2.2.1, HM.out.2.2.2.2⟩, HXN.out, HNX.out⟩)
            clear HM HP HAB
            go_wp2
            go_roundg (n - (k + 1))
            case measure => omega
            case rel => exact ⟨k + 1, some ⟨g, 0, none⟩, xn, xc, nx, by omega, rfl, rfl, rfl, by go_num, HX⟩
          · skip
            have HYR : Hid (moveR sw sh L id ⟨x, y, ww, hh⟩ = (L.set i ⟨p.id, p.env, x, y, ww, hh, p.hid⟩, 0)) := hide' (by rw [HYQ.out]; rfl)
            have HPK : Hid (playK sw sh ac (k + 1) = (L.set i ⟨p.id, p.env, x, y, ww, hh, p.hid⟩, mm)) := hide' (by rw [HPA.out, HYR.out])
            clear HYQ HPA
            obtain ⟨a0, a1, a2, a3, a4, a5, a6, _⟩ := HAB.out
            simp only at a0 a1 a2 a3 a4 a5 a6
            have HER := HMV
            clear HMV
            rw [HYR.out] at HER
            go_wp2_with fail
            refine HER.out.mono ?_
            rintro _ w2 ⟨v2, rfl, hs, hm⟩
            have HM := hide' (HP.out.moved hs hm)
            have HAB' := hide' (HAB.out.stay hm.1 HBA.out)
            clear hs hm HER a0 a1 a2 a3 a4 a5 a6
            simp only at HM ⊢
            clear HAB
            have HAB := HAB'
            clear HAB'
            obtain ⟨a0, a1, a2, a3, a4, a5, a6, _⟩ := HAB.out
            simp only at a0 a1 a2 a3 a4 a5 a6
            go_wp2_with fail
            refine (HFT.out _).mono ?_
            rintro _ w3 ⟨rfl, hs⟩
            have HM' := hide' (show Stay q0.own w w3 ∧ SAt w3 ⟨q0.b, v2⟩ sw sh mm _ ∧ Ws w3 (some ⟨g, 0, none⟩) L.length xc L ∧ _ ∧ _ from ⟨HM.out.1.trans (hs.mono (fun _ _ h => h.elim)), HM.out.2.1.keep hs, HM.out.2.2.1.keep hs, HM.out.2.2.2⟩)
            have HAB' := hide' (HAB.out.keep hs)
            clear hs HFT a0 a1 a2 a3 a4 a5 a6
            clear HM
            have HM := HM'
            clear HM'
            clear HAB
            have HAB := HAB'
            clear HAB'
            obtain ⟨a0, a1, a2, a3, a4, a5, a6, _⟩ := HAB.out
            simp only at a0 a1 a2 a3 a4 a5 a6
            have hgx : g < w3.heap.size ∧ w3.there g 0 (xc * 7) := by
              rcases HM.out.2.2.1.2.2.2 with ⟨e, _⟩ | ⟨g', e, h1, _, h3⟩
              · cases e
              · cases e; exact ⟨h1, h3⟩
            have hcx : xn ≤ xc := by have := HM.out.2.2.1.2.1; have := HXN.out; omega
            have hxi : (i : Int) < (xn : Nat) := by have := HHT.out; have := HXN.out; omega
            have hxj : i < xn := by omega
            obtain ⟨g', e, hbx⟩ := HM.out.2.2.1.at HPP.out
            cases e
            obtain ⟨_, _, x2, x3, x4, x5, _⟩ := hbx
            have y2 := (hgx.2 (i * 7 + 2) (by omega)).2
            rw [Nat.zero_add] at y2
            have y3 := (hgx.2 (i * 7 + 3) (by omega)).2
            rw [Nat.zero_add] at y3
            have y4 := (hgx.2 (i * 7 + 4) (by omega)).2
            rw [Nat.zero_add] at y4
            have y5 := (hgx.2 (i * 7 + 5) (by omega)).2
            rw [Nat.zero_add] at y5
            obtain ⟨w4, hw4⟩ : ∃ W, W = w3.setCells g (i * 7 + 2) [.int .i64 x, .int .i64 y, .int .i64 ww, .int .i64 hh] := ⟨_, rfl⟩
            have hst : Stay (fun j => j = g) w3 w4 := by rw [hw4]; exact (Stay.refl (fun j => j = g) w3).setCells g [.int .i64 x, .int .i64 y, .int .i64 ww, .int .i64 hh] (i * 7 + 2) rfl
            have hws : Ws w4 (some ⟨g, 0, none⟩) L.length xc (L.set i ⟨p.id, p.env, x, y, ww, hh, p.hid⟩) := by
              rw [hw4]
              exact HM.out.2.2.1.part (k := 2) (vs := [.int .i64 x, .int .i64 y, .int .i64 ww, .int .i64 hh]) HPP.out (by simp) rfl
            have HX : Hid (∃ v, PlIn w q0 q0.b v (some ⟨g, 0, none⟩) xc sw sh (playK sw sh ac (k + 1)).2 (playK sw sh ac (k + 1)).1 w4 ∧ xn = (playK sw sh ac (k + 1)).1.length ∧ nx = (playK sw sh ac (k + 1)).2 + 1) := hide' (by
              rw [HPK.out]
              exact ⟨v2, PlIn.wrote ⟨HM.out.1, HM.out.2.1, HM.out.2.2.2.1, HM.out.2.2.2.2⟩ (by rw [List.length_set]; exact hws) hst, by rw [List.length_set]; exact HXN.out, HNX.out⟩)
            clear hst hws hgx HM HP HAB hcx
            rw [hw4] at HX
            clear hw4
            go_wp2
            go_roundg (n - (k + 1))
            case measure => omega
            case rel => exact ⟨k + 1, some ⟨g, 0, none⟩, xn, xc, nx, by omega, rfl, rfl, rfl, by go_num, HX⟩
        · have hxp : pl = -1 := by rw [HPI.out, if_neg hlt]
          subst hxp
          have HHT : Hid (¬ plN L id < L.length) := hide' (by rw [HII.out]; exact hlt)
          clear hlt
          have HYR : Hid (moveR sw sh L id ⟨x, y, ww, hh⟩ = (L, 5)) := hide' (by unfold moveR; rw [List.getElem?_eq_none (by have := HHT.out; omega)])
          have HPK2 : Hid (playK sw sh ac (k + 1) = (L, mm)) := hide' (by rw [HPK.out]; show ((moveR sw sh L id ⟨x, y, ww, hh⟩).1, mm) = _; rw [HYR.out])
          clear HPK
          have HPK := HPK2
          clear HPK2
          obtain ⟨a0, a1, a2, a3, a4, a5, a6, _⟩ := HAB.out
          simp only at a0 a1 a2 a3 a4 a5 a6
          have HER := hide' (move32 ⟨q0.b, v⟩ sw sh mm L id ⟨x, y, ww, hh⟩ w1 HP.out.s HSC.out.1 HSC.out.2)
          rw [HYR.out] at HER
          go_wp2_with fail
          refine HER.out.mono ?_
          rintro _ w2 ⟨v2, rfl, hs, hm⟩
          have HM := hide' (HP.out.moved hs hm)
          have HAB' := hide' (HAB.out.stay hm.1 HBA.out)
          clear hs hm HER a0 a1 a2 a3 a4 a5 a6
          simp only at HM ⊢
          clear HAB
          have HAB := HAB'
          clear HAB'
          obtain ⟨a0, a1, a2, a3, a4, a5, a6, _⟩ := HAB.out
          simp only at a0 a1 a2 a3 a4 a5 a6
          have HX : Hid (∃ v, PlIn w q0 q0.b v xa xc sw sh (playK sw sh ac (k + 1)).2 (playK sw sh ac (k + 1)).1 w2 ∧ xn = (playK sw sh ac (k + 1)).1.length ∧ nx = (playK sw sh ac (k + 1)).2 + 1) := hide' (by
            rw [HPK.out]
            exact ⟨v2, ⟨HM.out.1, HM.out.2.1, HM.out.2.2.1, HM.out.2.2.2.1, HM.out.2.2.2.2⟩, HXN.out, HNX.out⟩)
          clear HM HP HAB
          go_wp2
          go_roundg (n - (k + 1))
          case measure => omega
          case rel => exact ⟨k + 1, xa, xn, xc, nx, by omega, rfl, rfl, rfl, by go_num, HX⟩
      by_cases hlt : i < L.length
      · obtain ⟨p, hp⟩ : ∃ p, L[i]? = some p := ⟨_, List.getElem?_eq_getElem hlt⟩
        obtain ⟨g, e, _⟩ := HP.out.x.at hp
        subst e
        have HPP := hide' hp
        have hiz : (0 : Int) ≤ (i : Nat) := by omega
        have hiz2 : (i : Int) ≤ 20 := by have := HLN.out; omega
        have hxp : pl = (i : Nat) := by rw [HPI.out, if_pos hlt]
        subst hxp
        have HHT := hide' hlt
        clear hp hlt
        have HPK2 : Hid (playK sw sh ac (k + 1) = (L, mm)) := hide' (by
          rw [HPK.out]
          unfold playR
          simp only [if_neg hd0, if_neg hd1, if_neg hd2, if_neg hd5]
          rw [if_neg (by omega)])
        clear HPK
        have HPK := HPK2
        clear HPK2
        have e0 := beq_f hd0
        have e1 := beq_f hd1
        have e2 := beq_f hd2
        have e3 := beq_f hd3
        have e4 := beq_f hd4
        have e5 := beq_f hd5
        obtain ⟨a0, a1, a2, a3, a4, a5, a6, _⟩ := HAB.out
        simp only at a0 a1 a2 a3 a4 a5 a6
        have HX : Hid (∃ v, PlIn w q0 q0.b v (some ⟨g, 0, none⟩) xc sw sh (playK sw sh ac (k + 1)).2 (playK sw sh ac (k + 1)).1 w1 ∧ xn = (playK sw sh ac (k + 1)).1.length ∧ nx = (playK sw sh ac (k + 1)).2 + 1) := hide' (by
          rw [HPK.out]
          exact ⟨v, HP.out, HXN.out, HNX.out⟩)
        clear HP HAB
        go_wp2
        go_roundg (n - (k + 1))
        case measure => omega
        case rel => exact ⟨k + 1, (some ⟨g, 0, none⟩), xn, xc, nx, by omega, rfl, rfl, rfl, by go_num, HX⟩
      · have hxp : pl = -1 := by rw [HPI.out, if_neg hlt]
        subst hxp
        have HHT : Hid (¬ plN L id < L.length) := hide' (by rw [HII.out]; exact hlt)
        clear hlt
        have HPK2 : Hid (playK sw sh ac (k + 1) = (L, mm)) := hide' (by
          rw [HPK.out]
          unfold playR
          simp only [if_neg hd0, if_neg hd1, if_neg hd2, if_neg hd5]
          rw [if_neg (by omega)])
        clear HPK
        have HPK := HPK2
        clear HPK2
        have e0 := beq_f hd0
        have e1 := beq_f hd1
        have e2 := beq_f hd2
        have e3 := beq_f hd3
        have e4 := beq_f hd4
        have e5 := beq_f hd5
        obtain ⟨a0, a1, a2, a3, a4, a5, a6, _⟩ := HAB.out
        simp only at a0 a1 a2 a3 a4 a5 a6
        have HX : Hid (∃ v, PlIn w q0 q0.b v xa xc sw sh (playK sw sh ac (k + 1)).2 (playK sw sh ac (k + 1)).1 w1 ∧ xn = (playK sw sh ac (k + 1)).1.length ∧ nx = (playK sw sh ac (k + 1)).2 + 1) := hide' (by
          rw [HPK.out]
          exact ⟨v, HP.out, HXN.out, HNX.out⟩)
        clear HP HAB
        go_wp2
        go_roundg (n - (k + 1))
        case measure => omega
        case rel => exact ⟨k + 1, xa, xn, xc, nx, by omega, rfl, rfl, rfl, by go_num, HX⟩
    · have hkn' : k = n := by omega
      subst hkn'
      have HO : Hid (PlayOut q0 sw sh (playK sw sh ac k) w (.returned (.tuple #[.slice xa xn xc, .bool true])) wr) := hide' ⟨v, xa, xc, by rw [hxn, hLL], by rw [← hLL]; exact hP⟩
      clear HQ hP hxn hnx hok hLL hPK
      go_wp2
      go_returns
      exact HO.out

end Go.Proofs.Yticccknocjnkpaa
