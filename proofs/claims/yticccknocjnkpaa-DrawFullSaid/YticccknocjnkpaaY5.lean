/-
  The document copies: walked. No conditions.
-/
import Derived.Test.YticccknocjnkpaaY4
namespace Go.Proofs.Yticccknocjnkpaa
open Go.RowKit

/-- Which cells are copied, and what comes of them. -/
def copyP (L : List Wn) (p : Wn) (r : R) (x y : Int) (j k : Nat) : Bool := inB r k j && ownB L p k j && ownB L p (k - r.x + x) (j - r.y + y)
def copyQ (p : Wn) (r : R) (x y : Int) (a h : Nat) (f : Nat → Cl) (j k : Nat) : Wr := Wr.of (p.x + (k - r.x + x)) (p.y + (j - r.y + y)) (atF a h f (p.x + k) (p.y + j))

/-- What copying writes. -/
def copyA (L : List Wn) (p : Wn) (r : R) (x y : Int) (a h : Nat) (f : Nat → Cl) : List Wr := if (rightB r && !farB x && !farB y) = true then allN (copyP L p r x y) (copyQ p r x y a h f) p.w.toNat p.h.toNat else []

/-- While the document copies. -/
def DG (w0 : World) (A bp B br bw : Nat) (p : Wn) (r : R) (q0 : Rf) (f0 : Nat → Cl) (a h b0 : Nat) (wr : World) (q : Rf) (f : Nat → Cl) : Prop := GIn w0 A bp B p a h b0 wr q f ∧ Box wr br r ∧ (BoxG wr bw q0.g3 ∧ RefAt wr q0 f0) ∧ br ≠ A ∧ bw ≠ A ∧ q0.b ≠ A

variable {w0 w1 wr : World} {A bp B br bw a h b0 : Nat} {p : Wn} {q q2 q1 q0 : Rf} {f g f0 : Nat → Cl} {r : R} {c : Cl}

theorem DG.keep (H : DG w0 A bp B br bw p r q0 f0 a h b0 wr q f) (hs : Stay (fun _ => False) wr w1) : DG w0 A bp B br bw p r q0 f0 a h b0 w1 q f := ⟨H.1.keep hs, H.2.1.keep hs, ⟨H.2.2.1.1.keep hs, H.2.2.1.2.keep hs⟩, H.2.2.2⟩

theorem DG.put (H : DG w0 A bp B br bw p r q0 f0 a h b0 wr q f) {x y : Int} {c2 : Cl} (hr : RefAt wr q2 (setF q1.w q1.h g x y c2)) (he : q1.w = a ∧ q1.h = h) (hn : q2.w = a ∧ q2.h = h ∧ A < q2.b ∧ B < q2.b) {w4 : World}
    (hw : w4 = wr.setCells A 0 (#[.int .i64 q2.g3.w, .int .i64 q2.g3.h, q2.g3.l] : Array Value).toList) : DG w0 A bp B br bw p r q0 f0 a h b0 w4 q2 (setF a h g x y c2) := by
  rw [he.1, he.2] at hr
  subst hw
  have hs : Stay (fun j => j = A) wr (wr.setCells A 0 (#[.int .i64 q2.g3.w, .int .i64 q2.g3.h, q2.g3.l] : Array Value).toList) := (Stay.refl (fun j => j = A) wr).setCells A _ 0 rfl
  exact ⟨H.1.put hr hn.1 hn.2.1 hn.2.2, boxR_stay H.2.1 hs H.2.2.2.1, ⟨H.2.2.1.1.stay hs H.2.2.2.2.1, H.2.2.1.2.stay hs H.2.2.2.2.2⟩, H.2.2.2⟩

set_option maxRecDepth 100000 in
set_option maxHeartbeats 8000000 in
theorem copy35 (q0 : Rf) (f0 : Nat → Cl) (sa : Option Addr) (sn sc : Nat) (L : List Wn) (p : Wn) (r : R) (x y : Int) (w : World) (hq : RefAt w q0 f0) (hr : Rds w sa L) (hsn : L.length = sn) (hsm : sn ≤ 256) (hok : ∀ p ∈ L, OkP p) (hp : OkP p) :
    Calls Try.prog 35 #[.agg #[.int .i64 q0.g3.w, .int .i64 q0.g3.h, q0.g3.l], .slice sa sn sc, .agg #[.int .i64 p.id, .int .i64 p.env, .int .i64 p.x, .int .i64 p.y, .int .i64 p.w, .int .i64 p.h, .bool p.hid], .agg #[.int .i64 r.x, .int .i64 r.y, .int .i64 r.w, .int .i64 r.h], .int .i64 x, .int .i64 y] w (DrewG q0.w q0.h q0.b f0 (copyA L p r x y q0.w q0.h f0) w) := by
  obtain ⟨W0, hW0⟩ : ∃ W, W = ((((w.alloc (.cells #[.int .i64 q0.g3.w, .int .i64 q0.g3.h, .slice (some ⟨q0.b, 0, none⟩) q0.n q0.cap] 35)).alloc (.cells #[.int .i64 p.id, .int .i64 p.env, .int .i64 p.x, .int .i64 p.y, .int .i64 p.w, .int .i64 p.h, .bool p.hid] 78)).alloc (.cells #[.int .i64 r.x, .int .i64 r.y, .int .i64 r.w, .int .i64 r.h] 41)).alloc (.cells #[.int .i64 0, .int .i64 0, .slice none 0 0] 35)).alloc (.cells #[.int .i64 q0.g3.w, .int .i64 q0.g3.h, .slice (some ⟨q0.b, 0, none⟩) q0.n q0.cap] 35) := ⟨_, rfl⟩
  obtain ⟨A, hA⟩ : ∃ b, b = w.heap.size := ⟨_, rfl⟩
  obtain ⟨bp, hbp⟩ : ∃ b, b = A + 1 := ⟨_, rfl⟩
  obtain ⟨br, hbr⟩ : ∃ b, b = bp + 1 := ⟨_, rfl⟩
  obtain ⟨B, hB⟩ : ∃ b, b = br + 1 := ⟨_, rfl⟩
  obtain ⟨bw, hbw⟩ : ∃ b, b = B + 1 := ⟨_, rfl⟩
  obtain ⟨a, ha⟩ : ∃ a, a = q0.w := ⟨_, rfl⟩
  obtain ⟨h, hh⟩ : ∃ h, h = q0.h := ⟨_, rfl⟩
  obtain ⟨b0, hb0⟩ : ∃ b, b = q0.b := ⟨_, rfl⟩
  have hst0 : Stay (fun _ => False) w W0 := by rw [hW0]; exact (((((Stay.refl _ _).alloc _).alloc _).alloc _).alloc _).alloc _
  have hqlt := hq.lt
  have hG0 : DG w A bp B br bw p r q0 f0 a h b0 W0 q0 f0 := ⟨⟨hst0, by rw [hW0]; exact (((((BoxG.new q0.g3 hA.symm).alloc _).alloc _).alloc _).alloc _), hq.keep hst0, ha.symm, hh.symm, ⟨by omega, by omega⟩, .inl hb0.symm,
    by rw [hW0]; exact ((((NBox.new p (by rw [hbp, hA]; simp)).alloc _).alloc _).alloc _), by rw [hW0]; exact ((BoxG.new ⟨0, 0, .slice none 0 0⟩ (by rw [hB, hbr, hbp, hA]; simp)).alloc _), ⟨by omega, by omega, by omega, by omega⟩⟩,
    by rw [hW0]; exact (((Box.new r (by rw [hbr, hbp, hA]; simp)).alloc _).alloc _), ⟨by rw [hW0]; exact BoxG.new q0.g3 (by rw [hbw, hB, hbr, hbp, hA]; simp), hq.keep hst0⟩, by omega, by omega, by omega⟩
  have hpb := hp
  unfold OkP at hpb
  obtain ⟨Wn', hWn⟩ : ∃ k : Nat, p.w = (k : Nat) := ⟨p.w.toNat, by omega⟩
  obtain ⟨Hn, hHn⟩ : ∃ k : Nat, p.h = (k : Nat) := ⟨p.h.toNat, by omega⟩
  obtain ⟨P, hP⟩ : ∃ P, P = copyP L p r x y := ⟨_, rfl⟩
  obtain ⟨Q, hQ⟩ : ∃ Q, Q = copyQ p r x y a h f0 := ⟨_, rfl⟩
  obtain ⟨N, hN⟩ : ∃ N : List Wr, N = copyA L p r x y a h f0 := ⟨_, rfl⟩
  have hNN : N = if (rightB r && !farB x && !farB y) = true then allN P Q Wn' Hn else [] := by rw [hN]; unfold copyA; rw [hP, hQ, hWn, hHn]; rfl
  have HPP : Hid (∀ j k, P j k = (inB r k j && ownB L p k j && ownB L p (k - r.x + x) (j - r.y + y))) := hide' (fun j k => by rw [hP]; rfl)
  have HQQ : Hid (∀ j k, Q j k = Wr.of (p.x + (k - r.x + x)) (p.y + (j - r.y + y)) (atF a h f0 (p.x + k) (p.y + j))) := hide' (fun j k => by rw [hQ]; rfl)
  have HRR := hide' (refRight48 r)
  have HXX := hide' (far55 x)
  have HYY := hide' (far55 y)
  have HRB := hide' (@right_bd r)
  obtain ⟨cr, hcr⟩ : ∃ b, b = rightB r := ⟨_, rfl⟩
  obtain ⟨fx, hfx⟩ : ∃ b, b = farB x := ⟨_, rfl⟩
  obtain ⟨fy, hfy⟩ : ∃ b, b = farB y := ⟨_, rfl⟩
  have HXB : Hid (fx = false → -1073741824 ≤ x ∧ x ≤ 1073741824) := hide' (fun e => by
    rw [hfx] at e
    unfold farB at e
    simp only [Bool.or_eq_false_iff, decide_eq_false_iff_not] at e
    omega)
  have HYB : Hid (fy = false → -1073741824 ≤ y ∧ y ≤ 1073741824) := hide' (fun e => by
    rw [hfy] at e
    unfold farB at e
    simp only [Bool.or_eq_false_iff, decide_eq_false_iff_not] at e
    omega)
  rw [← hcr] at HRR hNN HRB
  rw [← hfx] at HXX hNN
  rw [← hfy] at HYY hNN
  have HNN := hide' hNN
  have HIN : Hid (cr = true → ∀ (j k : Nat), j ≤ 512 → k ≤ 512 → ∀ W, Calls Try.prog 58 #[.agg #[.int .i64 r.x, .int .i64 r.y, .int .i64 r.w, .int .i64 r.h], .int .i64 (k : Nat), .int .i64 (j : Nat)] W (Gives (.bool (inB r k j)) W)) := hide' (fun e j k hj hk W => refIn58 r k j W (by rw [← hcr]; exact e) (by unfold Mid; omega) (by unfold Mid; omega))
  have HOW := hide' (fun (x y : Int) W (hs : Stay (fun _ => False) w W) => own56 sa sn sc L p x y W (hr.keep hs) hsn hsm hok hp)
  have HAA : Hid (∀ (x y : Int) W, RefAt W q0 f0 → Calls Try.prog 59 #[.agg #[.int .i64 q0.g3.w, .int .i64 q0.g3.h, q0.g3.l], .int .i64 x, .int .i64 y] W (Gives (.agg #[.int .i32 (atF a h f0 x y).r, .int .i64 (atF a h f0 x y).fg, .int .i64 (atF a h f0 x y).bg, .int .i64 (atF a h f0 x y).fl]) W)) := hide' (fun x y W hW => by rw [ha, hh]; exact refAt59 q0 f0 x y W hW)
  have HLEN : Hid (∀ j k, j < Hn → k ≤ Wn' → (allN P Q Wn' j ++ rowN P Q j k).length ≤ 262144) := hide' (fun j k hj hk => by
    have h1 := allN_len P Q Wn' j
    have h2 := rowN_len P Q j k
    have h3 : j * Wn' ≤ 511 * 512 := Nat.mul_le_mul (by omega) (by omega)
    rw [List.length_append]
    omega)
  have HLEN2 : Hid (∀ j, j ≤ Hn → (allN P Q Wn' j).length ≤ 262144) := hide' (fun j hj => by
    have h1 := allN_len P Q Wn' j
    have h3 : j * Wn' ≤ 512 * 512 := Nat.mul_le_mul (by omega) (by omega)
    omega)
  have HG0 : Hid (∃ q, DG w A bp B br bw p r q0 f0 a h b0 W0 q (applyW a h f0 (allN P Q Wn' 0))) := hide' ⟨q0, hG0⟩
  have HPB := hide' hpb
  have hwz : (Wn' : Int) ≤ 512 := by omega
  have hhz : (Hn : Int) ≤ 512 := by omega
  have hg0 : q0.g3.l = .slice (some ⟨q0.b, 0, none⟩) q0.n q0.cap := rfl
  rw [← ha, ← hh, ← hb0, ← hN]
  have HWH := hide' (show p.w = (Wn' : Nat) ∧ p.h = (Hn : Nat) from ⟨hWn, hHn⟩)
  clear hst0 hG0 hN hNN hcr hfx hfy hP hQ hr hsn hsm hok hp hq hqlt hWn hHn hpb
  go_enter Try.func35, Try.ntmps35
  go_upto_region 3 with fail
  rw [← hW0, ← hA]
  rw [← hbp]
  rw [← hbr]
  rw [← hB]
  rw [← hbw]
  clear hW0 hA hbp hbr hbw hB ha hh hb0 hg0
  go_wp2
  go_loopg [14, 16] Hn (fun gg v14 v16 wr => ∃ (j : Nat) (M : Nat), j ≤ Hn ∧ gg = Hn - j ∧ v14 = .int .i64 (M : Nat) ∧ v16 = .int .i64 (j : Int) ∧ Hid (M = (allN P Q Wn' j).length ∧ ((cr && !fx && !fy) = false → j = 0)) ∧ Hid (∃ q, DG w A bp B br bw p r q0 f0 a h b0 wr q (applyW a h f0 (allN P Q Wn' j))))
  case atStart => exact ⟨0, 0, Nat.zero_le _, rfl, rfl, rfl, hide' ⟨rfl, fun _ => rfl⟩, HG0⟩
  case round =>
    clear HG0
    obtain ⟨j, M, hjn, rfl, rfl, rfl, HM, HG⟩ := hrel
    obtain ⟨q1, hG1⟩ := HG.out
    have HGQ := hide' hG1
    obtain ⟨f1, hf1⟩ : ∃ f1, f1 = applyW a h f0 (allN P Q Wn' j) := ⟨_, rfl⟩
    rw [← hf1] at HGQ
    have HF1 := hide' hf1
    have hMz : (M : Int) ≤ 262144 := by have := HLEN2.out j hjn; have := HM.out.1; omega
    clear hG1 hf1 HG
    obtain ⟨_, _, _, _, _, m5, _⟩ := HGQ.out.1.win
    rw [HWH.out.2] at m5
    by_cases hlt : j < Hn
    · have jn : (j : Int) < (Hn : Nat) := by omega
      obtain ⟨c0, c1, c2, c3, _⟩ := HGQ.out.2.1
      go_wp2_with fail
      refine (HRR.out _).mono ?_
      rintro _ wa ⟨rfl, hs⟩
      have HGA := hide' (HGQ.out.keep hs)
      clear hs HGQ m5 c0 c1 c2 c3
      cases cr
      · skip
        have HNE : Hid (N = [] ∧ j = 0) := hide' ⟨by rw [HNN.out]; simp, HM.out.2 (by simp)⟩
        have HMN : Hid ((M : Int) = (N.length : Nat)) := hide' (by rw [HNE.out.1, HM.out.1, HNE.out.2]; rfl)
        have HFN : Hid (f1 = applyW a h f0 N) := hide' (by rw [HF1.out, HNE.out.1, HNE.out.2]; rfl)
        have hgx := HGA.out.1
        obtain ⟨z0, z1, z2, _⟩ := hgx.box
        obtain ⟨_, _, _, y0, y1, y2⟩ := hgx.res
        have hgl : q1.g3.l = .slice (some ⟨q1.b, 0, none⟩) q1.n q1.cap := rfl
        have HGX := hide' hgx
        clear hgx
        go_wp2
        exact HGX.out.ends rfl rfl rfl HMN.out HFN.out rfl
      · go_wp2_with fail
        refine (HXX.out _).mono ?_
        rintro _ wa2 ⟨rfl, hs⟩
        have HGA2 := hide' (HGA.out.keep hs)
        clear hs HGA
        cases fx
        · go_wp2_with fail
          refine (HYY.out _).mono ?_
          rintro _ wa3 ⟨rfl, hs⟩
          have HGA := hide' (HGA2.out.keep hs)
          clear hs HGA2
          cases fy
          · have HI := hide' (HIN.out (by first | rfl | trivial) j)
            have hxb := HXB.out (by first | rfl | trivial)
            have hyb := HYB.out (by first | rfl | trivial)
            have hrb := HRB.out (by first | rfl | trivial)
            have HG0 : Hid (∃ q, DG w A bp B br bw p r q0 f0 a h b0 wa3 q (applyW a h f0 (allN P Q Wn' j ++ rowN P Q j 0))) := hide' ⟨q1, by
              show DG w A bp B br bw p r q0 f0 a h b0 wa3 q1 (applyW a h f0 (allN P Q Wn' j ++ []))
              rw [List.append_nil, ← HF1.out]; exact HGA.out⟩
            have HM0 : Hid (M = (allN P Q Wn' j ++ rowN P Q j 0).length) := hide' (by rw [HM.out.1]; show _ = (_ ++ [] : List Wr).length; rw [List.append_nil])
            have HXYZ := hide' (show (-1073741824 ≤ x ∧ x ≤ 1073741824) ∧ (-1073741824 ≤ y ∧ y ≤ 1073741824) ∧ (-1073741824 ≤ r.x ∧ r.x ≤ 1073741824) ∧ (-1073741824 ≤ r.y ∧ r.y ≤ 1073741824) from ⟨hxb, hyb, hrb.1, hrb.2.1⟩)
            clear HGA HF1 HM HRR hxb hyb hrb
            go_wp2
            go_loopg [14, 17] Wn' (fun gg v14 v17 wr => ∃ (k : Nat) (M : Nat), k ≤ Wn' ∧ gg = Wn' - k ∧ v14 = .int .i64 (M : Nat) ∧ v17 = .int .i64 (k : Int) ∧ Hid (M = (allN P Q Wn' j ++ rowN P Q j k).length) ∧ Hid (∃ q, DG w A bp B br bw p r q0 f0 a h b0 wr q (applyW a h f0 (allN P Q Wn' j ++ rowN P Q j k))))
            case atStart => exact ⟨0, M, Nat.zero_le _, rfl, rfl, rfl, HM0, HG0⟩
            case round =>
              clear HG0 HM0 hMz M
              obtain ⟨k, M, hkn, rfl, rfl, rfl, HM, HG⟩ := hrel
              obtain ⟨q1, hG1⟩ := HG.out
              have HGQ := hide' hG1
              obtain ⟨f1, hf1⟩ : ∃ f1, f1 = applyW a h f0 (allN P Q Wn' j ++ rowN P Q j k) := ⟨_, rfl⟩
              rw [← hf1] at HGQ
              have HF1 := hide' hf1
              have hMz : (M : Int) ≤ 262144 := by have := HLEN.out j k hlt hkn; have := HM.out; omega
              clear hG1 hf1 HG
              obtain ⟨_, _, _, _, m4, _⟩ := HGQ.out.1.win
              rw [HWH.out.1] at m4
              by_cases hkl : k < Wn'
              · have kn : (k : Int) < (Wn' : Nat) := by omega
                have HIK := hide' (HI.out k (by omega) (by omega))
                have HOK := hide' (HOW.out (k : Nat) (j : Nat))
                have HOK2 := hide' (HOW.out ((k : Int) - r.x + x) ((j : Int) - r.y + y))
                obtain ⟨bi, hbi⟩ : ∃ b, b = inB r k j := ⟨_, rfl⟩
                obtain ⟨bo, hbo⟩ : ∃ b, b = ownB L p k j := ⟨_, rfl⟩
                obtain ⟨bq, hbq⟩ : ∃ b, b = ownB L p ((k : Int) - r.x + x) ((j : Int) - r.y + y) := ⟨_, rfl⟩
                rw [← hbi] at HIK
                rw [← hbo] at HOK
                rw [← hbq] at HOK2
                have HPK : Hid (P j k = (bi && bo && bq)) := hide' (by rw [HPP.out, hbi, hbo, hbq])
                have HAT := hide' (HAA.out (p.x + k) (p.y + j))
                obtain ⟨c, hc⟩ : ∃ c, c = atF a h f0 (p.x + k) (p.y + j) := ⟨_, rfl⟩
                rw [← hc] at HAT
                have HQK : Hid (Q j k = Wr.of (p.x + (k - r.x + x)) (p.y + (j - r.y + y)) c) := hide' (by rw [HQQ.out, hc])
                have hxyz := HXYZ.out
                have hpb := HPB.out
                have hv1 : IntKind.i64.wrap ((k : Int) - r.x) = (k : Int) - r.x := by rw [IntKind.wrap_i64]; omega
                have hv2 : IntKind.i64.wrap ((k : Int) - r.x + x) = (k : Int) - r.x + x := by rw [IntKind.wrap_i64]; omega
                have hv3 : IntKind.i64.wrap ((j : Int) - r.y) = (j : Int) - r.y := by rw [IntKind.wrap_i64]; omega
                have hv4 : IntKind.i64.wrap ((j : Int) - r.y + y) = (j : Int) - r.y + y := by rw [IntKind.wrap_i64]; omega
                have hv5 : IntKind.i64.wrap (p.x + (k : Int)) = p.x + (k : Int) := by rw [IntKind.wrap_i64]; omega
                have hv6 : IntKind.i64.wrap (p.y + (j : Int)) = p.y + (j : Int) := by rw [IntKind.wrap_i64]; omega
                have hv7 : IntKind.i64.wrap (p.x + ((k : Int) - r.x + x)) = p.x + ((k : Int) - r.x + x) := by rw [IntKind.wrap_i64]; omega
                have hv8 : IntKind.i64.wrap (p.y + ((j : Int) - r.y + y)) = p.y + ((j : Int) - r.y + y) := by rw [IntKind.wrap_i64]; omega
                clear hbi hbo hbq hc hxyz hpb
                have hS : (fun w' => Box w' br r) wr.drew := HGQ.out.2.1.keep (Stay.refl _ _).drew
                have HGD := hide' (HGQ.out.keep (Stay.refl (fun _ => False) wr).drew)
                clear HGQ
                go_upto_region 9 with fail
                clear m4
                refine wp_region_mix (fun w' => Box w' br r) [(0, true), (1, true), (2, true), (3, true), (4, true), (5, true), (6, true), (7, true), (8, true), (9, true), (10, true), (11, true), (12, true), (13, true)] (by kernel_rfl) (by kernel_rfl) (fun _ d _ _ _ h => by cases d <;> exact h) hS ?_
                refine mix_begin (fun K0 hK0 => ?_)
                refine mix_take hK0 (some 49) (.move (.tmp 17)) 3 _ (by kernel_rfl) (by kernel_rfl) (fun w' hS' => by (obtain ⟨c0, c1, c2, c3, _⟩ := hS'; simp only [opr]; go_simp; try with_reducible rfl)) (fun K1 hK1 => ?_)
                clear hK0 K0
                simp only [Act.put, List.setIfInBounds_toArray, List.set_cons_zero, List.set_cons_succ]
                refine mix_take hK1 (some 50) (.fieldAddr 41 (.tmp 9) 0) 0 _ (by kernel_rfl) (by kernel_rfl) (fun w' hS' => by (obtain ⟨c0, c1, c2, c3, _⟩ := hS'; simp only [opr]; go_simp; try with_reducible rfl)) (fun K2 hK2 => ?_)
                clear hK1 K1
                simp only [Act.put, List.setIfInBounds_toArray, List.set_cons_zero, List.set_cons_succ]
                refine mix_take hK2 (some 51) (.load 3 (.tmp 50)) 3 _ (by kernel_rfl) (by kernel_rfl) (fun w' hS' => by (obtain ⟨c0, c1, c2, c3, _⟩ := hS'; simp only [opr]; go_simp; try with_reducible rfl)) (fun K3 hK3 => ?_)
                clear hK2 K2
                simp only [Act.put, List.setIfInBounds_toArray, List.set_cons_zero, List.set_cons_succ]
                refine mix_take hK3 (some 52) (.binOp BinOp.sub 3 (.tmp 49) (.tmp 51) 3) 3 _ (by kernel_rfl) (by kernel_rfl) (fun w' hS' => by (obtain ⟨c0, c1, c2, c3, _⟩ := hS'; simp only [opr]; go_simp; try with_reducible rfl)) (fun K4 hK4 => ?_)
                clear hK3 K3
                simp only [Act.put, List.setIfInBounds_toArray, List.set_cons_zero, List.set_cons_succ]
                refine mix_take hK4 (some 53) (.move (.tmp 4)) 3 _ (by kernel_rfl) (by kernel_rfl) (fun w' hS' => by (obtain ⟨c0, c1, c2, c3, _⟩ := hS'; simp only [opr]; go_simp; try with_reducible rfl)) (fun K5 hK5 => ?_)
                clear hK4 K4
                simp only [Act.put, List.setIfInBounds_toArray, List.set_cons_zero, List.set_cons_succ]
                refine mix_take hK5 (some 54) (.binOp BinOp.add 3 (.tmp 52) (.tmp 53) 3) 3 _ (by kernel_rfl) (by kernel_rfl) (fun w' hS' => by (obtain ⟨c0, c1, c2, c3, _⟩ := hS'; simp only [opr]; go_simp; try with_reducible rfl)) (fun K6 hK6 => ?_)
                clear hK5 K5
                simp only [Act.put, List.setIfInBounds_toArray, List.set_cons_zero, List.set_cons_succ]
                refine mix_take hK6 (some 55) (.move (.tmp 16)) 3 _ (by kernel_rfl) (by kernel_rfl) (fun w' hS' => by (obtain ⟨c0, c1, c2, c3, _⟩ := hS'; simp only [opr]; go_simp; try with_reducible rfl)) (fun K7 hK7 => ?_)
                clear hK6 K6
                simp only [Act.put, List.setIfInBounds_toArray, List.set_cons_zero, List.set_cons_succ]
                refine mix_take hK7 (some 56) (.fieldAddr 41 (.tmp 9) 1) 0 _ (by kernel_rfl) (by kernel_rfl) (fun w' hS' => by (obtain ⟨c0, c1, c2, c3, _⟩ := hS'; simp only [opr]; go_simp; try with_reducible rfl)) (fun K8 hK8 => ?_)
                clear hK7 K7
                simp only [Act.put, List.setIfInBounds_toArray, List.set_cons_zero, List.set_cons_succ]
                refine mix_take hK8 (some 57) (.load 3 (.tmp 56)) 3 _ (by kernel_rfl) (by kernel_rfl) (fun w' hS' => by (obtain ⟨c0, c1, c2, c3, _⟩ := hS'; simp only [opr]; go_simp; try with_reducible rfl)) (fun K9 hK9 => ?_)
                clear hK8 K8
                simp only [Act.put, List.setIfInBounds_toArray, List.set_cons_zero, List.set_cons_succ]
                refine mix_take hK9 (some 58) (.binOp BinOp.sub 3 (.tmp 55) (.tmp 57) 3) 3 _ (by kernel_rfl) (by kernel_rfl) (fun w' hS' => by (obtain ⟨c0, c1, c2, c3, _⟩ := hS'; simp only [opr]; go_simp; try with_reducible rfl)) (fun K10 hK10 => ?_)
                clear hK9 K9
                simp only [Act.put, List.setIfInBounds_toArray, List.set_cons_zero, List.set_cons_succ]
                refine mix_take hK10 (some 59) (.move (.tmp 5)) 3 _ (by kernel_rfl) (by kernel_rfl) (fun w' hS' => by (obtain ⟨c0, c1, c2, c3, _⟩ := hS'; simp only [opr]; go_simp; try with_reducible rfl)) (fun K11 hK11 => ?_)
                clear hK10 K10
                simp only [Act.put, List.setIfInBounds_toArray, List.set_cons_zero, List.set_cons_succ]
                refine mix_take hK11 (some 60) (.binOp BinOp.add 3 (.tmp 58) (.tmp 59) 3) 3 _ (by kernel_rfl) (by kernel_rfl) (fun w' hS' => by (obtain ⟨c0, c1, c2, c3, _⟩ := hS'; simp only [opr]; go_simp; try with_reducible rfl)) (fun K12 hK12 => ?_)
                clear hK11 K11
                simp only [Act.put, List.setIfInBounds_toArray, List.set_cons_zero, List.set_cons_succ]
                refine mix_take hK12 (some 18) (.assign (.tmp 54)) 3 _ (by kernel_rfl) (by kernel_rfl) (fun w' hS' => by (obtain ⟨c0, c1, c2, c3, _⟩ := hS'; simp only [opr]; go_simp; try with_reducible rfl)) (fun K13 hK13 => ?_)
                clear hK12 K12
                simp only [Act.put, List.setIfInBounds_toArray, List.set_cons_zero, List.set_cons_succ]
                refine mix_take hK13 (some 19) (.assign (.tmp 60)) 3 _ (by kernel_rfl) (by kernel_rfl) (fun w' hS' => by (obtain ⟨c0, c1, c2, c3, _⟩ := hS'; simp only [opr]; go_simp; try with_reducible rfl)) (fun K14 hK14 => ?_)
                clear hK13 K13
                simp only [Act.put, List.setIfInBounds_toArray, List.set_cons_zero, List.set_cons_succ]
                refine hK14 _ _ (mix_nil ?_)
                clear hK14 K14
                clear hS
                obtain ⟨wy, hwy⟩ : ∃ W, W = wr.drew := ⟨_, rfl⟩
                rw [← hwy] at HGD ⊢
                clear hwy
                clear hv1 hv2 hv3 hv4
                obtain ⟨a1, ha1⟩ : ∃ a1, a1 = (k : Int) - r.x + x := ⟨_, rfl⟩
                obtain ⟨b1, hb1⟩ : ∃ b1, b1 = (j : Int) - r.y + y := ⟨_, rfl⟩
                rw [← ha1] at HOK2 hv7 HQK ⊢
                rw [← hb1] at HOK2 hv8 HQK ⊢
                clear ha1 hb1
                obtain ⟨c0, c1, c2, c3, _⟩ := HGD.out.2.1
                go_wp2_with fail
                refine (HIK.out _).mono ?_
                rintro _ wb ⟨rfl, hs⟩
                have HGB := hide' (HGD.out.keep hs)
                clear hs HGD HIK c0 c1 c2 c3
                cases bi
                · clear HOK HOK2
                  have HNX : Hid (rowN P Q j (k + 1) = rowN P Q j k) := hide' (by show _ ++ _ = _; rw [HPK.out]; simp)
                  have HGN : Hid (∃ q, DG w A bp B br bw p r q0 f0 a h b0 wb q (applyW a h f0 (allN P Q Wn' j ++ rowN P Q j (k + 1)))) := hide' ⟨q1, by rw [HNX.out, ← HF1.out]; exact HGB.out⟩
                  have HMN : Hid (M = (allN P Q Wn' j ++ rowN P Q j (k + 1)).length) := hide' (by rw [HNX.out]; exact HM.out)
                  clear HGB HM HAT
                  go_wp2
                  go_roundg (Wn' - (k + 1))
                  case measure => omega
                  case rel => exact ⟨k + 1, M, by omega, rfl, rfl, by go_num, HMN, HGN⟩
                · obtain ⟨m0, m1, m2, m3, m4, m5, m6, _⟩ := HGB.out.1.win
                  go_wp2_with fail
                  refine (HOK.out _ HGB.out.1.stay).mono ?_
                  rintro _ wc ⟨rfl, hs⟩
                  have HGC := hide' (HGB.out.keep hs)
                  clear hs HGB HOK m0 m1 m2 m3 m4 m5 m6
                  have HGB := HGC
                  clear HGC
                  cases bo
                  · clear HOK2
                    have HNX : Hid (rowN P Q j (k + 1) = rowN P Q j k) := hide' (by show _ ++ _ = _; rw [HPK.out]; simp)
                    have HGN : Hid (∃ q, DG w A bp B br bw p r q0 f0 a h b0 wc q (applyW a h f0 (allN P Q Wn' j ++ rowN P Q j (k + 1)))) := hide' ⟨q1, by rw [HNX.out, ← HF1.out]; exact HGB.out⟩
                    have HMN : Hid (M = (allN P Q Wn' j ++ rowN P Q j (k + 1)).length) := hide' (by rw [HNX.out]; exact HM.out)
                    clear HGB HM HAT
                    go_wp2
                    go_roundg (Wn' - (k + 1))
                    case measure => omega
                    case rel => exact ⟨k + 1, M, by omega, rfl, rfl, by go_num, HMN, HGN⟩
                  · obtain ⟨m0, m1, m2, m3, m4, m5, m6, _⟩ := HGB.out.1.win
                    go_wp2_with fail
                    refine (HOK2.out _ HGB.out.1.stay).mono ?_
                    rintro _ we ⟨rfl, hs⟩
                    have HGC := hide' (HGB.out.keep hs)
                    clear hs HGB HOK2 m0 m1 m2 m3 m4 m5 m6
                    have HGB := HGC
                    clear HGC
                    cases bq
                    · skip
                      have HNX : Hid (rowN P Q j (k + 1) = rowN P Q j k) := hide' (by show _ ++ _ = _; rw [HPK.out]; simp)
                      have HGN : Hid (∃ q, DG w A bp B br bw p r q0 f0 a h b0 we q (applyW a h f0 (allN P Q Wn' j ++ rowN P Q j (k + 1)))) := hide' ⟨q1, by rw [HNX.out, ← HF1.out]; exact HGB.out⟩
                      have HMN : Hid (M = (allN P Q Wn' j ++ rowN P Q j (k + 1)).length) := hide' (by rw [HNX.out]; exact HM.out)
                      clear HGB HM HAT
                      go_wp2
                      go_roundg (Wn' - (k + 1))
                      case measure => omega
                      case rel => exact ⟨k + 1, M, by omega, rfl, rfl, by go_num, HMN, HGN⟩
                    · have HNX : Hid (rowN P Q j (k + 1) = rowN P Q j k ++ [Wr.of (p.x + a1) (p.y + b1) c]) := hide' (by show _ ++ _ = _; rw [HPK.out, HQK.out]; simp)
                      go_upto_region 11 with fail
                      refine any_begin (fun w' => NBox w' bp p ∧ BoxG w' bw q0.g3) (by kernel_rfl) (fun K0 hK0 => ?_)
                      obtain ⟨wz, hwz⟩ : ∃ W, W = we.drew := ⟨_, rfl⟩
                      have hsz : Stay (fun _ => False) we wz := by rw [hwz]; exact (Stay.refl _ _).drew
                      have HGZ := hide' (HGB.out.keep hsz)
                      have HSZ := hide' (show (fun w' => NBox w' bp p ∧ BoxG w' bw q0.g3) wz from ⟨HGZ.out.1.win, HGZ.out.2.2.1.1⟩)
                      rw [← hwz]
                      clear hwz hsz HGB
                      refine any_take (i := 1) hK0 (some 80) (.fieldAddr 78 (.tmp 8) 2) 0 _ (by kernel_rfl) (fun _ d _ _ _ h => by cases d <;> exact h) (by kernel_rfl) (by kernel_rfl) (fun w' hS' => by simp only [opr]; go_simp; try with_reducible rfl) HSZ.out (fun K1 hK1 => ?_)
                      clear hK0 K0
                      try simp only [Act.put, List.setIfInBounds_toArray, List.set_cons_zero, List.set_cons_succ]
                      refine any_take (i := 2) hK1 (some 81) (.fieldAddr 41 (.tmp 80) 0) 0 _ (by kernel_rfl) (fun _ d _ _ _ h => by cases d <;> exact h) (by kernel_rfl) (by kernel_rfl) (fun w' hS' => by simp only [opr]; go_simp; try with_reducible rfl) HSZ.out (fun K2 hK2 => ?_)
                      clear hK1 K1
                      try simp only [Act.put, List.setIfInBounds_toArray, List.set_cons_zero, List.set_cons_succ]
                      refine any_take (i := 3) hK2 (some 82) (.load 3 (.tmp 81)) 3 _ (by kernel_rfl) (fun _ d _ _ _ h => by cases d <;> exact h) (by kernel_rfl) (by kernel_rfl) (fun w' hS' => by (obtain ⟨m0, m1, m2, m3, m4, m5, m6, _⟩ := hS'.1; simp only [opr]; go_simp; try with_reducible rfl)) HSZ.out (fun K3 hK3 => ?_)
                      clear hK2 K2
                      try simp only [Act.put, List.setIfInBounds_toArray, List.set_cons_zero, List.set_cons_succ]
                      refine any_take (i := 4) hK3 (some 83) (.move (.tmp 18)) 3 _ (by kernel_rfl) (fun _ d _ _ _ h => by cases d <;> exact h) (by kernel_rfl) (by kernel_rfl) (fun w' hS' => by simp only [opr]; go_simp; try with_reducible rfl) HSZ.out (fun K4 hK4 => ?_)
                      clear hK3 K3
                      try simp only [Act.put, List.setIfInBounds_toArray, List.set_cons_zero, List.set_cons_succ]
                      refine any_take (i := 5) hK4 (some 84) (.binOp BinOp.add 3 (.tmp 82) (.tmp 83) 3) 3 _ (by kernel_rfl) (fun _ d _ _ _ h => by cases d <;> exact h) (by kernel_rfl) (by kernel_rfl) (fun w' hS' => by simp only [opr]; go_simp; try with_reducible rfl) HSZ.out (fun K5 hK5 => ?_)
                      clear hK4 K4
                      try simp only [Act.put, List.setIfInBounds_toArray, List.set_cons_zero, List.set_cons_succ]
                      refine any_take (i := 6) hK5 (some 85) (.fieldAddr 78 (.tmp 8) 2) 0 _ (by kernel_rfl) (fun _ d _ _ _ h => by cases d <;> exact h) (by kernel_rfl) (by kernel_rfl) (fun w' hS' => by simp only [opr]; go_simp; try with_reducible rfl) HSZ.out (fun K6 hK6 => ?_)
                      clear hK5 K5
                      try simp only [Act.put, List.setIfInBounds_toArray, List.set_cons_zero, List.set_cons_succ]
                      refine any_take (i := 7) hK6 (some 86) (.fieldAddr 41 (.tmp 85) 1) 0 _ (by kernel_rfl) (fun _ d _ _ _ h => by cases d <;> exact h) (by kernel_rfl) (by kernel_rfl) (fun w' hS' => by simp only [opr]; go_simp; try with_reducible rfl) HSZ.out (fun K7 hK7 => ?_)
                      clear hK6 K6
                      try simp only [Act.put, List.setIfInBounds_toArray, List.set_cons_zero, List.set_cons_succ]
                      refine any_take (i := 8) hK7 (some 87) (.load 3 (.tmp 86)) 3 _ (by kernel_rfl) (fun _ d _ _ _ h => by cases d <;> exact h) (by kernel_rfl) (by kernel_rfl) (fun w' hS' => by (obtain ⟨m0, m1, m2, m3, m4, m5, m6, _⟩ := hS'.1; simp only [opr]; go_simp; try with_reducible rfl)) HSZ.out (fun K8 hK8 => ?_)
                      clear hK7 K7
                      try simp only [Act.put, List.setIfInBounds_toArray, List.set_cons_zero, List.set_cons_succ]
                      refine any_take (i := 9) hK8 (some 88) (.move (.tmp 19)) 3 _ (by kernel_rfl) (fun _ d _ _ _ h => by cases d <;> exact h) (by kernel_rfl) (by kernel_rfl) (fun w' hS' => by simp only [opr]; go_simp; try with_reducible rfl) HSZ.out (fun K9 hK9 => ?_)
                      clear hK8 K8
                      try simp only [Act.put, List.setIfInBounds_toArray, List.set_cons_zero, List.set_cons_succ]
                      refine any_take (i := 10) hK9 (some 89) (.binOp BinOp.add 3 (.tmp 87) (.tmp 88) 3) 3 _ (by kernel_rfl) (fun _ d _ _ _ h => by cases d <;> exact h) (by kernel_rfl) (by kernel_rfl) (fun w' hS' => by simp only [opr]; go_simp; try with_reducible rfl) HSZ.out (fun K10 hK10 => ?_)
                      clear hK9 K9
                      try simp only [Act.put, List.setIfInBounds_toArray, List.set_cons_zero, List.set_cons_succ]
                      refine any_take (i := 11) hK10 (some 90) (.load 35 (.tmp 15)) 35 _ (by kernel_rfl) (fun _ d _ _ _ h => by cases d <;> exact h) (by kernel_rfl) (by kernel_rfl) (fun w' hS' => by exact run_load_BoxG rfl rfl hS'.2) HSZ.out (fun K11 hK11 => ?_)
                      clear hK10 K10
                      try simp only [Act.put, List.setIfInBounds_toArray, List.set_cons_zero, List.set_cons_succ]
                      refine any_take (i := 12) hK11 (some 91) (.fieldAddr 78 (.tmp 8) 2) 0 _ (by kernel_rfl) (fun _ d _ _ _ h => by cases d <;> exact h) (by kernel_rfl) (by kernel_rfl) (fun w' hS' => by simp only [opr]; go_simp; try with_reducible rfl) HSZ.out (fun K12 hK12 => ?_)
                      clear hK11 K11
                      try simp only [Act.put, List.setIfInBounds_toArray, List.set_cons_zero, List.set_cons_succ]
                      refine any_take (i := 13) hK12 (some 92) (.fieldAddr 41 (.tmp 91) 0) 0 _ (by kernel_rfl) (fun _ d _ _ _ h => by cases d <;> exact h) (by kernel_rfl) (by kernel_rfl) (fun w' hS' => by simp only [opr]; go_simp; try with_reducible rfl) HSZ.out (fun K13 hK13 => ?_)
                      clear hK12 K12
                      try simp only [Act.put, List.setIfInBounds_toArray, List.set_cons_zero, List.set_cons_succ]
                      refine any_take (i := 14) hK13 (some 93) (.load 3 (.tmp 92)) 3 _ (by kernel_rfl) (fun _ d _ _ _ h => by cases d <;> exact h) (by kernel_rfl) (by kernel_rfl) (fun w' hS' => by (obtain ⟨m0, m1, m2, m3, m4, m5, m6, _⟩ := hS'.1; simp only [opr]; go_simp; try with_reducible rfl)) HSZ.out (fun K14 hK14 => ?_)
                      clear hK13 K13
                      try simp only [Act.put, List.setIfInBounds_toArray, List.set_cons_zero, List.set_cons_succ]
                      refine any_take (i := 15) hK14 (some 94) (.move (.tmp 17)) 3 _ (by kernel_rfl) (fun _ d _ _ _ h => by cases d <;> exact h) (by kernel_rfl) (by kernel_rfl) (fun w' hS' => by simp only [opr]; go_simp; try with_reducible rfl) HSZ.out (fun K15 hK15 => ?_)
                      clear hK14 K14
                      try simp only [Act.put, List.setIfInBounds_toArray, List.set_cons_zero, List.set_cons_succ]
                      refine any_take (i := 16) hK15 (some 95) (.binOp BinOp.add 3 (.tmp 93) (.tmp 94) 3) 3 _ (by kernel_rfl) (fun _ d _ _ _ h => by cases d <;> exact h) (by kernel_rfl) (by kernel_rfl) (fun w' hS' => by simp only [opr]; go_simp; try with_reducible rfl) HSZ.out (fun K16 hK16 => ?_)
                      clear hK15 K15
                      try simp only [Act.put, List.setIfInBounds_toArray, List.set_cons_zero, List.set_cons_succ]
                      refine any_take (i := 17) hK16 (some 96) (.fieldAddr 78 (.tmp 8) 2) 0 _ (by kernel_rfl) (fun _ d _ _ _ h => by cases d <;> exact h) (by kernel_rfl) (by kernel_rfl) (fun w' hS' => by simp only [opr]; go_simp; try with_reducible rfl) HSZ.out (fun K17 hK17 => ?_)
                      clear hK16 K16
                      try simp only [Act.put, List.setIfInBounds_toArray, List.set_cons_zero, List.set_cons_succ]
                      refine any_take (i := 18) hK17 (some 97) (.fieldAddr 41 (.tmp 96) 1) 0 _ (by kernel_rfl) (fun _ d _ _ _ h => by cases d <;> exact h) (by kernel_rfl) (by kernel_rfl) (fun w' hS' => by simp only [opr]; go_simp; try with_reducible rfl) HSZ.out (fun K18 hK18 => ?_)
                      clear hK17 K17
                      try simp only [Act.put, List.setIfInBounds_toArray, List.set_cons_zero, List.set_cons_succ]
                      refine any_take (i := 19) hK18 (some 98) (.load 3 (.tmp 97)) 3 _ (by kernel_rfl) (fun _ d _ _ _ h => by cases d <;> exact h) (by kernel_rfl) (by kernel_rfl) (fun w' hS' => by (obtain ⟨m0, m1, m2, m3, m4, m5, m6, _⟩ := hS'.1; simp only [opr]; go_simp; try with_reducible rfl)) HSZ.out (fun K19 hK19 => ?_)
                      clear hK18 K18
                      try simp only [Act.put, List.setIfInBounds_toArray, List.set_cons_zero, List.set_cons_succ]
                      refine any_take (i := 20) hK19 (some 99) (.move (.tmp 16)) 3 _ (by kernel_rfl) (fun _ d _ _ _ h => by cases d <;> exact h) (by kernel_rfl) (by kernel_rfl) (fun w' hS' => by simp only [opr]; go_simp; try with_reducible rfl) HSZ.out (fun K20 hK20 => ?_)
                      clear hK19 K19
                      try simp only [Act.put, List.setIfInBounds_toArray, List.set_cons_zero, List.set_cons_succ]
                      refine any_take (i := 21) hK20 (some 100) (.binOp BinOp.add 3 (.tmp 98) (.tmp 99) 3) 3 _ (by kernel_rfl) (fun _ d _ _ _ h => by cases d <;> exact h) (by kernel_rfl) (by kernel_rfl) (fun w' hS' => by simp only [opr]; go_simp; try with_reducible rfl) HSZ.out (fun K21 hK21 => ?_)
                      clear hK20 K20
                      try simp only [Act.put, List.setIfInBounds_toArray, List.set_cons_zero, List.set_cons_succ]
                      refine any_pick (rs := [0, 22]) hK21 (by kernel_rfl) (fun K22 hK22 => ?_)
                      clear hK21 K21
                      intro i hi
                      simp only [List.mem_cons, List.not_mem_nil, or_false] at hi
                      rcases hi with rfl | rfl
                      · refine op_plain (some 79) (.load 35 (.tmp 6)) 35 (by kernel_rfl) (by kernel_rfl) ?_
                        refine wpList_exec rfl (run_load_BoxG rfl rfl HGZ.out.1.box) ?_
                        refine wpList_nil ?_
                        refine hK22 0 (by simp) _ _ HSZ.out (any_more fun K23 hK23 => ?_)
                        clear hK22 K22
                        refine any_pick (rs := [22]) hK23 (by kernel_rfl) (fun K24 hK24 => ?_)
                        clear hK23 K23
                        intro i hi
                        simp only [List.mem_cons, List.not_mem_nil, or_false] at hi
                        rcases hi with rfl
                        refine op_plain (some 101) (.call { callee := Callee.value (.func 59), args := #[.tmp 90, .tmp 95, .tmp 100], argTypes := #[35, 3, 3] }) 53 (by kernel_rfl) (by kernel_rfl) ?_
                        go_wp2_with fail
                        refine (HAT.out wz HGZ.out.2.2.1.2).mono ?_
                        rintro _ Wk1 ⟨rfl, hs⟩
                        have HGZ' := hide' (HGZ.out.keep hs)
                        have HSZ' := hide' (show (fun w' => NBox w' bp p ∧ BoxG w' bw q0.g3) Wk1 from ⟨HSZ.out.1.keep hs, HSZ.out.2.keep hs⟩)
                        clear hs
                        clear HGZ
                        have HGZ := HGZ'
                        clear HGZ'
                        clear HSZ
                        have HSZ := HSZ'
                        clear HSZ'
                        go_wp2
                        refine hK24 22 (by simp) _ _ HSZ.out (any_more fun K25 hK25 => ?_)
                        clear hK24 K24
                        refine any_pick (rs := [23]) hK25 (by kernel_rfl) (fun K26 hK26 => ?_)
                        clear hK25 K25
                        intro i hi
                        simp only [List.mem_cons, List.not_mem_nil, or_false] at hi
                        rcases hi with rfl
                        refine op_plain (some 102) (.call { callee := Callee.value (.func 57), args := #[.tmp 79, .tmp 84, .tmp 89, .tmp 101], argTypes := #[35, 3, 3, 53] }) 35 (by kernel_rfl) (by kernel_rfl) ?_
                        go_wp2_with fail
                        refine (refSet57 q1 f1 (p.x + a1) (p.y + b1) c Wk1 HGZ.out.1.ref).mono ?_
                        rintro _ Wk2 ⟨q2, rfl, hs3, hr3, hw3, hh3, hn3⟩
                        have HGZ' := hide' (HGZ.out.keep hs3)
                        have HR3 := hide' hr3
                        have HN3 := hide' (show q2.w = a ∧ q2.h = h ∧ A < q2.b ∧ B < q2.b from ⟨hw3.trans HGZ.out.1.ew, hh3.trans HGZ.out.1.eh, Nat.lt_of_lt_of_le HGZ.out.1.lts.1 hn3, Nat.lt_of_lt_of_le HGZ.out.1.lts.2 hn3⟩)
                        have HE3 := hide' (show q1.w = a ∧ q1.h = h from ⟨HGZ.out.1.ew, HGZ.out.1.eh⟩)
                        have HSZ' := hide' (show (fun w' => NBox w' bp p ∧ BoxG w' bw q0.g3) Wk2 from ⟨HSZ.out.1.keep hs3, HSZ.out.2.keep hs3⟩)
                        clear hs3 hr3 hw3 hh3 hn3
                        clear HGZ
                        have HGZ := HGZ'
                        clear HGZ'
                        clear HSZ
                        have HSZ := HSZ'
                        clear HSZ'
                        go_wp2
                        refine hK26 23 (by simp) _ _ HSZ.out (any_more fun K27 hK27 => ?_)
                        clear hK26 K26
                        refine any_pick (rs := [24]) hK27 (by kernel_rfl) (fun K28 hK28 => ?_)
                        clear hK27 K27
                        intro i hi
                        simp only [List.mem_cons, List.not_mem_nil, or_false] at hi
                        rcases hi with rfl
                        refine op_plain none (.store 35 (.tmp 6) (.tmp 102)) 0 (by kernel_rfl) (by kernel_rfl) ?_
                        have HTH := hide' (boxG_there HGZ.out.1.box)
                        refine wpList_store_mid rfl 35 _ _ rfl A 0 #[.int .i64 q2.g3.w, .int .i64 q2.g3.h, q2.g3.l] rfl rfl HTH.out (by kernel_rfl) (by simp [Value.oneCell', Rf.g3]) ?_
                        refine wpList_nil ?_
                        obtain ⟨Wk3, hw4⟩ : ∃ Wq, Wq = Wk2.setCells A 0 (#[.int .i64 q2.g3.w, .int .i64 q2.g3.h, q2.g3.l] : Array Value).toList := ⟨_, rfl⟩
                        rw [← hw4]
                        have HGZ' := hide' (HGZ.out.put HR3.out HE3.out HN3.out hw4)
                        have HSZ' := hide' (show (fun w' => NBox w' bp p ∧ BoxG w' bw q0.g3) Wk3 from ⟨HGZ'.out.1.win, HGZ'.out.2.2.1.1⟩)
                        clear hw4 HR3 HE3 HN3 HTH
                        clear HGZ
                        have HGZ := HGZ'
                        clear HGZ'
                        clear HSZ
                        have HSZ := HSZ'
                        clear HSZ'
                        refine hK28 24 (by simp) _ _ HSZ.out (any_more fun K29 hK29 => ?_)
                        clear hK28 K28
                        refine any_done hK29 (by kernel_rfl) ?_
                        clear hK29 K29
                        have HML : Hid ((allN P Q Wn' j ++ rowN P Q j (k + 1)).length = M + 1) := hide' (by rw [HNX.out, ← List.append_assoc, List.length_append, ← HM.out]; rfl)
                        have HGN : Hid (∃ q, DG w A bp B br bw p r q0 f0 a h b0 Wk3 q (applyW a h f0 (allN P Q Wn' j ++ rowN P Q j (k + 1)))) := hide' ⟨q2, by
                          rw [HNX.out, ← List.append_assoc, applyW_snoc, ← HF1.out]
                          exact HGZ.out⟩
                        clear HGZ HSZ HNX
                        go_wp2
                        go_roundg (Wn' - (k + 1))
                        case measure => omega
                        case rel => exact ⟨k + 1, M + 1, by omega, rfl, by go_num, by go_num, hide' HML.out.symm, HGN⟩
                      · refine op_plain (some 101) (.call { callee := Callee.value (.func 59), args := #[.tmp 90, .tmp 95, .tmp 100], argTypes := #[35, 3, 3] }) 53 (by kernel_rfl) (by kernel_rfl) ?_
                        go_wp2_with fail
                        refine (HAT.out wz HGZ.out.2.2.1.2).mono ?_
                        rintro _ Wk4 ⟨rfl, hs⟩
                        have HGZ' := hide' (HGZ.out.keep hs)
                        have HSZ' := hide' (show (fun w' => NBox w' bp p ∧ BoxG w' bw q0.g3) Wk4 from ⟨HSZ.out.1.keep hs, HSZ.out.2.keep hs⟩)
                        clear hs
                        clear HGZ
                        have HGZ := HGZ'
                        clear HGZ'
                        clear HSZ
                        have HSZ := HSZ'
                        clear HSZ'
                        go_wp2
                        refine hK22 22 (by simp) _ _ HSZ.out (any_more fun K23 hK23 => ?_)
                        clear hK22 K22
                        refine any_pick (rs := [0]) hK23 (by kernel_rfl) (fun K24 hK24 => ?_)
                        clear hK23 K23
                        intro i hi
                        simp only [List.mem_cons, List.not_mem_nil, or_false] at hi
                        rcases hi with rfl
                        refine op_plain (some 79) (.load 35 (.tmp 6)) 35 (by kernel_rfl) (by kernel_rfl) ?_
                        refine wpList_exec rfl (run_load_BoxG rfl rfl HGZ.out.1.box) ?_
                        refine wpList_nil ?_
                        refine hK24 0 (by simp) _ _ HSZ.out (any_more fun K25 hK25 => ?_)
                        clear hK24 K24
                        refine any_pick (rs := [23]) hK25 (by kernel_rfl) (fun K26 hK26 => ?_)
                        clear hK25 K25
                        intro i hi
                        simp only [List.mem_cons, List.not_mem_nil, or_false] at hi
                        rcases hi with rfl
                        refine op_plain (some 102) (.call { callee := Callee.value (.func 57), args := #[.tmp 79, .tmp 84, .tmp 89, .tmp 101], argTypes := #[35, 3, 3, 53] }) 35 (by kernel_rfl) (by kernel_rfl) ?_
                        go_wp2_with fail
                        refine (refSet57 q1 f1 (p.x + a1) (p.y + b1) c Wk4 HGZ.out.1.ref).mono ?_
                        rintro _ Wk5 ⟨q2, rfl, hs3, hr3, hw3, hh3, hn3⟩
                        have HGZ' := hide' (HGZ.out.keep hs3)
                        have HR3 := hide' hr3
                        have HN3 := hide' (show q2.w = a ∧ q2.h = h ∧ A < q2.b ∧ B < q2.b from ⟨hw3.trans HGZ.out.1.ew, hh3.trans HGZ.out.1.eh, Nat.lt_of_lt_of_le HGZ.out.1.lts.1 hn3, Nat.lt_of_lt_of_le HGZ.out.1.lts.2 hn3⟩)
                        have HE3 := hide' (show q1.w = a ∧ q1.h = h from ⟨HGZ.out.1.ew, HGZ.out.1.eh⟩)
                        have HSZ' := hide' (show (fun w' => NBox w' bp p ∧ BoxG w' bw q0.g3) Wk5 from ⟨HSZ.out.1.keep hs3, HSZ.out.2.keep hs3⟩)
                        clear hs3 hr3 hw3 hh3 hn3
                        clear HGZ
                        have HGZ := HGZ'
                        clear HGZ'
                        clear HSZ
                        have HSZ := HSZ'
                        clear HSZ'
                        go_wp2
                        refine hK26 23 (by simp) _ _ HSZ.out (any_more fun K27 hK27 => ?_)
                        clear hK26 K26
                        refine any_pick (rs := [24]) hK27 (by kernel_rfl) (fun K28 hK28 => ?_)
                        clear hK27 K27
                        intro i hi
                        simp only [List.mem_cons, List.not_mem_nil, or_false] at hi
                        rcases hi with rfl
                        refine op_plain none (.store 35 (.tmp 6) (.tmp 102)) 0 (by kernel_rfl) (by kernel_rfl) ?_
                        have HTH := hide' (boxG_there HGZ.out.1.box)
                        refine wpList_store_mid rfl 35 _ _ rfl A 0 #[.int .i64 q2.g3.w, .int .i64 q2.g3.h, q2.g3.l] rfl rfl HTH.out (by kernel_rfl) (by simp [Value.oneCell', Rf.g3]) ?_
                        refine wpList_nil ?_
                        obtain ⟨Wk6, hw4⟩ : ∃ Wq, Wq = Wk5.setCells A 0 (#[.int .i64 q2.g3.w, .int .i64 q2.g3.h, q2.g3.l] : Array Value).toList := ⟨_, rfl⟩
                        rw [← hw4]
                        have HGZ' := hide' (HGZ.out.put HR3.out HE3.out HN3.out hw4)
                        have HSZ' := hide' (show (fun w' => NBox w' bp p ∧ BoxG w' bw q0.g3) Wk6 from ⟨HGZ'.out.1.win, HGZ'.out.2.2.1.1⟩)
                        clear hw4 HR3 HE3 HN3 HTH
                        clear HGZ
                        have HGZ := HGZ'
                        clear HGZ'
                        clear HSZ
                        have HSZ := HSZ'
                        clear HSZ'
                        refine hK28 24 (by simp) _ _ HSZ.out (any_more fun K29 hK29 => ?_)
                        clear hK28 K28
                        refine any_done hK29 (by kernel_rfl) ?_
                        clear hK29 K29
                        have HML : Hid ((allN P Q Wn' j ++ rowN P Q j (k + 1)).length = M + 1) := hide' (by rw [HNX.out, ← List.append_assoc, List.length_append, ← HM.out]; rfl)
                        have HGN : Hid (∃ q, DG w A bp B br bw p r q0 f0 a h b0 Wk6 q (applyW a h f0 (allN P Q Wn' j ++ rowN P Q j (k + 1)))) := hide' ⟨q2, by
                          rw [HNX.out, ← List.append_assoc, applyW_snoc, ← HF1.out]
                          exact HGZ.out⟩
                        clear HGZ HSZ HNX
                        go_wp2
                        go_roundg (Wn' - (k + 1))
                        case measure => omega
                        case rel => exact ⟨k + 1, M + 1, by omega, rfl, by go_num, by go_num, hide' HML.out.symm, HGN⟩

              · have hkw : k = Wn' := by omega
                subst hkw
                have HMX : Hid (M = (allN P Q k (j + 1)).length ∧ ((true && !false && !false) = false → j + 1 = 0)) := hide' ⟨HM.out, fun e => by cases e⟩
                have HGX : Hid (∃ q, DG w A bp B br bw p r q0 f0 a h b0 wr q (applyW a h f0 (allN P Q k (j + 1)))) := hide' ⟨q1, by
                  show DG w A bp B br bw p r q0 f0 a h b0 wr q1 (applyW a h f0 (allN P Q k j ++ rowN P Q j k))
                  rw [← HF1.out]; exact HGQ.out⟩
                clear HGQ HM
                go_wp2
                go_roundg (Hn - (j + 1))
                case measure => omega
                case rel => exact ⟨j + 1, M, by omega, rfl, rfl, by go_num, HMX, HGX⟩
          · skip
            have HNE : Hid (N = [] ∧ j = 0) := hide' ⟨by rw [HNN.out]; simp, HM.out.2 (by simp)⟩
            have HMN : Hid ((M : Int) = (N.length : Nat)) := hide' (by rw [HNE.out.1, HM.out.1, HNE.out.2]; rfl)
            have HFN : Hid (f1 = applyW a h f0 N) := hide' (by rw [HF1.out, HNE.out.1, HNE.out.2]; rfl)
            have hgx := HGA.out.1
            obtain ⟨z0, z1, z2, _⟩ := hgx.box
            obtain ⟨_, _, _, y0, y1, y2⟩ := hgx.res
            have hgl : q1.g3.l = .slice (some ⟨q1.b, 0, none⟩) q1.n q1.cap := rfl
            have HGX := hide' hgx
            clear hgx
            go_wp2
            exact HGX.out.ends rfl rfl rfl HMN.out HFN.out rfl
        · skip
          have HNE : Hid (N = [] ∧ j = 0) := hide' ⟨by rw [HNN.out]; simp, HM.out.2 (by simp)⟩
          have HMN : Hid ((M : Int) = (N.length : Nat)) := hide' (by rw [HNE.out.1, HM.out.1, HNE.out.2]; rfl)
          have HFN : Hid (f1 = applyW a h f0 N) := hide' (by rw [HF1.out, HNE.out.1, HNE.out.2]; rfl)
          have hgx := HGA2.out.1
          obtain ⟨z0, z1, z2, _⟩ := hgx.box
          obtain ⟨_, _, _, y0, y1, y2⟩ := hgx.res
          have hgl : q1.g3.l = .slice (some ⟨q1.b, 0, none⟩) q1.n q1.cap := rfl
          have HGX := hide' hgx
          clear hgx
          go_wp2
          exact HGX.out.ends rfl rfl rfl HMN.out HFN.out rfl
    · have hjH : j = Hn := by omega
      subst hjH
      have HNE : Hid (N = allN P Q Wn' j) := hide' (by
        rw [HNN.out]
        cases hc : (cr && !fx && !fy)
        · have h0 := HM.out.2 hc
          rw [h0]; rfl
        · rfl)
      have HMN : Hid ((M : Int) = (N.length : Nat)) := hide' (by rw [HNE.out, HM.out.1])
      have HFN : Hid (f1 = applyW a h f0 N) := hide' (by rw [HF1.out, HNE.out])
      have hgx := HGQ.out.1
      obtain ⟨z0, z1, z2, _⟩ := hgx.box
      obtain ⟨_, _, _, y0, y1, y2⟩ := hgx.res
      have hgl : q1.g3.l = .slice (some ⟨q1.b, 0, none⟩) q1.n q1.cap := rfl
      have HGX := hide' hgx
      clear hgx
      go_wp2
      exact HGX.out.ends rfl rfl rfl HMN.out HFN.out rfl

end Go.Proofs.Yticccknocjnkpaa
