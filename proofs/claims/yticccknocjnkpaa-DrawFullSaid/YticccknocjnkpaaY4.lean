/-
  The document fills: walked. No conditions.
-/
import Derived.Test.YticccknocjnkpaaGA
namespace Go.Proofs.Yticccknocjnkpaa
open Go.RowKit

/-- Writes of a row. -/
def rowN (P : Nat → Nat → Bool) (Q : Nat → Nat → Wr) (j : Nat) : Nat → List Wr
  | 0 => []
  | k + 1 => rowN P Q j k ++ if P j k = true then [Q j k] else []

/-- Writes of rows. -/
def allN (P : Nat → Nat → Bool) (Q : Nat → Nat → Wr) (n : Nat) : Nat → List Wr
  | 0 => []
  | j + 1 => allN P Q n j ++ rowN P Q j n

theorem rowN_len (P : Nat → Nat → Bool) (Q : Nat → Nat → Wr) (j : Nat) : ∀ k, (rowN P Q j k).length ≤ k
  | 0 => Nat.le_refl _
  | k + 1 => by
    have := rowN_len P Q j k
    show (_ ++ _ : List Wr).length ≤ k + 1
    rw [List.length_append]
    split <;> simp <;> omega

theorem allN_len (P : Nat → Nat → Bool) (Q : Nat → Nat → Wr) (n : Nat) : ∀ j, (allN P Q n j).length ≤ j * n
  | 0 => by simp [allN]
  | j + 1 => by
    have h1 := allN_len P Q n j
    have h2 := rowN_len P Q j n
    show (_ ++ _ : List Wr).length ≤ (j + 1) * n
    rw [List.length_append, Nat.succ_mul]
    omega

/-- Which cells are filled, and with what. -/
def fillP (L : List Wn) (p : Wn) (r : R) (j k : Nat) : Bool := inB r k j && ownB L p k j
def fillQ (p : Wn) (c : Cl) (j k : Nat) : Wr := Wr.of (p.x + k) (p.y + j) c

/-- What filling writes. -/
def fillA (L : List Wn) (p : Wn) (r : R) (c : Cl) : List Wr := if rightB r = true then allN (fillP L p r) (fillQ p c) p.w.toNat p.h.toNat else []

/-- While the document fills. -/
def FG (w0 : World) (A bp B br bc : Nat) (p : Wn) (r : R) (c : Cl) (a h b0 : Nat) (wr : World) (q : Rf) (f : Nat → Cl) : Prop := GIn w0 A bp B p a h b0 wr q f ∧ Box wr br r ∧ BoxC wr bc c ∧ br ≠ A ∧ bc ≠ A

variable {w0 w1 wr : World} {A bp B br bc a h b0 : Nat} {p : Wn} {q q2 q1 : Rf} {f g : Nat → Cl} {r : R} {c : Cl}

theorem FG.keep (H : FG w0 A bp B br bc p r c a h b0 wr q f) (hs : Stay (fun _ => False) wr w1) : FG w0 A bp B br bc p r c a h b0 w1 q f := ⟨H.1.keep hs, H.2.1.keep hs, H.2.2.1.keep hs, H.2.2.2⟩

theorem boxC_stay {T : Nat → Prop} {w w1 : World} {b : Nat} {r : Cl} (h : BoxC w b r) (hs : Stay T w w1) (hn : ¬ T b) : BoxC w1 b r := by
  obtain ⟨h0, h1, h2, h3, k0, k1, k2, k3⟩ := h
  have hb : b < w.heap.size := World.block_lt_of_cell? _ _ h0
  have c : ∀ o, w1.cell? ⟨b, o, none⟩ = w.cell? ⟨b, o, none⟩ := fun o => hs.cell (p := ⟨b, o, none⟩) hb hn
  have f : ∀ o, w1.frozen? ⟨b, o, none⟩ = w.frozen? ⟨b, o, none⟩ := fun o => hs.frozen (p := ⟨b, o, none⟩) hb hn
  exact ⟨(c 0).trans h0, (c 1).trans h1, (c 2).trans h2, (c 3).trans h3, (f 0).trans k0, (f 1).trans k1, (f 2).trans k2, (f 3).trans k3⟩

theorem FG.put (H : FG w0 A bp B br bc p r c a h b0 wr q f) {x y : Int} {c2 : Cl} (hr : RefAt wr q2 (setF q1.w q1.h g x y c2)) (he : q1.w = a ∧ q1.h = h) (hn : q2.w = a ∧ q2.h = h ∧ A < q2.b ∧ B < q2.b) {w4 : World}
    (hw : (((wr.setCell ⟨A, 0, none⟩ (.int .i64 q2.g3.w)).setCell ⟨A, 1, none⟩ (.int .i64 q2.g3.h)).setCell ⟨A, 2, none⟩ q2.g3.l) = w4) : FG w0 A bp B br bc p r c a h b0 w4 q2 (setF a h g x y c2) := by
  rw [he.1, he.2] at hr
  subst hw
  have hs : Stay (fun j => j = A) wr (((wr.setCell ⟨A, 0, none⟩ (.int .i64 q2.g3.w)).setCell ⟨A, 1, none⟩ (.int .i64 q2.g3.h)).setCell ⟨A, 2, none⟩ q2.g3.l) :=
    (((Stay.refl (fun j => j = A) wr).setCell (p := ⟨A, 0, none⟩) rfl _).setCell (p := ⟨A, 1, none⟩) rfl _).setCell (p := ⟨A, 2, none⟩) rfl _
  exact ⟨H.1.put hr hn.1 hn.2.1 hn.2.2, boxR_stay H.2.1 hs H.2.2.2.1, boxC_stay H.2.2.1 hs H.2.2.2.2, H.2.2.2⟩

theorem GIn.ends {fn : Func} {tmps : Array Value} {pt tt : Tmp} {N : List Wr} {f0 : Nat → Cl} {m : Int} (H : GIn w0 A bp B p a h b0 wr q f) (hres : fn.results = #[.cell pt 35, .tmp tt]) (hp : tmps.getD pt undef = .pointer (some ⟨B, 0, none⟩)) (ht : tmps.getD tt undef = .int .i64 m) (hm : m = (N.length : Nat)) (hf : f = applyW a h f0 N)
    {d : List Deferred} (hd : d = []) : bodyPost Try.prog fn (DrewG a h b0 f0 N w0) Exit.ret { tmps := tmps, defers := d } (((wr.setCell ⟨B, 0, none⟩ (.int .i64 q.g3.w)).setCell ⟨B, 1, none⟩ (.int .i64 q.g3.h)).setCell ⟨B, 2, none⟩ q.g3.l) := by
  subst hd hm
  refine bodyPost_ret (results_gi hres _ _ B q.g3 _ hp ht (H.res.put q.g3)) rfl ⟨q, rfl, BoxG.stay_put H.stay H.new.2.1 _ _ _, ?_, H.ew, H.eh, H.old⟩
  rw [← hf]
  exact H.ref.stay ((((Stay.refl (fun j => j = B) wr).setCell (p := ⟨B, 0, none⟩) rfl _).setCell (p := ⟨B, 1, none⟩) rfl _).setCell (p := ⟨B, 2, none⟩) rfl _) H.ne.2

set_option maxHeartbeats 4000000 in
theorem fill34 (q : Rf) (f : Nat → Cl) (sa : Option Addr) (sn sc : Nat) (L : List Wn) (p : Wn) (r : R) (c : Cl) (w : World) (hq : RefAt w q f) (hr : Rds w sa L) (hsn : L.length = sn) (hsm : sn ≤ 256) (hok : ∀ p ∈ L, OkP p) (hp : OkP p) :
    Calls Try.prog 34 #[.agg #[.int .i64 q.g3.w, .int .i64 q.g3.h, q.g3.l], .slice sa sn sc, .agg #[.int .i64 p.id, .int .i64 p.env, .int .i64 p.x, .int .i64 p.y, .int .i64 p.w, .int .i64 p.h, .bool p.hid], .agg #[.int .i64 r.x, .int .i64 r.y, .int .i64 r.w, .int .i64 r.h], .agg #[.int .i32 c.r, .int .i64 c.fg, .int .i64 c.bg, .int .i64 c.fl]] w (DrewG q.w q.h q.b f (fillA L p r c) w) := by
  obtain ⟨W0, hW0⟩ : ∃ W, W = ((((w.alloc (.cells #[.int .i64 q.g3.w, .int .i64 q.g3.h, q.g3.l] 35)).alloc (.cells #[.int .i64 p.id, .int .i64 p.env, .int .i64 p.x, .int .i64 p.y, .int .i64 p.w, .int .i64 p.h, .bool p.hid] 78)).alloc (.cells #[.int .i64 r.x, .int .i64 r.y, .int .i64 r.w, .int .i64 r.h] 41)).alloc (.cells #[.int .i32 c.r, .int .i64 c.fg, .int .i64 c.bg, .int .i64 c.fl] 53)).alloc (.cells #[.int .i64 0, .int .i64 0, .slice none 0 0] 35) := ⟨_, rfl⟩
  obtain ⟨A, hA⟩ : ∃ b, b = w.heap.size := ⟨_, rfl⟩
  obtain ⟨bp, hbp⟩ : ∃ b, b = A + 1 := ⟨_, rfl⟩
  obtain ⟨br, hbr⟩ : ∃ b, b = bp + 1 := ⟨_, rfl⟩
  obtain ⟨bc, hbc⟩ : ∃ b, b = br + 1 := ⟨_, rfl⟩
  obtain ⟨B, hB⟩ : ∃ b, b = bc + 1 := ⟨_, rfl⟩
  obtain ⟨a, ha⟩ : ∃ a, a = q.w := ⟨_, rfl⟩
  obtain ⟨h, hh⟩ : ∃ h, h = q.h := ⟨_, rfl⟩
  obtain ⟨b0, hb0⟩ : ∃ b, b = q.b := ⟨_, rfl⟩
  have hst0 : Stay (fun _ => False) w W0 := by rw [hW0]; exact (((((Stay.refl _ _).alloc _).alloc _).alloc _).alloc _).alloc _
  have hqlt := hq.lt
  have hG0 : FG w A bp B br bc p r c a h b0 W0 q f := ⟨⟨hst0, by rw [hW0]; exact (((((BoxG.new q.g3 hA.symm).alloc _).alloc _).alloc _).alloc _), hq.keep hst0, ha.symm, hh.symm, ⟨by omega, by omega⟩, .inl hb0.symm,
    by rw [hW0]; exact ((((NBox.new p (by rw [hbp, hA]; simp)).alloc _).alloc _).alloc _), by rw [hW0]; exact BoxG.new ⟨0, 0, .slice none 0 0⟩ (by rw [hB, hbc, hbr, hbp, hA]; simp), ⟨by omega, by omega, by omega, by omega⟩⟩,
    by rw [hW0]; exact (((Box.new r (by rw [hbr, hbp, hA]; simp)).alloc _).alloc _), by rw [hW0]; exact ((BoxC.new c (by rw [hbc, hbr, hbp, hA]; simp)).alloc _), by omega, by omega⟩
  have hpb := hp
  unfold OkP at hpb
  obtain ⟨Wn', hWn⟩ : ∃ k : Nat, p.w = (k : Nat) := ⟨p.w.toNat, by omega⟩
  obtain ⟨Hn, hHn⟩ : ∃ k : Nat, p.h = (k : Nat) := ⟨p.h.toNat, by omega⟩
  obtain ⟨P, hP⟩ : ∃ P, P = fillP L p r := ⟨_, rfl⟩
  obtain ⟨Q, hQ⟩ : ∃ Q, Q = fillQ p c := ⟨_, rfl⟩
  obtain ⟨N, hN⟩ : ∃ N : List Wr, N = fillA L p r c := ⟨_, rfl⟩
  have hNN : N = if rightB r = true then allN P Q Wn' Hn else [] := by rw [hN]; unfold fillA; rw [hP, hQ, hWn, hHn]; rfl
  have HPP : Hid (∀ j k, P j k = (inB r k j && ownB L p k j)) := hide' (fun j k => by rw [hP]; rfl)
  have HQQ : Hid (∀ j k, Q j k = Wr.of (p.x + k) (p.y + j) c) := hide' (fun j k => by rw [hQ]; rfl)
  have HRR := hide' (refRight48 r)
  obtain ⟨cr, hcr⟩ : ∃ b, b = rightB r := ⟨_, rfl⟩
  rw [← hcr] at HRR hNN
  have HNN := hide' hNN
  have HIN : Hid (cr = true → ∀ (j k : Nat), j ≤ 512 → k ≤ 512 → ∀ W, Calls Try.prog 58 #[.agg #[.int .i64 r.x, .int .i64 r.y, .int .i64 r.w, .int .i64 r.h], .int .i64 (k : Nat), .int .i64 (j : Nat)] W (Gives (.bool (inB r k j)) W)) := hide' (fun e j k hj hk W => refIn58 r k j W (by rw [← hcr]; exact e) (by unfold Mid; omega) (by unfold Mid; omega))
  have HOW := hide' (fun (x y : Int) W (hs : Stay (fun _ => False) w W) => own56 sa sn sc L p x y W (hr.keep hs) hsn hsm hok hp)
  have HLEN : Hid (∀ j k, j < Hn → k ≤ Wn' → (allN P Q Wn' j ++ rowN P Q j k).length ≤ 262144) := hide' (fun j k hj hk => by
    have h1 := allN_len P Q Wn' j
    have h2 := rowN_len P Q j k
    have h3 : j * Wn' ≤ 511 * 512 := Nat.mul_le_mul (by omega) (by omega)
    rw [List.length_append]
    omega)
  have HLEN2 : Hid (∀ j, j ≤ Hn → (allN P Q Wn' j).length ≤ 262144) := hide' (fun j hj => by
    have h1 := allN_len P Q Wn' j
    have h3 : j * Wn' ≤ 512 * 512 := Nat.mul_le_mul (by omega) (by omega)
    omega)
  have HG0 : Hid (∃ q, FG w A bp B br bc p r c a h b0 W0 q (applyW a h f (allN P Q Wn' 0))) := hide' ⟨q, hG0⟩
  have HPB := hide' hpb
  have hwz : (Wn' : Int) ≤ 512 := by omega
  have hhz : (Hn : Int) ≤ 512 := by omega
  rw [← hN, ← ha, ← hh, ← hb0]
  have HWH := hide' (show p.w = (Wn' : Nat) ∧ p.h = (Hn : Nat) from ⟨hWn, hHn⟩)
  clear hst0 hG0 hN hNN hcr hP hQ hr hsn hsm hok hp hq hqlt hWn hHn hpb
  go_enter Try.func34, Try.ntmps34
  go_upto_region 1 with fail
  rw [← hW0, ← hA]
  rw [← hbp]
  rw [← hbr]
  rw [← hbc]
  rw [← hB]
  clear hW0 hA hbp hbr hbc hB ha hh hb0
  go_wp2
  go_loopg [12, 13] Hn (fun gg v12 v13 wr => ∃ (j : Nat) (M : Nat), j ≤ Hn ∧ gg = Hn - j ∧ v12 = .int .i64 (M : Nat) ∧ v13 = .int .i64 (j : Int) ∧ Hid (M = (allN P Q Wn' j).length ∧ (cr = false → j = 0)) ∧ Hid (∃ q, FG w A bp B br bc p r c a h b0 wr q (applyW a h f (allN P Q Wn' j))))
  case atStart => exact ⟨0, 0, Nat.zero_le _, rfl, rfl, rfl, hide' ⟨rfl, fun _ => rfl⟩, HG0⟩
  case round =>
    clear HG0
    obtain ⟨j, M, hjn, rfl, rfl, rfl, HM, HG⟩ := hrel
    obtain ⟨q1, hG1⟩ := HG.out
    have HGQ := hide' hG1
    obtain ⟨f1, hf1⟩ : ∃ f1, f1 = applyW a h f (allN P Q Wn' j) := ⟨_, rfl⟩
    rw [← hf1] at HGQ
    have HF1 := hide' hf1
    have hMz : (M : Int) ≤ 262144 := by have := HLEN2.out j hjn; have := HM.out.1; omega
    clear hG1 hf1 HG
    obtain ⟨_, _, _, _, _, m5, _⟩ := HGQ.out.1.win
    rw [HWH.out.2] at m5
    by_cases hlt : j < Hn
    · have jn : (j : Int) < (Hn : Nat) := by omega
      obtain ⟨c0, c1, c2, c3, _⟩ := HGQ.out.2.1
      go_wp2_with fail
      refine (HRR.out _).mono ?_
      rintro _ wa ⟨rfl, hs⟩
      have HGA := hide' (HGQ.out.keep hs)
      clear hs HGQ m5 c0 c1 c2 c3
      cases cr
      · have HNE : Hid (N = [] ∧ j = 0) := hide' ⟨by rw [HNN.out]; rfl, HM.out.2 rfl⟩
        have HMN : Hid ((M : Int) = (N.length : Nat)) := hide' (by rw [HNE.out.1, HM.out.1, HNE.out.2]; rfl)
        have HFN : Hid (f1 = applyW a h f N) := hide' (by rw [HF1.out, HNE.out.1, HNE.out.2]; rfl)
        have hgx := HGA.out.1
        obtain ⟨z0, z1, z2, _⟩ := hgx.box
        obtain ⟨_, _, _, y0, y1, y2⟩ := hgx.res
        have hgl : q1.g3.l = .slice (some ⟨q1.b, 0, none⟩) q1.n q1.cap := rfl
        obtain ⟨m0, m1, m2, m3, m4, m5, m6, _⟩ := hgx.win
        have HGX := hide' hgx
        clear hgx
        go_wp2
        exact HGX.out.ends rfl rfl rfl HMN.out HFN.out rfl
      · have HI := hide' (HIN.out (by first | rfl | trivial) j)
        have HG0 : Hid (∃ q, FG w A bp B br bc p r c a h b0 wa q (applyW a h f (allN P Q Wn' j ++ rowN P Q j 0))) := hide' ⟨q1, by
          show FG w A bp B br bc p r c a h b0 wa q1 (applyW a h f (allN P Q Wn' j ++ []))
          rw [List.append_nil, ← HF1.out]; exact HGA.out⟩
        have HM0 : Hid (M = (allN P Q Wn' j ++ rowN P Q j 0).length) := hide' (by rw [HM.out.1]; show _ = (_ ++ [] : List Wr).length; rw [List.append_nil])
        clear HGA HF1 HM HRR
        go_wp2
        go_loopg [12, 14] Wn' (fun gg v12 v14 wr => ∃ (k : Nat) (M : Nat), k ≤ Wn' ∧ gg = Wn' - k ∧ v12 = .int .i64 (M : Nat) ∧ v14 = .int .i64 (k : Int) ∧ Hid (M = (allN P Q Wn' j ++ rowN P Q j k).length) ∧ Hid (∃ q, FG w A bp B br bc p r c a h b0 wr q (applyW a h f (allN P Q Wn' j ++ rowN P Q j k))))
        case atStart => exact ⟨0, M, Nat.zero_le _, rfl, rfl, rfl, HM0, HG0⟩
        case round =>
          clear HG0 HM0 hMz M
          obtain ⟨k, M, hkn, rfl, rfl, rfl, HM, HG⟩ := hrel
          obtain ⟨q1, hG1⟩ := HG.out
          have HGQ := hide' hG1
          obtain ⟨f1, hf1⟩ : ∃ f1, f1 = applyW a h f (allN P Q Wn' j ++ rowN P Q j k) := ⟨_, rfl⟩
          rw [← hf1] at HGQ
          have HF1 := hide' hf1
          have hMz : (M : Int) ≤ 262144 := by have := HLEN.out j k hlt hkn; have := HM.out; omega
          clear hG1 hf1 HG
          obtain ⟨_, _, _, _, m4, _⟩ := HGQ.out.1.win
          rw [HWH.out.1] at m4
          by_cases hkl : k < Wn'
          · have kn : (k : Int) < (Wn' : Nat) := by omega
            obtain ⟨c0, c1, c2, c3, _⟩ := HGQ.out.2.1
            have HIK := hide' (HI.out k (by omega) (by omega))
            have HOK := hide' (HOW.out (k : Nat) (j : Nat))
            obtain ⟨bi, hbi⟩ : ∃ b, b = inB r k j := ⟨_, rfl⟩
            obtain ⟨bo, hbo⟩ : ∃ b, b = ownB L p k j := ⟨_, rfl⟩
            rw [← hbi] at HIK
            rw [← hbo] at HOK
            have HPK : Hid (P j k = (bi && bo)) := hide' (by rw [HPP.out, hbi, hbo])
            clear hbi hbo
            go_wp2_with fail
            refine (HIK.out _).mono ?_
            rintro _ wb ⟨rfl, hs⟩
            have HGB := hide' (HGQ.out.keep hs)
            clear hs HGQ HIK m4 c0 c1 c2 c3
            cases bi
            · have HNX : Hid (rowN P Q j (k + 1) = rowN P Q j k) := hide' (by show _ ++ _ = _; rw [HPK.out]; simp)
              have HGN : Hid (∃ q, FG w A bp B br bc p r c a h b0 wb q (applyW a h f (allN P Q Wn' j ++ rowN P Q j (k + 1)))) := hide' ⟨q1, by rw [HNX.out, ← HF1.out]; exact HGB.out⟩
              have HMN : Hid (M = (allN P Q Wn' j ++ rowN P Q j (k + 1)).length) := hide' (by rw [HNX.out]; exact HM.out)
              clear HGB HM HOK
              go_wp2
              go_roundg (Wn' - (k + 1))
              case measure => omega
              case rel => exact ⟨k + 1, M, by omega, rfl, rfl, by go_num, HMN, HGN⟩
            · obtain ⟨m0, m1, m2, m3, m4, m5, m6, _⟩ := HGB.out.1.win
              go_wp2_with fail
              refine (HOK.out _ HGB.out.1.stay).mono ?_
              rintro _ wc ⟨rfl, hs⟩
              have HGC := hide' (HGB.out.keep hs)
              clear hs HGB HOK m0 m1 m2 m3 m4 m5 m6
              cases bo
              · have HNX : Hid (rowN P Q j (k + 1) = rowN P Q j k) := hide' (by show _ ++ _ = _; rw [HPK.out]; simp)
                have HGN : Hid (∃ q, FG w A bp B br bc p r c a h b0 wc q (applyW a h f (allN P Q Wn' j ++ rowN P Q j (k + 1)))) := hide' ⟨q1, by rw [HNX.out, ← HF1.out]; exact HGC.out⟩
                have HMN : Hid (M = (allN P Q Wn' j ++ rowN P Q j (k + 1)).length) := hide' (by rw [HNX.out]; exact HM.out)
                clear HGC HM
                go_wp2
                go_roundg (Wn' - (k + 1))
                case measure => omega
                case rel => exact ⟨k + 1, M, by omega, rfl, rfl, by go_num, HMN, HGN⟩
              · have HNX : Hid (rowN P Q j (k + 1) = rowN P Q j k ++ [Wr.of (p.x + k) (p.y + j) c]) := hide' (by show _ ++ _ = _; rw [HPK.out, HQQ.out]; simp)
                have hpb := HPB.out
                have hw1 : IntKind.i64.wrap (p.x + (k : Int)) = p.x + (k : Int) := by rw [IntKind.wrap_i64]; omega
                have hw2 : IntKind.i64.wrap (p.y + (j : Int)) = p.y + (j : Int) := by rw [IntKind.wrap_i64]; omega
                obtain ⟨z0, z1, z2, _⟩ := HGC.out.1.box
                obtain ⟨m0, m1, m2, m3, m4, m5, m6, _⟩ := HGC.out.1.win
                obtain ⟨c0, c1, c2, c3, _⟩ := HGC.out.2.2.1
                have hgl : q1.g3.l = .slice (some ⟨q1.b, 0, none⟩) q1.n q1.cap := rfl
                have HSET := hide' (refSet57 q1 f1 (p.x + k) (p.y + j) c wc HGC.out.1.ref)
                clear hpb hgl
                go_wp2_with fail
                refine HSET.out.mono ?_
                rintro _ wd ⟨q2, rfl, hs3, hr3, hw3, hh3, hn3⟩
                have HG3 := hide' (HGC.out.keep hs3)
                have HR3 := hide' hr3
                have HN3 := hide' (show q2.w = a ∧ q2.h = h ∧ A < q2.b ∧ B < q2.b from ⟨hw3.trans HGC.out.1.ew, hh3.trans HGC.out.1.eh, Nat.lt_of_lt_of_le HGC.out.1.lts.1 hn3, Nat.lt_of_lt_of_le HGC.out.1.lts.2 hn3⟩)
                have HE3 := hide' (show q1.w = a ∧ q1.h = h from ⟨HGC.out.1.ew, HGC.out.1.eh⟩)
                clear hs3 hr3 hw3 hh3 hn3 HGC HSET z0 z1 z2 m0 m1 m2 m3 m4 m5 m6 c0 c1 c2 c3
                obtain ⟨_, _, _, z3, z4, z5⟩ := HG3.out.1.box
                obtain ⟨z0, z1, z2, _⟩ := HG3.out.1.box
                have hgl : q2.g3.l = .slice (some ⟨q2.b, 0, none⟩) q2.n q2.cap := rfl
                have HML : Hid ((allN P Q Wn' j ++ rowN P Q j (k + 1)).length = M + 1) := hide' (by rw [HNX.out, ← List.append_assoc, List.length_append, ← HM.out]; rfl)
                have HGN : Hid (∀ w4, ((wd.setCell ⟨A, 0, none⟩ (.int .i64 q2.g3.w)).setCell ⟨A, 1, none⟩ (.int .i64 q2.g3.h)).setCell ⟨A, 2, none⟩ q2.g3.l = w4 → ∃ q, FG w A bp B br bc p r c a h b0 w4 q (applyW a h f (allN P Q Wn' j ++ rowN P Q j (k + 1)))) := hide' (fun w4 hw4 => ⟨q2, by
                  rw [HNX.out, ← List.append_assoc, applyW_snoc, ← HF1.out]
                  exact HG3.out.put HR3.out HE3.out HN3.out hw4⟩)
                go_wp2
                go_roundg (Wn' - (k + 1))
                case measure => omega
                case rel => exact ⟨k + 1, M + 1, by omega, rfl, by go_num, by go_num, hide' HML.out.symm, hide' (HGN.out _ rfl)⟩
          · have hkw : k = Wn' := by omega
            subst hkw
            have HMX : Hid (M = (allN P Q k (j + 1)).length ∧ (true = false → j + 1 = 0)) := hide' ⟨HM.out, fun e => by cases e⟩
            have HGX : Hid (∃ q, FG w A bp B br bc p r c a h b0 wr q (applyW a h f (allN P Q k (j + 1)))) := hide' ⟨q1, by
              show FG w A bp B br bc p r c a h b0 wr q1 (applyW a h f (allN P Q k j ++ rowN P Q j k))
              rw [← HF1.out]; exact HGQ.out⟩
            clear HGQ HM
            go_wp2
            go_roundg (Hn - (j + 1))
            case measure => omega
            case rel => exact ⟨j + 1, M, by omega, rfl, rfl, by go_num, HMX, HGX⟩
    · have hjH : j = Hn := by omega
      subst hjH
      have HNE : Hid (N = allN P Q Wn' j) := hide' (by
        rw [HNN.out]
        cases hc : cr
        · have h0 := HM.out.2 hc
          rw [h0]; rfl
        · rfl)
      have HMN : Hid ((M : Int) = (N.length : Nat)) := hide' (by rw [HNE.out, HM.out.1])
      have HFN : Hid (f1 = applyW a h f N) := hide' (by rw [HF1.out, HNE.out])
      have m5' := m5
      have hgx := HGQ.out.1
      obtain ⟨z0, z1, z2, _⟩ := hgx.box
      obtain ⟨_, _, _, y0, y1, y2⟩ := hgx.res
      have hgl : q1.g3.l = .slice (some ⟨q1.b, 0, none⟩) q1.n q1.cap := rfl
      have HGX := hide' hgx
      clear hgx
      go_wp2
      exact HGX.out.ends rfl rfl rfl HMN.out HFN.out rfl

end Go.Proofs.Yticccknocjnkpaa
