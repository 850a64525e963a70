/-
  Nobody else's: walked. No conditions.
-/
import Derived.Test.YticccknocjnkpaaGH
namespace Go.Proofs.Yticccknocjnkpaa
open Go.RowKit

/-- Acts that came in. -/
def AIn (w : World) (aa : Option Addr) (n : Nat) (ac : Nat → Ac) : Prop := ∀ i, i < n → ∃ g o, aa = some ⟨g, o, none⟩ ∧ ABoxAt w g (o + i * 7) (ac i)

theorem AIn.ard {w w1 : World} {aa : Option Addr} {n : Nat} {ac : Nat → Ac} {q : Sm} (h : AIn w aa n ac) (hs : Stay (fun _ => False) w w1) (hq : ∀ j, q.own j → w.heap.size ≤ j) : ARd w1 q aa n ac := fun i hi => by
  obtain ⟨g, o, e, hb⟩ := h i hi
  have hlt : g < w.heap.size := World.block_lt_of_cell? _ _ hb.c0
  exact ⟨g, o, e, hb.keep hs, fun e => by have := hq g e; omega⟩

theorem CRd.apart {w : World} {la : Option Addr} {n : Nat} {fq : Fm} {sq : Sm} (h : 0 < n → ∀ j, la.map Addr.block = some j → j < w.heap.size) (hf : ∀ j, fq.own j → w.heap.size ≤ j) (hs : ∀ j, sq.own j → w.heap.size ≤ j) : 0 < n → ∀ k, la.map Addr.block = some k → ¬ fq.own k ∧ ¬ sq.own k :=
  fun hn k hk => ⟨fun e => by have := h hn k hk; have := hf k e; omega, fun e => by have := h hn k hk; have := hs k e; omega⟩

set_option maxRecDepth 100000 in
set_option maxHeartbeats 4000000 in
theorem drawOwn4 (D : DrawC) (aa : Option Addr) (n acp : Nat) (ac : Nat → Ac) (da : Option Addr) (k dcp : Nat) (dr : Nat → Dr) (ll : Nat → Ll) (lf : Nat → Nat → Cl) (w : World) (hA : AIn w aa n ac) (hD : DRd w da k dr) (hO : DrOk w k dr ll lf) (hn : n ≤ 9223372036854775807) (hk : k ≤ 9223372036854775807) (hb : ∀ i, i < k → (ll i).n ≤ 9223372036854775807) :
    Calls Try.prog 4 #[.slice aa n acp, .slice da k dcp] w (LawTrue w) := by
  have HGR := hide' (great6 aa n acp da k dcp dr ll w hD hO.l hn hk hb)
  have HA := hide' hA
  have HD := hide' hD
  have HO := hide' hO
  clear hA hD hO hn hk hb
  go_enter Try.func4, Try.ntmps4
  go_wp2_with fail
  refine HGR.out.mono ?_
  rintro _ w1 ⟨b, rfl, hs, hb⟩
  have HS1 := hide' hs
  have HB := hide' hb
  clear hs hb HGR
  cases b
  · obtain ⟨hn, hk, hl20⟩ := HB.out rfl
    have HL20 := hide' hl20
    have HN := hide' (new_in (w0 := w) (a := 10) (h := 10) HS1.out (by decide) (by decide) (by decide) (by decide))
    clear HB hl20
    go_wp2_with fail
    refine HN.out.mono ?_
    rintro e w2 ⟨q0, rfl, hi, _⟩
    have HI := hide' hi
    have HM := hide' (news9 10 10 w2 (by decide) (by decide))
    obtain ⟨fb, hfb⟩ : ∃ b, b = q0.b := ⟨_, rfl⟩
    rw [← hfb]
    have HFB := hide' hfb
    clear hi HN hfb HS1
    go_wp2_with fail
    refine HM.out.mono ?_
    rintro e w3 ⟨sq, rfl, hs2, hsa, hsn⟩
    obtain ⟨sb, sv⟩ := sq
    have HT : Hid (TwIn w w3 fb sb 10 10 q0 (fun _ => Cl.zero) [] sv 0 []) := hide' (by rw [HFB.out]; exact TwIn.begin HI.out hsa hs2 hsn)
    have HPL := hide' (play10 ⟨sb, sv⟩ 10 10 aa n acp ac w3 HT.out.sa (by decide) (by decide) hn (HA.out.ard HT.out.fi.stay (fun j hj => (HT.out.so j hj).1)))
    have HOK := hide' (playK_ok 10 10 ac n (by omega))
    obtain ⟨LM, hLM⟩ : ∃ s, s = playK 10 10 ac n := ⟨_, rfl⟩
    rw [← hLM] at HPL HOK
    obtain ⟨L, m⟩ := LM
    clear hs2 hsa hsn HM HI HFB hLM
    simp only at HPL
    go_wp2_with fail
    refine HPL.out.mono ?_
    rintro e w4 ⟨v, xa, xc, rfl, hP⟩
    simp only at hP
    have HT4 := hide' (HT.out.stack hP.s ⟨hP.stay, hP.own⟩)
    have HOW : Hid (∀ p ∈ L, OkW 10 10 p) := hide' HOK.out.1
    have HOP : Hid (∀ p ∈ L, OkP p) := hide' (fun p hp => (HOK.out.1 p hp).ok (by decide) (by decide))
    have HLN : Hid (L.length ≤ 20) := hide' (by have h1 := HOK.out.2.2.1; have h2 := HOK.out.2.2.2; simp only at h1 h2; omega)
    clear hP HPL HOK HT HA
    have hkz : (k : Int) ≤ 20 := by omega
    have HX0 : Hid (∃ fq f, TwIn w w4 fb sb 10 10 fq f [] v m L) := hide' ⟨_, _, HT4.out⟩
    clear HT4
    go_wp2
    go_loopg [7] k (fun gg v7 wr => ∃ i : Nat, i ≤ k ∧ gg = k - i ∧ v7 = .int .i64 (i : Int) ∧ Hid (∃ fq f, TwIn w wr fb sb 10 10 fq f [] v m L))
    case atStart => exact ⟨0, Nat.zero_le _, rfl, rfl, HX0⟩
    case round =>
      clear HX0
      obtain ⟨i, hik, rfl, rfl, HX⟩ := hrel
      obtain ⟨fq, f, hT⟩ := HX.out
      by_cases hlt : i < k
      · have hz1 : (i : Int) < (k : Nat) := by omega
        obtain ⟨A, hA⟩ : ∃ A, A = dr i := ⟨_, rfl⟩
        obtain ⟨l, hl⟩ : ∃ l, l = lf i := ⟨_, rfl⟩
        obtain ⟨Q, hQ⟩ : ∃ Q, Q = ll i := ⟨_, rfl⟩
        have hnum := HO.out.num i hlt
        have hll := HO.out.l i hlt
        have hrd := HO.out.rd i hlt
        have hlt2 := HO.out.lt i hlt
        have hcc := HO.out.nc i hlt
        have h20 := HL20.out i hlt
        obtain ⟨ga, go, e, hb⟩ := HD.out i hlt
        subst e
        rw [← hA] at hnum hll hb
        rw [← hl] at hrd
        rw [← hQ] at hll hrd hlt2 h20 hcc
        obtain ⟨d, id, x, y, rx, ry, rw', rh, lv⟩ := A
        obtain ⟨la, nn, lc⟩ := Q
        simp only at hnum hll hrd hlt2 h20 hcc
        subst hll
        have HDR0 := hide' (hb.keep hT.fi.stay)
        have HDB := hide' (fun W (hs : Stay (fun _ => False) w W) => hb.keep hs)
        have HT := hide' hT
        have HPR := hide' (hT.pair HOW.out (by decide) (by decide) (Nat.zero_le _))
        have HDO := hide' (do13 D fq f [] ⟨sb, v⟩ 10 10 m L d id x y rx ry rw' rh la nn lc l wr HPR.out (hrd.keep hT.fi.stay) (CRd.apart hlt2 hT.fi.new (fun j hj => (hT.so j hj).1)) (by omega) hcc hnum.1 hnum.2.1 hnum.2.2)
        rw [hT.fi.eb] at HDO
        obtain ⟨M, hM⟩ : ∃ M, M = drawn L id fun p => drawW L 10 10 f d x y ⟨rx, ry, rw', rh⟩ l nn p := ⟨_, rfl⟩
        have HGD : Hid (∀ q ∈ M, GoodW L id q) := hide' (by rw [hM]; exact drawn_good HOP.out _ _ _ _ _ _ _ _ _ _)
        have HML : Hid (M.length ≤ 100) := hide' (by rw [hM]; exact drawn_len HOW.out _ _ _ _ _ _ _ _ _ _ h20)
        rw [← hM] at HDO
        simp only at HDO
        obtain ⟨u0, u1, u2, u3, u4, u5, u6, u7, u8⟩ := HDR0.out
        simp only at u0 u1 u2 u3 u4 u5 u6 u7 u8
        clear hA hl hQ hnum hrd hlt2 h20 hcc hb hT hM HX HPR
        go_wp2_with fail
        refine HDO.out.mono ?_
        rintro e w5 hd
        obtain ⟨fq2, rfl, ht, hfs⟩ := HT.out.drew hd
        rw [List.nil_append] at ht
        have HT5 := hide' ht
        obtain ⟨mm, hmm⟩ : ∃ mm, M.length = mm := ⟨_, rfl⟩
        rw [hmm]
        have HMM := hide' hmm
        have hmz : (mm : Int) ≤ 100 := by have := HML.out; omega
        have HTK := hide' (take_in ht.fi hmm)
        clear hd ht hfs hmm HT HDO u0 u1 u2 u3 u4 u5 u6 u7 u8
        go_wp2_with fail
        refine HTK.out.mono ?_
        rintro e w6 ⟨fq3, ad, cap, rfl, hi6, hw6, hm6, _⟩
        have HT6 := hide' (HT5.out.took hi6 hm6)
        have HW6 := hide' hw6
        have HDR6 := hide' (fun W (hs : Stay (fun _ => False) w6 W) => HDB.out W (HT6.out.fi.stay.trans hs))
        clear hi6 hw6 hm6 HTK HT5 HDB
        have HS60 := hide' (Stay.refl (fun _ => False) w6)
        go_wp2
        go_loopg [11] mm (fun gg v11 wr => ∃ j : Nat, j ≤ mm ∧ gg = mm - j ∧ v11 = .int .i64 (j : Int) ∧ Hid (Stay (fun _ => False) w6 wr))
        case atStart => exact ⟨0, Nat.zero_le _, rfl, rfl, HS60⟩
        case round =>
          clear HS60
          obtain ⟨j, hjm, rfl, rfl, HS⟩ := hrel
          by_cases hlj : j < mm
          · have hz2 : (j : Int) < (mm : Nat) := by omega
            obtain ⟨q, hq⟩ : ∃ q, M[j]? = some q := ⟨_, List.getElem?_eq_getElem (by have := HMM.out; omega)⟩
            obtain ⟨ng, no, e⟩ : ∃ ng no, ad = some ⟨ng, no, none⟩ := by
              rcases HW6.out.2 with ⟨_, e0⟩ | ⟨g, o, c, e, _⟩
              · omega
              · cases e; exact ⟨g, o, rfl⟩
            subst e
            have hfr := HW6.out.front (k := mm) (Nat.le_refl _)
            have hln : (wrs M).length = mm * 6 := by rw [wrs_len, HMM.out]
            rw [List.take_of_length_le (by omega)] at hfr
            have hwr := wr_at (L := M) (by rw [HMM.out]; exact hfr) j q hq
            have HWR := hide' (hwr.keep HS.out)
            have HDR := hide' (HDR6.out wr HS.out)
            have hgd := HGD.out q (List.mem_of_getElem? hq)
            have HOWN := hide' (fun W (hs : Stay (fun _ => False) wr W) => owner19 ⟨sb, v⟩ 10 10 m L q.x q.y W ((HT6.out.keep (HS.out.trans hs)).sa) HOP.out (by have := hgd.2; unfold I64; omega) (by have := hgd.2; unfold I64; omega))
            rw [hgd.1] at HOWN
            have hS : (fun w' => Stay (fun _ => False) wr w') wr.drew := (Stay.refl _ _).drew
            clear hq hfr hln hwr hgd
            go_upto_region 17 with fail
            refine wp_region_mix (fun w' => Stay (fun _ => False) wr w') [(0, true), (1, true), (2, true), (3, true), (4, true), (5, true), (6, true), (7, true), (8, true), (9, true), (10, true), (12, true), (13, true), (14, true), (15, true), (16, true), (11, false), (17, true)] (by kernel_rfl) (by kernel_rfl) (fun _ d _ _ _ h => by cases d <;> exact h) hS ?_
            refine mix_begin (fun K0 hK0 => ?_)
            refine mix_take hK0 (some 55) (.move (.tmp 6)) 28 _ (by kernel_rfl) (by kernel_rfl) (fun w' hS' => by (obtain ⟨x0, x1, _⟩ := HWR.out.keep hS'; obtain ⟨_, y1, _⟩ := HDR.out.keep hS'; simp only at x0 x1 y1; simp only [opr]; go_simp; try with_reducible rfl)) (fun K1 hK1 => ?_)
            clear hK0 K0
            simp only [Act.put, List.setIfInBounds_toArray, List.set_cons_zero, List.set_cons_succ]
            refine mix_take hK1 (some 56) (.move (.tmp 10)) 55 _ (by kernel_rfl) (by kernel_rfl) (fun w' hS' => by (obtain ⟨x0, x1, _⟩ := HWR.out.keep hS'; obtain ⟨_, y1, _⟩ := HDR.out.keep hS'; simp only at x0 x1 y1; simp only [opr]; go_simp; try with_reducible rfl)) (fun K2 hK2 => ?_)
            clear hK1 K1
            simp only [Act.put, List.setIfInBounds_toArray, List.set_cons_zero, List.set_cons_succ]
            refine mix_take hK2 (some 57) (.move (.tmp 11)) 3 _ (by kernel_rfl) (by kernel_rfl) (fun w' hS' => by (obtain ⟨x0, x1, _⟩ := HWR.out.keep hS'; obtain ⟨_, y1, _⟩ := HDR.out.keep hS'; simp only at x0 x1 y1; simp only [opr]; go_simp; try with_reducible rfl)) (fun K3 hK3 => ?_)
            clear hK2 K2
            simp only [Act.put, List.setIfInBounds_toArray, List.set_cons_zero, List.set_cons_succ]
            refine mix_take hK3 (some 58) (.indexAddr 55 (.tmp 56) (.tmp 57)) 0 _ (by kernel_rfl) (by kernel_rfl) (fun w' hS' => by (obtain ⟨x0, x1, _⟩ := HWR.out.keep hS'; obtain ⟨_, y1, _⟩ := HDR.out.keep hS'; simp only at x0 x1 y1; simp only [opr]; go_simp; try with_reducible rfl)) (fun K4 hK4 => ?_)
            clear hK3 K3
            simp only [Act.put, List.setIfInBounds_toArray, List.set_cons_zero, List.set_cons_succ]
            refine mix_take hK4 (some 59) (.fieldAddr 59 (.tmp 58) 0) 0 _ (by kernel_rfl) (by kernel_rfl) (fun w' hS' => by (obtain ⟨x0, x1, _⟩ := HWR.out.keep hS'; obtain ⟨_, y1, _⟩ := HDR.out.keep hS'; simp only at x0 x1 y1; simp only [opr]; go_simp; try with_reducible rfl)) (fun K5 hK5 => ?_)
            clear hK4 K4
            simp only [Act.put, List.setIfInBounds_toArray, List.set_cons_zero, List.set_cons_succ]
            refine mix_take hK5 (some 60) (.load 3 (.tmp 59)) 3 _ (by kernel_rfl) (by kernel_rfl) (fun w' hS' => by (obtain ⟨x0, x1, _⟩ := HWR.out.keep hS'; obtain ⟨_, y1, _⟩ := HDR.out.keep hS'; simp only at x0 x1 y1; simp only [opr]; go_simp; try with_reducible rfl)) (fun K6 hK6 => ?_)
            clear hK5 K5
            simp only [Act.put, List.setIfInBounds_toArray, List.set_cons_zero, List.set_cons_succ]
            refine mix_take hK6 (some 61) (.move (.tmp 10)) 55 _ (by kernel_rfl) (by kernel_rfl) (fun w' hS' => by (obtain ⟨x0, x1, _⟩ := HWR.out.keep hS'; obtain ⟨_, y1, _⟩ := HDR.out.keep hS'; simp only at x0 x1 y1; simp only [opr]; go_simp; try with_reducible rfl)) (fun K7 hK7 => ?_)
            clear hK6 K6
            simp only [Act.put, List.setIfInBounds_toArray, List.set_cons_zero, List.set_cons_succ]
            refine mix_take hK7 (some 62) (.move (.tmp 11)) 3 _ (by kernel_rfl) (by kernel_rfl) (fun w' hS' => by (obtain ⟨x0, x1, _⟩ := HWR.out.keep hS'; obtain ⟨_, y1, _⟩ := HDR.out.keep hS'; simp only at x0 x1 y1; simp only [opr]; go_simp; try with_reducible rfl)) (fun K8 hK8 => ?_)
            clear hK7 K7
            simp only [Act.put, List.setIfInBounds_toArray, List.set_cons_zero, List.set_cons_succ]
            refine mix_take hK8 (some 63) (.indexAddr 55 (.tmp 61) (.tmp 62)) 0 _ (by kernel_rfl) (by kernel_rfl) (fun w' hS' => by (obtain ⟨x0, x1, _⟩ := HWR.out.keep hS'; obtain ⟨_, y1, _⟩ := HDR.out.keep hS'; simp only at x0 x1 y1; simp only [opr]; go_simp; try with_reducible rfl)) (fun K9 hK9 => ?_)
            clear hK8 K8
            simp only [Act.put, List.setIfInBounds_toArray, List.set_cons_zero, List.set_cons_succ]
            refine mix_take hK9 (some 64) (.fieldAddr 59 (.tmp 63) 1) 0 _ (by kernel_rfl) (by kernel_rfl) (fun w' hS' => by (obtain ⟨x0, x1, _⟩ := HWR.out.keep hS'; obtain ⟨_, y1, _⟩ := HDR.out.keep hS'; simp only at x0 x1 y1; simp only [opr]; go_simp; try with_reducible rfl)) (fun K10 hK10 => ?_)
            clear hK9 K9
            simp only [Act.put, List.setIfInBounds_toArray, List.set_cons_zero, List.set_cons_succ]
            refine mix_take hK10 (some 65) (.load 3 (.tmp 64)) 3 _ (by kernel_rfl) (by kernel_rfl) (fun w' hS' => by (obtain ⟨x0, x1, _⟩ := HWR.out.keep hS'; obtain ⟨_, y1, _⟩ := HDR.out.keep hS'; simp only at x0 x1 y1; simp only [opr]; go_simp; try with_reducible rfl)) (fun K11 hK11 => ?_)
            clear hK10 K10
            simp only [Act.put, List.setIfInBounds_toArray, List.set_cons_zero, List.set_cons_succ]
            refine mix_take hK11 (some 67) (.move (.tmp 1)) 23 _ (by kernel_rfl) (by kernel_rfl) (fun w' hS' => by (obtain ⟨x0, x1, _⟩ := HWR.out.keep hS'; obtain ⟨_, y1, _⟩ := HDR.out.keep hS'; simp only at x0 x1 y1; simp only [opr]; go_simp; try with_reducible rfl)) (fun K12 hK12 => ?_)
            clear hK11 K11
            simp only [Act.put, List.setIfInBounds_toArray, List.set_cons_zero, List.set_cons_succ]
            refine mix_take hK12 (some 68) (.move (.tmp 7)) 3 _ (by kernel_rfl) (by kernel_rfl) (fun w' hS' => by (obtain ⟨x0, x1, _⟩ := HWR.out.keep hS'; obtain ⟨_, y1, _⟩ := HDR.out.keep hS'; simp only at x0 x1 y1; simp only [opr]; go_simp; try with_reducible rfl)) (fun K13 hK13 => ?_)
            clear hK12 K12
            simp only [Act.put, List.setIfInBounds_toArray, List.set_cons_zero, List.set_cons_succ]
            refine mix_take hK13 (some 69) (.indexAddr 23 (.tmp 67) (.tmp 68)) 0 _ (by kernel_rfl) (by kernel_rfl) (fun w' hS' => by (obtain ⟨x0, x1, _⟩ := HWR.out.keep hS'; obtain ⟨_, y1, _⟩ := HDR.out.keep hS'; simp only at x0 x1 y1; simp only [opr]; go_simp; try with_reducible rfl)) (fun K14 hK14 => ?_)
            clear hK13 K13
            simp only [Act.put, List.setIfInBounds_toArray, List.set_cons_zero, List.set_cons_succ]
            refine mix_take hK14 (some 70) (.fieldAddr 43 (.tmp 69) 1) 0 _ (by kernel_rfl) (by kernel_rfl) (fun w' hS' => by (obtain ⟨x0, x1, _⟩ := HWR.out.keep hS'; obtain ⟨_, y1, _⟩ := HDR.out.keep hS'; simp only at x0 x1 y1; simp only [opr]; go_simp; try with_reducible rfl)) (fun K15 hK15 => ?_)
            clear hK14 K14
            simp only [Act.put, List.setIfInBounds_toArray, List.set_cons_zero, List.set_cons_succ]
            refine mix_take hK15 (some 71) (.load 3 (.tmp 70)) 3 _ (by kernel_rfl) (by kernel_rfl) (fun w' hS' => by (obtain ⟨x0, x1, _⟩ := HWR.out.keep hS'; obtain ⟨_, y1, _⟩ := HDR.out.keep hS'; simp only at x0 x1 y1; simp only [opr]; go_simp; try with_reducible rfl)) (fun K16 hK16 => ?_)
            clear hK15 K15
            simp only [Act.put, List.setIfInBounds_toArray, List.set_cons_zero, List.set_cons_succ]
            refine mix_call hK16 (some 66) 19 #[.tmp 55, .tmp 60, .tmp 65] #[28, 3, 3] 3 _ (by kernel_rfl) (by kernel_rfl) (enters Try.func19 (by kernel_rfl) (by kernel_rfl)) (by go_simp; try with_reducible rfl) (fun K17 hK17 => ?_)
            clear hK16 K16
            refine ((HOWN.out _ hS)).mono ?_
            rintro e wm1 ⟨rfl, hs1⟩
            have hS1 : _ := (hS.trans hs1)
            refine ⟨_, rfl, hS1, ?_⟩
            clear hs1
            simp only [Act.put, List.setIfInBounds_toArray, List.set_cons_zero, List.set_cons_succ]
            refine mix_take hK17 (some 72) (.binOp BinOp.neq 3 (.tmp 66) (.tmp 71) 3) 4 _ (by kernel_rfl) (by kernel_rfl) (fun w' hS' => by (obtain ⟨x0, x1, _⟩ := HWR.out.keep hS'; obtain ⟨_, y1, _⟩ := HDR.out.keep hS'; simp only at x0 x1 y1; simp only [opr]; go_simp; try with_reducible rfl)) (fun K18 hK18 => ?_)
            clear hK17 K17
            simp only [Act.put, List.setIfInBounds_toArray, List.set_cons_zero, List.set_cons_succ]
            refine hK18 _ _ (mix_nil ?_)
            clear hK18 K18
            have HS2 := hide' (HS.out.trans hS1)
            clear HWR HDR HOWN
            go_wp2
            go_roundg (mm - (j + 1))
            case measure => omega
            case rel => exact ⟨j + 1, by omega, rfl, by go_num, HS2⟩
          · have hjj : j = mm := by omega
            subst hjj
            have HXN : Hid (∃ fq f, TwIn w wr fb sb 10 10 fq f [] v m L) := hide' ⟨_, _, HT6.out.keep HS.out⟩
            clear HT6 HW6 HDR6 HS
            go_wp2
            go_roundg (k - (i + 1))
            case measure => omega
            case rel => exact ⟨i + 1, by omega, rfl, by go_num, HXN⟩
      · have hik2 : i = k := by omega
        subst hik2
        have HS1 := hide' hT.fi.stay
        clear hT HX
        go_wp2_with fail
        refine (awake7 D _).mono ?_
        rintro _ w2 ⟨rfl, hs⟩
        have HS2 := hide' (HS1.out.trans hs)
        clear hs
        go_wp2
        go_ret
        exact ⟨rfl, HS2.out⟩
  · skip
    go_wp2_with fail
    refine (awake7 D _).mono ?_
    rintro _ w2 ⟨rfl, hs⟩
    have HS2 := hide' (HS1.out.trans hs)
    clear hs
    go_wp2
    go_ret
    exact ⟨rfl, HS2.out⟩

end Go.Proofs.Yticccknocjnkpaa
