/-
  UartPlays walked: true of any arguments. No conditions.
-/
import Derived.Test.YtffdkkbinkonbaaE4
import Derived.Test.YtffdkkbinkonbaaA3
namespace Go.Proofs.Ytffdkkbinkonbaa
open Go.RowKit

attribute [local go_sem] extract0 extract1

/-- Acts that came in, one by one. -/
def Acts (w : World) (ad : Option Addr) (n : Nat) (D N : Nat → Int) (A : Nat → Option Addr) (K : Nat → List Int) (C : Nat → Nat) : Prop :=
  ∀ i, i < n → ∃ g o, ad = some ⟨g, o, none⟩ ∧ w.cell? ⟨g, o + i * 3, none⟩ = some (.int .i64 (D i)) ∧ w.cell? ⟨g, o + i * 3 + 1, none⟩ = some (.int .i64 (N i)) ∧ w.cell? ⟨g, o + i * 3 + 2, none⟩ = some (.slice (A i) (K i).length (C i)) ∧ IArg .u8 w (.slice (A i) (K i).length (C i)) (K i) (A i) (C i)

set_option maxRecDepth 100000 in
theorem uplays_long (ad : Option Addr) (n cap : Nat) (x : Int) (w : World) (hle : (n : Int) ≤ 9223372036854775807) (hn : 80 < n) : Calls Try.prog 3 #[.int .i64 x, .slice ad n cap] w (LawTrue w) := by
  have n1 : (80 : Int) < (n : Nat) := by omega
  have HAW := hide' awake6
  go_enter Try.func3, Try.ntmps3
  go_wp2_with fail
  refine (HAW.out _).mono ?_
  rintro e w9 ⟨rfl, hs⟩
  have HE := hide' hs
  clear hs
  go_wp2
  go_ret
  exact ⟨rfl, HE.out⟩

set_option maxRecDepth 100000 in
theorem uplays_room (ad : Option Addr) (n cap : Nat) (x : Int) (w : World) (hn : n ≤ 80) (hx : 20 < x) : Calls Try.prog 3 #[.int .i64 x, .slice ad n cap] w (LawTrue w) := by
  have n1 : ¬ (80 : Int) < (n : Nat) := by omega
  have HAW := hide' awake6
  go_enter Try.func3, Try.ntmps3
  go_wp2_with fail
  refine (HAW.out _).mono ?_
  rintro e w9 ⟨rfl, hs⟩
  have HE := hide' hs
  clear hs
  go_wp2
  go_ret
  exact ⟨rfl, HE.out⟩

set_option maxRecDepth 100000 in
theorem uplays_none (ad : Option Addr) (n cap : Nat) (x : Int) (w : World) (hn : n ≤ 80) (hx : x < 1) : Calls Try.prog 3 #[.int .i64 x, .slice ad n cap] w (LawTrue w) := by
  have n1 : ¬ (80 : Int) < (n : Nat) := by omega
  have n2 : ¬ (20 : Int) < x := by omega
  have n3 : ¬ (1 : Int) ≤ x := by omega
  have HAW := hide' awake6
  have HNO := hide' (new7_no x w hx)
  go_enter Try.func3, Try.ntmps3
  go_wp2_with fail
  refine HNO.out.mono ?_
  rintro e w1 ⟨rfl, hs⟩
  have HS1 := hide' hs
  clear hs HNO
  go_wp2_with fail
  refine (HAW.out _).mono ?_
  rintro e w9 ⟨rfl, hs⟩
  have HE := hide' (HS1.out.trans hs)
  clear hs
  go_wp2
  go_ret
  exact ⟨rfl, HE.out⟩

set_option maxRecDepth 100000 in
set_option maxHeartbeats 8000000 in
theorem uplays_go (ad : Option Addr) (n cap r : Nat) (D N : Nat → Int) (A : Nat → Option Addr) (K : Nat → List Int) (C : Nat → Nat) (w : World) (hA : Acts w ad n D N A K C) (hn : n ≤ 80) (hr1 : 1 ≤ r) (hr20 : r ≤ 20) : Calls Try.prog 3 #[.int .i64 (r : Nat), .slice ad n cap] w (LawTrue w) := by
  have HA := hide' hA
  have HAW := hide' awake6
  have n1 : ¬ (80 : Int) < (n : Nat) := by omega
  have n2 : ¬ (20 : Int) < (r : Nat) := by omega
  have n3 : (1 : Int) ≤ (r : Nat) := by omega
  have HN := hide' (new_in (w0 := w) r (Stay.refl _ w) (by omega) (by omega))
  clear hA
  go_enter Try.func3, Try.ntmps3
  go_wp2_with fail
  refine HN.out.mono ?_
  rintro e w1 ⟨q0, rfl, hi, hs⟩
  obtain ⟨b, hb⟩ : ∃ b, b = q0.b := ⟨_, rfl⟩
  rw [← hb] at hi
  rw [← hb]
  have HI := hide' hi
  clear hb hi hs HN
  go_upto_region 9 with fail
  obtain ⟨xb, hxb⟩ : ∃ B, B = w1.heap.size := ⟨_, rfl⟩
  obtain ⟨w2, hw2⟩ : ∃ W, W = w1.alloc (.cells #[.slice none 0 0, .slice none 0 0, .bool false] 29) := ⟨_, rfl⟩
  have HC0 : Hid (PG w b r xb false [] [] false [] [] (.slice none 0 0) (.slice none 0 0) q0 w2) := by
    have hst : Stay (fun _ => False) w1 w2 := by rw [hw2]; exact (Stay.refl _ _).alloc _
    exact ⟨HI.out.keep hst, by rw [hw2]; exact DBox.new ⟨.slice none 0 0, .slice none 0 0, false⟩ hxb.symm, Win.nil _ _, Win.nil _ _, by rw [hxb]; exact HI.out.stay.size, fun h => by have := HI.out.at'.lt _ h; omega, (fun j hj => by cases hj), (fun j hj => by cases hj)⟩
  rw [← hw2, ← hxb]
  clear hw2 hxb HI
  go_wp2_with fail
  go_loopg [7] n (fun gg v7 wr => ∃ (i : Nat) (o : Bool) (L : List (Int × Int)) (M : List Int), i ≤ n ∧ gg = n - i ∧ v7 = .int .i64 (i : Int) ∧ ∃ vi vo q, Hid (PG w b r xb o L M o L M vi vo q wr))
  case atStart => exact ⟨0, false, [], [], Nat.zero_le _, rfl, rfl, _, _, q0, HC0.out⟩
  case round =>
    clear HC0
    obtain ⟨i, o, L, M, hi, rfl, rfl, vi, vo, q, HC⟩ := hrel
    by_cases hlt : i < n
    · have kn : (i : Int) < (n : Nat) := by omega
      obtain ⟨lb, lo, rfl, c0, c1, c2, hB⟩ := HA.out i hlt
      obtain ⟨d, hd⟩ : ∃ d, d = D i := ⟨_, rfl⟩
      obtain ⟨nn, hnn⟩ : ∃ d, d = N i := ⟨_, rfl⟩
      obtain ⟨bl, hbl⟩ : ∃ d, d = K i := ⟨_, rfl⟩
      obtain ⟨ba, hba⟩ : ∃ d, d = A i := ⟨_, rfl⟩
      obtain ⟨bc, hbc⟩ : ∃ d, d = C i := ⟨_, rfl⟩
      rw [← hd] at c0
      rw [← hnn] at c1
      rw [← hbl, ← hba, ← hbc] at c2 hB
      obtain ⟨bn, hbn⟩ : ∃ n, n = bl.length := ⟨_, rfl⟩
      rw [← hbn] at c2 hB
      have HB := hide' hB
      have HBN := hide' hbn
      have d0 := keep_cell HC.out.lin.stay c0
      have d1 := keep_cell HC.out.lin.stay c1
      have d2 := keep_cell HC.out.lin.stay c2
      have hbmax : (bn : Int) ≤ 9223372036854775807 := by have h1 := hB.lenLe; have h2 := hB.capLe; unfold maxLen at h2; omega
      clear c0 c1 c2 hd hnn hbl hba hbc hB hbn
      by_cases h40 : bn ≤ 40
      · have b40 : ¬ (40 : Int) < (bn : Nat) := by omega
        obtain ⟨ia, ic, hvi, hic, _⟩ := HC.out.rin.shape
        obtain ⟨oa, oc, hvo, hoc, _⟩ := HC.out.rout.shape
        obtain ⟨ln, hln⟩ : ∃ n, n = L.length := ⟨_, rfl⟩
        obtain ⟨mn, hmn⟩ : ∃ n, n = M.length := ⟨_, rfl⟩
        rw [← hln] at hvi hic
        rw [← hmn] at hvo hoc
        subst hvi hvo
        have HLN := hide' hln
        have HMN := hide' hmn
        have HIC := hide' hic
        have HOC := hide' hoc
        have HLR : Hid (ln ≤ r ∧ mn ≤ r) := by rw [hln, hmn]; exact HC.out.len
        clear hln hmn hic hoc
        go_upto_region 13 with fail
        obtain ⟨ab, hab⟩ : ∃ B, B = wr.heap.size := ⟨_, rfl⟩
        obtain ⟨W1, hW1⟩ : ∃ W, W = wr.alloc (.cells #[.int .i64 d, .int .i64 nn, .slice ba bn bc] 31) := ⟨_, rfl⟩
        have hst : Stay (fun _ => False) wr W1 := by rw [hW1]; exact (Stay.refl _ _).alloc _
        have HAB : Hid (ABox W1 ab ⟨d, nn, .slice ba bn bc⟩) := by rw [hW1]; exact ABox.new ⟨d, nn, .slice ba bn bc⟩ hab.symm
        have HAX : Hid (¬ q.own ab ∧ ab ≠ xb) := HC.out.fresh (by omega)
        have HP := hide' (HC.out.keep hst)
        rw [← hW1, ← hab]
        clear hW1 hab hst HC d0 d1 d2
        by_cases h0 : d = 0
        · subst h0
          by_cases hlr : L.length < r
          · obtain ⟨x, hx⟩ : ∃ x, x = nn % 256 := ⟨_, rfl⟩
            obtain ⟨f, hf⟩ : ∃ f, f = wrap64 (nn.tdiv 256) := ⟨_, rfl⟩
            have hx' := hx.symm
            have hf' := hf.symm
            clear hx hf
            have HREF := hide' (ref_in x f true HP.out hr20 HP.out.len.1 (by rw [decide_eq_true hlr]))
            obtain ⟨a0, a1, a2, _, _, _⟩ := HAB.out
            simp only at a0 a1 a2
            obtain ⟨x0, x1, x2, y0, y1, y2⟩ := HP.out.box
            simp only at x0 x1 x2
            go_wp2_with fail
            refine HREF.out.mono ?_
            rintro e w2 ⟨vi2, rfl, hs, hw, hn⟩
            obtain ⟨L2, hL2⟩ : ∃ L2, L2 = (L ++ [(x, flagB o f)]) := ⟨_, rfl⟩
            have hw2 : Win w2 2 vi2 L2.length (its L2) := by rw [hL2]; exact hw
            obtain ⟨ja, jc, hvi2, _, _⟩ := hw2.shape
            obtain ⟨ln2, hln2⟩ : ∃ n, n = L2.length := ⟨_, rfl⟩
            rw [← hln2] at hvi2
            subst hvi2
            have HLN2 := hide' hln2
            have HMN2 := HMN
            have HL2 := hide' hL2
            have hn2 : ∀ j, (Value.slice ja ln2 jc).ownBlock = some j → ¬ q.own j ∧ j ≠ xb := fun j hj => by
              rcases hn j hj with h | h
              · exact HP.out.oi j h
              · exact HP.out.fresh h
            have HNN := hide' hn2
            have HW2 := hide' hw2
            have HPB := hide' (HP.out.keep hs)
            have HABB := hide' (HAB.out.keep hs)
            clear hs hw hw2 hn hn2 hL2 hln2 HP HAB HREF
            clear a0 a1 a2
            clear x0 x1 x2 y0 y1 y2
            go_upto_region 18 with fail
            obtain ⟨yb, hyb⟩ : ∃ B, B = w2.heap.size := ⟨_, rfl⟩
            obtain ⟨W3, hW3⟩ : ∃ W, W = w2.alloc (.cells #[.slice ja ln2 jc, .slice oa mn oc, .bool false] 29) := ⟨_, rfl⟩
            have hst : Stay (fun _ => False) w2 W3 := by rw [hW3]; exact (Stay.refl _ _).alloc _
            have HP := hide' (HPB.out.keep hst)
            have HAB := hide' (HABB.out.keep hst)
            have HYB : Hid (DBox W3 yb ⟨.slice ja ln2 jc, .slice oa mn oc, false⟩) := by rw [hW3]; exact DBox.new ⟨.slice ja ln2 jc, .slice oa mn oc, false⟩ hyb.symm
            have HW3 : Hid (Win W3 2 (.slice ja ln2 jc) L2.length (its L2)) := HW2.out.stay hst (fun _ _ h => h)
            rw [← hW3, ← hyb]
            clear hW3 hyb hst HPB HABB HW2
            obtain ⟨x0, x1, x2, y0, y1, y2⟩ := HP.out.box
            simp only at x0 x1 x2
            obtain ⟨v0, v1, v2, _, _, _⟩ := HYB.out
            simp only at v0 v1 v2
            go_upto_region 19 with fail
            generalize hW : World.setCell (World.setCell (World.setCell _ _ _) _ _) _ _ = W4
            have hbx : DBox W4 xb ⟨.slice ja ln2 jc, .slice oa mn oc, false⟩ := by rw [← hW]; exact HP.out.box.put ⟨.slice ja ln2 jc, .slice oa mn oc, false⟩
            have hst : Stay (fun j => j = xb) W3 W4 := by rw [← hW]; exact (((Stay.refl (fun j => j = xb) _).setCell (p := ⟨xb, 0, none⟩) rfl _).setCell (p := ⟨xb, 1, none⟩) rfl _).setCell (p := ⟨xb, 2, none⟩) rfl _
            have HP' := hide' (HP.out.put (L2 := L2) (M2 := M) hst hbx HW3.out HP.out.rout HNN.out HP.out.oo)
            have HAB' := hide' (HAB.out.stay hst HAX.out.2)
            clear hW hbx hst HP HAB
            clear x0 x1 x2 y0 y1 y2
            have HP := HP'
            have HAB := HAB'
            clear HP' HAB'
            clear v0 v1 v2 HYB HW3 HNN
            have HRC := hide' (receive_in x f true HP.out.lin (by rw [decide_eq_true hlr]))
            obtain ⟨a0, a1, a2, _, _, _⟩ := HAB.out
            simp only at a0 a1 a2
            go_wp2_with fail
            refine HRC.out.mono ?_
            rintro e w5 ⟨q2, rfl, hl, hm⟩
            have HP' : Hid (PG w b r xb false L2 M false L2 M (.slice ja ln2 jc) (.slice oa mn oc) q2 w5) := HP.out.move (by rw [HL2.out]; exact hl) hm
            clear hl hm HRC HP HAB HAX hx' hf'
            clear a0 a1 a2
            have HP := HP'
            clear HP'
            have HWT := hide' (waits_in ln2 mn HP.out.lin HLN2.out.symm HMN2.out.symm)
            go_wp2_with fail
            refine HWT.out.mono ?_
            rintro e w10 ⟨rfl, _, hs⟩
            have HPF := hide' (HP.out.keep hs)
            clear hs HWT HP
            obtain ⟨x0, x1, x2, y0, y1, y2⟩ := HPF.out.box
            simp only at x0 x1 x2
            go_wp2
            go_roundg (n - (i + 1))
            case measure => omega
            case rel => exact ⟨i + 1, false, L2, M, by omega, rfl, by go_num, _, _, q2, HPF.out⟩
          · obtain ⟨x, hx⟩ : ∃ x, x = nn % 256 := ⟨_, rfl⟩
            obtain ⟨f, hf⟩ : ∃ f, f = wrap64 (nn.tdiv 256) := ⟨_, rfl⟩
            have hx' := hx.symm
            have hf' := hf.symm
            clear hx hf
            have HREF := hide' (ref_in x f false HP.out hr20 HP.out.len.1 (by rw [decide_eq_false hlr]))
            obtain ⟨a0, a1, a2, _, _, _⟩ := HAB.out
            simp only at a0 a1 a2
            obtain ⟨x0, x1, x2, y0, y1, y2⟩ := HP.out.box
            simp only at x0 x1 x2
            go_wp2_with fail
            refine HREF.out.mono ?_
            rintro e w2 ⟨vi2, rfl, hs, hw, hn⟩
            obtain ⟨L2, hL2⟩ : ∃ L2, L2 = L := ⟨_, rfl⟩
            have hw2 : Win w2 2 vi2 L2.length (its L2) := by rw [hL2]; exact hw
            obtain ⟨ja, jc, hvi2, _, _⟩ := hw2.shape
            obtain ⟨ln2, hln2⟩ : ∃ n, n = L2.length := ⟨_, rfl⟩
            rw [← hln2] at hvi2
            subst hvi2
            have HLN2 := hide' hln2
            have HMN2 := HMN
            have HL2 := hide' hL2
            have hn2 : ∀ j, (Value.slice ja ln2 jc).ownBlock = some j → ¬ q.own j ∧ j ≠ xb := fun j hj => by
              rcases hn j hj with h | h
              · exact HP.out.oi j h
              · exact HP.out.fresh h
            have HNN := hide' hn2
            have HW2 := hide' hw2
            have HPB := hide' (HP.out.keep hs)
            have HABB := hide' (HAB.out.keep hs)
            clear hs hw hw2 hn hn2 hL2 hln2 HP HAB HREF
            clear a0 a1 a2
            clear x0 x1 x2 y0 y1 y2
            go_upto_region 18 with fail
            obtain ⟨yb, hyb⟩ : ∃ B, B = w2.heap.size := ⟨_, rfl⟩
            obtain ⟨W3, hW3⟩ : ∃ W, W = w2.alloc (.cells #[.slice ja ln2 jc, .slice oa mn oc, .bool true] 29) := ⟨_, rfl⟩
            have hst : Stay (fun _ => False) w2 W3 := by rw [hW3]; exact (Stay.refl _ _).alloc _
            have HP := hide' (HPB.out.keep hst)
            have HAB := hide' (HABB.out.keep hst)
            have HYB : Hid (DBox W3 yb ⟨.slice ja ln2 jc, .slice oa mn oc, true⟩) := by rw [hW3]; exact DBox.new ⟨.slice ja ln2 jc, .slice oa mn oc, true⟩ hyb.symm
            have HW3 : Hid (Win W3 2 (.slice ja ln2 jc) L2.length (its L2)) := HW2.out.stay hst (fun _ _ h => h)
            rw [← hW3, ← hyb]
            clear hW3 hyb hst HPB HABB HW2
            obtain ⟨x0, x1, x2, y0, y1, y2⟩ := HP.out.box
            simp only at x0 x1 x2
            obtain ⟨v0, v1, v2, _, _, _⟩ := HYB.out
            simp only at v0 v1 v2
            go_upto_region 19 with fail
            generalize hW : World.setCell (World.setCell (World.setCell _ _ _) _ _) _ _ = W4
            have hbx : DBox W4 xb ⟨.slice ja ln2 jc, .slice oa mn oc, true⟩ := by rw [← hW]; exact HP.out.box.put ⟨.slice ja ln2 jc, .slice oa mn oc, true⟩
            have hst : Stay (fun j => j = xb) W3 W4 := by rw [← hW]; exact (((Stay.refl (fun j => j = xb) _).setCell (p := ⟨xb, 0, none⟩) rfl _).setCell (p := ⟨xb, 1, none⟩) rfl _).setCell (p := ⟨xb, 2, none⟩) rfl _
            have HP' := hide' (HP.out.put (L2 := L2) (M2 := M) hst hbx HW3.out HP.out.rout HNN.out HP.out.oo)
            have HAB' := hide' (HAB.out.stay hst HAX.out.2)
            clear hW hbx hst HP HAB
            clear x0 x1 x2 y0 y1 y2
            have HP := HP'
            have HAB := HAB'
            clear HP' HAB'
            clear v0 v1 v2 HYB HW3 HNN
            have HRC := hide' (receive_in x f false HP.out.lin (by rw [decide_eq_false hlr]))
            obtain ⟨a0, a1, a2, _, _, _⟩ := HAB.out
            simp only at a0 a1 a2
            go_wp2_with fail
            refine HRC.out.mono ?_
            rintro e w5 ⟨q2, rfl, hl, hm⟩
            have HP' : Hid (PG w b r xb true L2 M true L2 M (.slice ja ln2 jc) (.slice oa mn oc) q2 w5) := HP.out.move (by rw [HL2.out]; exact hl) hm
            clear hl hm HRC HP HAB HAX hx' hf'
            clear a0 a1 a2
            have HP := HP'
            clear HP'
            have HWT := hide' (waits_in ln2 mn HP.out.lin HLN2.out.symm HMN2.out.symm)
            go_wp2_with fail
            refine HWT.out.mono ?_
            rintro e w10 ⟨rfl, _, hs⟩
            have HPF := hide' (HP.out.keep hs)
            clear hs HWT HP
            obtain ⟨x0, x1, x2, y0, y1, y2⟩ := HPF.out.box
            simp only at x0 x1 x2
            go_wp2
            go_roundg (n - (i + 1))
            case measure => omega
            case rel => exact ⟨i + 1, true, L2, M, by omega, rfl, by go_num, _, _, q2, HPF.out⟩
        by_cases h1 : d = 1
        · subst h1
          clear HIC HOC
          cases L with
          | nil =>
            have HMN2 := HMN
            have hln0 : ln = 0 := HLN.out
            have HLN2 : Hid (0 = ([] : List (Int × Int)).length) := rfl
            subst hln0
            have HRD := hide' (read_no HP.out.lin)
            obtain ⟨a0, a1, a2, _, _, _⟩ := HAB.out
            simp only at a0 a1 a2
            go_wp2_with fail
            refine HRD.out.mono ?_
            rintro e w2 ⟨q2, rfl, hl, hm⟩
            have HP2 := hide' (HP.out.move hl hm)
            clear hl hm HRD HP HAB HAX
            clear a0 a1 a2
            go_upto_region 23 with fail
            obtain ⟨ib, hib⟩ : ∃ B, B = w2.heap.size := ⟨_, rfl⟩
            obtain ⟨W3, hW3⟩ : ∃ W, W = w2.alloc (.cells #[.int .u8 0, .int .i64 0] 36) := ⟨_, rfl⟩
            have hst : Stay (fun _ => False) w2 W3 := by rw [hW3]; exact (Stay.refl _ _).alloc _
            have HP := hide' (HP2.out.keep hst)
            have HIB : Hid (IBox W3 ib ⟨0, 0⟩) := by rw [hW3]; exact IBox.new ⟨0, 0⟩ hib.symm
            rw [← hW3, ← hib]
            clear hW3 hib hst HP2
            obtain ⟨x0, x1, x2, y0, y1, y2⟩ := HP.out.box
            simp only at x0 x1 x2
            obtain ⟨t0, t1, _, _⟩ := HIB.out
            simp only at t0 t1
            go_wp2_with fail
            go_quiet (fail)
            have HP' := hide' (HP.out.keep ((Stay.refl (fun _ => False) W3).drewN nq))
            clear HP HIB t0 t1
            clear x0 x1 x2 y0 y1 y2
            have HP := HP'
            clear HP'
            have HWT := hide' (waits_in 0 mn HP.out.lin HLN2.out.symm HMN2.out.symm)
            go_wp2_with fail
            refine HWT.out.mono ?_
            rintro e w10 ⟨rfl, _, hs⟩
            have HPF := hide' (HP.out.keep hs)
            clear hs HWT HP
            obtain ⟨x0, x1, x2, y0, y1, y2⟩ := HPF.out.box
            simp only at x0 x1 x2
            go_wp2
            go_roundg (n - (i + 1))
            case measure => omega
            case rel => exact ⟨i + 1, o, [], M, by omega, rfl, by go_num, _, _, q2, HPF.out⟩
          | cons p L =>
            obtain ⟨x, f⟩ := p
            have HMN2 := HMN
            have hln0 : ln = L.length + 1 := HLN.out
            obtain ⟨l1, hl1⟩ : ∃ n, n = L.length := ⟨_, rfl⟩
            rw [← hl1] at hln0
            have HLN2 := hide' hl1
            subst hln0
            have HRD := hide' (read_in HP.out.lin)
            obtain ⟨a0, a1, a2, _, _, _⟩ := HAB.out
            simp only at a0 a1 a2
            go_wp2_with fail
            refine HRD.out.mono ?_
            rintro e w2 ⟨q2, rfl, hl, hm⟩
            have HP2 := hide' (HP.out.move hl hm)
            have HAB2 := hide' (HAB.out.stay hm.1 HAX.out.1)
            have HAX2 : Hid (ab ≠ xb) := HAX.out.2
            clear hl hm HRD HP HAB HAX hl1
            clear a0 a1 a2
            go_upto_region 23 with fail
            obtain ⟨ib, hib⟩ : ∃ B, B = w2.heap.size := ⟨_, rfl⟩
            obtain ⟨W3, hW3⟩ : ∃ W, W = w2.alloc (.cells #[.int .u8 x, .int .i64 f] 36) := ⟨_, rfl⟩
            have hst : Stay (fun _ => False) w2 W3 := by rw [hW3]; exact (Stay.refl _ _).alloc _
            have HP := hide' (HP2.out.keep hst)
            have HIB : Hid (IBox W3 ib ⟨x, f⟩) := by rw [hW3]; exact IBox.new ⟨x, f⟩ hib.symm
            have HAB := hide' (HAB2.out.keep hst)
            have HAX : Hid (True ∧ ab ≠ xb) := ⟨trivial, HAX2.out⟩
            rw [← hW3, ← hib]
            clear hW3 hib hst HP2 HAB2 HAX2
            obtain ⟨x0, x1, x2, y0, y1, y2⟩ := HP.out.box
            simp only at x0 x1 x2
            obtain ⟨t0, t1, _, _⟩ := HIB.out
            simp only at t0 t1
            obtain ⟨ga, go, rfl, r0, r1⟩ : ∃ g o, ia = some ⟨g, o, none⟩ ∧ W3.cell? ⟨g, o, none⟩ = some (.int .u8 x) ∧ W3.cell? ⟨g, o + 1, none⟩ = some (.int .i64 f) := by
              rcases HP.out.rin.2 with ⟨h, h0⟩ | ⟨g, o, cap, h, _, _, _, h3, _⟩
              · simp at h0
              · cases h
                exact ⟨g, o, rfl, h3 0 _ rfl, h3 1 _ rfl⟩
            have l1z : (0 : Int) ≤ (l1 : Nat) := by omega
            go_wp2_with fail
            go_quiet (fail)
            go_upto_region 26 with fail
            obtain ⟨W4, hW4⟩ : ∃ W, W = W3.drewN nq := ⟨_, rfl⟩
            have hst : Stay (fun _ => False) W3 W4 := by rw [hW4]; exact (Stay.refl _ _).drewN _
            have HP' := hide' (HP.out.keep hst)
            have HAB' := hide' (HAB.out.keep hst)
            rw [← hW4]
            clear hW4 hst HP HAB HIB t0 t1 r0 r1
            clear x0 x1 x2 y0 y1 y2
            have HP := HP'
            have HAB := HAB'
            clear HP' HAB'
            obtain ⟨x0, x1, x2, y0, y1, y2⟩ := HP.out.box
            simp only at x0 x1 x2
            obtain ⟨va, hva⟩ : ∃ a, a = (if ic = 1 then (some ⟨ga, go, none⟩ : Option Addr) else (some ⟨ga, go, none⟩ : Option Addr).map (·.add (1 * 2))) := ⟨_, rfl⟩
            obtain ⟨nc, hnc⟩ : ∃ n, n = ic - 1 := ⟨_, rfl⟩
            have hsll : ∀ w, (Instr.slice 26 (.slice (some ⟨ga, go, none⟩) (l1 + 1) ic) (some (.int .i64 1)) none none).run Try.prog w = .ok (.slice va l1 nc) w := fun w => by
              rw [hva, hnc]
              exact slice_l_eq (P := Try.prog) (k := 1) elem26 size26 (by omega) w
            have HVW : Hid (Win W4 2 (.slice va l1 nc) L.length (its L) ∧ ∀ j, (Value.slice va l1 nc).ownBlock = some j → ¬ q2.own j ∧ j ≠ xb) := by
              have h := HP.out.rin
              rw [List.length_cons, ← HLN2.out] at h
              have h2 := h.drop (k := 1) (by omega)
              rw [its_drop, List.drop_one, List.tail_cons, ← hva, ← hnc, Nat.add_sub_cancel] at h2
              refine ⟨by rw [← HLN2.out]; exact h2, fun j hj => HP.out.oi j ?_⟩
              rw [hva, hnc, ← Nat.add_sub_cancel l1 1] at hj
              exact Win.drop_block j hj
            clear hva hnc
            go_upto_region 37 with fail
            generalize hW : World.setCell _ _ _ = W5
            have hbx : DBox W5 xb ⟨.slice va l1 nc, .slice oa mn oc, o⟩ := by rw [← hW]; exact HP.out.box.put0 (x := .slice va l1 nc) (q := ⟨.slice va l1 nc, .slice oa mn oc, o⟩) rfl
            have hst : Stay (fun j => j = xb) W4 W5 := by rw [← hW]; exact (Stay.refl (fun j => j = xb) _).setCell (p := ⟨xb, 0, none⟩) rfl _
            have HP' := hide' (HP.out.put (L2 := L) (M2 := M) hst hbx HVW.out.1 HP.out.rout HVW.out.2 HP.out.oo)
            have HAB' := hide' (HAB.out.stay hst HAX.out.2)
            clear hW hbx hst HP HAB
            clear x0 x1 x2 y0 y1 y2
            have HP := HP'
            have HAB := HAB'
            clear HP' HAB'
            clear HVW hsll
            have HWT := hide' (waits_in l1 mn HP.out.lin HLN2.out.symm HMN2.out.symm)
            go_wp2_with fail
            refine HWT.out.mono ?_
            rintro e w10 ⟨rfl, _, hs⟩
            have HPF := hide' (HP.out.keep hs)
            clear hs HWT HP
            obtain ⟨x0, x1, x2, y0, y1, y2⟩ := HPF.out.box
            simp only at x0 x1 x2
            go_wp2
            go_roundg (n - (i + 1))
            case measure => omega
            case rel => exact ⟨i + 1, o, L, M, by omega, rfl, by go_num, _, _, q2, HPF.out⟩
        by_cases h2 : d = 2
        · subst h2
          obtain ⟨dd, hdd⟩ : ∃ n, n = r - mn := ⟨_, rfl⟩
          have hm20 := HLR.out.2
          have e1 : IntKind.i64.wrap ((r : Int) - (mn : Nat)) = (dd : Nat) := by rw [IntKind.wrap_i64]; omega
          obtain ⟨k, hk⟩ : ∃ n, n = min bn dd := ⟨_, rfl⟩
          have e2 : min (bn : Int) (dd : Nat) = (k : Nat) := by omega
          have HKB : Hid (k ≤ bn ∧ k ≤ bc) := by have := HB.out.lenLe; rw [← HBN.out] at this; exact ⟨by omega, by omega⟩
          have HKR : Hid (k = min bn (r - M.length)) := by rw [← HMN.out, ← hdd]; exact hk
          have HM20 : Hid (mn ≤ 20 ∧ bn ≤ 40) := ⟨by omega, h40⟩
          have HSD := hide' (send_in ba bn bc k bl HP.out.lin (by have h := src_of_arg (HB.out.stay0 HP.out.lin.stay); rwa [← HBN.out] at h) HBN.out.symm (by have := HB.out.lenLe; rwa [← HBN.out] at this) (by omega) HKR.out)
          clear hdd hk hm20
          obtain ⟨a0, a1, a2, _, _, _⟩ := HAB.out
          simp only at a0 a1 a2
          obtain ⟨x0, x1, x2, y0, y1, y2⟩ := HP.out.box
          simp only at x0 x1 x2
          go_wp2_with fail
          refine HSD.out.mono ?_
          rintro e WA ⟨q2, rfl, hl, hm⟩
          have HPA := hide' (HP.out.move hl hm)
          have HABA := hide' (HAB.out.stay hm.1 HAX.out.1)
          have HABX : Hid (ab ≠ xb) := HAX.out.2
          clear hl hm HSD HP HAB HAX e1 e2
          clear a0 a1 a2
          clear x0 x1 x2 y0 y1 y2
          go_upto_region 31 with fail
          have HRO : Hid (∀ W, Stay (fun _ => False) WA W → IsRowS W 1 (.slice oa mn oc) mn (bys M)) := fun W hs => by
            have h := (HPA.out.keep hs).rout
            rw [← HMN.out] at h
            have h2 := h.front (Nat.le_refl _)
            rwa [bys_take, List.take_of_length_le (by rw [HMN.out]; exact Nat.le_refl _)] at h2
          have HRB : Hid (∀ W, Stay (fun _ => False) WA W → IsRowS W 1 (.slice ba k bc) k (bys (bl.take k))) := fun W hs => by
            have hkb := HKB.out.1
            have h := rowS_of_arg ((HB.out.stay0 (HPA.out.lin.stay.trans hs)).take k (by rw [← HBN.out]; exact hkb))
            rwa [List.length_take, ← HBN.out, Nat.min_eq_left hkb] at h
          have HN1 : Hid (0 + mn ≤ 1000000) := by have := HM20.out; show 0 + mn ≤ 1000000; omega
          have HN2 : Hid (0 + mn + k ≤ 1000000) := by have := HM20.out; have := HKB.out; show 0 + mn + k ≤ 1000000; omega
          refine any_begin (fun w' => ABox w' ab ⟨2, nn, .slice ba bn bc⟩) (by kernel_rfl) (fun K0 hK0 => ?_)
          have HST : Hid (Stay (fun _ => False) WA WA.drew) := (Stay.refl _ _).drew
          have HABW : Hid (ABox WA.drew ab ⟨2, nn, .slice ba bn bc⟩) := HABA.out.keep (Stay.refl _ _).drew
          obtain ⟨Wd, hWd⟩ : ∃ Wd, Wd = WA.drew := ⟨_, rfl⟩
          rw [← hWd] at HST HABW
          rw [← hWd]
          clear hWd
          refine any_take (i := 1) hK0 (some 134) (.fieldAddr 29 (.tmp 6) 1) 0 _ (by kernel_rfl) (fun _ d _ _ _ h => by cases d <;> exact h) (by kernel_rfl) (by kernel_rfl) (fun w' hS' => by simp only [opr]; go_simp; try with_reducible rfl) HABW.out (fun K1 hK1 => ?_)
          clear hK0 K0
          try simp only [Act.put, List.setIfInBounds_toArray, List.set_cons_zero, List.set_cons_succ]
          refine any_take (i := 4) hK1 (some 137) (.fieldAddr 31 (.tmp 8) 2) 0 _ (by kernel_rfl) (fun _ d _ _ _ h => by cases d <;> exact h) (by kernel_rfl) (by kernel_rfl) (fun w' hS' => by simp only [opr]; go_simp; try with_reducible rfl) HABW.out (fun K2 hK2 => ?_)
          clear hK1 K1
          try simp only [Act.put, List.setIfInBounds_toArray, List.set_cons_zero, List.set_cons_succ]
          refine any_take (i := 5) hK2 (some 138) (.load 27 (.tmp 137)) 27 _ (by kernel_rfl) (fun _ d _ _ _ h => by cases d <;> exact h) (by kernel_rfl) (by kernel_rfl) (fun w' hS' => by (obtain ⟨a0, a1, a2, _, _, _⟩ := hS'; simp only at a0 a1 a2; simp only [opr]; go_simp; try with_reducible rfl)) HABW.out (fun K3 hK3 => ?_)
          clear hK2 K2
          try simp only [Act.put, List.setIfInBounds_toArray, List.set_cons_zero, List.set_cons_succ]
          refine any_take (i := 6) hK3 (some 139) (.move (.tmp 13)) 3 _ (by kernel_rfl) (fun _ d _ _ _ h => by cases d <;> exact h) (by kernel_rfl) (by kernel_rfl) (fun w' hS' => by simp only [opr]; go_simp; try with_reducible rfl) HABW.out (fun K4 hK4 => ?_)
          clear hK3 K3
          try simp only [Act.put, List.setIfInBounds_toArray, List.set_cons_zero, List.set_cons_succ]
          refine any_take (i := 7) hK4 (some 140) (.slice 27 (.tmp 138) none (some (.tmp 139)) none) 27 _ (by kernel_rfl) (fun _ d _ _ _ h => by cases d <;> exact h) (by kernel_rfl) (by kernel_rfl) (fun w' hS' => by exact exec_slice_h elem27 size27 rfl rfl HKB.out.2 w' _ _) HABW.out (fun K5 hK5 => ?_)
          clear hK4 K4
          try simp only [Act.put, List.setIfInBounds_toArray, List.set_cons_zero, List.set_cons_succ]
          refine any_pick (rs := [0, 2]) hK5 (by kernel_rfl) (fun K6 hK6 => ?_)
          clear hK5 K5
          intro i hi
          simp only [List.mem_cons, List.not_mem_nil, or_false] at hi
          rcases hi with rfl | rfl
          · refine op_plain (some 133) (.buildSlice 27 0 #[]) 27 (by kernel_rfl) (by kernel_rfl) ?_
            go_wp2
            have st : Stay (fun _ => False) Wd (Wd.alloc (.cells #[] 5)) := (Stay.refl _ _).alloc _
            have HO := hide' (ownsRow_base (owns_newS Wd #[] 5 1 0 rfl (by decide)) HST.out.size)
            have HST' := hide' (HST.out.trans st)
            have HABW' := hide' (HABW.out.keep st)
            clear st
            clear HST
            have HST := HST'
            clear HST'
            clear HABW
            have HABW := HABW'
            clear HABW'
            obtain ⟨vk2, hvO⟩ : ∃ v, v = Value.slice (some ⟨Wd.heap.size, 0, none⟩) 0 0 := ⟨_, rfl⟩
            rw [← hvO] at HO
            rw [← hvO]
            clear hvO
            obtain ⟨Wk1, hW⟩ : ∃ Wq, Wq = (Wd.alloc (.cells #[] 5)) := ⟨_, rfl⟩
            rw [← hW] at HO HST HABW
            rw [← hW]
            clear hW
            refine hK6 0 (by simp) _ _ HABW.out (any_more fun K7 hK7 => ?_)
            clear hK6 K6
            refine any_pick (rs := [2]) hK7 (by kernel_rfl) (fun K8 hK8 => ?_)
            clear hK7 K7
            intro i hi
            simp only [List.mem_cons, List.not_mem_nil, or_false] at hi
            rcases hi with rfl
            refine op_plain (some 135) (.load 27 (.tmp 134)) 27 (by kernel_rfl) (by kernel_rfl) ?_
            obtain ⟨x0, x1, x2, y0, y1, y2⟩ := (HPA.out.keep HST.out).box
            simp only at x0 x1 x2
            go_wp2
            clear x0 x1 x2 y0 y1 y2
            refine hK8 2 (by simp) _ _ HABW.out (any_more fun K9 hK9 => ?_)
            clear hK8 K8
            refine any_pick (rs := [3]) hK9 (by kernel_rfl) (fun K10 hK10 => ?_)
            clear hK9 K9
            intro i hi
            simp only [List.mem_cons, List.not_mem_nil, or_false] at hi
            rcases hi with rfl
            refine op_plain (some 136) (.call { callee := Callee.builtin Builtin.append, args := #[.tmp 133, .tmp 135], argTypes := #[27, 27] }) 27 (by kernel_rfl) (by kernel_rfl) ?_
            have HSRC := hide' (HRO.out _ HST.out)
            go_wp2_with (at_builtin; go_must (refine appS rfl _ _ 27 rfl Try.underlying27 info5 rfl (by decide) (by decide) HO.out rfl HSRC.out rfl (bys_one _) HN1.out HST.out.size ?_; intro vk4 Wk3 ho hst hb; have HO2 := hide' ho; have HST' := hide' (HST.out.trans2 hst (fun j hj e => by have := (HO.out.lt j e).1; omega)); clear ho hst hb))
            have HABW' := hide' (HABA.out.keep HST'.out)
            clear HO HSRC
            have HO := HO2
            clear HO2
            clear HST
            have HST := HST'
            clear HST'
            clear HABW
            have HABW := HABW'
            clear HABW'
            refine hK10 3 (by simp) _ _ HABW.out (any_more fun K11 hK11 => ?_)
            clear hK10 K10
            refine any_pick (rs := [8]) hK11 (by kernel_rfl) (fun K12 hK12 => ?_)
            clear hK11 K11
            intro i hi
            simp only [List.mem_cons, List.not_mem_nil, or_false] at hi
            rcases hi with rfl
            refine op_plain (some 141) (.call { callee := Callee.builtin Builtin.append, args := #[.tmp 136, .tmp 140], argTypes := #[27, 27] }) 27 (by kernel_rfl) (by kernel_rfl) ?_
            have HSRC := hide' (HRB.out _ HST.out)
            go_wp2_with (at_builtin; go_must (refine appS rfl _ _ 27 rfl Try.underlying27 info5 rfl (by decide) (by decide) HO.out rfl HSRC.out rfl (bys_one _) HN2.out HST.out.size ?_; intro vk6 Wk5 ho hst hb; have HO2 := hide' ho; have HST' := hide' (HST.out.trans2 hst (fun j hj e => by have := (HO.out.lt j e).1; omega)); clear ho hst hb))
            have HABW' := hide' (HABA.out.keep HST'.out)
            clear HO HSRC
            have HO := HO2
            clear HO2
            clear HST
            have HST := HST'
            clear HST'
            clear HABW
            have HABW := HABW'
            clear HABW'
            refine hK12 8 (by simp) _ _ HABW.out (any_more fun K13 hK13 => ?_)
            clear hK12 K12
            refine any_take (i := 9) hK13 (some 142) (.fieldAddr 29 (.tmp 6) 1) 0 _ (by kernel_rfl) (fun _ d _ _ _ h => by cases d <;> exact h) (by kernel_rfl) (by kernel_rfl) (fun w' hS' => by simp only [opr]; go_simp; try with_reducible rfl) HABW.out (fun K14 hK14 => ?_)
            clear hK13 K13
            try simp only [Act.put, List.setIfInBounds_toArray, List.set_cons_zero, List.set_cons_succ]
            refine any_pick (rs := [10]) hK14 (by kernel_rfl) (fun K15 hK15 => ?_)
            clear hK14 K14
            intro i hi
            simp only [List.mem_cons, List.not_mem_nil, or_false] at hi
            rcases hi with rfl
            refine op_plain none (.store 27 (.tmp 142) (.tmp 141)) 0 (by kernel_rfl) (by kernel_rfl) ?_
            obtain ⟨za, zc, hz⟩ := owns_shape HO.out
            obtain ⟨zl, hzl⟩ : ∃ n, n = 0 + mn + k := ⟨_, rfl⟩
            rw [← hzl] at hz HO
            subst hz
            have HZL := hide' hzl
            clear hzl
            obtain ⟨x0, x1, x2, y0, y1, y2⟩ := (HPA.out.keep HST.out).box
            simp only at x0 x1 x2
            go_wp2
            clear x0 x1 x2 y0 y1 y2
            generalize hW2 : World.setCell _ _ _ = Wk7
            have hbx : DBox Wk7 xb ⟨.slice ia ln ic, .slice za zl zc, o⟩ := by rw [← hW2]; exact (HPA.out.keep HST.out).box.put1 (x := .slice za zl zc) (q := ⟨.slice ia ln ic, .slice za zl zc, o⟩) rfl
            have hst : Stay (fun j => j = xb) Wk5 Wk7 := by rw [← hW2]; exact (Stay.refl (fun j => j = xb) Wk5).setCell (p := ⟨xb, 1, none⟩) rfl _
            have HMN2 : Hid (zl = (M ++ bl.take k).length) := by show zl = (M ++ bl.take k).length; rw [HZL.out, List.length_append, List.length_take, ← HBN.out, ← HMN.out]; have := HKB.out.1; omega
            have hwn : Win Wk5 1 (.slice za zl zc) (M ++ bl.take k).length (bys (M ++ bl.take k)) := by
              have h := Win.of_owns HO.out HO.out.1.symm
              rw [List.nil_append, ← bys_append] at h
              rw [← HMN2.out]
              exact h
            have HP := hide' ((HPA.out.keep HST.out).put (L2 := L) (M2 := M ++ bl.take k) hst hbx (HPA.out.keep HST.out).rin hwn (HPA.out.keep HST.out).oi (fun j hj => HPA.out.fresh (HO.out.lt j hj).1))
            have HABW' := hide' (HABW.out.stay hst HABX.out)
            clear hW2 hbx hst hwn HO HST
            clear HABW
            have HABW := HABW'
            clear HABW'
            refine hK15 10 (by simp) _ _ HABW.out (any_more fun K16 hK16 => ?_)
            clear hK15 K15
            refine any_done hK16 (by kernel_rfl) ?_
            clear hK16 K16
            have HLN2 := HLN
            clear HABW HABA HPA HRO HRB
            have HWT := hide' (waits_in ln zl HP.out.lin HLN2.out.symm HMN2.out.symm)
            go_wp2_with fail
            refine HWT.out.mono ?_
            rintro e w10 ⟨rfl, _, hs⟩
            have HPF := hide' (HP.out.keep hs)
            clear hs HWT HP
            obtain ⟨x0, x1, x2, y0, y1, y2⟩ := HPF.out.box
            simp only at x0 x1 x2
            go_wp2
            go_roundg (n - (i + 1))
            case measure => omega
            case rel => exact ⟨i + 1, o, L, (M ++ bl.take k), by omega, rfl, by go_num, _, _, q2, HPF.out⟩
          · refine op_plain (some 135) (.load 27 (.tmp 134)) 27 (by kernel_rfl) (by kernel_rfl) ?_
            obtain ⟨x0, x1, x2, y0, y1, y2⟩ := (HPA.out.keep HST.out).box
            simp only at x0 x1 x2
            go_wp2
            clear x0 x1 x2 y0 y1 y2
            refine hK6 2 (by simp) _ _ HABW.out (any_more fun K7 hK7 => ?_)
            clear hK6 K6
            refine any_pick (rs := [0]) hK7 (by kernel_rfl) (fun K8 hK8 => ?_)
            clear hK7 K7
            intro i hi
            simp only [List.mem_cons, List.not_mem_nil, or_false] at hi
            rcases hi with rfl
            refine op_plain (some 133) (.buildSlice 27 0 #[]) 27 (by kernel_rfl) (by kernel_rfl) ?_
            go_wp2
            have st : Stay (fun _ => False) Wd (Wd.alloc (.cells #[] 5)) := (Stay.refl _ _).alloc _
            have HO := hide' (ownsRow_base (owns_newS Wd #[] 5 1 0 rfl (by decide)) HST.out.size)
            have HST' := hide' (HST.out.trans st)
            have HABW' := hide' (HABW.out.keep st)
            clear st
            clear HST
            have HST := HST'
            clear HST'
            clear HABW
            have HABW := HABW'
            clear HABW'
            obtain ⟨vk9, hvO⟩ : ∃ v, v = Value.slice (some ⟨Wd.heap.size, 0, none⟩) 0 0 := ⟨_, rfl⟩
            rw [← hvO] at HO
            rw [← hvO]
            clear hvO
            obtain ⟨Wk8, hW⟩ : ∃ Wq, Wq = (Wd.alloc (.cells #[] 5)) := ⟨_, rfl⟩
            rw [← hW] at HO HST HABW
            rw [← hW]
            clear hW
            refine hK8 0 (by simp) _ _ HABW.out (any_more fun K9 hK9 => ?_)
            clear hK8 K8
            refine any_pick (rs := [3]) hK9 (by kernel_rfl) (fun K10 hK10 => ?_)
            clear hK9 K9
            intro i hi
            simp only [List.mem_cons, List.not_mem_nil, or_false] at hi
            rcases hi with rfl
            refine op_plain (some 136) (.call { callee := Callee.builtin Builtin.append, args := #[.tmp 133, .tmp 135], argTypes := #[27, 27] }) 27 (by kernel_rfl) (by kernel_rfl) ?_
            have HSRC := hide' (HRO.out _ HST.out)
            go_wp2_with (at_builtin; go_must (refine appS rfl _ _ 27 rfl Try.underlying27 info5 rfl (by decide) (by decide) HO.out rfl HSRC.out rfl (bys_one _) HN1.out HST.out.size ?_; intro vk11 Wk10 ho hst hb; have HO2 := hide' ho; have HST' := hide' (HST.out.trans2 hst (fun j hj e => by have := (HO.out.lt j e).1; omega)); clear ho hst hb))
            have HABW' := hide' (HABA.out.keep HST'.out)
            clear HO HSRC
            have HO := HO2
            clear HO2
            clear HST
            have HST := HST'
            clear HST'
            clear HABW
            have HABW := HABW'
            clear HABW'
            refine hK10 3 (by simp) _ _ HABW.out (any_more fun K11 hK11 => ?_)
            clear hK10 K10
            refine any_pick (rs := [8]) hK11 (by kernel_rfl) (fun K12 hK12 => ?_)
            clear hK11 K11
            intro i hi
            simp only [List.mem_cons, List.not_mem_nil, or_false] at hi
            rcases hi with rfl
            refine op_plain (some 141) (.call { callee := Callee.builtin Builtin.append, args := #[.tmp 136, .tmp 140], argTypes := #[27, 27] }) 27 (by kernel_rfl) (by kernel_rfl) ?_
            have HSRC := hide' (HRB.out _ HST.out)
            go_wp2_with (at_builtin; go_must (refine appS rfl _ _ 27 rfl Try.underlying27 info5 rfl (by decide) (by decide) HO.out rfl HSRC.out rfl (bys_one _) HN2.out HST.out.size ?_; intro vk13 Wk12 ho hst hb; have HO2 := hide' ho; have HST' := hide' (HST.out.trans2 hst (fun j hj e => by have := (HO.out.lt j e).1; omega)); clear ho hst hb))
            have HABW' := hide' (HABA.out.keep HST'.out)
            clear HO HSRC
            have HO := HO2
            clear HO2
            clear HST
            have HST := HST'
            clear HST'
            clear HABW
            have HABW := HABW'
            clear HABW'
            refine hK12 8 (by simp) _ _ HABW.out (any_more fun K13 hK13 => ?_)
            clear hK12 K12
            refine any_take (i := 9) hK13 (some 142) (.fieldAddr 29 (.tmp 6) 1) 0 _ (by kernel_rfl) (fun _ d _ _ _ h => by cases d <;> exact h) (by kernel_rfl) (by kernel_rfl) (fun w' hS' => by simp only [opr]; go_simp; try with_reducible rfl) HABW.out (fun K14 hK14 => ?_)
            clear hK13 K13
            try simp only [Act.put, List.setIfInBounds_toArray, List.set_cons_zero, List.set_cons_succ]
            refine any_pick (rs := [10]) hK14 (by kernel_rfl) (fun K15 hK15 => ?_)
            clear hK14 K14
            intro i hi
            simp only [List.mem_cons, List.not_mem_nil, or_false] at hi
            rcases hi with rfl
            refine op_plain none (.store 27 (.tmp 142) (.tmp 141)) 0 (by kernel_rfl) (by kernel_rfl) ?_
            obtain ⟨za, zc, hz⟩ := owns_shape HO.out
            obtain ⟨zl, hzl⟩ : ∃ n, n = 0 + mn + k := ⟨_, rfl⟩
            rw [← hzl] at hz HO
            subst hz
            have HZL := hide' hzl
            clear hzl
            obtain ⟨x0, x1, x2, y0, y1, y2⟩ := (HPA.out.keep HST.out).box
            simp only at x0 x1 x2
            go_wp2
            clear x0 x1 x2 y0 y1 y2
            generalize hW2 : World.setCell _ _ _ = Wk14
            have hbx : DBox Wk14 xb ⟨.slice ia ln ic, .slice za zl zc, o⟩ := by rw [← hW2]; exact (HPA.out.keep HST.out).box.put1 (x := .slice za zl zc) (q := ⟨.slice ia ln ic, .slice za zl zc, o⟩) rfl
            have hst : Stay (fun j => j = xb) Wk12 Wk14 := by rw [← hW2]; exact (Stay.refl (fun j => j = xb) Wk12).setCell (p := ⟨xb, 1, none⟩) rfl _
            have HMN2 : Hid (zl = (M ++ bl.take k).length) := by show zl = (M ++ bl.take k).length; rw [HZL.out, List.length_append, List.length_take, ← HBN.out, ← HMN.out]; have := HKB.out.1; omega
            have hwn : Win Wk12 1 (.slice za zl zc) (M ++ bl.take k).length (bys (M ++ bl.take k)) := by
              have h := Win.of_owns HO.out HO.out.1.symm
              rw [List.nil_append, ← bys_append] at h
              rw [← HMN2.out]
              exact h
            have HP := hide' ((HPA.out.keep HST.out).put (L2 := L) (M2 := M ++ bl.take k) hst hbx (HPA.out.keep HST.out).rin hwn (HPA.out.keep HST.out).oi (fun j hj => HPA.out.fresh (HO.out.lt j hj).1))
            have HABW' := hide' (HABW.out.stay hst HABX.out)
            clear hW2 hbx hst hwn HO HST
            clear HABW
            have HABW := HABW'
            clear HABW'
            refine hK15 10 (by simp) _ _ HABW.out (any_more fun K16 hK16 => ?_)
            clear hK15 K15
            refine any_done hK16 (by kernel_rfl) ?_
            clear hK16 K16
            have HLN2 := HLN
            clear HABW HABA HPA HRO HRB
            have HWT := hide' (waits_in ln zl HP.out.lin HLN2.out.symm HMN2.out.symm)
            go_wp2_with fail
            refine HWT.out.mono ?_
            rintro e w10 ⟨rfl, _, hs⟩
            have HPF := hide' (HP.out.keep hs)
            clear hs HWT HP
            obtain ⟨x0, x1, x2, y0, y1, y2⟩ := HPF.out.box
            simp only at x0 x1 x2
            go_wp2
            go_roundg (n - (i + 1))
            case measure => omega
            case rel => exact ⟨i + 1, o, L, (M ++ bl.take k), by omega, rfl, by go_num, _, _, q2, HPF.out⟩
        by_cases h3 : d = 3
        · subst h3
          obtain ⟨y, hy⟩ : ∃ y : Int, y = min nn (mn : Nat) := ⟨_, rfl⟩
          obtain ⟨k, hk⟩ : ∃ k : Nat, (k : Int) = max 0 y := ⟨(max 0 y).toNat, by omega⟩
          have e1 := hy.symm
          have e2 := hk.symm
          have HKK : Hid ((k : Int) = min (max nn 0) (M.length : Nat)) := by rw [← HMN.out]; show (k : Int) = _; omega
          have HKM : Hid (k ≤ mn) := by show k ≤ mn; omega
          have HKO : Hid (k ≤ oc) := by have := HOC.out; show k ≤ oc; omega
          have HM20 : Hid (mn ≤ 20) := by have := HLR.out.2; show mn ≤ 20; omega
          clear hy hk
          obtain ⟨a0, a1, a2, _, _, _⟩ := HAB.out
          simp only at a0 a1 a2
          obtain ⟨x0, x1, x2, y0, y1, y2⟩ := HP.out.box
          simp only at x0 x1 x2
          go_upto_region 34 with fail
          clear e1 e2
          clear a0 a1 a2
          clear x0 x1 x2 y0 y1 y2
          have hS : (fun w' => DBox w' xb ⟨.slice ia ln ic, .slice oa mn oc, o⟩ ∧ ABox w' ab ⟨3, nn, .slice ba bn bc⟩) W1.drew := ⟨HP.out.box.keep (Stay.refl _ _).drew, HAB.out.keep (Stay.refl _ _).drew⟩
          have HPD := hide' (HP.out.keep (Stay.refl _ _).drew)
          have HSN := hide' (sent_in nn k HPD.out.lin HKK.out)
          clear HP HAB
          refine wp_region_mix (fun w' => DBox w' xb ⟨.slice ia ln ic, .slice oa mn oc, o⟩ ∧ ABox w' ab ⟨3, nn, .slice ba bn bc⟩) [(0, true), (1, true), (2, true), (4, true), (5, true), (6, true), (7, true), (3, false), (8, false), (9, true)] (by kernel_rfl) (by kernel_rfl) (fun _ d _ _ _ h => by cases d <;> exact h) hS ?_
          refine mix_begin (fun K0 hK0 => ?_)
          refine mix_take hK0 (some 152) (.move (.tmp 5)) 24 _ (by kernel_rfl) (by kernel_rfl) (fun w' hS' => by (obtain ⟨sx, sa⟩ := hS'; obtain ⟨x0, x1, x2, _, _, _⟩ := sx; obtain ⟨a0, a1, a2, _, _, _⟩ := sa; simp only at x0 x1 x2 a0 a1 a2; simp only [opr]; go_simp; try with_reducible rfl)) (fun K1 hK1 => ?_)
          clear hK0 K0
          simp only [Act.put, List.setIfInBounds_toArray, List.set_cons_zero, List.set_cons_succ]
          refine mix_take hK1 (some 153) (.fieldAddr 31 (.tmp 8) 1) 0 _ (by kernel_rfl) (by kernel_rfl) (fun w' hS' => by (obtain ⟨sx, sa⟩ := hS'; obtain ⟨x0, x1, x2, _, _, _⟩ := sx; obtain ⟨a0, a1, a2, _, _, _⟩ := sa; simp only at x0 x1 x2 a0 a1 a2; simp only [opr]; go_simp; try with_reducible rfl)) (fun K2 hK2 => ?_)
          clear hK1 K1
          simp only [Act.put, List.setIfInBounds_toArray, List.set_cons_zero, List.set_cons_succ]
          refine mix_take hK2 (some 154) (.load 3 (.tmp 153)) 3 _ (by kernel_rfl) (by kernel_rfl) (fun w' hS' => by (obtain ⟨sx, sa⟩ := hS'; obtain ⟨x0, x1, x2, _, _, _⟩ := sx; obtain ⟨a0, a1, a2, _, _, _⟩ := sa; simp only at x0 x1 x2 a0 a1 a2; simp only [opr]; go_simp; try with_reducible rfl)) (fun K3 hK3 => ?_)
          clear hK2 K2
          simp only [Act.put, List.setIfInBounds_toArray, List.set_cons_zero, List.set_cons_succ]
          refine mix_take hK3 (some 156) (.fieldAddr 29 (.tmp 6) 1) 0 _ (by kernel_rfl) (by kernel_rfl) (fun w' hS' => by (obtain ⟨sx, sa⟩ := hS'; obtain ⟨x0, x1, x2, _, _, _⟩ := sx; obtain ⟨a0, a1, a2, _, _, _⟩ := sa; simp only at x0 x1 x2 a0 a1 a2; simp only [opr]; go_simp; try with_reducible rfl)) (fun K4 hK4 => ?_)
          clear hK3 K3
          simp only [Act.put, List.setIfInBounds_toArray, List.set_cons_zero, List.set_cons_succ]
          refine mix_take hK4 (some 157) (.load 27 (.tmp 156)) 27 _ (by kernel_rfl) (by kernel_rfl) (fun w' hS' => by (obtain ⟨sx, sa⟩ := hS'; obtain ⟨x0, x1, x2, _, _, _⟩ := sx; obtain ⟨a0, a1, a2, _, _, _⟩ := sa; simp only at x0 x1 x2 a0 a1 a2; simp only [opr]; go_simp; try with_reducible rfl)) (fun K5 hK5 => ?_)
          clear hK4 K4
          simp only [Act.put, List.setIfInBounds_toArray, List.set_cons_zero, List.set_cons_succ]
          refine mix_take hK5 (some 158) (.move (.tmp 14)) 3 _ (by kernel_rfl) (by kernel_rfl) (fun w' hS' => by (obtain ⟨sx, sa⟩ := hS'; obtain ⟨x0, x1, x2, _, _, _⟩ := sx; obtain ⟨a0, a1, a2, _, _, _⟩ := sa; simp only at x0 x1 x2 a0 a1 a2; simp only [opr]; go_simp; try with_reducible rfl)) (fun K6 hK6 => ?_)
          clear hK5 K5
          simp only [Act.put, List.setIfInBounds_toArray, List.set_cons_zero, List.set_cons_succ]
          refine mix_take hK6 (some 159) (.slice 27 (.tmp 157) none (some (.tmp 158)) none) 27 _ (by kernel_rfl) (by kernel_rfl) (fun w' hS' => by exact exec_slice_h elem27 size27 rfl rfl HKO.out w' _ _) (fun K7 hK7 => ?_)
          clear hK6 K6
          simp only [Act.put, List.setIfInBounds_toArray, List.set_cons_zero, List.set_cons_succ]
          refine mix_call hK7 (some 155) 13 #[.tmp 152, .tmp 154] #[24, 3] 27 _ (by kernel_rfl) (by kernel_rfl) (enters Try.func13 (by kernel_rfl) (by kernel_rfl)) (by go_simp; try with_reducible rfl) (fun K8 hK8 => ?_)
          clear hK7 K7
          refine (HSN.out).mono ?_
          rintro e wm1 ⟨q2, tv, rfl, ht, hl, hs1⟩
          have hS1 : _ := (show (fun w' => DBox w' xb ⟨.slice ia ln ic, .slice oa mn oc, o⟩ ∧ ABox w' ab ⟨3, nn, .slice ba bn bc⟩) wm1 from ⟨hS.1.stay hs1.1 HPD.out.xo, hS.2.stay hs1.1 HAX.out.1⟩)
          refine ⟨_, rfl, hS1, ?_⟩
          have HP2 := hide' (HPD.out.move hl hs1)
          have HTV := hide' (bs_owned ht)
          have HVO : Hid (Bs wm1 (.slice oa k oc) (M.take k)) := bs_of_win (by have h := HP2.out.rout; rwa [← HMN.out] at h) HKM.out
          have HSM := hide' (same12 tv (.slice oa k oc) (M.take k) wm1 HTV.out HVO.out (by rw [List.length_take]; have := HKM.out; have := HM20.out; omega))
          clear ht hl HTV HVO HPD HSN
          clear hs1
          simp only [Act.put, List.setIfInBounds_toArray, List.set_cons_zero, List.set_cons_succ]
          refine mix_call hK8 (some 160) 12 #[.tmp 155, .tmp 159] #[27, 27] 4 _ (by kernel_rfl) (by kernel_rfl) (enters Try.func12 (by kernel_rfl) (by kernel_rfl)) (by go_simp; try with_reducible rfl) (fun K9 hK9 => ?_)
          clear hK8 K8
          refine (HSM.out).mono ?_
          rintro e wm2 ⟨rfl, hs2⟩
          have hS2 : _ := (show (fun w' => DBox w' xb ⟨.slice ia ln ic, .slice oa mn oc, o⟩ ∧ ABox w' ab ⟨3, nn, .slice ba bn bc⟩) wm2 from ⟨hS1.1.keep hs2, hS1.2.keep hs2⟩)
          refine ⟨_, rfl, hS2, ?_⟩
          have HP3 := hide' (HP2.out.keep hs2)
          clear HP2 HSM
          clear hs2
          simp only [Act.put, List.setIfInBounds_toArray, List.set_cons_zero, List.set_cons_succ]
          refine mix_take hK9 (some 161) (.unOp UnOp.not 4 (.tmp 160)) 4 _ (by kernel_rfl) (by kernel_rfl) (fun w' hS' => by (obtain ⟨sx, sa⟩ := hS'; obtain ⟨x0, x1, x2, _, _, _⟩ := sx; obtain ⟨a0, a1, a2, _, _, _⟩ := sa; simp only at x0 x1 x2 a0 a1 a2; simp only [opr]; go_simp; try with_reducible rfl)) (fun K10 hK10 => ?_)
          clear hK9 K9
          simp only [Act.put, List.setIfInBounds_toArray, List.set_cons_zero, List.set_cons_succ]
          refine hK10 _ _ (mix_nil ?_)
          clear hK10 K10
          have HABZ := hide' hS2.2
          clear hS hS1 hS2
          have HP := HP3
          clear HP3
          obtain ⟨x0, x1, x2, y0, y1, y2⟩ := HP.out.box
          simp only at x0 x1 x2
          go_upto_region 36 with fail
          obtain ⟨va, hva⟩ : ∃ a, a = (if oc = k then oa else oa.map (·.add (k * 1))) := ⟨_, rfl⟩
          obtain ⟨nl, hnl⟩ : ∃ n, n = mn - k := ⟨_, rfl⟩
          obtain ⟨nc, hnc⟩ : ∃ n, n = oc - k := ⟨_, rfl⟩
          have hsll : ∀ w, (Instr.slice 27 (.slice oa mn oc) (some (.int .i64 (k : Nat))) none none).run Try.prog w = .ok (.slice va nl nc) w := fun w => by
            rw [hva, hnl, hnc]
            exact slice_l_eq (P := Try.prog) elem27 size27 HKM.out w
          have HMN2 : Hid (nl = (M.drop k).length) := by show nl = (M.drop k).length; rw [hnl, List.length_drop, HMN.out]
          have HVW : Hid (Win wm2 1 (.slice va nl nc) (M.drop k).length (bys (M.drop k)) ∧ ∀ j, (Value.slice va nl nc).ownBlock = some j → ¬ q2.own j ∧ j ≠ xb) := by
            have h := HP.out.rout
            rw [← HMN.out] at h
            have h2 := h.drop (k := k) HKM.out
            rw [bys_drop, ← hva, ← hnc, ← hnl] at h2
            refine ⟨by rw [← HMN2.out]; exact h2, fun j hj => HP.out.oo j ?_⟩
            rw [hva, hnc, hnl] at hj
            exact Win.drop_block j hj
          clear hva hnl hnc
          have HLN2 := HLN
          have HAB : Hid (ABox wm2 ab ⟨3, nn, .slice ba bn bc⟩) := HABZ.out
          have HAX' : Hid (True ∧ ab ≠ xb) := ⟨trivial, HAX.out.2⟩
          clear HAX
          have HAX := HAX'
          go_upto_region 37 with fail
          generalize hW : World.setCell _ _ _ = W5
          have hbx : DBox W5 xb ⟨.slice ia ln ic, .slice va nl nc, o⟩ := by rw [← hW]; exact HP.out.box.put1 (x := .slice va nl nc) (q := ⟨.slice ia ln ic, .slice va nl nc, o⟩) rfl
          have hst : Stay (fun j => j = xb) wm2 W5 := by rw [← hW]; exact (Stay.refl (fun j => j = xb) _).setCell (p := ⟨xb, 1, none⟩) rfl _
          have HP' := hide' (HP.out.put (L2 := L) (M2 := (M.drop k)) hst hbx HP.out.rin HVW.out.1 HP.out.oi HVW.out.2)
          have HAB' := hide' (HAB.out.stay hst HAX.out.2)
          clear hW hbx hst HP HAB
          clear x0 x1 x2 y0 y1 y2
          have HP := HP'
          have HAB := HAB'
          clear HP' HAB'
          clear HVW hsll
          have HWT := hide' (waits_in ln nl HP.out.lin HLN2.out.symm HMN2.out.symm)
          go_wp2_with fail
          refine HWT.out.mono ?_
          rintro e w10 ⟨rfl, _, hs⟩
          have HPF := hide' (HP.out.keep hs)
          clear hs HWT HP
          obtain ⟨x0, x1, x2, y0, y1, y2⟩ := HPF.out.box
          simp only at x0 x1 x2
          go_wp2
          go_roundg (n - (i + 1))
          case measure => omega
          case rel => exact ⟨i + 1, o, L, (M.drop k), by omega, rfl, by go_num, _, _, q2, HPF.out⟩
        · have z0 : (d == 0) = false := by simpa using h0
          have z1 : (d == 1) = false := by simpa using h1
          have z2 : (d == 2) = false := by simpa using h2
          have z3 : (d == 3) = false := by simpa using h3
          have HLN2 := HLN
          have HMN2 := HMN
          obtain ⟨a0, a1, a2, _, _, _⟩ := HAB.out
          simp only at a0 a1 a2
          have HWT := hide' (waits_in ln mn HP.out.lin HLN2.out.symm HMN2.out.symm)
          go_wp2_with fail
          refine HWT.out.mono ?_
          rintro e w10 ⟨rfl, _, hs⟩
          have HPF := hide' (HP.out.keep hs)
          clear hs HWT HP
          obtain ⟨x0, x1, x2, y0, y1, y2⟩ := HPF.out.box
          simp only at x0 x1 x2
          go_wp2
          go_roundg (n - (i + 1))
          case measure => omega
          case rel => exact ⟨i + 1, o, L, M, by omega, rfl, by go_num, _, _, q, HPF.out⟩
      · have b40 : (40 : Int) < (bn : Nat) := by omega
        have HSW := hide' HC.out.lin.stay
        clear HC
        go_upto_region 13 with fail
        obtain ⟨ab, hab⟩ : ∃ B, B = wr.heap.size := ⟨_, rfl⟩
        obtain ⟨W1, hW1⟩ : ∃ W, W = wr.alloc (.cells #[.int .i64 d, .int .i64 nn, .slice ba bn bc] 31) := ⟨_, rfl⟩
        have HS1 : Hid (Stay (fun _ => False) w W1) := by rw [hW1]; exact HSW.out.alloc _
        have HAB : Hid (ABox W1 ab ⟨d, nn, .slice ba bn bc⟩) := by rw [hW1]; exact ABox.new ⟨d, nn, .slice ba bn bc⟩ hab.symm
        rw [← hW1, ← hab]
        clear hW1 hab HSW d0 d1 d2
        obtain ⟨a0, a1, a2, _, _, _⟩ := HAB.out
        simp only at a0 a1 a2
        go_wp2_with fail
        refine (HAW.out _).mono ?_
        rintro e w9 ⟨rfl, hs⟩
        have HE := hide' (HS1.out.trans hs)
        clear hs
        go_wp2
        go_ret
        exact ⟨rfl, HE.out⟩
    · have hin : i = n := by omega
      subst hin
      have HSW := hide' HC.out.lin.stay
      clear HC
      go_wp2_with fail
      refine (HAW.out _).mono ?_
      rintro e w9 ⟨rfl, hs⟩
      have HE := hide' (HSW.out.trans hs)
      clear hs
      go_wp2
      go_ret
      exact ⟨rfl, HE.out⟩

end Go.Proofs.Ytffdkkbinkonbaa
