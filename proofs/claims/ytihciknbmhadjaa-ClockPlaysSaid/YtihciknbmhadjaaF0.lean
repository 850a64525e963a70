/-
  The document's Set, Same, Out and Put: walked. No conditions.
-/
import Derived.Test.YtihciknbmhadjaaE3
namespace Go.Proofs.Ytihciknbmhadjaa
open Go.RowKit

/-- What the document answers to Set. -/
def setE (e k x : Int) : Int := if e < 0 ∨ k < 0 then 1 else if x < 1 ∨ 1073741824 < x then 2 else 0

theorem rset9 (e k x : Int) (w : World) : Calls Try.prog 9 #[.int .i64 e, .int .i64 k, .int .i64 x] w (Gives (.int .i64 (setE e k x)) w) := by
  have HS := hide' (Stay.refl (fun _ => False) w)
  obtain ⟨c, hc⟩ : ∃ c, c = setE e k x := ⟨_, rfl⟩
  rw [← hc]
  unfold setE at hc
  by_cases h0 : e < 0
  · rw [if_pos (.inl h0)] at hc
    subst hc
    go_enter Try.func9, Try.ntmps9
    go_wp2
    go_ret
    exact ⟨rfl, HS.out⟩
  · have h0' : 0 ≤ e := by omega
    by_cases h1 : k < 0
    · rw [if_pos (.inr h1)] at hc
      subst hc
      clear h0
      go_enter Try.func9, Try.ntmps9
      go_wp2
      go_ret
      exact ⟨rfl, HS.out⟩
    · have h1' : 0 ≤ k := by omega
      rw [if_neg (by omega)] at hc
      by_cases h2 : x < 1
      · rw [if_pos (.inl h2)] at hc
        subst hc
        clear h0 h1
        go_enter Try.func9, Try.ntmps9
        go_wp2
        go_ret
        exact ⟨rfl, HS.out⟩
      · have h2' : 1 ≤ x := by omega
        by_cases h3 : 1073741824 < x
        · rw [if_pos (.inr h3)] at hc
          subst hc
          clear h0 h1 h2
          go_enter Try.func9, Try.ntmps9
          go_wp2
          go_ret
          exact ⟨rfl, HS.out⟩
        · have h3' : x ≤ 1073741824 := by omega
          rw [if_neg (by omega)] at hc
          subst hc
          clear h0 h1 h2 h3
          go_enter Try.func9, Try.ntmps9
          go_wp2
          go_ret
          exact ⟨rfl, HS.out⟩

theorem neqT_same {a : Act} {x y : Operand} {w : World} {d : Option Tmp} {ty : TypeId} (p : Tm) (hx : a.eval x = .agg #[.int .i64 p.en, .int .i64 p.nr, .int .i64 p.du]) (hy : a.eval y = .agg #[.int .i64 p.en, .int .i64 p.nr, .int .i64 p.du]) :
    (execOp a.eval (opr d (.binOp .neq 35 x y 35) ty)).run Try.prog w = .ok (.value (.bool false)) w := by
  simp only [opr, execOp, hx, hy]
  go_simp

theorem same14 (a a2 : Option Addr) (n c c2 : Nat) (L : List Tm) (w : World) (h1 : Rd w a L) (h2 : Rd w a2 L) (hn : L.length = n) (hm : n ≤ 2048) : Calls Try.prog 14 #[.slice a n c, .slice a2 n c2] w (Gives (.bool true) w) := by
  have HR1 := hide' h1
  have HR2 := hide' h2
  have HN := hide' hn
  have n2 : (n : Int) ≤ 2048 := by omega
  have HS0 := hide' (Stay.refl (fun _ => False) w)
  clear h1 h2 hn hm
  go_enter Try.func14, Try.ntmps14
  go_wp2
  go_loopg [5] n (fun gg v5 wr => ∃ k : Nat, k ≤ n ∧ gg = n - k ∧ v5 = .int .i64 (k : Int) ∧ Hid (Stay (fun _ => False) w wr))
  case atStart => exact ⟨0, Nat.zero_le _, rfl, rfl, HS0⟩
  case round =>
    clear HS0
    obtain ⟨k, hk, rfl, rfl, HS⟩ := hrel
    by_cases hlt : k < n
    · have kn : (k : Int) < (n : Nat) := by omega
      obtain ⟨t, ht⟩ : ∃ t, L[k]? = some t := ⟨_, List.getElem?_eq_getElem (by rw [HN.out]; exact hlt)⟩
      obtain ⟨g1, o1, rfl, hb1⟩ := HR1.out k t ht
      obtain ⟨g2, o2, rfl, hb2⟩ := HR2.out k t ht
      have HB1 := hide' hb1
      have HB2 := hide' hb2
      clear ht hb1 hb2
      go_upto_region 6 with fail
      have hS : (fun w' => Stay (fun _ => False) w w') wr.drew := HS.out.drew
      refine wp_region_mix (fun w' => Stay (fun _ => False) w w') [(0, true), (1, true), (2, true), (3, true), (4, true), (5, true), (6, true), (7, true), (8, true)] (by kernel_rfl) (by kernel_rfl) (fun _ d _ _ _ h => by cases d <;> exact h) hS ?_
      refine mix_begin (fun K0 hK0 => ?_)
      refine mix_take hK0 (some 17) (.move (.tmp 0)) 26 _ (by kernel_rfl) (by kernel_rfl) (fun w' hS' => by (simp only [opr]; go_simp; try with_reducible rfl)) (fun K1 hK1 => ?_)
      clear hK0 K0
      simp only [Act.put, List.setIfInBounds_toArray, List.set_cons_zero, List.set_cons_succ]
      refine mix_take hK1 (some 18) (.move (.tmp 5)) 3 _ (by kernel_rfl) (by kernel_rfl) (fun w' hS' => by (simp only [opr]; go_simp; try with_reducible rfl)) (fun K2 hK2 => ?_)
      clear hK1 K1
      simp only [Act.put, List.setIfInBounds_toArray, List.set_cons_zero, List.set_cons_succ]
      refine mix_take hK2 (some 19) (.indexAddr 26 (.tmp 17) (.tmp 18)) 0 _ (by kernel_rfl) (by kernel_rfl) (fun w' hS' => by (simp only [opr]; go_simp; try with_reducible rfl)) (fun K3 hK3 => ?_)
      clear hK2 K2
      simp only [Act.put, List.setIfInBounds_toArray, List.set_cons_zero, List.set_cons_succ]
      refine mix_take hK3 (some 20) (.load 35 (.tmp 19)) 35 _ (by kernel_rfl) (by kernel_rfl) (fun w' hS' => by exact run_load_TBoxAt rfl rfl (HB1.out.keep hS')) (fun K4 hK4 => ?_)
      clear hK3 K3
      simp only [Act.put, List.setIfInBounds_toArray, List.set_cons_zero, List.set_cons_succ]
      refine mix_take hK4 (some 21) (.move (.tmp 1)) 26 _ (by kernel_rfl) (by kernel_rfl) (fun w' hS' => by (simp only [opr]; go_simp; try with_reducible rfl)) (fun K5 hK5 => ?_)
      clear hK4 K4
      simp only [Act.put, List.setIfInBounds_toArray, List.set_cons_zero, List.set_cons_succ]
      refine mix_take hK5 (some 22) (.move (.tmp 5)) 3 _ (by kernel_rfl) (by kernel_rfl) (fun w' hS' => by (simp only [opr]; go_simp; try with_reducible rfl)) (fun K6 hK6 => ?_)
      clear hK5 K5
      simp only [Act.put, List.setIfInBounds_toArray, List.set_cons_zero, List.set_cons_succ]
      refine mix_take hK6 (some 23) (.indexAddr 26 (.tmp 21) (.tmp 22)) 0 _ (by kernel_rfl) (by kernel_rfl) (fun w' hS' => by (simp only [opr]; go_simp; try with_reducible rfl)) (fun K7 hK7 => ?_)
      clear hK6 K6
      simp only [Act.put, List.setIfInBounds_toArray, List.set_cons_zero, List.set_cons_succ]
      refine mix_take hK7 (some 24) (.load 35 (.tmp 23)) 35 _ (by kernel_rfl) (by kernel_rfl) (fun w' hS' => by exact run_load_TBoxAt rfl rfl (HB2.out.keep hS')) (fun K8 hK8 => ?_)
      clear hK7 K7
      simp only [Act.put, List.setIfInBounds_toArray, List.set_cons_zero, List.set_cons_succ]
      refine mix_take hK8 (some 25) (.binOp BinOp.neq 35 (.tmp 20) (.tmp 24) 35) 4 _ (by kernel_rfl) (by kernel_rfl) (fun w' hS' => by exact neqT_same t rfl rfl) (fun K9 hK9 => ?_)
      clear hK8 K8
      simp only [Act.put, List.setIfInBounds_toArray, List.set_cons_zero, List.set_cons_succ]
      refine hK9 _ _ (mix_nil ?_)
      clear hK9 K9
      have HS2 : Hid (Stay (fun _ => False) w wr.drew) := hS
      clear hS HS HB1 HB2
      go_wp2
      go_roundg (n - (k + 1))
      case measure => omega
      case rel => exact ⟨k + 1, by omega, rfl, by go_num, HS2⟩
    · have kn : ¬ (k : Int) < (n : Nat) := by omega
      go_wp2
      go_ret
      exact ⟨rfl, HS.out⟩

/-- Which timers Out leaves out. -/
def outB (e k : Int) (t : Tm) : Bool := if 0 ≤ k then isB e k t else ofB e t

/-- A row of one's own that is made behind a world. -/
def Made (w0 w : World) (v : Value) (M : List Tm) : Prop := Stay (fun k => w0.heap.size ≤ k) w0 w ∧ w.ownsRow w0.heap.size 35 3 v M.length (wc M)

theorem Made.keep {w0 w w1 : World} {v : Value} {M : List Tm} (h : Made w0 w v M) (hs : Stay (fun _ => False) w w1) : Made w0 w1 v M := ⟨h.1.trans (hs.mono (fun _ _ h => h.elim)), hs.owns h.2 (fun _ _ h => h)⟩

theorem Made.nil (w : World) : Made w w (.slice none 0 0) [] := ⟨Stay.refl _ _, World.ownsRow_nil w _ 35 3⟩

theorem Made.old {w0 w : World} {v : Value} {M : List Tm} (h : Made w0 w v M) : ∀ {g o : Nat} {t : Tm}, TBoxAt w0 g o t → TBoxAt w g o t := fun hb => hb.stay h.1 (fun e => by have := World.block_lt_of_cell? _ _ hb.c0; simp only at this; omega)

/-- What an append asks, and what it gives. -/
theorem Made.more {w0 w w1 w2 : World} {v v2 : Value} {M N : List Tm} {t : Tm} (h : Made w0 w v M) (hs : Stay (fun _ => False) w w1) (hN : N = M ++ [t]) (ho : w2.ownsRow w0.heap.size 35 3 v2 (M.length + 1) (wc M ++ t.parts)) (hst : Stay (fun k => v.ownBlock = some k) w1 w2) : Made w0 w2 v2 N := by
  subst hN
  refine ⟨(h.1.trans (hs.mono (fun _ _ h => h.elim))).trans (hst.mono (fun j _ e => (h.2.lt j e).1)), ?_⟩
  rw [List.length_append, wc_append, wc_cons, wc_nil, List.append_nil]
  exact ho

theorem Made.new {w0 w : World} {v : Value} {M : List Tm} (h : Made w0 w v M) : NewL M w0 (.returned v) w := by
  obtain ⟨a, c, rfl, hw, hb⟩ := Ws.of_owns h.2
  exact ⟨a, c, rfl, h.1.mono (fun j hj e => by omega), hw.rd, hw.2.1, hb⟩

set_option maxHeartbeats 2000000 in
theorem out12 (a : Option Addr) (n c : Nat) (L : List Tm) (e k : Int) (w : World) (h : Rd w a L) (hn : L.length = n) (hm : n ≤ 2048) : Calls Try.prog 12 #[.slice a n c, .int .i64 e, .int .i64 k] w (NewL (outL (outB e k) L) w) := by
  have HR := hide' h
  have HN := hide' hn
  have n2 : (n : Int) ≤ 2048 := by omega
  have HM0 : Hid (Made w w (.slice none 0 0) (outL (outB e k) (L.take 0))) := Made.nil w
  clear h hn hm
  go_enter Try.func12, Try.ntmps12
  go_wp2
  go_loopg [7, 8] n (fun gg v7 v8 wr => ∃ (j : Nat) (v : Value), j ≤ n ∧ gg = n - j ∧ v = v7 ∧ v8 = .int .i64 (j : Int) ∧ Hid (Made w wr v (outL (outB e k) (L.take j))))
  case atStart => exact ⟨0, _, Nat.zero_le _, rfl, rfl, rfl, HM0⟩
  case round =>
    clear HM0
    obtain ⟨j, v, hj, rfl, hv, rfl, HMD⟩ := hrel
    subst hv
    by_cases hlt : j < n
    · have jn : (j : Int) < (n : Nat) := by omega
      obtain ⟨t, ht⟩ : ∃ t, L[j]? = some t := ⟨_, List.getElem?_eq_getElem (by rw [HN.out]; exact hlt)⟩
      obtain ⟨g, o, rfl, hb⟩ := HR.out j t ht
      obtain ⟨c0, c1, c2⟩ := HMD.out.old hb
      obtain ⟨M, hM⟩ : ∃ M, M = outL (outB e k) (L.take j) := ⟨_, rfl⟩
      obtain ⟨N, hN⟩ : ∃ N, N = outL (outB e k) (L.take (j + 1)) := ⟨_, rfl⟩
      have hsn := outL_snoc (p := outB e k) ht
      rw [← hM, ← hN] at hsn
      rw [← hM] at HMD
      have hMl : M.length ≤ 2048 := by
        rw [hM]
        have h1 := outL_len (outB e k) (L.take j)
        rw [List.length_take] at h1
        omega
      have HNN := hide' hN
      cases hx : outB e k t
      · rw [hx] at hsn
        have HNE : Hid (N = M ++ [t]) := hsn
        have HNM : Hid (M.length + 1 ≤ 1000000) := by show M.length + 1 ≤ 1000000; omega
        have hgo : (t.en != e) = true ∨ ((t.en != e) = false ∧ 0 ≤ k ∧ (t.nr != k) = true) := by
          unfold outB at hx
          split at hx
          · rename_i h0
            unfold isB at hx
            by_cases h1 : t.en = e
            · right
              rw [h1] at hx
              simp at hx
              exact ⟨by rw [h1]; simp, h0, bne_iff_ne.2 hx⟩
            · left
              exact bne_iff_ne.2 h1
          · unfold ofB at hx
            left
            rw [bne, hx]
            rfl
        clear hM hN ht hb hx hsn hMl
        have hst : Stay (fun _ => False) wr (wr.alloc (.cells #[.int .i64 t.en, .int .i64 t.nr, .int .i64 t.du] 35)) := (Stay.refl _ _).alloc _
        have HOW : Hid ((wr.alloc (.cells #[.int .i64 t.en, .int .i64 t.nr, .int .i64 t.du] 35)).ownsRow w.heap.size 35 3 v (M).length (wc (M))) := hst.owns HMD.out.2 (fun _ _ h => h)
        have HSRC : Hid (IsRowS (wr.alloc (.cells #[.int .i64 t.en, .int .i64 t.nr, .int .i64 t.du] 35)) 3 (.slice (some ⟨wr.heap.size, 0, none⟩) 1 1) 1 t.parts) := isRowS_new wr #[.int .i64 t.en, .int .i64 t.nr, .int .i64 t.du] 35 3 1 rfl
        have HONE := hide' t.parts_one
        have HBS : Hid (w.heap.size ≤ (wr.alloc (.cells #[.int .i64 t.en, .int .i64 t.nr, .int .i64 t.du] 35)).heap.size) := Nat.le_trans HMD.out.1.size hst.size
        have HSW := hide' hst
        clear hst
        rcases hgo with d0 | ⟨d0, d1, d2⟩
        · go_wp2_with (at_builtin; go_must (refine appS rfl _ _ 26 rfl Try.underlying26 info35 rfl (by decide) (by decide) HOW.out rfl HSRC.out rfl HONE.out HNM.out HBS.out ?_; intro v5 W5 ho hst hb; have HMD5 : Hid (Made w W5 v5 (N)) := HMD.out.more HSW.out HNE.out ho hst; clear ho hst hb HOW HSRC HONE HNM HBS HSW HMD HNE))
          clear c0 c1 c2 d0
          have HF : Hid (Made w W5 v5 (outL (outB e k) (L.take (j + 1)))) := by rw [← HNN.out]; exact HMD5.out
          go_roundg (n - (j + 1))
          case measure => omega
          case rel => exact ⟨j + 1, _, by omega, rfl, rfl, by go_num, HF⟩
        · go_wp2_with (at_builtin; go_must (refine appS rfl _ _ 26 rfl Try.underlying26 info35 rfl (by decide) (by decide) HOW.out rfl HSRC.out rfl HONE.out HNM.out HBS.out ?_; intro v5 W5 ho hst hb; have HMD5 : Hid (Made w W5 v5 (N)) := HMD.out.more HSW.out HNE.out ho hst; clear ho hst hb HOW HSRC HONE HNM HBS HSW HMD HNE))
          clear c0 c1 c2 d0 d1 d2
          have HF : Hid (Made w W5 v5 (outL (outB e k) (L.take (j + 1)))) := by rw [← HNN.out]; exact HMD5.out
          go_roundg (n - (j + 1))
          case measure => omega
          case rel => exact ⟨j + 1, _, by omega, rfl, rfl, by go_num, HF⟩
      · rw [hx] at hsn
        have hgo : (t.en != e) = false ∧ (k < 0 ∨ (0 ≤ k ∧ (t.nr != k) = false)) := by
          unfold outB at hx
          split at hx
          · rename_i h0
            unfold isB at hx
            simp only [Bool.and_eq_true, beq_iff_eq] at hx
            exact ⟨by rw [hx.1]; simp, .inr ⟨h0, by rw [hx.2]; simp⟩⟩
          · rename_i h0
            unfold ofB at hx
            simp only [beq_iff_eq] at hx
            exact ⟨by rw [hx]; simp, .inl (by omega)⟩
        have HF : Hid (Made w wr v (outL (outB e k) (L.take (j + 1)))) := by
          rw [← HNN.out, hsn]
          simp only [if_true, List.append_nil]
          exact HMD.out
        clear hM hN ht hb hx hsn hMl HMD HNN
        obtain ⟨d0, d1⟩ := hgo
        rcases d1 with d1 | ⟨d1, d2⟩
        · go_wp2
          go_roundg (n - (j + 1))
          case measure => omega
          case rel => exact ⟨j + 1, _, by omega, rfl, rfl, by go_num, HF⟩
        · go_wp2
          go_roundg (n - (j + 1))
          case measure => omega
          case rel => exact ⟨j + 1, _, by omega, rfl, rfl, by go_num, HF⟩
    · have ej : j = n := by omega
      subst ej
      have HF : Hid (Made w wr v (outL (outB e k) L)) := by
        have h := HMD.out
        rw [List.take_of_length_le (by rw [HN.out]; exact Nat.le_refl _)] at h
        exact h
      clear HMD
      go_wp2
      go_ret
      exact HF.out.new

end Go.Proofs.Ytihciknbmhadjaa
