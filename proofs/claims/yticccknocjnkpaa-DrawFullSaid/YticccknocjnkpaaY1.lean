/-
  The document of windows: where one stands, one ahead, one out: walked. No conditions.
-/
import Derived.Test.YticccknocjnkpaaG9
namespace Go.Proofs.Yticccknocjnkpaa
open Go.RowKit

theorem at26 (a : Option Addr) (n cap : Nat) (L : List Wn) (id : Int) (w : World) (hr : Rds w a L) (hn : L.length = n) (hm : n ≤ 1000) :
    Calls Try.prog 26 #[.slice a n cap, .int .i64 id] w (Gives (.int .i64 (plI L id)) w) := by
  have HR := hide' hr
  have HN := hide' hn
  obtain ⟨i, hi⟩ : ∃ i, i = plN L id := ⟨_, rfl⟩
  have HI : Hid (plI L id = if i < n then ((i : Nat) : Int) else -1) := by show plI L id = _; rw [hi, ← hn]; rfl
  have HLE : Hid (i ≤ n) := by show i ≤ n; rw [hi, ← hn]; exact plN_le L id
  have HH := hide' (plN_hit L id)
  have HMI := hide' (plN_miss L id)
  rw [← hi] at HH HMI
  have hn1 : (n : Int) ≤ 1000 := by omega
  have HL0 := hide' (Stay.refl (fun _ => False) w)
  clear hr hn hi hm
  go_enter Try.func26, Try.ntmps26
  go_wp2
  go_loopg [5] n (fun gg v5 wr => ∃ k : Nat, k ≤ i ∧ k ≤ n ∧ gg = n - k ∧ v5 = .int .i64 (k : Int) ∧ Hid (Stay (fun _ => False) w wr))
  case atStart => exact ⟨0, Nat.zero_le _, Nat.zero_le _, rfl, rfl, HL0⟩
  case round =>
    clear HL0
    obtain ⟨k, hk, hkn, rfl, rfl, HL⟩ := hrel
    by_cases hlt : k < n
    · have kn : (k : Int) < (n : Nat) := by omega
      obtain ⟨p, hp⟩ : ∃ p, L[k]? = some p := ⟨_, List.getElem?_eq_getElem (by have := HN.out; omega)⟩
      obtain ⟨g, rfl, hb⟩ := HR.out k p hp
      obtain ⟨r0, _⟩ := hb.keep HL.out
      have HP := hide' hp
      obtain ⟨bx, hbx⟩ : ∃ b, b = (p.id == id) := ⟨_, rfl⟩
      have hbx' := hbx.symm
      have HBX := hide' hbx
      clear hb hp hbx
      by_cases hki : k < i
      · have hf : bx = false := by rw [HBX.out]; exact HMI.out k p HP.out hki
        subst hf
        go_wp2
        go_roundg (n - (k + 1))
        case measure => omega
        case rel => exact ⟨k + 1, by omega, by omega, rfl, by go_num, HL⟩
      · have hki' : k = i := by have := HLE.out; omega
        subst hki'
        have hf : bx = true := by
          obtain ⟨q, h1, h2⟩ := HH.out (by have := HN.out; omega)
          rw [HP.out] at h1
          cases h1
          rw [HBX.out]
          exact beq_t h2
        subst hf
        have HI2 : Hid (plI L id = ((k : Nat) : Int)) := by rw [HI.out, if_pos hlt]; exact rfl
        clear HI
        go_wp2
        go_ret
        exact ⟨by rw [HI2.out]; rfl, HL.out⟩
    · have hkn' : k = n := by omega
      subst hkn'
      have hik : i = k := by have := HLE.out; omega
      subst hik
      have HI2 : Hid (plI L id = -1) := by rw [HI.out, if_neg hlt]; exact rfl
      clear HI
      go_wp2
      go_ret
      exact ⟨by rw [HI2.out]; rfl, HL.out⟩

/-- New windows. -/
def NewW (L : List Wn) (w : World) (e : Ending) (w' : World) : Prop := ∃ a cap, e = .returned (.slice a L.length cap) ∧ Ws w' a L.length cap L ∧ Stay (fun _ => False) w w' ∧ ∀ k, a.map Addr.block = some k → w.heap.size ≤ k

theorem first27 (a : Option Addr) (n cap : Nat) (L : List Wn) (p : Wn) (w : World) (h : Ws w a n cap L) (hm : n ≤ 1000) :
    Calls Try.prog 27 #[.slice a n cap, .agg #[.int .i64 p.id, .int .i64 p.env, .int .i64 p.x, .int .i64 p.y, .int .i64 p.w, .int .i64 p.h, .bool p.hid]] w (NewW (p :: L) w) := by
  obtain ⟨W0, hW0⟩ : ∃ W, W = w.alloc (.cells #[.int .i64 p.id, .int .i64 p.env, .int .i64 p.x, .int .i64 p.y, .int .i64 p.w, .int .i64 p.h, .bool p.hid] 78) := ⟨_, rfl⟩
  obtain ⟨bs, hbs⟩ : ∃ b, b = w.heap.size := ⟨_, rfl⟩
  have hst0 : Stay (fun _ => False) w W0 := by rw [hW0]; exact (Stay.refl _ _).alloc _
  have hb0 : NBox W0 bs p := by rw [hW0]; exact NBox.new p hbs.symm
  obtain ⟨W1, hW1⟩ : ∃ W, W = W0.alloc (.cells #[.int .i64 p.id, .int .i64 p.env, .int .i64 p.x, .int .i64 p.y, .int .i64 p.w, .int .i64 p.h, .bool p.hid] 78) := ⟨_, rfl⟩
  obtain ⟨b1, hb1⟩ : ∃ b, b = W0.heap.size := ⟨_, rfl⟩
  have hst1 : Stay (fun _ => False) W0 W1 := by rw [hW1]; exact (Stay.refl _ _).alloc _
  have HO : Hid (W1.ownsRow b1 78 7 (.slice (some ⟨b1, 0, none⟩) 1 1) 1 p.parts) := by rw [hW1, hb1]; exact owns_newS W0 #[.int .i64 p.id, .int .i64 p.env, .int .i64 p.x, .int .i64 p.y, .int .i64 p.w, .int .i64 p.h, .bool p.hid] 78 7 1 rfl (by unfold maxLen; omega)
  have HS := hide' (hst0.trans hst1)
  have HSZ := hide' (show w.heap.size ≤ b1 by rw [hb1]; exact hst0.size)
  have HSZ1 := hide' (show b1 ≤ W1.heap.size by rw [hb1]; exact hst1.size)
  have HSRC := hide' (h.keep (hst0.trans hst1)).row
  have HONE := hide' (wc_one L)
  have HNM := hide' (show 1 + n ≤ 1000000 by omega)
  have HLN := hide' h.1
  obtain ⟨q0, q1, q2, q3, q4, q5, q6, _⟩ := hb0
  clear hst0 hst1 h
  go_enter Try.func27, Try.ntmps27
  go_upto_region 1 with fail
  rw [← hW0, ← hbs]
  clear hbs hW0
  go_wp2_with (rw [← hW1, ← hb1]; clear hW1 hb1; at_builtin; go_must (refine appS rfl _ _ 30 rfl Try.underlying30 info78 rfl (by decide) (by decide) HO.out rfl HSRC.out rfl HONE.out HNM.out HSZ1.out ?_; intro v5 W5 ho hst hb; have HO5 := hide' ho; have HST := hide' hst; clear ho hst hb))
  go_ret
  have ho := HO5.out
  rw [show p.parts ++ wc L = wc (p :: L) from rfl, show 1 + n = (p :: L).length by rw [List.length_cons, HLN.out]; omega] at ho
  obtain ⟨a', cap', hv, hw, hk⟩ := Ws.of_owns ho
  exact ⟨a', cap', by rw [← hv]; rfl, hw, HS.out.trans2 HST.out (fun j hj e => by
    have e2 : b1 = j := by simpa [Value.ownBlock] using e
    have := HSZ.out
    omega), fun k hkk => Nat.le_trans HSZ.out (hk k hkk)⟩

theorem isRowS_sub {w : World} {g o m c : Nat} {xs : List Value} (hl : xs.length = m * 7) (h : w.rangeAt g o xs) : IsRowS w 7 (.slice (some ⟨g, o, none⟩) m c) m xs :=
  .inr ⟨_, _, rfl, hl, fun j u hu => by rw [addr_add]; exact h j u hu⟩

set_option maxHeartbeats 1000000 in
theorem out29 (g n cap i : Nat) (L : List Wn) (w : World) (h : Ws w (some ⟨g, 0, none⟩) n cap L) (hi : i < n) (hm : n ≤ 1000) :
    Calls Try.prog 29 #[.slice (some ⟨g, 0, none⟩) n cap, .int .i64 (i : Nat)] w (NewW (L.eraseIdx i) w) := by
  obtain ⟨w1, hw1⟩ : ∃ W, W = (w.alloc (.cells #[] 78)).drew := ⟨_, rfl⟩
  obtain ⟨b1, hb1⟩ : ∃ b, b = w.heap.size := ⟨_, rfl⟩
  have hst1 : Stay (fun _ => False) w w1 := by rw [hw1]; exact ((Stay.refl _ _).alloc _).drew
  have hlen := h.1
  have hcap := h.2.1
  have HO1 : Hid (w1.ownsRow b1 78 7 (.slice (some ⟨b1, 0, none⟩) 0 0) 0 []) := by
    rw [hw1, hb1]
    exact (Stay.refl (fun _ => False) (w.alloc (.cells #[] 78))).drew.owns (owns_newS w #[] 78 7 0 rfl (by unfold maxLen; omega)) (fun _ _ h => h)
  have HST1 := hide' hst1
  have HSZ := hide' (show w.heap.size ≤ b1 by omega)
  have HB1 := hide' (show b1 ≤ w1.heap.size by rw [hb1]; exact hst1.size)
  have hws := h.keep hst1
  have hgr : g < w.heap.size ∧ w1.rangeAt g 0 (wc L) := by
    rcases hws.2.2.2 with ⟨e, _⟩ | ⟨g', e, _, r, _⟩
    · cases e
    · cases e; exact ⟨h.lt g rfl, r⟩
  obtain ⟨ad, had⟩ : ∃ ad : Addr, ad = if cap = i + 1 then ⟨g, 0, none⟩ else ⟨g, (i + 1) * 7, none⟩ := ⟨_, rfl⟩
  have HSA : Hid (IsRowS w1 7 (.slice (some ⟨g, 0, none⟩) i cap) i (wc (L.take i))) := isRowS_sub (by rw [wc_length, List.length_take]; omega) (fun j v hj => hgr.2 j v (by
    rw [wc_take, List.getElem?_take] at hj
    split at hj
    · exact hj
    · cases hj))
  have hld : (wc (L.drop (i + 1))).length = (n - (i + 1)) * 7 := by rw [wc_length, List.length_drop, hlen]
  have HSB : Hid (IsRowS w1 7 (.slice (some ad) (n - (i + 1)) (cap - (i + 1))) (n - (i + 1)) (wc (L.drop (i + 1)))) := by
    refine .inr ⟨ad, _, rfl, hld, fun j u hu => ?_⟩
    have hj : j < (wc (L.drop (i + 1))).length := (List.getElem?_eq_some_iff.1 hu).1
    rw [had, if_neg (by omega), addr_add]
    rw [wc_drop, List.getElem?_drop] at hu
    have := hgr.2 _ _ hu
    rwa [Nat.zero_add] at this
  have HNB : Hid (∀ k, (Value.slice (some ad) (n - (i + 1)) (cap - (i + 1))).ownBlock = some k → ¬ (Value.slice (some ⟨b1, 0, none⟩) 0 0).ownBlock = some k) := fun k e1 e2 => by
    have h1 : ad.block = g := by rw [had]; split <;> rfl
    have e3 : ad.block = k := by simpa [Value.ownBlock] using e1
    have e4 : b1 = k := by simpa [Value.ownBlock] using e2
    have := HSZ.out
    have := hgr.1
    omega
  have HONA := hide' (wc_one (L.take i))
  have HONB := hide' (wc_one (L.drop (i + 1)))
  have HNA := hide' (show 0 + i ≤ 1000000 by omega)
  have HNB2 := hide' (show 0 + i + (n - (i + 1)) ≤ 1000000 by omega)
  have HAD := hide' had
  have HLN := hide' (show L.length = n ∧ i < n from ⟨hlen, hi⟩)
  have hz1 : i ≤ cap := by omega
  have hz2 : i + 1 ≤ n := by omega
  have hz3 : (i : Int) + 1 ≤ 1000 := by omega
  have hwr : IntKind.i64.wrap ((i : Int) + 1) = (i : Int) + 1 := by rw [IntKind.wrap_i64]; omega
  clear hst1 hgr hws h hld had hlen hcap
  go_enter Try.func29, Try.ntmps29
  go_upto_region 1 with fail
  have hS : True := trivial
  refine wp_region_mix (fun _ => True) [(1, true), (2, true), (3, true), (5, true), (6, true), (7, true), (8, true), (0, false), (4, false), (9, false), (10, true)] (by kernel_rfl) (by kernel_rfl) (fun _ d _ _ _ h => by cases d <;> exact h) hS ?_
  refine mix_begin (fun K0 hK0 => ?_)
  refine mix_take hK0 (some 6) (.move (.tmp 0)) 30 _ (by kernel_rfl) (by kernel_rfl) (fun w' hS' => by (simp only [opr]; go_simp; try with_reducible rfl)) (fun K1 hK1 => ?_)
  clear hK0 K0
  simp only [Act.put, List.setIfInBounds_toArray, List.set_cons_zero, List.set_cons_succ]
  refine mix_take hK1 (some 7) (.move (.tmp 1)) 3 _ (by kernel_rfl) (by kernel_rfl) (fun w' hS' => by (simp only [opr]; go_simp; try with_reducible rfl)) (fun K2 hK2 => ?_)
  clear hK1 K1
  simp only [Act.put, List.setIfInBounds_toArray, List.set_cons_zero, List.set_cons_succ]
  refine mix_take hK2 (some 8) (.slice 30 (.tmp 6) none (some (.tmp 7)) none) 30 _ (by kernel_rfl) (by kernel_rfl) (fun w' hS' => by exact slice30_h (k := i) rfl rfl (by omega) _ _ _) (fun K3 hK3 => ?_)
  clear hK2 K2
  simp only [Act.put, List.setIfInBounds_toArray, List.set_cons_zero, List.set_cons_succ]
  refine mix_take hK3 (some 10) (.move (.tmp 0)) 30 _ (by kernel_rfl) (by kernel_rfl) (fun w' hS' => by (simp only [opr]; go_simp; try with_reducible rfl)) (fun K4 hK4 => ?_)
  clear hK3 K3
  simp only [Act.put, List.setIfInBounds_toArray, List.set_cons_zero, List.set_cons_succ]
  refine mix_take hK4 (some 11) (.move (.tmp 1)) 3 _ (by kernel_rfl) (by kernel_rfl) (fun w' hS' => by (simp only [opr]; go_simp; try with_reducible rfl)) (fun K5 hK5 => ?_)
  clear hK4 K4
  simp only [Act.put, List.setIfInBounds_toArray, List.set_cons_zero, List.set_cons_succ]
  refine mix_take hK5 (some 12) (.binOp BinOp.add 3 (.tmp 11) (.const (Value.int IntKind.i64 1)) 3) 3 _ (by kernel_rfl) (by kernel_rfl) (fun w' hS' => by (simp only [opr]; go_simp; try with_reducible rfl)) (fun K6 hK6 => ?_)
  clear hK5 K5
  simp only [Act.put, List.setIfInBounds_toArray, List.set_cons_zero, List.set_cons_succ]
  refine mix_take hK6 (some 13) (.slice 30 (.tmp 10) (some (.tmp 12)) none none) 30 _ (by kernel_rfl) (by kernel_rfl) (fun w' hS' => by exact slice30_la (k := i + 1) (ad := ad) rfl rfl (by omega) HAD.out rfl rfl _ _ _) (fun K7 hK7 => ?_)
  clear hK6 K6
  simp only [Act.put, List.setIfInBounds_toArray, List.set_cons_zero, List.set_cons_succ]
  refine mix_chain hK7 (fun K7c hK7c => ?_)
  clear hK7 K7
  refine op_plain (some 5) (.buildSlice 30 0 #[]) 30 (by kernel_rfl) (by kernel_rfl) ?_
  go_wp2
  rw [← hw1, ← hb1]
  refine hK7c _ _ trivial (mix_begin fun K8 hK8 => ?_)
  clear hK7c K7c
  try simp only [Act.put, List.setIfInBounds_toArray, List.set_cons_zero, List.set_cons_succ]
  refine mix_chain hK8 (fun K8c hK8c => ?_)
  clear hK8 K8
  refine op_plain (some 9) (.call { callee := Callee.builtin Builtin.append, args := #[.tmp 5, .tmp 8], argTypes := #[30, 30] }) 30 (by kernel_rfl) (by kernel_rfl) ?_
  refine appS rfl _ _ 30 rfl Try.underlying30 info78 rfl (by decide) (by decide) HO1.out rfl HSA.out rfl HONA.out HNA.out HB1.out ?_
  intro v4 w4 ho hst hb
  have HO4 := hide' ho
  have HST4 := hide' (HST1.out.trans2 hst (fun j hj e => by have e2 : b1 = j := (by simpa [Value.ownBlock] using e); have := HSZ.out; omega))
  have HSB4 := hide' (HSB.out.stay hst HNB.out)
  have HB4 := hide' (Nat.le_trans HB1.out hst.size)
  clear ho hst hb
  refine wpList_nil ?_
  refine hK8c _ _ trivial (mix_begin fun K9 hK9 => ?_)
  clear hK8c K8c
  try simp only [Act.put, List.setIfInBounds_toArray, List.set_cons_zero, List.set_cons_succ]
  refine mix_chain hK9 (fun K9c hK9c => ?_)
  clear hK9 K9
  refine op_plain (some 14) (.call { callee := Callee.builtin Builtin.append, args := #[.tmp 9, .tmp 13], argTypes := #[30, 30] }) 30 (by kernel_rfl) (by kernel_rfl) ?_
  refine appS rfl _ _ 30 rfl Try.underlying30 info78 rfl (by decide) (by decide) HO4.out rfl HSB4.out rfl HONB.out HNB2.out HB4.out ?_
  intro v5 w5 ho hst hb
  have HO5 := hide' ho
  have HST5 := hide' (HST4.out.trans2 hst (fun j hj e => by have := (HO4.out.lt j e).1; have := HSZ.out; omega))
  clear ho hst hb
  refine wpList_nil ?_
  refine hK9c _ _ trivial (mix_begin fun K10 hK10 => ?_)
  clear hK9c K9c
  try simp only [Act.put, List.setIfInBounds_toArray, List.set_cons_zero, List.set_cons_succ]
  refine mix_take hK10 (some 4) (.assign (.tmp 14)) 30 _ (by kernel_rfl) (by kernel_rfl) (fun w' hS' => by (simp only [opr]; go_simp; try with_reducible rfl)) (fun K11 hK11 => ?_)
  clear hK10 K10
  simp only [Act.put, List.setIfInBounds_toArray, List.set_cons_zero, List.set_cons_succ]
  refine hK11 _ _ (mix_nil ?_)
  clear hK11 K11
  go_wp2
  go_ret
  have ho := HO5.out
  rw [show ([] : List Value) ++ wc (L.take i) ++ wc (L.drop (i + 1)) = wc (L.eraseIdx i) by rw [List.nil_append, ← wc_append, ← List.eraseIdx_eq_take_drop_succ],
    show 0 + i + (n - (i + 1)) = (L.eraseIdx i).length by rw [List.length_eraseIdx, if_pos (by have := HLN.out; omega)]; have := HLN.out; omega] at ho
  obtain ⟨a', cap', hv, hw, hk⟩ := Ws.of_owns ho
  exact ⟨a', cap', by rw [← hv]; rfl, hw, HST5.out, fun k hkk => Nat.le_trans HSZ.out (hk k hkk)⟩

set_option maxHeartbeats 1000000 in
theorem fits20 (sw sh : Int) (r : R) (w : World) (_h1 : scrB sw = true) (_h2 : scrB sh = true) : Calls Try.prog 20 #[.int .i64 sw, .int .i64 sh, .agg #[.int .i64 r.x, .int .i64 r.y, .int .i64 r.w, .int .i64 r.h]] w (Gives (.bool (fitB sw sh r)) w) := by
  obtain ⟨W0, hW0⟩ : ∃ W, W = w.alloc (.cells #[.int .i64 r.x, .int .i64 r.y, .int .i64 r.w, .int .i64 r.h] 41) := ⟨_, rfl⟩
  obtain ⟨bs, hbs⟩ : ∃ b, b = w.heap.size := ⟨_, rfl⟩
  have hst0 : Stay (fun _ => False) w W0 := by rw [hW0]; exact (Stay.refl _ _).alloc _
  have HS0 := hide' hst0
  have HB := hide' (show Box W0 bs r by rw [hW0]; exact Box.new r hbs.symm)
  have HR := hide' (refRight48 r)
  have hrb := @right_bd r
  obtain ⟨y, hy⟩ : ∃ y, y = fitB sw sh r := ⟨_, rfl⟩
  rw [← hy]
  unfold fitB at hy
  obtain ⟨cr, hcr⟩ : ∃ c, c = rightB r := ⟨_, rfl⟩
  rw [← hcr] at HR hy hrb
  have HF := hide' hy.symm
  obtain ⟨c0, c1, c2, c3, _⟩ := HB.out
  clear hst0 hy hcr _h1 _h2
  go_enter Try.func20, Try.ntmps20
  go_upto_region 1 with fail
  rw [← hW0, ← hbs]
  clear hW0 hbs
  go_wp2_with fail
  refine (HR.out _).mono ?_
  rintro _ w1 ⟨rfl, hs⟩
  have HS1 := hide' (HS0.out.trans hs)
  obtain ⟨e0, e1, e2, e3, _⟩ := HB.out.keep hs
  clear hs HS0 HR c0 c1 c2 c3
  cases cr
  · clear hrb
    go_wp2
    go_ret
    exact ⟨ret_bool (by rw [← HF.out]; simp), HS1.out⟩
  · have hb := hrb rfl
    clear hrb
    have hw1 : IntKind.i64.wrap (r.x + r.w) = r.x + r.w := by rw [IntKind.wrap_i64]; omega
    have hw2 : IntKind.i64.wrap (r.y + r.h) = r.y + r.h := by rw [IntKind.wrap_i64]; omega
    by_cases h0 : 0 < r.w
    · have d0 : decide (0 < r.w) = true := decide_eq_true h0
      by_cases h1 : 0 < r.h
      · have d1 : decide (0 < r.h) = true := decide_eq_true h1
        by_cases h2 : 0 ≤ r.x
        · have d2 : decide (0 ≤ r.x) = true := decide_eq_true h2
          by_cases h3 : 0 ≤ r.y
          · have d3 : decide (0 ≤ r.y) = true := decide_eq_true h3
            by_cases h4 : r.x + r.w ≤ sw
            · have d4 : decide (r.x + r.w ≤ sw) = true := decide_eq_true h4
              by_cases h5 : r.y + r.h ≤ sh
              · have d5 : decide (r.y + r.h ≤ sh) = true := decide_eq_true h5
                go_wp2
                go_ret
                exact ⟨ret_bool (by rw [← HF.out]; simp [*]), HS1.out⟩
              · have d5 : decide (r.y + r.h ≤ sh) = false := decide_eq_false h5
                go_wp2
                go_ret
                exact ⟨ret_bool (by rw [← HF.out]; simp [*]), HS1.out⟩
            · have d4 : decide (r.x + r.w ≤ sw) = false := decide_eq_false h4
              go_wp2
              go_ret
              exact ⟨ret_bool (by rw [← HF.out]; simp [*]), HS1.out⟩
          · have d3 : decide (0 ≤ r.y) = false := decide_eq_false h3
            go_wp2
            go_ret
            exact ⟨ret_bool (by rw [← HF.out]; simp [*]), HS1.out⟩
        · have d2 : decide (0 ≤ r.x) = false := decide_eq_false h2
          go_wp2
          go_ret
          exact ⟨ret_bool (by rw [← HF.out]; simp [*]), HS1.out⟩
      · have d1 : decide (0 < r.h) = false := decide_eq_false h1
        go_wp2
        go_ret
        exact ⟨ret_bool (by rw [← HF.out]; simp [*]), HS1.out⟩
    · have d0 : decide (0 < r.w) = false := decide_eq_false h0
      go_wp2
      go_ret
      exact ⟨ret_bool (by rw [← HF.out]; simp [*]), HS1.out⟩

end Go.Proofs.Yticccknocjnkpaa
