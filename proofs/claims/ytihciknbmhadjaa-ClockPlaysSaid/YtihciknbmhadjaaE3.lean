/-
  The clock goes on by a tick: walked. No conditions.
-/
import Derived.Test.YtihciknbmhadjaaE2
namespace Go.Proofs.Ytihciknbmhadjaa
open Go.RowKit

theorem dueN_eq {now : Int} : ∀ {L : List Tm} {k : Nat}, k ≤ L.length → (∀ j a, j < k → L[j]? = some a → a.du ≤ now) → (∀ a, L[k]? = some a → now < a.du) → dueN now L = k
  | [], k, h, _, _ => by simp at h; subst h; rfl
  | b :: L, 0, _, _, h => by unfold dueN; rw [if_neg (by have := h b rfl; omega)]
  | b :: L, k + 1, hk, h1, h2 => by
    unfold dueN
    rw [if_pos (h1 0 b (by omega) rfl), dueN_eq (L := L) (k := k) (by simpa using hk) (fun j a hj ha => h1 (j + 1) a (by omega) (by simpa using ha)) (fun a ha => h2 a (by simpa using ha))]

/-- What a clock is behind a tick: what is due, and what is left. -/
def TickT (q : Cq) (x : Int) (L : List Tm) (w : World) (e : Ending) (w' : World) : Prop := ∃ v a c, e = .returned (.slice a (dueN x L) c) ∧ CAt w' ⟨q.b, v⟩ x (L.drop (dueN x L)) ∧ Moved q ⟨q.b, v⟩ w w' ∧ Rd w' a (L.take (dueN x L)) ∧ dueN x L ≤ c ∧ ∀ j, a.map Addr.block = some j → w.heap.size ≤ j ∧ ¬ Cq.own ⟨q.b, v⟩ j

set_option maxHeartbeats 2000000 in
theorem tick15 (q : Cq) (now : Int) (L : List Tm) (w : World) (h : CAt w q now L) (hn : now < 1000000) : Calls Try.prog 15 #[.pointer (some ⟨q.b, 0, none⟩)] w (TickT q (now + 1) L w) := by
  obtain ⟨b, v⟩ := q
  obtain ⟨a, cap, hv, hw, h00⟩ := h.row
  simp only at hv
  subst hv
  obtain ⟨n, hnn⟩ : ∃ n, n = L.length := ⟨_, rfl⟩
  have hq : CAt w ⟨b, .slice a n cap⟩ now L := by rw [hnn]; exact h
  obtain ⟨x, hx⟩ : ∃ x, x = now + 1 := ⟨_, rfl⟩
  have hxw : IntKind.i64.wrap (now + 1) = x := by rw [IntKind.wrap_i64]; have := h.n0; omega
  obtain ⟨W1, hW1⟩ : ∃ W, W = w.setCell ⟨b, 0, none⟩ (.int .i64 x) := ⟨_, rfl⟩
  have hst : Stay (fun j => j = b) w W1 := by rw [hW1]; exact (Stay.refl (fun j => j = b) w).setCell (p := ⟨b, 0, none⟩) rfl _
  have hb1 : KBox W1 b ⟨x, .slice a n cap⟩ := by rw [hW1]; exact hq.box.put0 rfl
  have hw1 : Ws W1 a n cap L := by
    rw [hnn]
    exact hw.stay hst (fun j hj e => h.vb j (by rw [own_map]; exact hj) e)
  have HQ := hide' hq
  have HST := hide' hst
  have HB1 := hide' hb1
  have HW1 := hide' hw1
  have HNN : Hid (n = L.length ∧ n ≤ 1024) := ⟨hnn, by have := h.len; omega⟩
  have HH := hide' h00
  have HXN := hide' hx
  have HXB : Hid (x ≤ 1000000) := by show x ≤ 1000000; omega
  have n2 : (n : Int) ≤ 1024 := by have := HNN.out.2; omega
  obtain ⟨b0, b1, f0, f1⟩ := hq.box
  simp only at b0 b1 f0 f1
  rw [← hx, ← hnn]
  clear h hw h00 hnn hq hst hb1 hw1 hn hx
  go_enter Try.func15, Try.ntmps15
  go_upto_region 2 with fail
  rw [← hW1]
  clear hW1 b0 b1 f0 f1 hxw
  have HL0 : Hid (Stay (fun _ => False) W1 W1 ∧ ∀ j a, j < 0 → L[j]? = some a → a.du ≤ x) := ⟨Stay.refl _ _, fun j a h => by omega⟩
  go_wp2_with fail
  go_loopg [3] n (fun gg v3 wr => ∃ k : Nat, k ≤ n ∧ gg = n - k ∧ v3 = .int .i64 (k : Int) ∧ Hid (Stay (fun _ => False) W1 wr ∧ ∀ j a, j < k → L[j]? = some a → a.du ≤ x))
  case atStart => exact ⟨0, Nat.zero_le _, rfl, rfl, HL0⟩
  case round =>
    clear HL0
    obtain ⟨k, hk, rfl, rfl, HL⟩ := hrel
    have HKB := hide' (HB1.out.keep HL.out.1)
    obtain ⟨b0, b1, _, _⟩ := HKB.out
    simp only at b0 b1
    by_cases hgo : k < n ∧ ∀ t, L[k]? = some t → t.du ≤ x
    · obtain ⟨hlt, hdu⟩ := hgo
      have kn : (k : Int) < (n : Nat) := by omega
      obtain ⟨t, ht⟩ : ∃ t, L[k]? = some t := ⟨_, List.getElem?_eq_getElem (by rw [← HNN.out.1]; exact hlt)⟩
      obtain ⟨g, rfl, hb⟩ := HW1.out.at ht
      obtain ⟨c0, c1, c2⟩ := hb.keep HL.out.1
      have hd := hdu t ht
      have hd2 : decide (t.du ≤ x) = true := decide_eq_true hd
      have HN1 : Hid (∀ m, Stay (fun _ => False) W1 (wr.drewN m) ∧ ∀ j a, j < k + 1 → L[j]? = some a → a.du ≤ x) := fun m => by
        refine ⟨HL.out.1.drewN m, fun j u hj hu => ?_⟩
        by_cases e : j = k
        · subst e; exact hdu u hu
        · exact HL.out.2 j u (by omega) hu
      clear ht hb hdu HL HKB
      go_wp2_with fail
      go_quiet (fail)
      clear b0 b1 c0 c1 c2 hd hd2
      go_wp2
      go_roundg (n - (k + 1))
      case measure => omega
      case rel => exact ⟨k + 1, by omega, rfl, by go_num, HN1.out _⟩
    · have HE : Hid (dueN x L = k) := by
        refine dueN_eq (by rw [← HNN.out.1]; exact hk) HL.out.2 (fun a ha => ?_)
        have hlt : k < n := by rw [HNN.out.1]; exact (List.getElem?_eq_some_iff.1 ha).1
        apply Classical.byContradiction
        intro hc
        exact hgo ⟨hlt, fun t ht => by rw [ha] at ht; cases ht; omega⟩
      have HKC : Hid (∀ m, Stay (fun _ => False) W1 (wr.drewN m)) := fun m => HL.out.1.drewN m
      have HCL : Hid (∀ W, Stay (fun _ => False) W1 W → Calls Try.prog 24 #[.slice a k cap] W (NewL (L.take k) W)) := fun W hs => clone24 a k cap (L.take k) W ((HW1.out.keep hs).take hk) (by have := HNN.out.2; omega)
      have HDE : Hid (∀ W, Stay (fun _ => False) W1 W → Calls Try.prog 25 #[.slice a n cap, .int .i64 0, .int .i64 (k : Nat)] W (DelN L k a cap W)) := fun W hs => delete25 a n k cap L W (HW1.out.keep hs) hk (by have := HNN.out.2; omega)
      have HLT : Hid ((L.take k).length = k) := by show (L.take k).length = k; rw [List.length_take]; have := HNN.out.1; omega
      have kc : (k : Int) ≤ (cap : Nat) := by have := HW1.out.2.1; omega
      have kc2 : (k : Int) ≤ (n : Nat) := by omega
      by_cases hlt : k < n
      · have kn : (k : Int) < (n : Nat) := by omega
        obtain ⟨t, ht⟩ : ∃ t, L[k]? = some t := ⟨_, List.getElem?_eq_getElem (by rw [← HNN.out.1]; exact hlt)⟩
        have hd : ¬ t.du ≤ x := fun e => hgo ⟨hlt, fun u hu => by rw [ht] at hu; cases hu; exact e⟩
        have hd2 : decide (t.du ≤ x) = false := decide_eq_false hd
        obtain ⟨g, rfl, hb⟩ := HW1.out.at ht
        obtain ⟨c0, c1, c2⟩ := hb.keep HL.out.1
        clear ht hb
        go_wp2_with fail
        go_quiet (fail)
        clear c0 c1 c2 hd hd2 kn
        obtain ⟨wq, hwq⟩ : ∃ W, W = wr.drewN nq := ⟨_, rfl⟩
        have hsq : Stay (fun _ => False) W1 wq := by rw [hwq]; exact HKC.out nq
        rw [← hwq]
        clear hwq
        have HSQ := hide' hsq
        have HCQ := hide' (HCL.out wq hsq)
        have HKB2 := hide' (HB1.out.keep hsq)
        clear hsq HKC HCL b0 b1 HL HKB hgo
        obtain ⟨b0, b1, f0, f1⟩ := HKB2.out
        simp only at b0 b1 f0 f1
        go_wp2_with fail
        refine HCQ.out.mono ?_
        rintro _ w2 ⟨a2, c2, rfl, hs2, hrd, hlc, hnb⟩
        have hkb := HKB2.out.keep hs2
        have HKB3 := hide' hkb
        have HDD := hide' (HDE.out w2 (HSQ.out.trans hs2))
        have HS2 := hide' hs2
        have HRD := hide' hrd
        have HLC := hide' hlc
        have HNB := hide' hnb
        clear hs2 hrd hlc hnb b0 b1 f0 f1 HCQ HDE HKB2
        obtain ⟨b0, b1, f0, f1⟩ := hkb
        simp only at b0 b1 f0 f1
        obtain ⟨tl, htl⟩ : ∃ l, l = (L.take k).length := ⟨_, rfl⟩
        have HTL : Hid (tl = k) := by rw [htl]; exact HLT.out
        rw [← htl]
        clear htl
        go_wp2_with fail
        refine HDD.out.mono ?_
        rintro _ w3 ⟨rfl, hws, hs3⟩
        obtain ⟨dl, hdl⟩ : ∃ l, l = L.length - k := ⟨_, rfl⟩
        have hd3 : (L.drop k).length = dl := by rw [List.length_drop, hdl]
        rw [← hdl] at hws
        rw [← hdl]
        have HVB : Hid (∀ j, (some (⟨g, 0, none⟩ : Addr)).map Addr.block = some j → ¬ j = b) := fun j hj => HQ.out.vb j (by rw [own_map]; exact hj)
        have hkb4 := HKB3.out.stay hs3 (fun e => HVB.out b e rfl)
        have HKB4 := hide' hkb4
        have HWS := hide' hws
        have HS3 := hide' hs3
        have HD3 := hide' hd3
        clear hws hs3 hdl hd3 b0 b1 f0 f1 HDD
        obtain ⟨b0, b1, f0, f1⟩ := hkb4
        simp only at b0 b1 f0 f1
        go_wp2
        go_ret
        generalize hWr : World.setCell _ _ _ = W5
        have hst5 : Stay (fun j => j = b) w3 W5 := by rw [← hWr]; exact (Stay.refl (fun j => j = b) w3).setCell (p := ⟨b, 1, none⟩) rfl _
        have hb5 : KBox W5 b ⟨x, .slice (some ⟨g, 0, none⟩) dl cap⟩ := by rw [← hWr]; exact HKB4.out.put1 rfl
        have hw5 : Wv W5 (.slice (some ⟨g, 0, none⟩) dl cap) (L.drop k) := ⟨some ⟨g, 0, none⟩, cap, by rw [HD3.out], by rw [HD3.out]; exact HWS.out.stay hst5 (fun j hj e => HVB.out j hj e), HH.out⟩
        have hown : ∀ j, Cq.own ⟨b, .slice (some ⟨g, 0, none⟩) dl cap⟩ j → Cq.own ⟨b, .slice (some ⟨g, 0, none⟩) n cap⟩ j := fun j hj => by
          rcases hj with h | h
          · exact .inl h
          · exact .inr (by rw [own_map] at h; rw [own_map]; exact h)
        have hz : w.heap.size ≤ wq.heap.size := Nat.le_trans HST.out.size HSQ.out.size
        refine ⟨.slice (some ⟨g, 0, none⟩) dl cap, a2, c2, by rw [HE.out, HTL.out]; rfl, ?_, ⟨?_, fun j hj => .inl (hown j hj)⟩, ?_, by rw [HE.out]; have := HLC.out; rw [HLT.out] at this; exact this, fun j hj => ?_⟩
        · rw [HE.out]
          exact ⟨hb5, hw5, fun j hj => HVB.out j (by rw [← own_map]; exact hj), HQ.out.srt.drop k, by rw [List.length_drop]; have := HQ.out.len; omega, by have := HQ.out.n0; have := HXN.out; omega, HXB.out⟩
        · have h1 : Stay (Cq.own ⟨b, .slice (some ⟨g, 0, none⟩) n cap⟩) w wq := (HST.out.mono (fun j _ e => .inl e)).trans2 HSQ.out (fun _ _ h => h.elim)
          have h2 := h1.trans2 HS2.out (fun _ _ h => h.elim)
          have h3 := h2.trans2 HS3.out (fun j hj e => .inr (by rw [own_map]; exact e))
          exact h3.trans2 hst5 (fun j hj e => .inl e)
        · rw [HE.out]
          refine (HRD.out.stay HS3.out (fun j hj e => ?_)).stay hst5 (fun j hj e => ?_)
          · have h1 := HNB.out j hj
            have h2 := HQ.out.lt j (.inr (by rw [own_map]; exact e))
            omega
          · have h1 := HNB.out j hj
            have h2 := HQ.out.lt b (.inl rfl)
            omega
        · have h1 := HNB.out j hj
          refine ⟨by omega, fun e => ?_⟩
          have h2 := HQ.out.lt j (hown j e)
          omega
      · have kn : ¬ (k : Int) < (n : Nat) := by omega
        go_wp2_with fail
        go_quiet (fail)
        clear kn
        obtain ⟨wq, hwq⟩ : ∃ W, W = wr.drewN nq := ⟨_, rfl⟩
        have hsq : Stay (fun _ => False) W1 wq := by rw [hwq]; exact HKC.out nq
        rw [← hwq]
        clear hwq
        have HSQ := hide' hsq
        have HCQ := hide' (HCL.out wq hsq)
        have HKB2 := hide' (HB1.out.keep hsq)
        clear hsq HKC HCL b0 b1 HL HKB hgo
        obtain ⟨b0, b1, f0, f1⟩ := HKB2.out
        simp only at b0 b1 f0 f1
        go_wp2_with fail
        refine HCQ.out.mono ?_
        rintro _ w2 ⟨a2, c2, rfl, hs2, hrd, hlc, hnb⟩
        have hkb := HKB2.out.keep hs2
        have HKB3 := hide' hkb
        have HDD := hide' (HDE.out w2 (HSQ.out.trans hs2))
        have HS2 := hide' hs2
        have HRD := hide' hrd
        have HLC := hide' hlc
        have HNB := hide' hnb
        clear hs2 hrd hlc hnb b0 b1 f0 f1 HCQ HDE HKB2
        obtain ⟨b0, b1, f0, f1⟩ := hkb
        simp only at b0 b1 f0 f1
        obtain ⟨tl, htl⟩ : ∃ l, l = (L.take k).length := ⟨_, rfl⟩
        have HTL : Hid (tl = k) := by rw [htl]; exact HLT.out
        rw [← htl]
        clear htl
        go_wp2_with fail
        refine HDD.out.mono ?_
        rintro _ w3 ⟨rfl, hws, hs3⟩
        obtain ⟨dl, hdl⟩ : ∃ l, l = L.length - k := ⟨_, rfl⟩
        have hd3 : (L.drop k).length = dl := by rw [List.length_drop, hdl]
        rw [← hdl] at hws
        rw [← hdl]
        have HVB : Hid (∀ j, a.map Addr.block = some j → ¬ j = b) := fun j hj => HQ.out.vb j (by rw [own_map]; exact hj)
        have hkb4 := HKB3.out.stay hs3 (fun e => HVB.out b e rfl)
        have HKB4 := hide' hkb4
        have HWS := hide' hws
        have HS3 := hide' hs3
        have HD3 := hide' hd3
        clear hws hs3 hdl hd3 b0 b1 f0 f1 HDD
        obtain ⟨b0, b1, f0, f1⟩ := hkb4
        simp only at b0 b1 f0 f1
        go_wp2
        go_ret
        generalize hWr : World.setCell _ _ _ = W5
        have hst5 : Stay (fun j => j = b) w3 W5 := by rw [← hWr]; exact (Stay.refl (fun j => j = b) w3).setCell (p := ⟨b, 1, none⟩) rfl _
        have hb5 : KBox W5 b ⟨x, .slice a dl cap⟩ := by rw [← hWr]; exact HKB4.out.put1 rfl
        have hw5 : Wv W5 (.slice a dl cap) (L.drop k) := ⟨a, cap, by rw [HD3.out], by rw [HD3.out]; exact HWS.out.stay hst5 (fun j hj e => HVB.out j hj e), HH.out⟩
        have hown : ∀ j, Cq.own ⟨b, .slice a dl cap⟩ j → Cq.own ⟨b, .slice a n cap⟩ j := fun j hj => by
          rcases hj with h | h
          · exact .inl h
          · exact .inr (by rw [own_map] at h; rw [own_map]; exact h)
        have hz : w.heap.size ≤ wq.heap.size := Nat.le_trans HST.out.size HSQ.out.size
        refine ⟨.slice a dl cap, a2, c2, by rw [HE.out, HTL.out]; rfl, ?_, ⟨?_, fun j hj => .inl (hown j hj)⟩, ?_, by rw [HE.out]; have := HLC.out; rw [HLT.out] at this; exact this, fun j hj => ?_⟩
        · rw [HE.out]
          exact ⟨hb5, hw5, fun j hj => HVB.out j (by rw [← own_map]; exact hj), HQ.out.srt.drop k, by rw [List.length_drop]; have := HQ.out.len; omega, by have := HQ.out.n0; have := HXN.out; omega, HXB.out⟩
        · have h1 : Stay (Cq.own ⟨b, .slice a n cap⟩) w wq := (HST.out.mono (fun j _ e => .inl e)).trans2 HSQ.out (fun _ _ h => h.elim)
          have h2 := h1.trans2 HS2.out (fun _ _ h => h.elim)
          have h3 := h2.trans2 HS3.out (fun j hj e => .inr (by rw [own_map]; exact e))
          exact h3.trans2 hst5 (fun j hj e => .inl e)
        · rw [HE.out]
          refine (HRD.out.stay HS3.out (fun j hj e => ?_)).stay hst5 (fun j hj e => ?_)
          · have h1 := HNB.out j hj
            have h2 := HQ.out.lt j (.inr (by rw [own_map]; exact e))
            omega
          · have h1 := HNB.out j hj
            have h2 := HQ.out.lt b (.inl rfl)
            omega
        · have h1 := HNB.out j hj
          refine ⟨by omega, fun e => ?_⟩
          have h2 := HQ.out.lt j (hown j e)
          omega

end Go.Proofs.Ytihciknbmhadjaa
