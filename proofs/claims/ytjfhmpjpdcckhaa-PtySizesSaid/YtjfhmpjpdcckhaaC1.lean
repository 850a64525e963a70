/-
  Bytes that go out are taken; what the master reads; walked. No conditions.
-/
import Derived.Test.YtjfhmpjpdcckhaaC0
import Derived.BigQuiet
import Derived.Lib.MinMax
import Derived.Deep.CutBlock
namespace Go.Proofs.Ytjfhmpjpdcckhaa
open Go.RowKit
open L17 L18

/-- Bytes were taken: a row of one's own; but for new blocks, one cell has turned. -/
def TakeQ (g p : Nat) (U : Nat → Prop) (s' : Pq) (l : List Int) (f : Value → Value) (w : World) (e : Ending) (w' : World) : Prop :=
  ∃ v w1 x U', e = .returned (f v) ∧ BR w' v l ∧ (∀ k, v.ownBlock = some k → w.heap.size ≤ k ∧ ¬ U' k) ∧ Stay (fun _ => False) w w1 ∧ w' = w1.setCell ⟨g, 2, none⟩ x ∧ PAt w' g p U' s' ∧ Grown U U' w

theorem min_take (l : List Int) (n : Int) (_h : 1 ≤ n) : ∃ k : Nat, k ≤ l.length ∧ min n (l.length : Int) = (k : Int) ∧ l.take n.toNat = l.take k ∧ l.drop n.toNat = l.drop k := by
  by_cases h1 : n.toNat ≤ l.length
  · exact ⟨n.toNat, h1, by omega, rfl, rfl⟩
  · refine ⟨l.length, Nat.le_refl _, by omega, ?_, ?_⟩
    · rw [List.take_of_length_le (by omega), List.take_of_length_le (Nat.le_refl _)]
    · rw [List.drop_eq_nil_of_le (by omega), List.drop_eq_nil_of_le (Nat.le_refl _)]

section
variable {w : World} {g p : Nat} {U : Nat → Prop} {s : Pq}

set_option maxRecDepth 100000 in
theorem take33 (n : Int) (h : PAt w g p U s) (hq : s.q.length ≤ 4096) (hn : 1 ≤ n) : Calls Try.prog 33 #[.pointer (some ⟨g, 0, none⟩), .slice none 0 0, .int .i64 n] w (TakeQ g p U (s.setQ (s.q.drop n.toNat)) (s.q.take n.toNat) id w) := by
  obtain ⟨O, v, hb, hU, _⟩ := h
  obtain ⟨a, cap, hv, hcap, _⟩ := hb.win.shape
  obtain ⟨k, hk, emin, e1, e2⟩ := min_take s.q n hn
  rw [e1, e2]
  have HB := hide' hb
  have HU := hide' hU
  have HWN := hide' hb.win
  rw [hv] at HWN
  have HKN := hide' hk
  have HWT : Hid (IArg .u8 w (.slice a k cap) (s.q.take k) a cap) := by
    have h1 := HWN.out.take (k := k) HKN.out
    rw [bys_take] at h1
    have hl : (s.q.take k).length = k := by rw [List.length_take]; have := HKN.out; omega
    have h1' : Win w 1 (.slice a (s.q.take k).length cap) (s.q.take k).length (bys (s.q.take k)) := by rw [hl]; exact h1
    obtain ⟨a1, c1, h2⟩ := h1'.iarg (fun y hy => hb.wf y (List.mem_of_mem_take hy))
    obtain ⟨e1, _, e2⟩ := iarg_shape h2 rfl
    rw [hl, e1, e2] at h2
    exact h2
  have HTB := hide' (show BR w (.slice a k cap) (s.q.take k) from ⟨a, cap, HWT.out⟩)
  have HTL : Hid (([] : List Int).length + (s.q.take k).length ≤ 1000000) := by show _ ≤ _; rw [List.length_take]; simp; omega
  have HWD := hide' (HWN.out.drop (k := k) HKN.out)
  have HVV := hide' hv
  have HME := hide' (Mine.nil w.heap.size w)
  obtain ⟨m, hmm⟩ : ∃ z, z = s.q.length := ⟨_, rfl⟩
  rw [← hmm] at hv hcap hk emin HWD HVV
  have hkc : k ≤ cap := by omega
  have hslh := fun w => slice_h_eq (P := Try.prog) (sa := a) (m := m) (cap := cap) (k := k) elemB sizeB hkc w
  have hsll := fun w => slice_l_eq (P := Try.prog) (sa := a) (m := m) (cap := cap) (k := k) elemB sizeB hk w
  obtain ⟨va, hva⟩ : ∃ z, z = (if cap = k then a else a.map (·.add (k * 1))) := ⟨_, rfl⟩
  obtain ⟨nc, hnc⟩ : ∃ z, z = cap - k := ⟨_, rfl⟩
  obtain ⟨nl, hnl⟩ : ∃ z, z = m - k := ⟨_, rfl⟩
  have HVB : Hid (∀ j, (Value.slice va nl nc).ownBlock = some j → v.ownBlock = some j) := fun j hj => by
    rw [hv]
    rw [hva, hnl, hnc] at hj
    exact Win.drop_block j hj
  rw [← hva, ← hnc, ← hnl] at hsll HWD
  have HNL : Hid (nl = (s.q.drop k).length) := by rw [List.length_drop, ← hmm]; exact hnl
  have hm4 : m ≤ 4096 := by rw [hmm]; exact hq
  obtain ⟨c0, c1, c2, c3, c4, c5, c6, c7, c8, _⟩ := hb.box
  simp only at c2
  rw [hv] at c2
  clear c0 c1 c3 c4 c5 c6 c7 c8 hva hnc hnl hmm hb hU hcap hv HWN hq e1 e2
  have hn1 := HTL.out
  go_enter Try.func33, Try.ntmps33
  go_wp2_with (at_builtin; go_must (refine mine_app rfl _ _ rfl HME.out rfl HTB.out rfl hn1 (Nat.le_refl _) ?_; intro v5 w5 hM5 hs5 hl5; have HM5 := hide' hM5; have HS5 : Hid (Stay (fun _ => False) w w5) := hs5.mono (fun _ _ e => by cases e); clear hM5 hs5 hl5 hn1 c2; obtain ⟨c0, c1, c2, c3, c4, c5, c6, c7, c8, f0, f1, f2, f3, f4, f5, f6, f7, f8⟩ := (HB.out.keep HS5.out).box; simp only at c2; rw [HVV.out] at c2; clear c0 c1 c3 c4 c5 c6 c7 c8 f0 f1 f3 f4 f5 f6 f7 f8))
  go_returns
  have hb5 := HB.out.keep HS5.out
  have hwd : Win w5 1 (.slice va nl nc) (s.q.drop k).length (bys (s.q.drop k)) := by
    have h1 := HWD.out.stay HS5.out (fun _ _ h => h)
    rw [Nat.mul_one, bys_drop] at h1
    rw [← HNL.out]; exact h1
  obtain ⟨hf1, hf2⟩ := hb5.out (v' := .slice va nl nc) (l := s.q.drop k) (Stay.refl _ w5) hwd (fun j hj => .inl (HVB.out j hj)) (fun y hy => HB.out.wf y (List.mem_of_mem_drop hy))
  have hm5 : Mine w.heap.size w5 v5 (s.q.take k) := HM5.out
  refine ⟨v5, w5, .slice va nl nc, PU g O (.slice va nl nc), rfl, ?_, fun j hj => ⟨(hm5.lt j hj).1, fun hu => ?_⟩, HS5.out, rfl, ⟨O, _, hf1, fun _ hk => hk, hf1.lt⟩, fun j hj => ?_⟩
  · refine (hm5.stay (at_g w5 g 2 _) (fun j hj e => ?_)).br
    have h1 := (hm5.lt j hj).1
    have h2 := HB.out.box.lt
    omega
  · have h1 := (hm5.lt j hj).1
    have h2 := HB.out.lt j (hu.imp id (fun h => h.imp id (HVB.out j)))
    omega
  · rcases pu_win (g := g) (O := O) (Nat.le_refl w.heap.size) (fun j hj => .inl (HVB.out j hj)) j hj with e | e
    · exact .inl (HU.out j e)
    · exact .inr e

theorem tell24 (n : Int) (h : PAt w g p U s) (hq : s.q.length ≤ 4096) (hn : 1 ≤ n) : Calls Try.prog 24 #[.pointer (some ⟨g, 0, none⟩), .int .i64 n] w (TakeQ g p U (s.setQ (s.q.drop n.toNat)) (s.q.take n.toNat) id w) := by
  have HT := hide' (take33 n h hq hn)
  obtain ⟨O, v, hb, hU, _⟩ := h
  obtain ⟨c0, c1, c2, c3, c4, c5, c6, c7, c8, _⟩ := hb.box
  simp only at c3
  clear c0 c1 c2 c4 c5 c6 c7 c8 hb hU
  go_enter Try.func24, Try.ntmps24
  go_wp2_with fail
  refine HT.out.mono ?_
  rintro e w1 ⟨v1, w2, x, U', rfl, h⟩
  have HE := hide' h
  clear h HT
  go_wp2
  go_returns
  exact ⟨_, w2, x, U', rfl, HE.out⟩

theorem ends17 (h : PAt w g p U s) : Calls Try.prog 17 #[.pointer (some ⟨g, 0, none⟩)] w (Gives (.tuple #[.bool true, .bool true]) w) := by
  obtain ⟨O, v, hb, hU, _⟩ := h
  have HS := hide' (Stay.refl (fun _ => False) w)
  obtain ⟨c0, c1, c2, c3, c4, c5, c6, c7, c8, _⟩ := hb.box
  simp only at c7 c8
  clear c0 c1 c2 c3 c4 c5 c6 hb hU
  go_enter Try.func17, Try.ntmps17
  go_wp2_with fail
  go_quiet (fail)
  go_wp2
  go_returns
  exact ⟨rfl, HS.out.drewN _⟩

theorem mayWrite18 (w : World) : Calls Try.prog 18 #[.bool true, .bool true] w (Gives (.int .i64 0) w) := by
  have HS := hide' (Stay.refl (fun _ => False) w)
  go_enter Try.func18, Try.ntmps18
  go_wp2
  go_ret
  exact ⟨rfl, HS.out⟩

/-- The master reads: there is something. -/
theorem mread11 (n : Int) (h : PAt w g p U s) (hq : s.q.length ≤ 4096) (hn : 1 ≤ n) (hne : s.q ≠ []) : Calls Try.prog 11 #[.pointer (some ⟨g, 0, none⟩), .int .i64 n] w (TakeQ g p U (s.setQ (s.q.drop n.toNat)) (s.q.take n.toNat) (fun v => .tuple #[v, .int .i64 0]) w) := by
  have HP := hide' h
  have HS0 := hide' (Stay.refl (fun _ => False) w)
  have HEN : Hid (∀ w', Stay (fun _ => False) w w' → Calls Try.prog 17 #[.pointer (some ⟨g, 0, none⟩)] w' (Gives (.tuple #[.bool true, .bool true]) w')) := fun w' hs => ends17 (HP.out.keep hs)
  have hz : decide (s.q.length = 0) = false := decide_eq_false (fun e => hne (List.eq_nil_of_length_eq_zero e))
  have HSI : Hid (∀ w', Stay (fun _ => False) w w' → Calls Try.prog 23 #[.pointer (some ⟨g, 0, none⟩)] w' (Gives (.bool false) w')) := fun w' hs => by rw [← hz]; exact silent23 (HP.out.keep hs)
  have HTE : Hid (∀ w', Stay (fun _ => False) w w' → Calls Try.prog 24 #[.pointer (some ⟨g, 0, none⟩), .int .i64 n] w' (TakeQ g p U (s.setQ (s.q.drop n.toNat)) (s.q.take n.toNat) id w')) := fun w' hs => tell24 n (HP.out.keep hs) hq hn
  have d1 : decide (n < 1) = false := decide_eq_false (by omega)
  clear h hq hn hne hz
  go_enter Try.func11, Try.ntmps11
  go_wp2_with fail
  refine (HEN.out _ HS0.out).mono ?_
  rintro e w1 ⟨rfl, hs⟩
  have HS1 := hide' (HS0.out.trans hs)
  clear hs
  go_wp2_with fail
  refine (HSI.out _ HS1.out).mono ?_
  rintro e w2 ⟨rfl, hs⟩
  have HS2 := hide' (HS1.out.trans hs)
  clear hs
  go_wp2_with fail
  refine (HSI.out _ HS2.out).mono ?_
  rintro e w3 ⟨rfl, hs⟩
  have HS3 := hide' (HS2.out.trans hs)
  clear hs
  go_wp2_with fail
  refine (HTE.out _ HS3.out).mono ?_
  rintro e w4 ⟨v1, w5, x, U', rfl, hr⟩
  have HE := hide' hr
  clear hr HTE HSI HEN HS0 HS1 HS2
  go_wp2
  go_returns
  obtain ⟨h1, h2, h3, h4, h5, h6⟩ := HE.out
  exact ⟨_, w5, x, U', rfl, h1, fun k hk => ⟨Nat.le_trans HS3.out.size (h2 k hk).1, (h2 k hk).2⟩, HS3.out.trans h3, h4, h5, fun k hk => (h6 k hk).imp id (fun e => Nat.le_trans HS3.out.size e)⟩

/-- .. there is nothing. -/
theorem mread11_none (n : Int) (h : PAt w g p U s) (hn : 1 ≤ n) (hne : s.q = []) : Calls Try.prog 11 #[.pointer (some ⟨g, 0, none⟩), .int .i64 n] w (Gives (.tuple #[.slice none 0 0, .int .i64 12]) w) := by
  have HP := hide' h
  have HS0 := hide' (Stay.refl (fun _ => False) w)
  have HEN : Hid (∀ w', Stay (fun _ => False) w w' → Calls Try.prog 17 #[.pointer (some ⟨g, 0, none⟩)] w' (Gives (.tuple #[.bool true, .bool true]) w')) := fun w' hs => ends17 (HP.out.keep hs)
  have hz : decide (s.q.length = 0) = true := by rw [hne]; rfl
  have HSI : Hid (∀ w', Stay (fun _ => False) w w' → Calls Try.prog 23 #[.pointer (some ⟨g, 0, none⟩)] w' (Gives (.bool true) w')) := fun w' hs => by rw [← hz]; exact silent23 (HP.out.keep hs)
  have d1 : decide (n < 1) = false := decide_eq_false (by omega)
  clear h hn hne hz
  go_enter Try.func11, Try.ntmps11
  go_wp2_with fail
  refine (HEN.out _ HS0.out).mono ?_
  rintro e w1 ⟨rfl, hs⟩
  have HS1 := hide' (HS0.out.trans hs)
  clear hs
  go_wp2_with fail
  refine (HSI.out _ HS1.out).mono ?_
  rintro e w2 ⟨rfl, hs⟩
  have HS2 := hide' (HS1.out.trans hs)
  clear hs
  go_wp2_with fail
  refine (HSI.out _ HS2.out).mono ?_
  rintro e w3 ⟨rfl, hs⟩
  have HS3 := hide' (HS2.out.trans hs)
  clear hs
  go_wp2
  go_returns
  exact ⟨rfl, HS3.out⟩

end

end Go.Proofs.Ytjfhmpjpdcckhaa
