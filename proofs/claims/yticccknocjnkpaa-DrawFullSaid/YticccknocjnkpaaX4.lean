/-
  A window is let go: walked. No conditions.
-/
import Derived.Test.YticccknocjnkpaaG8
namespace Go.Proofs.Yticccknocjnkpaa
open Go.RowKit

theorem zeroValue78 (w : World) : (zeroValue 78).run Try.prog w = .ok (.agg #[.int .i64 0, .int .i64 0, .int .i64 0, .int .i64 0, .int .i64 0, .int .i64 0, .bool false]) w := by kernel_rfl

/-- One window is made blank. -/
theorem run_clear78 (w : World) (ty : TypeId) (b o c : Nat) (ht : w.there b o 7) : (Builtin.clear_ #[30] ty #[.slice (some ⟨b, o, none⟩) 1 c]).run Try.prog w = .ok (.tuple #[]) (w.setCells b o [.int .i64 0, .int .i64 0, .int .i64 0, .int .i64 0, .int .i64 0, .int .i64 0, .bool false]) := by
  have hst := run_storeCells_cells (P := Try.prog) b o [.int .i64 0, .int .i64 0, .int .i64 0, .int .i64 0, .int .i64 0, .int .i64 0, .bool false] 0 w (fun j hj => by simpa using (ht j hj).1) (fun j hj => by simpa using (ht j hj).2) (by simp [Value.oneCell'])
  simp only [Nat.add_zero] at hst
  have hz : (Builtin.zeroCells (Value.agg #[.int .i64 0, .int .i64 0, .int .i64 0, .int .i64 0, .int .i64 0, .int .i64 0, .bool false]).cells 1).toList = [.int .i64 0, .int .i64 0, .int .i64 0, .int .i64 0, .int .i64 0, .int .i64 0, .bool false] := by kernel_rfl
  simp [Builtin.clear_, run_underlying Try.underlying30, hz, hst]

/-- s[k:], wherever it lies. -/
theorem slice30_la {a : Act} {x y : Operand} {g m cap k m2 c2 : Nat} {ad : Addr} (hx : a.eval x = .slice (some ⟨g, 0, none⟩) m cap) (hy : a.eval y = .int .i64 (k : Nat)) (hk : k ≤ m) (ha : ad = if cap = k then ⟨g, 0, none⟩ else ⟨g, k * 7, none⟩) (h1 : m2 = m - k) (h2 : c2 = cap - k) (w : World) (d : Option Tmp) (ty : TypeId) :
    (execOp a.eval (opr d (.slice 30 x (some y) none none) ty)).run Try.prog w = .ok (.value (.slice (some ad) m2 c2)) w := by
  rw [exec_slice_l elem30 esize30 hx hy hk w d ty, ha, h1, h2]
  split <;> simp [addr_add]

theorem slice30_hz {a : Act} {x y : Operand} {sa : Option Addr} {m cap k : Nat} (hx : a.eval x = .slice sa m cap) (hy : a.eval y = .int .i64 (k : Nat)) (hk : k ≤ cap) (w : World) (d : Option Tmp) (ty : TypeId) :
    (execOp a.eval (opr d (.slice 30 x none (some y) none) ty)).run Try.prog w = .ok (.value (.slice sa k cap)) w := slice30_h hx hy hk w d ty

/-- What comes of windows without one. -/
def DelOut (L : List Wn) (g cap i : Nat) (w : World) (e : Ending) (w' : World) : Prop := e = .returned (.slice (some ⟨g, 0, none⟩) (L.length - 1) cap) ∧ Ws w' (some ⟨g, 0, none⟩) (L.length - 1) cap (L.eraseIdx i) ∧ Stay (fun j => j = g) w w'

set_option maxHeartbeats 2000000 in
theorem delete54 (g k cap i : Nat) (L : List Wn) (w : World) (h : Ws w (some ⟨g, 0, none⟩) (k + 1) cap L) (hi : i ≤ k) (hm : k ≤ 256) :
    Calls Try.prog 54 #[.slice (some ⟨g, 0, none⟩) (k + 1) cap, .int .i64 (i : Nat), .int .i64 ((i : Int) + 1)] w (DelOut L g cap i w) := by
  obtain ⟨ii, hii, hzz⟩ := Option.map_eq_some_iff.1 info78
  simp only [Prod.mk.injEq] at hzz
  obtain ⟨g1, g2, g3⟩ := hzz
  obtain ⟨wd, hwd⟩ : ∃ W, W = w.drew := ⟨_, rfl⟩
  have hst : Stay (fun _ => False) w wd := by rw [hwd]; exact (Stay.refl _ _).drew
  have hW := h.keep hst
  have hlen := h.1
  have hcap := h.2.1
  have hgr : g < wd.heap.size ∧ wd.rangeAt g 0 (wc L) ∧ wd.there g 0 (cap * 7) := by
    rcases hW.2.2.2 with ⟨e, _⟩ | ⟨g', e, r⟩
    · cases e
    · cases e; exact r
  obtain ⟨ad, had⟩ : ∃ ad : Addr, ad = if cap = i + 1 then ⟨g, 0, none⟩ else ⟨g, (i + 1) * 7, none⟩ := ⟨_, rfl⟩
  have hld : (wc (L.drop (i + 1))).length = (k + 1 - (i + 1)) * 7 := by rw [wc_length, List.length_drop, hlen]
  have hsrc : ∀ j u, (wc (L.drop (i + 1)))[j]? = some u → wd.cell? (ad.add j) = some u := fun j u hu => by
    have hj : j < (wc (L.drop (i + 1))).length := (List.getElem?_eq_some_iff.1 hu).1
    rw [had, if_neg (by omega), addr_add]
    rw [wc_drop, List.getElem?_drop] at hu
    have := hgr.2.1 _ _ hu
    rwa [Nat.zero_add] at this
  have happ : ∀ ty, (Builtin.append_ #[30, 30] ty #[.slice (some ⟨g, 0, none⟩) i cap, .slice (some ad) (k + 1 - (i + 1)) (cap - (i + 1))]).run Try.prog wd = .ok (.slice (some ⟨g, 0, none⟩) (i + (k + 1 - (i + 1))) cap) (wd.setCells g (0 + i * ii.size) (wc (L.drop (i + 1)))) := fun ty =>
    run_append_room_cells wd 30 ty 78 ii Try.underlying30 hii g 0 i cap ad _ _ _ (by rw [g2]; exact hld) hsrc (wc_one _) (by omega)
      (fun j hj => by
        have := hgr.2.2 (i * 7 + j) (by omega)
        rw [g2]; simpa [Nat.add_assoc] using this.1)
      (fun j hj => by
        have := hgr.2.2 (i * 7 + j) (by omega)
        rw [g2]; simpa [Nat.add_assoc] using this.2)
  rw [g2, Nat.zero_add, show i + (k + 1 - (i + 1)) = k by omega] at happ
  have hout := hW.out (i := i) (by omega)
  rw [Nat.add_sub_cancel] at hout
  obtain ⟨w1, hw1⟩ : ∃ W, W = wd.setCells g (i * 7) (wc (L.drop (i + 1))) := ⟨_, rfl⟩
  have hs1 : Stay (fun j => j = g) wd w1 := by rw [hw1]; exact (Stay.refl (fun j => j = g) wd).setCells g (wc (L.drop (i + 1))) (i * 7) rfl
  rw [← hw1] at happ hout
  have hth : w1.there g 0 (cap * 7) := by
    rcases hout.2.2.2 with ⟨e, _⟩ | ⟨g', e, _, _, r⟩
    · cases e
    · cases e; exact r
  have hcl : ∀ ty, (Builtin.clear_ #[30] ty #[.slice (some ⟨g, k * 7, none⟩) 1 (cap - k)]).run Try.prog w1 = .ok (.tuple #[]) (w1.setCells g (k * 7) [.int .i64 0, .int .i64 0, .int .i64 0, .int .i64 0, .int .i64 0, .int .i64 0, .bool false]) := fun ty => run_clear78 w1 ty g (k * 7) (cap - k) (there_part hth (by omega))
  obtain ⟨w2, hw2⟩ : ∃ W, W = w1.setCells g (k * 7) [.int .i64 0, .int .i64 0, .int .i64 0, .int .i64 0, .int .i64 0, .int .i64 0, .bool false] := ⟨_, rfl⟩
  have hout2 := hout.behind [.int .i64 0, .int .i64 0, .int .i64 0, .int .i64 0, .int .i64 0, .int .i64 0, .bool false] (Nat.le_refl (k * 7))
  have hs2 : Stay (fun j => j = g) w1 w2 := by rw [hw2]; exact (Stay.refl (fun j => j = g) w1).setCells g [.int .i64 0, .int .i64 0, .int .i64 0, .int .i64 0, .int .i64 0, .int .i64 0, .bool false] (k * 7) rfl
  rw [← hw2] at hcl hout2
  have HAP := hide' happ
  have HAD := hide' had
  have HFIN : Hid (Ws w2 (some ⟨g, 0, none⟩) k cap (L.eraseIdx i) ∧ Stay (fun j => j = g) w w2 ∧ L.length = k + 1) := hide' ⟨hout2, (hst.mono (fun _ _ h => h.elim)).trans (hs1.trans hs2), hlen⟩
  have hz1 : ¬ (i : Int) = (i : Int) + 1 := by omega
  have hz2 : (i : Int) ≤ (i : Int) + 1 := by omega
  have hz3 : (i : Int) + 1 ≤ (k : Int) + 1 := by omega
  have hz4 : (k : Int) + 1 ≤ (cap : Int) := by omega
  have hz5 : ¬ k + 1 = i := by omega
  have hz6 : (k : Int) ≤ 256 := by omega
  have hz7 : (i : Int) ≤ (k : Int) := by omega
  have hz8 : ¬ cap = k := by omega
  have hz9 : (k : Int) ≤ (k : Int) + 1 := by omega
  have hza : k + 1 - k = 1 := by omega
  have hzb : k + 1 ≤ cap := hcap
  have hzc : i + 1 ≤ k + 1 := by omega
  clear happ had hout hout2 hs1 hs2 hw1 hw2 hth hsrc hld hgr hW hst h g1 g2 g3 hii hlen hcap
  go_enter Try.func54, Try.ntmps54
  go_wp2_with fail
  have hS : True := trivial
  refine wp_region_mix (fun _ => True) [(0, true), (1, true), (2, true), (3, true), (4, true), (5, true), (6, false), (7, true)] (by kernel_rfl) (by kernel_rfl) (fun _ d _ _ _ h => by cases d <;> exact h) hS ?_
  refine mix_begin (fun K0 hK0 => ?_)
  refine mix_take hK0 (some 20) (.move (.tmp 0)) 30 _ (by kernel_rfl) (by kernel_rfl) (fun w' hS' => by (simp only [opr]; go_simp; try with_reducible rfl)) (fun K1 hK1 => ?_)
  clear hK0 K0
  simp only [Act.put, List.setIfInBounds_toArray, List.set_cons_zero, List.set_cons_succ]
  refine mix_take hK1 (some 21) (.move (.tmp 1)) 3 _ (by kernel_rfl) (by kernel_rfl) (fun w' hS' => by (simp only [opr]; go_simp; try with_reducible rfl)) (fun K2 hK2 => ?_)
  clear hK1 K1
  simp only [Act.put, List.setIfInBounds_toArray, List.set_cons_zero, List.set_cons_succ]
  refine mix_take hK2 (some 22) (.slice 30 (.tmp 20) none (some (.tmp 21)) none) 30 _ (by kernel_rfl) (by kernel_rfl) (fun w' hS' => by exact slice30_hz (k := i) rfl rfl (by omega) _ _ _) (fun K3 hK3 => ?_)
  clear hK2 K2
  simp only [Act.put, List.setIfInBounds_toArray, List.set_cons_zero, List.set_cons_succ]
  refine mix_take hK3 (some 23) (.move (.tmp 0)) 30 _ (by kernel_rfl) (by kernel_rfl) (fun w' hS' => by (simp only [opr]; go_simp; try with_reducible rfl)) (fun K4 hK4 => ?_)
  clear hK3 K3
  simp only [Act.put, List.setIfInBounds_toArray, List.set_cons_zero, List.set_cons_succ]
  refine mix_take hK4 (some 24) (.move (.tmp 2)) 3 _ (by kernel_rfl) (by kernel_rfl) (fun w' hS' => by (simp only [opr]; go_simp; try with_reducible rfl)) (fun K5 hK5 => ?_)
  clear hK4 K4
  simp only [Act.put, List.setIfInBounds_toArray, List.set_cons_zero, List.set_cons_succ]
  refine mix_take hK5 (some 25) (.slice 30 (.tmp 23) (some (.tmp 24)) none none) 30 _ (by kernel_rfl) (by kernel_rfl) (fun w' hS' => by exact slice30_la (k := i + 1) (ad := ad) rfl rfl (by omega) HAD.out rfl rfl _ _ _) (fun K6 hK6 => ?_)
  clear hK5 K5
  simp only [Act.put, List.setIfInBounds_toArray, List.set_cons_zero, List.set_cons_succ]
  refine mix_chain hK6 (fun K6c hK6c => ?_)
  clear hK6 K6
  refine op_plain (some 26) (.call { callee := Callee.builtin Builtin.append, args := #[.tmp 22, .tmp 25], argTypes := #[30, 30] }) 30 (by kernel_rfl) (by kernel_rfl) ?_
  rw [← hwd]
  refine Lib.wpList_append_run _ rfl _ _ 30 30 rfl _ _ rfl rfl _ _ (HAP.out _) ?_
  refine wpList_nil ?_
  refine hK6c _ _ trivial (mix_begin fun K7 hK7 => ?_)
  clear hK6c K6c
  try simp only [Act.put, List.setIfInBounds_toArray, List.set_cons_zero, List.set_cons_succ]
  refine mix_take hK7 (some 0) (.assign (.tmp 26)) 30 _ (by kernel_rfl) (by kernel_rfl) (fun w' hS' => by (simp only [opr]; go_simp; try with_reducible rfl)) (fun K8 hK8 => ?_)
  clear hK7 K7
  simp only [Act.put, List.setIfInBounds_toArray, List.set_cons_zero]
  refine hK8 _ _ (mix_nil ?_)
  clear hK8 K8
  clear HAP HAD hwd
  go_wp2
  go_ret
  exact ⟨by rw [HFIN.out.2.2]; rfl, by rw [HFIN.out.2.2]; exact HFIN.out.1, HFIN.out.2.1⟩

/-- What comes of letting a window go. -/
def dropR (L : List Wn) (id : Int) : List Wn × Int := if plN L id < L.length then (L.eraseIdx (plN L id), 0) else (L, 5)

/-- What a stack is behind a call that answers an error. -/
def ErrS (q : Sm) (sw sh m : Int) (y : List Wn × Int) (w : World) (e : Ending) (w' : World) : Prop :=
  ∃ v, e = .returned (.int .i64 y.2) ∧ SAt w' ⟨q.b, v⟩ sw sh m y.1 ∧ SMoved q ⟨q.b, v⟩ w w'

theorem drop28 (q : Sm) (sw sh m : Int) (L : List Wn) (id : Int) (w : World) (h : SAt w q sw sh m L) :
    Calls Try.prog 28 #[.pointer (some ⟨q.b, 0, none⟩), .int .i64 id] w (ErrS q sw sh m (dropR L id) w) := by
  obtain ⟨b, v⟩ := q
  have HP := hide' (place53 ⟨b, v⟩ sw sh m L id w h)
  have HSA := hide' h
  obtain ⟨y, hy⟩ : ∃ y, y = dropR L id := ⟨_, rfl⟩
  rw [← hy]
  unfold dropR at hy
  obtain ⟨i, hi⟩ : ∃ i, i = plN L id := ⟨_, rfl⟩
  have HI : Hid (plI L id = if i < L.length then ((i : Nat) : Int) else -1) := by show plI L id = _; rw [hi]; rfl
  rw [← hi] at hy
  have HYA := hide' hy
  obtain ⟨x, hx⟩ : ∃ x, x = plI L id := ⟨_, rfl⟩
  rw [← hx] at HP HI
  clear h hy hi hx
  go_enter Try.func28, Try.ntmps28
  go_wp2_with fail
  refine HP.out.mono ?_
  rintro _ w1 ⟨rfl, hs⟩
  have HS1 := hide' hs
  have hS1 := HSA.out.keep hs
  clear hs HP
  by_cases hlt : i < L.length
  · have HY : Hid (y = (L.eraseIdx i, 0)) := by rw [HYA.out]; exact if_pos hlt
    have hxi : x = (i : Nat) := by rw [HI.out, if_pos hlt]
    subst hxi
    obtain ⟨a, cap, hv, hw, h0⟩ := hS1.row
    simp only at hv
    subst hv
    obtain ⟨k, hk⟩ : ∃ k, L.length = k + 1 := ⟨L.length - 1, by omega⟩
    rw [hk] at hw
    obtain ⟨g, rfl⟩ : ∃ g, a = some ⟨g, 0, none⟩ := by
      rcases hw.2.2.2 with ⟨_, e⟩ | ⟨g, e, _⟩
      · have := hw.2.1; omega
      · exact ⟨g, e⟩
    have hkm := hS1.n1
    have HDL : Hid (Calls Try.prog 54 #[.slice (some ⟨g, 0, none⟩) (k + 1) cap, .int .i64 (i : Nat), .int .i64 ((i : Int) + 1)] w1 (DelOut L g cap i w1)) := hide' (delete54 g k cap i L w1 hw (by omega) (by omega))
    have HKB := hide' hS1.box
    have HGB : Hid (¬ b = g) := hide' (fun e => hS1.vb g rfl e.symm)
    obtain ⟨_, _, _, _, k4, _, _, _, _, _, f4, _⟩ := HKB.out
    simp only at k4
    rw [hk] at k4
    have hz0 : (0 : Int) ≤ (i : Nat) := by omega
    have hz1 : (i : Int) ≤ 256 := by omega
    have HKK := hide' (show L.length = k + 1 ∧ k + 1 ≤ 256 ∧ cap ≠ 0 from ⟨hk, by omega, fun e => by have := hw.2.1; omega⟩)
    clear hS1 hw h0 hlt hk hkm HYA HI
    go_wp2_with fail
    refine HDL.out.mono ?_
    rintro _ w2 ⟨rfl, hws, hst⟩
    rw [HKK.out.1, Nat.add_sub_cancel] at hws ⊢
    have HWS := hide' hws
    have HST := hide' hst
    have HKB2 := hide' (HKB.out.stay hst HGB.out)
    clear hws hst HDL k4 f4 HKB
    obtain ⟨_, _, _, _, k4, _, _, _, _, _, f4, _⟩ := HKB2.out
    simp only at k4
    go_wp2
    go_ret
    refine ⟨.slice (some ⟨g, 0, none⟩) k cap, by rw [HY.out]; rfl, ?_, ?_, fun j hj => .inl hj⟩
    · rw [HY.out]
      have hst : Stay (fun j => j = b) w2 (w2.setCell ⟨b, 4, none⟩ (.slice (some ⟨g, 0, none⟩) k cap)) := (Stay.refl (fun j => j = b) w2).setCell (p := ⟨b, 4, none⟩) rfl _
      have hl : (L.eraseIdx i).length = k := HWS.out.1
      exact ⟨HKB2.out.put4 rfl, ⟨some ⟨g, 0, none⟩, cap, by rw [hl], by rw [hl]; exact HWS.out.stay hst (fun j hj e => by cases hj; exact HGB.out e.symm), fun e => absurd e HKK.out.2.2⟩, fun j hj e => by cases hj; exact HGB.out e.symm, by have := HKK.out.2.1; show (L.eraseIdx i).length ≤ 256; omega⟩
    · exact (((HS1.out.mono (fun _ _ h => h.elim)).trans (HST.out.mono (fun j _ e => .inr (by rw [e]; rfl))))).setCell (p := ⟨b, 4, none⟩) (.inl rfl) _
  · have HY : Hid (y = (L, 5)) := by rw [HYA.out]; exact if_neg hlt
    have hxi : x = -1 := by rw [HI.out, if_neg hlt]
    subst hxi
    have HSB := hide' hS1
    clear hS1 hlt HYA HI
    go_wp2
    go_ret
    exact ⟨v, by rw [HY.out]; rfl, by rw [HY.out]; exact HSB.out, SMoved.of_stay HS1.out⟩

end Go.Proofs.Yticccknocjnkpaa
