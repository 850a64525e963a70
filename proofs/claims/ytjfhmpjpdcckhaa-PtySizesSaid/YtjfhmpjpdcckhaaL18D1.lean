/-
  The program asks for its flags and its line; all goes; a row is cloned: walked. No conditions.
-/
import Derived.Test.YtjfhmpjpdcckhaaL18D0
import Derived.Deep.DeepCutAuto
import Derived.BigQuiet
namespace Go.Proofs.Ytjfhmpjpdcckhaa.L18
open Go.RowKit

open L17

theorem loc_bits : ∀ n : Fin 1024, ∀ f ∈ [(1 : Int), 2, 4, 8, 16, 32, 64, 128, 256, 512], (bits .and .i64 ((n : Nat) : Int) f == f) = hasB ((n : Nat) : Int) f := by decide +kernel

theorem loc_bits2 : ∀ n : Fin 1024, (bits .and .i64 ((n : Nat) : Int) 513 == 513) = (hasB ((n : Nat) : Int) 1 && hasB ((n : Nat) : Int) 512) ∧ (bits .and .i64 ((n : Nat) : Int) 17 == 17) = (hasB ((n : Nat) : Int) 1 && hasB ((n : Nat) : Int) 16) ∧ (bits .and .i64 ((n : Nat) : Int) 6 == 6) = (hasB ((n : Nat) : Int) 2 && hasB ((n : Nat) : Int) 4) := by decide +kernel

theorem right_fl {t : Tm} (h : rightB t = true) : 0 ≤ t.fl ∧ t.fl < 1024 := by
  unfold rightB upB at h
  simp only [Bool.and_eq_true, decide_eq_true_eq] at h
  omega

theorem loc_eq {t : Tm} (h : rightB t = true) {f : Int} (hf : f ∈ [(1 : Int), 2, 4, 8, 16, 32, 64, 128, 256, 512]) : (bits .and .i64 t.fl f == f) = hasB t.fl f := by
  obtain ⟨h0, h1⟩ := right_fl h
  obtain ⟨n, hn⟩ := Int.eq_ofNat_of_zero_le h0
  rw [hn]
  exact loc_bits ⟨n, by omega⟩ f hf

theorem loc_eq2 {t : Tm} (h : rightB t = true) : (bits .and .i64 t.fl 513 == 513) = (hasB t.fl 1 && hasB t.fl 512) ∧ (bits .and .i64 t.fl 17 == 17) = (hasB t.fl 1 && hasB t.fl 16) ∧ (bits .and .i64 t.fl 6 == 6) = (hasB t.fl 2 && hasB t.fl 4) := by
  obtain ⟨h0, h1⟩ := right_fl h
  obtain ⟨n, hn⟩ := Int.eq_ofNat_of_zero_le h0
  rw [hn]
  exact loc_bits2 ⟨n, by omega⟩

variable {w : World} {p : Nat} {r : Pd} {x : PS}

theorem p_in (h : Core w p r x) (f : Int) : Calls Try.prog 41 #[.pointer (some ⟨p, 0, none⟩), .int .i64 f] w (Gives (.bool (hasB x.t.fi f)) w) := by
  have HS := hide' (Stay.refl (fun _ => False) w)
  have e : hasB x.t.fi f = !(bits .and .i64 r.fi f == 0) := by rw [← h.t]; rfl
  have HE := hide' e
  obtain ⟨c0, c1, c2, c3, c4, c5, c6, c7, c8, c9, c10, c11, c12, c13, c14, c15, c16, c17, c18, c19, c20, c21, _⟩ := h.box
  clear e h
  go_enter Try.func41, Try.ntmps41
  go_wp2
  go_ret
  exact ⟨ret_bool (by rw [HE.out]; rfl), HS.out⟩

theorem p_local0 (h : Core w p r x) (f : Int) : Calls Try.prog 31 #[.pointer (some ⟨p, 0, none⟩), .int .i64 f] w (Gives (.bool (bits .and .i64 x.t.fl f == f)) w) := by
  have HS := hide' (Stay.refl (fun _ => False) w)
  have e : (bits .and .i64 x.t.fl f == f) = (bits .and .i64 r.fl f == f) := by rw [← h.t]; rfl
  have HE := hide' e
  obtain ⟨c0, c1, c2, c3, c4, c5, c6, c7, c8, c9, c10, c11, c12, c13, c14, c15, c16, c17, c18, c19, c20, c21, _⟩ := h.box
  clear e h
  go_enter Try.func31, Try.ntmps31
  go_wp2
  go_ret
  exact ⟨ret_bool (by rw [HE.out]), HS.out⟩

/-- One flag. -/
theorem p_local (h : Core w p r x) (ht : rightB x.t = true) (f : Int) (hf : f ∈ [(1 : Int), 2, 4, 8, 16, 32, 64, 128, 256, 512]) : Calls Try.prog 31 #[.pointer (some ⟨p, 0, none⟩), .int .i64 f] w (Gives (.bool (hasB x.t.fl f)) w) := by
  rw [← loc_eq ht hf]
  exact p_local0 h f

set_option maxRecDepth 100000 in
theorem p_is (h : Core w p r x) (k c : Int) (h0 : 0 ≤ c) (h1 : c < 256) : Calls Try.prog 56 #[.pointer (some ⟨p, 0, none⟩), .int .i64 k, .int .u8 c] w (Gives (.bool (isB x.t k c)) w) := by
  have HS := hide' (Stay.refl (fun _ => False) w)
  have H := hide' (fun w => L17.is63 r.tm k c w h0 h1)
  have HT := hide' h.box.tm
  rw [← h.t]
  clear h h0 h1
  obtain ⟨q, hq⟩ : ∃ q, q = isB r.tm k c := ⟨_, rfl⟩
  obtain ⟨t, ht⟩ : ∃ t, t = r.tm := ⟨_, rfl⟩
  rw [← hq] at H ⊢
  rw [← ht] at HT H
  clear hq ht
  go_enter Try.func56, Try.ntmps56
  go_wp2_with (refine wpList_exec rfl (L17.run_load_TBox rfl rfl HT.out) ?_)
  refine (H.out _).mono ?_
  rintro e w1 ⟨rfl, hs⟩
  have HS1 := hide' (HS.out.trans hs)
  clear hs
  go_wp2
  go_ret
  exact ⟨rfl, HS1.out⟩

/-- The line that is edited, as a slice of all bytes. -/
def lineV (r : Pd) (k : Nat) : Value := match r.ip with
  | .slice a n cap => .slice (if cap = k then a else a.map (·.add (k * 1))) (n - k) (cap - k)
  | v => v

/-- A row that lies in a discipline's bytes. -/
def LineR (V : Nat → Prop) (L : Value → Prop) (x : PS) (w : World) (e : Ending) (w' : World) : Prop := ∃ a cap, e = .returned (.slice a (x.all.length - x.rd) cap) ∧ IArg .u8 w' (.slice a (x.all.length - x.rd) cap) (x.all.drop x.rd) a cap ∧ (∀ ad : Addr, a = some ad → V ad.block) ∧ L (.slice a (x.all.length - x.rd) cap) ∧ Stay (fun _ => False) w w'

theorem bys_drop (l : List Int) (k : Nat) : (bys l).drop k = bys (l.drop k) := by unfold bys; rw [List.map_drop]
theorem bys_take (l : List Int) (k : Nat) : (bys l).take k = bys (l.take k) := by unfold bys; rw [List.map_take]
theorem bys_app (l k : List Int) : bys (l ++ k) = bys l ++ bys k := by unfold bys; rw [List.map_append]
theorem nts_drop (l : List Nat) (k : Nat) : (nts l).drop k = nts (l.drop k) := by unfold nts; rw [List.map_drop]
theorem nts_app (l k : List Nat) : nts (l ++ k) = nts l ++ nts k := by unfold nts; rw [List.map_append]

theorem iarg_shape {w : World} {v : Value} {l : List Int} {a a' : Option Addr} {n cap cap' : Nat} (h : IArg .u8 w v l a cap) (e : v = .slice a' n cap') : a = a' ∧ l.length = n ∧ cap = cap' := by
  have := h.shape
  rw [e] at this
  cases this
  exact ⟨rfl, rfl, rfl⟩

theorem Core.line_arg (h : Core w p r x) (hn : x.rd ≤ x.all.length) : ∃ a cap, lineV r x.rd = .slice a (x.all.length - x.rd) cap ∧ IArg .u8 w (.slice a (x.all.length - x.rd) cap) (x.all.drop x.rd) a cap := by
  obtain ⟨a, cap, e17, _⟩ := h.ip.shape
  have hd := h.ip
  rw [e17] at hd
  have hd := hd.drop (k := x.rd) hn
  rw [Nat.mul_one, bys_drop] at hd
  have hl : (x.all.drop x.rd).length = x.all.length - x.rd := by rw [List.length_drop]
  rw [← hl] at hd
  obtain ⟨a1, c1, h1⟩ := hd.iarg (fun y hy => h.wf y (List.mem_of_mem_drop hy))
  obtain ⟨e1, _, e2⟩ := iarg_shape h1 rfl
  rw [hl, ← e1, ← e2] at h1
  refine ⟨a1, c1, ?_, h1⟩
  unfold lineV
  rw [e17, Nat.mul_one, e1, e2]

set_option maxRecDepth 100000 in
theorem p_line (h : Core w p r x) (hn : x.rd ≤ x.all.length) (_hm : x.all.length ≤ 100000) : Calls Try.prog 61 #[.pointer (some ⟨p, 0, none⟩)] w (LineR (fun j => r.ip.ownBlock = some j) (fun v => lineV r x.rd = v) x w) := by
  have HC := hide' h
  obtain ⟨a, cap, e17, hcap, _⟩ := h.ip.shape
  have hd := h.ip
  rw [e17] at hd
  have hd := hd.drop (k := x.rd) hn
  obtain ⟨n, hnn⟩ : ∃ n, n = x.all.length := ⟨_, rfl⟩
  obtain ⟨k, hk⟩ : ∃ k, k = x.rd := ⟨_, rfl⟩
  have e18 := h.rd
  rw [← hnn] at e17 hcap hd hn
  rw [← hk] at hd e18 hn
  have hsll := fun w => slice_l_eq (P := Try.prog) (sa := a) (m := n) (cap := cap) (k := k) elemB sizeB hn w
  obtain ⟨va, hva⟩ : ∃ z, z = (if cap = k then a else a.map (·.add (k * 1))) := ⟨_, rfl⟩
  obtain ⟨nc, hnc⟩ : ∃ z, z = cap - k := ⟨_, rfl⟩
  obtain ⟨nl, hnl⟩ : ∃ z, z = n - k := ⟨_, rfl⟩
  rw [← hva, ← hnc, ← hnl] at hsll hd
  have HD : Hid (IArg .u8 w (.slice va nl nc) (x.all.drop x.rd) va nc) := by
    rw [Nat.mul_one, bys_drop, hk] at hd
    have hl : (x.all.drop x.rd).length = nl := by rw [List.length_drop, hnl, hnn, hk]
    rw [← hl] at hd
    obtain ⟨a1, c1, h1⟩ := hd.iarg (fun y hy => h.wf y (List.mem_of_mem_drop hy))
    obtain ⟨e1, _, e2⟩ := iarg_shape h1 rfl
    rw [hl] at h1
    rw [← e1, ← e2]
    rw [← e1, ← e2] at h1
    exact h1
  have HVA : Hid (∀ ad : Addr, va = some ad → r.ip.ownBlock = some ad.block) := fun ad e => by
    rw [e17, hnn]
    rw [hva] at e
    cases a with
    | none => split at e <;> cases e
    | some a0 =>
      split at e
      · cases e; rfl
      · cases e
        show some a0.block = some (a0.add (k * 1)).block
        rw [show (a0.add (k * 1)).block = a0.block by unfold Addr.add; split <;> rfl]
  have HLV : Hid (lineV r x.rd = .slice va (x.all.length - x.rd) nc) := by
    show lineV r x.rd = _
    unfold lineV
    rw [e17, ← hk, ← hnn, hva, hnc]
  have HNL : Hid (nl = x.all.length - x.rd) := by rw [← hnn, ← hk]; exact hnl
  have HS := hide' (fun n => (Stay.refl (fun _ => False) w).drewN n)
  obtain ⟨c0, c1, c2, c3, c4, c5, c6, c7, c8, c9, c10, c11, c12, c13, c14, c15, c16, c17, c18, c19, c20, c21, _⟩ := h.box
  rw [e17] at c17
  rw [e18] at c18
  have hkn : (k : Int) ≤ n := by omega
  clear hva hnc hnl hnn hk e17 e18 h hd hcap hn
  go_enter Try.func61, Try.ntmps61
  go_upto_region 1 with fail
  go_quiet (fail)
  go_wp2
  go_ret
  refine ⟨va, nc, ?_, ?_, HVA.out, HLV.out, HS.out _⟩
  · rw [← HNL.out]; rfl
  · rw [← HNL.out]; exact HD.out.stay0 (HS.out _)

set_option maxRecDepth 100000 in
theorem p_flush (h : Core w p r x) : Calls Try.prog 57 #[.pointer (some ⟨p, 0, none⟩)] w (TurnC p r (((x.setAll []).setRd 0).setLns []) (.tuple #[]) w) := by
  have HC := hide' h
  obtain ⟨c0, c1, c2, c3, c4, c5, c6, c7, c8, c9, c10, c11, c12, c13, c14, c15, c16, c17, c18, c19, c20, c21, f0, f1, f2, f3, f4, f5, f6, f7, f8, f9, f10, f11, f12, f13, f14, f15, f16, f17, f18, f19, f20, f21⟩ := h.box
  clear h
  go_enter Try.func57, Try.ntmps57
  go_wp2
  go_returns
  obtain ⟨r1, H1, a1, b1⟩ := HC.out.put_ip (v := .slice none 0 0) (l := []) (Stay.refl _ w) (Win.nil w 1) (fun j hj => by cases hj) (fun y hy => by simp at hy)
  obtain ⟨r2, H2, a2, b2⟩ := H1.put_rd (z := 0) 0 rfl
  obtain ⟨r3, H3, a3, b3⟩ := H2.put_li (v := .slice none 0 0) (l := []) (Stay.refl _ _) (Win.nil _ 1) (fun j hj => by cases hj)
  refine ⟨r3, rfl, H3, ?_, ?_⟩
  · exact (((at_p w p 17 (.slice none 0 0)).trans (at_p _ p 18 (.int .i64 0))).trans (at_p _ p 19 (.slice none 0 0))).mono (fun _ _ e => .inl e)
  · rintro j (hj | hj | hj)
    · exact .inl (.inl hj)
    · rw [a3, a2, a1] at hj; cases hj
    · rw [b3] at hj; cases hj

theorem eqlB_nil (a : Addr) (m c : Nat) (w : World) : (binOp .eql 22 (.slice (some a) m c) (.slice none 0 0)).run Try.prog w = .ok (.bool false) w := by
  simp only [binOp]
  simp [run_equal_slice_nil w 22 5 (some a) m c Try.underlying22]

theorem eqlB_nils (w : World) : (binOp .eql 22 (.slice none 0 0) (.slice none 0 0)).run Try.prog w = .ok (.bool true) w := by
  simp only [binOp]
  simp [run_equal_slice_nil w 22 5 none 0 0 Try.underlying22]

attribute [local go_sem] eqlB_nil eqlB_nils

/-- A copy of a row, in a block of its own (nil: of nil). -/
def CloneR (l : List Int) (w : World) (e : Ending) (w' : World) : Prop := ∃ v a cap, e = .returned v ∧ IArg .u8 w' v l a cap ∧ (∀ ad, a = some ad → w.heap.size ≤ ad.block) ∧ Stay (fun _ => False) w w'

theorem p_clone (l : List Int) (a : Option Addr) (n cap : Nat) (w : World) (h : IArg .u8 w (.slice a n cap) l a cap) (hl : l.length ≤ 100000) : Calls Try.prog 39 #[.slice a n cap] w (CloneR l w) := by
  have HA := hide' (Acc.begin w)
  have HB := hide' (h.stay0 ((Stay.refl _ w).alloc (.cells #[] 5)))
  have HI := hide' h
  have hn1 : ([] : List Int).length + l.length ≤ 1000000 := by simp; omega
  have HS := hide' (Stay.refl (fun _ => False) w)
  obtain ⟨_, hn, _⟩ := iarg_shape h rfl
  cases a with
  | none =>
    have h0 : cap = 0 := h.nilCap rfl
    have h1 := h.lenLe
    have hl0 : l = [] := List.eq_nil_of_length_eq_zero (by omega)
    have hn0 : n = 0 := by omega
    subst h0 hn0 hl0
    clear h hl hn h1 hn1
    go_enter Try.func39, Try.ntmps39
    go_wp2
    go_ret
    exact ⟨_, none, 0, rfl, ⟨rfl, fun h => absurd rfl h, fun _ => rfl, Nat.le_refl _, by unfold maxLen; omega, fun x hx => by simp at hx⟩, fun ad e => (by cases e), HS.out⟩
  | some ad =>
    clear h hl hn
    go_enter Try.func39, Try.ntmps39
    go_wp2_with (at_builtin; go_must (refine appL (fun k => w.heap.size ≤ k) rfl _ _ 22 rfl Try.underlying22 infoB rfl (by decide) HA.out.own rfl HB.out.row rfl (oneB _) (by rw [List.length_map]; exact hn1) HA.out.stay.size (fun k hk => (HA.out.own.lt k hk).1) ?_; intro v1 w1 h1 h2; have H1 := hide' h1; have H2 := hide' h2; clear h1 h2))
    go_ret
    have h1 := H1.out
    rw [List.map_nil, List.nil_append, List.length_map, List.length_nil, Nat.zero_add] at h1
    obtain ⟨a', c', h3, h4⟩ := owned_arg h1 HI.out.wf
    refine ⟨_, a', c', rfl, h3, fun ad e => ?_, HA.out.stay.trans2 H2.out (fun j hj e => by omega)⟩
    subst e
    rcases h1.2 with ⟨e1, h0⟩ | ⟨g, cap2, cur, e1, hg, _⟩
    · have := h3.shape; rw [e1] at this; cases this
    · have := h3.shape; rw [e1] at this; cases this; exact hg

end Go.Proofs.Ytjfhmpjpdcckhaa.L18
