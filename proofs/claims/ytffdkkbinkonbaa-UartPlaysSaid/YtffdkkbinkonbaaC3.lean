/-
  Items, and bytes, are taken from their rows: walked. No conditions.
-/
import Derived.Test.YtffdkkbinkonbaaC2
namespace Go.Proofs.Ytffdkkbinkonbaa
open Go.RowKit

theorem slice_h_eq {P : Program} {t sz : Nat} {sa : Option Addr} {m cap k : Nat} (ht : P.underlying t = some (.slice (P.elem t))) (hz : (P.info? (P.elem t)).map (·.size) = some sz) (hk : k ≤ cap) (w : World) :
    (Instr.slice t (.slice sa m cap) none (some (.int .i64 (k : Nat))) none).run P w = .ok (.slice sa k cap) w := by
  obtain ⟨i, hi, rfl⟩ := Option.map_eq_some_iff.1 hz
  rw [run_slice_h _ _ _ _ _ ht _ _ (by omega) (by omega)]
  simp [sizeOf, typeInfo, hi, Result.andThen, sliced]
  intro h
  cases sa with
  | none => rfl
  | some ad => simpa using add_zero' ad i.size

theorem slice_l_eq {P : Program} {t sz : Nat} {sa : Option Addr} {m cap k : Nat} (ht : P.underlying t = some (.slice (P.elem t))) (hz : (P.info? (P.elem t)).map (·.size) = some sz) (hk : k ≤ m) (w : World) :
    (Instr.slice t (.slice sa m cap) (some (.int .i64 (k : Nat))) none none).run P w = .ok (.slice (if cap = k then sa else sa.map (·.add (k * sz))) (m - k) (cap - k)) w := by
  obtain ⟨i, hi, rfl⟩ := Option.map_eq_some_iff.1 hz
  rw [run_slice_l _ _ _ _ _ ht _ _ (by omega) (by omega)]
  simp [sizeOf, typeInfo, hi, Result.andThen, sliced]

/-- What a line is behind things that were taken. -/
def TookI (q : Ln) (k : Nat) (L : List (Int × Int)) (M : List Int) (w : World) (e : Ending) (w' : World) : Prop := ∃ t v, e = .returned t ∧ w'.ownsRow w.heap.size 36 2 t k (its (L.take k)) ∧ LAt w' (q.with v q.u) (L.drop k) M ∧ Stay (fun j => j = q.b) w w' ∧ ∀ j, v.ownBlock = some j → q.v.ownBlock = some j

def TookB (q : Ln) (k : Nat) (L : List (Int × Int)) (M : List Int) (w : World) (e : Ending) (w' : World) : Prop := ∃ t v, e = .returned t ∧ w'.ownsRow w.heap.size 5 1 t k (bys (M.take k)) ∧ LAt w' (q.with q.v v) L (M.drop k) ∧ Stay (fun j => j = q.b) w w' ∧ ∀ j, v.ownBlock = some j → q.u.ownBlock = some j

set_option maxRecDepth 100000 in
theorem take16 (q : Ln) (L : List (Int × Int)) (M : List Int) (n : Int) (k : Nat) (w : World) (hq : LAt w q L M) (hk : (k : Int) = min (max n 0) (L.length : Nat)) : Calls Try.prog 16 #[.pointer (some ⟨q.b, 0, none⟩), .int .i64 n] w (TookI q k L M w) := by
  have h1 := hq.r2
  have h2 := hq.l1
  have h3 := hq.m1
  obtain ⟨ra, rc, hv, hrc, hnil⟩ := hq.inn.shape
  obtain ⟨x, hx⟩ : ∃ x : Nat, x = n.toNat := ⟨_, rfl⟩
  have e1 : max n 0 = (x : Nat) := by omega
  obtain ⟨ln, hln⟩ : ∃ n, n = L.length := ⟨_, rfl⟩
  have HWIN := hide' hq.inn
  rw [hv] at HWIN
  rw [← hln] at HWIN hv hrc hk
  have e2 : min ((x : Nat) : Int) (ln : Nat) = (k : Nat) := by omega
  have hkl : k ≤ ln := by omega
  have hslh := fun w => slice_h_eq (P := Try.prog) (sa := ra) (m := ln) (cap := rc) (k := k) elem26 size26 (by omega) w
  have hsll := fun w => slice_l_eq (P := Try.prog) (sa := ra) (m := ln) (cap := rc) (k := k) elem26 size26 hkl w
  obtain ⟨va, hva⟩ : ∃ a, a = (if rc = k then ra else ra.map (·.add (k * 2))) := ⟨_, rfl⟩
  obtain ⟨nl, hnl⟩ : ∃ n, n = ln - k := ⟨_, rfl⟩
  obtain ⟨nc, hnc⟩ : ∃ n, n = rc - k := ⟨_, rfl⟩
  rw [← hva, ← hnl, ← hnc] at hsll
  have HVA : Hid (Value.slice va nl nc = Value.slice (if rc = k then ra else ra.map (·.add (k * 2))) (ln - k) (rc - k)) := by rw [hva, hnl, hnc]; exact rfl
  have HNL := hide' hnl
  have HKL := hide' hkl
  have HLN := hide' hln
  have HQ := hide' hq
  have HN0 : Hid (k + 0 ≤ 1000000) := by show k + 0 ≤ 1000000; omega
  have HB : Hid (LBox w q.b q.bx) := hq.box
  have HV := hide' hv
  have HFR : Hid (IsRowS w 2 (.slice ra k rc) k ((its L).take (k * 2))) := HWIN.out.front hkl
  have HONE : Hid (∀ u ∈ (its L).take (k * 2), u.oneCell' = true) := by rw [its_take]; exact its_one _
  have HNK : Hid (0 + k ≤ 1000000) := by show 0 + k ≤ 1000000; omega
  obtain ⟨b0, b1, b2, b3, b4, f0, f1, f2, f3, f4⟩ := hq.box
  simp only [Ln.bx] at b0 b1 b2 b3 b4
  rw [hv] at b1
  clear hva hnl hnc hv hq hk hx hln h1 h2 h3 hrc hkl hnil
  go_enter Try.func16, Try.ntmps16
  go_wp2_with (at_builtin; go_must (refine appS rfl _ _ 26 rfl Try.underlying26 info36 rfl (by decide) (by decide) (World.ownsRow_nil w w.heap.size 36 2) rfl HFR.out rfl HONE.out HNK.out (Nat.le_refl _) ?_; intro t w1 hot hst hbt; have HOT := hide' hot; have HST := hide' (hst.mono (T := fun _ => False) (fun _ _ h => by cases h)); clear hot hst hbt; have HB1 := hide' (HB.out.keep HST.out); have bb := HB1.out; clear b0 b1 b2 b3 b4 f0 f1 f2 f3 f4; obtain ⟨b0, b1, b2, b3, b4, f0, f1, f2, f3, f4⟩ := bb; simp only [Ln.bx] at b0 b1 b2 b3 b4; rw [HV.out] at b1))
  go_returns
  generalize hW : World.setCell w1 _ _ = W
  have hbx := HB1.out.put1 (x := (Value.slice va nl nc)) (q := Ln.bx (q.with (Value.slice va nl nc) q.u)) rfl
  rw [hW] at hbx
  have hst3 : Stay (fun j => j = q.b) w1 W := by rw [← hW]; exact (Stay.refl (fun j => j = q.b) w1).setCell (p := ⟨q.b, 1, none⟩) rfl _
  have hq := HQ.out
  have hvn : ∀ j, (Value.slice va nl nc).ownBlock = some j → q.v.ownBlock = some j := fun j hj => by rw [HV.out]; rw [HVA.out] at hj; exact Win.drop_block j hj
  have hlen : nl = (L.drop k).length := by rw [HNL.out, List.length_drop, HLN.out]
  have hwin : Win W 2 (Value.slice va nl nc) (L.drop k).length (its (L.drop k)) := by
    have := HWIN.out.drop HKL.out
    rw [its_drop, ← HVA.out, ← HNL.out] at this
    rw [← hlen]
    exact (this.stay HST.out (fun _ _ h => h)).stay hst3 (fun j hj => hq.vb j (hvn j hj))
  have hoth := (hq.snt.stay HST.out (fun _ _ h => h)).stay hst3 (fun j hj => hq.ub j hj)
  have hown : W.ownsRow w.heap.size 36 2 t k (its (L.take k)) := by
    have := HOT.out
    rw [List.nil_append, its_take, Nat.zero_add] at this
    exact hst3.owns this (fun j hj e => by have := (this.lt j hj).1; have := hq.lt q.b (.inl rfl); omega)
  have hll : (L.drop k).length ≤ q.r := by rw [List.length_drop]; have := hq.l1; omega
  exact ⟨t, (Value.slice va nl nc), rfl, hown, ⟨hbx, hwin, hoth, fun j hj => hq.vb j (hvn j hj), hq.ub, fun j h1 h2 => hq.vu j (hvn j h1) h2, hq.r1, hq.r2, hll, hq.m1⟩, (HST.out.mono (fun _ _ h => h.elim)).trans hst3, hvn⟩

set_option maxRecDepth 100000 in
theorem take18 (q : Ln) (L : List (Int × Int)) (M : List Int) (n : Int) (k : Nat) (w : World) (hq : LAt w q L M) (hk : (k : Int) = min (max n 0) (M.length : Nat)) : Calls Try.prog 18 #[.pointer (some ⟨q.b, 2, none⟩), .int .i64 n] w (TookB q k L M w) := by
  have h1 := hq.r2
  have h2 := hq.l1
  have h3 := hq.m1
  obtain ⟨ra, rc, hv, hrc, hnil⟩ := hq.snt.shape
  obtain ⟨x, hx⟩ : ∃ x : Nat, x = n.toNat := ⟨_, rfl⟩
  have e1 : max n 0 = (x : Nat) := by omega
  obtain ⟨ln, hln⟩ : ∃ n, n = M.length := ⟨_, rfl⟩
  have HWIN := hide' hq.snt
  rw [hv] at HWIN
  rw [← hln] at HWIN hv hrc hk
  have e2 : min ((x : Nat) : Int) (ln : Nat) = (k : Nat) := by omega
  have hkl : k ≤ ln := by omega
  have hslh := fun w => slice_h_eq (P := Try.prog) (sa := ra) (m := ln) (cap := rc) (k := k) elem27 size27 (by omega) w
  have hsll := fun w => slice_l_eq (P := Try.prog) (sa := ra) (m := ln) (cap := rc) (k := k) elem27 size27 hkl w
  obtain ⟨va, hva⟩ : ∃ a, a = (if rc = k then ra else ra.map (·.add (k * 1))) := ⟨_, rfl⟩
  obtain ⟨nl, hnl⟩ : ∃ n, n = ln - k := ⟨_, rfl⟩
  obtain ⟨nc, hnc⟩ : ∃ n, n = rc - k := ⟨_, rfl⟩
  rw [← hva, ← hnl, ← hnc] at hsll
  have HVA : Hid (Value.slice va nl nc = Value.slice (if rc = k then ra else ra.map (·.add (k * 1))) (ln - k) (rc - k)) := by rw [hva, hnl, hnc]; exact rfl
  have HNL := hide' hnl
  have HKL := hide' hkl
  have HLN := hide' hln
  have HQ := hide' hq
  have HN0 : Hid (k + 0 ≤ 1000000) := by show k + 0 ≤ 1000000; omega
  have HB : Hid (LBox w q.b q.bx) := hq.box
  have HV := hide' hv
  have HFR : Hid (IsRowS w 1 (.slice ra k rc) k ((bys M).take (k * 1))) := HWIN.out.front hkl
  have HONE : Hid (∀ u ∈ (bys M).take (k * 1), u.oneCell' = true) := by rw [bys_take]; exact bys_one _
  have HNK : Hid (0 + k ≤ 1000000) := by show 0 + k ≤ 1000000; omega
  obtain ⟨b0, b1, b2, b3, b4, f0, f1, f2, f3, f4⟩ := hq.box
  simp only [Ln.bx] at b0 b1 b2 b3 b4
  rw [hv] at b3
  clear hva hnl hnc hv hq hk hx hln h1 h2 h3 hrc hkl hnil
  go_enter Try.func18, Try.ntmps18
  go_wp2_with (at_builtin; go_must (refine appS rfl _ _ 27 rfl Try.underlying27 info5 rfl (by decide) (by decide) (World.ownsRow_nil w w.heap.size 5 1) rfl HFR.out rfl HONE.out HNK.out (Nat.le_refl _) ?_; intro t w1 hot hst hbt; have HOT := hide' hot; have HST := hide' (hst.mono (T := fun _ => False) (fun _ _ h => by cases h)); clear hot hst hbt; have HB1 := hide' (HB.out.keep HST.out); have bb := HB1.out; clear b0 b1 b2 b3 b4 f0 f1 f2 f3 f4; obtain ⟨b0, b1, b2, b3, b4, f0, f1, f2, f3, f4⟩ := bb; simp only [Ln.bx] at b0 b1 b2 b3 b4; rw [HV.out] at b3))
  go_returns
  generalize hW : World.setCell w1 _ _ = W
  have hbx := HB1.out.put3 (x := (Value.slice va nl nc)) (q := Ln.bx (q.with q.v (Value.slice va nl nc))) rfl
  rw [hW] at hbx
  have hst3 : Stay (fun j => j = q.b) w1 W := by rw [← hW]; exact (Stay.refl (fun j => j = q.b) w1).setCell (p := ⟨q.b, 3, none⟩) rfl _
  have hq := HQ.out
  have hvn : ∀ j, (Value.slice va nl nc).ownBlock = some j → q.u.ownBlock = some j := fun j hj => by rw [HV.out]; rw [HVA.out] at hj; exact Win.drop_block j hj
  have hlen : nl = (M.drop k).length := by rw [HNL.out, List.length_drop, HLN.out]
  have hwin : Win W 1 (Value.slice va nl nc) (M.drop k).length (bys (M.drop k)) := by
    have := HWIN.out.drop HKL.out
    rw [bys_drop, ← HVA.out, ← HNL.out] at this
    rw [← hlen]
    exact (this.stay HST.out (fun _ _ h => h)).stay hst3 (fun j hj => hq.ub j (hvn j hj))
  have hoth := (hq.inn.stay HST.out (fun _ _ h => h)).stay hst3 (fun j hj => hq.vb j hj)
  have hown : W.ownsRow w.heap.size 5 1 t k (bys (M.take k)) := by
    have := HOT.out
    rw [List.nil_append, bys_take, Nat.zero_add] at this
    exact hst3.owns this (fun j hj e => by have := (this.lt j hj).1; have := hq.lt q.b (.inl rfl); omega)
  have hll : (M.drop k).length ≤ q.r := by rw [List.length_drop]; have := hq.m1; omega
  exact ⟨t, (Value.slice va nl nc), rfl, hown, ⟨hbx, hoth, hwin, hq.vb, fun j hj => hq.ub j (hvn j hj), fun j h1 h2 => hq.vu j h1 (hvn j h2), hq.r1, hq.r2, hq.l1, hll⟩, (HST.out.mono (fun _ _ h => h.elim)).trans hst3, hvn⟩

end Go.Proofs.Ytffdkkbinkonbaa
