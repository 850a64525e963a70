/-
  Orphans; a terminal is hung up; what a process may do: walked. No conditions.
-/
import Derived.Test.YtefpifnfinkbaaaEA
namespace Go.Proofs.Ytefpifnfinkbaaa
open Go.RowKit

variable {q : Tq} {L : List Pr} {md : Int} {f : Int → Int} {c : Nat} {w : World} {i g : Nat} {p : Pr}

theorem ties59 (bx bz m2 n : Nat) (F : Int → Int) (H : Int → Bool) (h : TM w q L md f c) (hg : q.v.ownBlock = some g) (hp : L[i]? = some p) (k0 : w.cell? ⟨bx, 0, none⟩ = some (.pointer (some ⟨q.b, 0, none⟩))) (k1 : w.cell? ⟨bz, 0, none⟩ = some (.map (some m2))) (hm : MAt w m2 n F H) (hn1 : n ≤ 4096) (hw : W64 p.grp) (hF : 0 ≤ F p.grp ∧ F p.grp ≤ 4000) :
    Calls Try.prog 59 #[.pointer (some ⟨g, i * 6, none⟩), .pointer (some ⟨bx, 0, none⟩), .pointer (some ⟨bz, 0, none⟩)] w (fun e w' => e = .returned (.tuple #[]) ∧ MAt w' m2 (n + 1) (upd F p.grp (F p.grp + oneB (tiedB L p))) (updB H p.grp true) ∧ Stay (fun j => j = m2) w w') := by
  by_cases hn : ∀ t ∈ L, t.pid ≠ p.par
  · rw [tied_none hn, show F p.grp + oneB false = F p.grp from Int.add_zero _]
    exact ties59_none bx bz m2 n F H h hg hp hn k0 k1 hm hn1 hw hF
  · obtain ⟨t, ht, hx⟩ : ∃ t ∈ L, t.pid = p.par := by
      apply Classical.byContradiction
      intro hc
      exact hn (fun t ht e => hc ⟨t, ht, e⟩)
    obtain ⟨i2, ht2⟩ := List.getElem?_of_mem ht
    rw [tied_at h.up ht2 hx]
    cases d1 : (t.grp != p.grp)
    · rw [Bool.false_and, show F p.grp + oneB false = F p.grp from Int.add_zero _]
      exact ties59_same bx bz m2 n F H h hg hp ht2 hx d1 k0 k1 hm hn1 hw hF
    · rw [Bool.true_and]
      cases d2 : (t.ses == p.ses)
      · rw [show F p.grp + oneB false = F p.grp from Int.add_zero _]
        exact ties59_other bx bz m2 n F H h hg hp ht2 hx d1 d2 k0 k1 hm hn1 hw hF
      · exact ties59_tied bx bz m2 n F H h hg hp ht2 hx d1 d2 k0 k1 hm hn1 hw hF

/-- What was counted. -/
def TiesIn (L : List Pr) (m2 k : Nat) (w wr : World) : Prop := MAt wr m2 k (tiesF L k) (tiesH L k) ∧ Stay (fun j => j = m2) w wr

set_option maxHeartbeats 1000000 in
theorem each45_59 (bx bz m2 : Nat) (h : TM w q L md f c) (hw : ∀ p ∈ L, W64 p.grp) (k0 : w.cell? ⟨bx, 0, none⟩ = some (.pointer (some ⟨q.b, 0, none⟩))) (k1 : w.cell? ⟨bz, 0, none⟩ = some (.map (some m2))) (hm : MAt w m2 0 (fun _ => 0) (fun _ => false)) (hno : ¬ q.own m2) (hbx : ¬ bx = m2) (hbz : ¬ bz = m2) :
    Calls Try.prog 45 #[.pointer (some ⟨q.b, 0, none⟩), .func (.func 59) #[] #[.pointer (some ⟨bx, 0, none⟩), .pointer (some ⟨bz, 0, none⟩)]] w (fun e w' => e = .returned (.tuple #[]) ∧ TiesIn L m2 L.length w w') := by
  obtain ⟨g, cap, hv⟩ := h.shape
  have HG : Hid (q.v.ownBlock = some g) := by rw [hv]; exact rfl
  have c0 := h.box.c0
  simp only at c0
  rw [hv] at c0
  have HV := hide' hv
  obtain ⟨n, hn⟩ : ∃ n, n = L.length := ⟨_, rfl⟩
  rw [← hn] at c0 HV
  have HN := hide' hn
  have hn1 : (n : Int) ≤ 256 := by have := h.len; omega
  have HL0 : Hid (TiesIn L m2 0 w w) := by unfold TiesIn; rw [tiesF_zero, tiesH_zero]; exact ⟨hm, Stay.refl _ _⟩
  have HT := hide' h
  have HNO := hide' hno
  have l0 := World.block_lt_of_cell? _ _ k0
  have l1 := World.block_lt_of_cell? _ _ k1
  have HCELL : Hid (∀ wr, Stay (fun j => j = m2) w wr → wr.cell? ⟨bx, 0, none⟩ = some (.pointer (some ⟨q.b, 0, none⟩)) ∧ wr.cell? ⟨bz, 0, none⟩ = some (.map (some m2))) := fun wr hs => ⟨(hs.cell (p := ⟨bx, 0, none⟩) l0 hbx).trans k0, (hs.cell (p := ⟨bz, 0, none⟩) l1 hbz).trans k1⟩
  have HW := hide' hw
  rw [← hn]
  clear h hv hn hm hno hw k0 k1 l0 l1 hbx hbz
  go_enter Try.func45, Try.ntmps45
  go_wp2
  clear c0
  go_loopg [10] n (fun gg v10 wr => ∃ k : Nat, k ≤ n ∧ gg = n - k ∧ v10 = .int .i64 (k : Int) ∧ Hid (TiesIn L m2 k w wr))
  case atStart => exact ⟨0, Nat.zero_le _, rfl, rfl, HL0⟩
  case round =>
    clear HL0
    obtain ⟨k, hk, rfl, rfl, HL⟩ := hrel
    by_cases hlt : k < n
    · have kn : (k : Int) < (n : Nat) := by omega
      obtain ⟨t, ht⟩ : ∃ t, L[k]? = some t := ⟨_, List.getElem?_eq_getElem (by rw [← HN.out]; exact hlt)⟩
      have hT := HT.out.stay HL.out.2 (fun j hj e => HNO.out (by rw [← e]; exact hj))
      have c0 := hT.box.c0
      simp only at c0
      rw [HV.out] at c0
      have hle := tiesF_le L k t.grp
      have hkk := HCELL.out wr HL.out.2
      have HC := hide' (ties59 bx bz m2 k (tiesF L k) (tiesH L k) hT HG.out ht hkk.1 hkk.2 HL.out.1 (by omega) (HW.out t (mem_at ht)) ⟨hle.1, by omega⟩)
      have HTT := hide' ht
      clear ht hT hle hkk
      go_wp2_with fail
      refine HC.out.mono ?_
      rintro _ w1 ⟨rfl, hm1, hs1⟩
      rw [tiesF_succ HTT.out, tiesH_succ HTT.out] at hm1
      have HN1 : Hid (TiesIn L m2 (k + 1) w w1) := ⟨hm1, HL.out.2.trans hs1⟩
      clear hm1 hs1 HL c0 HC
      go_wp2
      go_roundg (n - (k + 1))
      case measure => omega
      case rel => exact ⟨k + 1, by omega, rfl, by go_num, HN1⟩
    · have e : k = n := by omega
      subst e
      go_wp2
      go_returns
      exact ⟨rfl, HL.out⟩

/-- A map that is handed back. -/
def GivesM (L : List Pr) (w : World) (e : Ending) (w' : World) : Prop := ∃ m2, e = .returned (.map (some m2)) ∧ MAt w' m2 L.length (tiesF L L.length) (tiesH L L.length) ∧ Stay (fun _ => False) w w' ∧ w.heap.size ≤ m2

theorem ties40 (h : TM w q L md f c) (hw : ∀ p ∈ L, W64 p.grp) : Calls Try.prog 40 #[.pointer (some ⟨q.b, 0, none⟩)] w (GivesM L w) := by
  obtain ⟨bx, hbx⟩ : ∃ b, b = w.heap.size := ⟨_, rfl⟩
  obtain ⟨W1, hW1⟩ : ∃ W, W = w.alloc (.cells #[.pointer (some ⟨q.b, 0, none⟩)] 24) := ⟨_, rfl⟩
  have hs1 : Stay (fun _ => False) w W1 := by rw [hW1]; exact (Stay.refl _ _).alloc _
  have k0 : W1.cell? ⟨bx, 0, none⟩ = some (.pointer (some ⟨q.b, 0, none⟩)) := by rw [hW1, hbx]; simp
  obtain ⟨m2, hm2⟩ : ∃ b, b = W1.heap.size := ⟨_, rfl⟩
  have hz1 : m2 = bx + 1 := by rw [hm2, hW1, hbx]; simp
  obtain ⟨W2, hW2⟩ : ∃ W, W = W1.alloc (.map #[] 0) := ⟨_, rfl⟩
  have hs2 : Stay (fun _ => False) W1 W2 := by rw [hW2]; exact (Stay.refl _ _).alloc _
  have hm := MAt.made W1
  rw [← hW2, ← hm2] at hm
  obtain ⟨bz, hbz⟩ : ∃ b, b = W2.heap.size := ⟨_, rfl⟩
  have hz2 : bz = m2 + 1 := by rw [hbz, hW2, hm2]; simp
  obtain ⟨W3, hW3⟩ : ∃ W, W = W2.alloc (.cells #[.map (some m2)] 62) := ⟨_, rfl⟩
  have hs3 : Stay (fun _ => False) W2 W3 := by rw [hW3]; exact (Stay.refl _ _).alloc _
  have k1 : W3.cell? ⟨bz, 0, none⟩ = some (.map (some m2)) := by rw [hW3, hbz]; simp
  have hs03 := (hs1.trans hs2).trans hs3
  have hT3 := h.keep hs03
  have hno : ¬ q.own m2 := fun e => by have := h.lt m2 e; omega
  have HE := hide' (each45_59 bx bz m2 hT3 hw (keep_cell (hs2.trans hs3) k0) k1 (hm.keep hs3) hno (by omega) (by omega))
  have HS := hide' hs03
  have HZ : Hid (w.heap.size ≤ m2 ∧ ¬ bz = m2) := ⟨by omega, by omega⟩
  have l1 := World.block_lt_of_cell? _ _ k1
  have HK : Hid (W3.cell? ⟨bz, 0, none⟩ = some (.map (some m2)) ∧ bz < W3.heap.size) := ⟨k1, l1⟩
  have k2 := keep_cell (hs2.trans hs3) k0
  have HW : Hid (W3 = ((w.alloc (.cells #[.pointer (some ⟨q.b, 0, none⟩)] 24)).alloc (.map #[] 0)).alloc (.cells #[.map (some (w.heap.size + 1))] 62)) := by
    have e : m2 = w.heap.size + 1 := by omega
    rw [hW3, hW2, hW1, e]; exact rfl
  have HB : Hid (bx = w.heap.size ∧ bz = w.heap.size + 1 + 1) := ⟨hbx, by omega⟩
  have hmm := @run_makeMap Try.prog
  obtain ⟨n, hn⟩ : ∃ n, n = L.length := ⟨_, rfl⟩
  rw [← hn] at HE
  have HN := hide' hn
  clear h hw hs1 hs2 hs3 hs03 k0 k1 hm hT3 hno l1 hz1 hz2 hbx hbz hW1 hW2 hW3 hm2 hn
  go_enter Try.func40, Try.ntmps40
  go_upto_region 2 with fail
  rw [← HW.out, ← HB.out.2, ← HB.out.1]
  clear HW HB hmm
  go_wp2_with fail
  refine HE.out.mono ?_
  rintro _ w1 ⟨rfl, hm1, hs1⟩
  have k3 := (hs1.cell (p := ⟨bz, 0, none⟩) HK.out.2 HZ.out.2).trans HK.out.1
  rw [HN.out] at hm1
  have HR : Hid (MAt w1 m2 L.length (tiesF L L.length) (tiesH L L.length) ∧ Stay (fun _ => False) w w1) := ⟨hm1, HS.out.trans2 hs1 (fun j hj e => by have := HZ.out.1; omega)⟩
  clear hm1 hs1 HE HK k2
  go_wp2
  go_ret
  exact ⟨m2, rfl, HR.out.1, HR.out.2, HZ.out.1⟩

/-- Whether a group is an orphan. -/
def orphB (L : List Pr) (g : Int) : Bool := L.any (fun p => p.grp == g) && (tiesF L L.length g == 0)

theorem tiesH_all (L : List Pr) (g : Int) : tiesH L L.length g = L.any (fun p => p.grp == g) := by unfold tiesH; rw [List.take_length]

theorem orphan16 (y : Int) (h : TM w q L md f c) (hw : ∀ p ∈ L, W64 p.grp) (hy : W64 y) : Calls Try.prog 16 #[.pointer (some ⟨q.b, 0, none⟩), .int .i64 y] w (Gives (.bool (orphB L y)) w) := by
  have HTI := hide' (ties40 h hw)
  have HY := hide' hy
  clear h hw hy
  go_enter Try.func16, Try.ntmps16
  go_wp2_with fail
  refine HTI.out.mono ?_
  rintro _ w1 ⟨m2, rfl, hm, hs, _⟩
  have hlk := hm.look_ok HY.out
  rw [tiesH_all] at hlk
  have HS := hide' hs
  obtain ⟨z, hz⟩ : ∃ z, z = tiesF L L.length y := ⟨_, rfl⟩
  rw [← hz] at hlk
  obtain ⟨b, hb⟩ : ∃ b, b = L.any (fun p => p.grp == y) := ⟨_, rfl⟩
  rw [← hb] at hlk
  have HO : Hid (orphB L y = (b && (z == 0))) := by unfold orphB; rw [hz, hb]; exact rfl
  clear hm hs hz hb HTI
  cases b
  · go_wp2
    go_ret
    exact ⟨by rw [HO.out]; rfl, HS.out⟩
  · go_wp2
    go_ret
    exact ⟨by rw [HO.out]; rfl, HS.out⟩

theorem hangup27 (t : Int) (h : TM w q L md f c) (ht : W64 t) : Calls Try.prog 27 #[.pointer (some ⟨q.b, 0, none⟩), .int .i64 t] w (fun e w' => ∃ a cap, e = .returned (.slice a (sigsTo (L.map (freeT t)) (f t) [4, 5]).length cap) ∧ SV w' a cap (sigsTo (L.map (freeT t)) (f t) [4, 5]) ∧ TM w' q (L.map (freeT t)) md (upd f t 0) c ∧ Moved q q w w' ∧ ∀ j, a.map Addr.block = some j → w.heap.size ≤ j) := by
  have HF := hide' (front18 t h ht)
  have HT := hide' h
  have HW := hide' ht
  clear h ht
  go_enter Try.func27, Try.ntmps27
  go_wp2_with fail
  refine HF.out.mono ?_
  rintro _ w1 ⟨rfl, hs⟩
  have HR := hide' (free52 t (HT.out.keep hs) HW.out)
  have HM1 := hide' (Moved.of_stay (q := q) hs)
  have HZ1 := hide' hs.size
  clear hs HF HT
  go_wp2_with fail
  refine HR.out.mono ?_
  rintro _ w2 ⟨rfl, hT2, hm2⟩
  have HT2 := hide' hT2
  have HM2 := hide' (HM1.out.trans hm2)
  have HZ2 := hide' (Nat.le_trans HZ1.out hm2.1.size)
  have HS := hide' (fun (W : World) (hs : Stay (fun _ => False) w2 W) (B : Nat) (k0 : W.cell? ⟨B, 0, none⟩ = some (.int .i64 4)) (k1 : W.cell? ⟨B, 1, none⟩ = some (.int .i64 5)) => signals (f t) B [4, 5] (hT2.keep hs) (fun j hj => by
    match j, hj with
    | 0, _ => exact k0
    | 1, _ => exact k1) (by decide))
  clear hT2 hm2 HR HM1 HZ1
  go_wp2_with fail
  refine (HS.out _ ?_ _ ?_ ?_).mono ?_
  · exact (Stay.refl _ _).alloc _
  · simp
  · simp
  rintro _ w3 ⟨a, cap, rfl, hsv, hs, hb⟩
  have hs' : Stay (fun _ => False) w2 w3 := ((Stay.refl _ _).alloc _).trans hs
  have HE := hide' (show SV w3 a cap (sigsTo (L.map (freeT t)) (f t) [4, 5]) ∧ TM w3 q (L.map (freeT t)) md (upd f t 0) c ∧ Moved q q w w3 ∧ ∀ j, a.map Addr.block = some j → w.heap.size ≤ j from ⟨hsv, HT2.out.keep hs', HM2.out.trans (Moved.of_stay hs'), fun j hj => by
    have h1 := hb j hj
    have h2 := HZ2.out
    simp at h1
    omega⟩)
  clear hsv hs hs' hb HS HT2 HM2
  go_wp2
  go_ret
  exact ⟨a, cap, rfl, HE.out⟩

end Go.Proofs.Ytefpifnfinkbaaa
