/-
  Timers of which a test is true go: walked. No conditions.
-/
import Derived.Test.YtihciknbmhadjaaD1
import Derived.Lib.SliceRun
import Derived.Deep.DeepCutAuto
namespace Go.Proofs.Ytihciknbmhadjaa
open Go.RowKit

/-- Cells of nothing. -/
def zs (m : Nat) : List Value := (Builtin.zeroCells (Value.agg #[.int .i64 0, .int .i64 0, .int .i64 0]).cells m).toList

theorem zs_len (m : Nat) : (zs m).length = m * 3 := by
  have e : (Value.agg #[.int .i64 0, .int .i64 0, .int .i64 0]).cells.size = 3 := by rfl
  unfold zs
  rw [Array.length_toList]
  simp only [Builtin.zeroCells, Array.size_map, Array.size_range, e]

theorem zs_one (m : Nat) : ∀ u ∈ zs m, u.oneCell' = true := by
  intro u hu
  unfold zs Builtin.zeroCells at hu
  rw [Array.toList_map, List.mem_map] at hu
  obtain ⟨i, _, rfl⟩ := hu
  have hi : i % 3 < 3 := Nat.mod_lt _ (by decide)
  show (((#[.int .i64 0, .int .i64 0, .int .i64 0] : Array Value))[i % 3]!).oneCell' = true
  match i % 3, hi with
  | 0, _ => rfl
  | 1, _ => rfl
  | 2, _ => rfl

theorem zeroValue35 (w : World) : (zeroValue 35).run Try.prog w = .ok (.agg #[.int .i64 0, .int .i64 0, .int .i64 0]) w := by kernel_rfl

theorem run_clear26 (w : World) (ty : TypeId) (b o m c : Nat) (hm : 0 < m) (ht : w.there b o (m * 3)) : (Builtin.clear_ #[26] ty #[.slice (some ⟨b, o, none⟩) m c]).run Try.prog w = .ok (.tuple #[]) (w.setCells b o (zs m)) := by
  have hst := run_storeCells_cells (P := Try.prog) b o (zs m) 0 w (fun j hj => by simpa using (ht j (by rw [zs_len] at hj; exact hj)).1) (fun j hj => by simpa using (ht j (by rw [zs_len] at hj; exact hj)).2) (zs_one m)
  simp only [Nat.add_zero] at hst
  unfold zs at hst ⊢
  obtain ⟨k, rfl⟩ : ∃ k, m = k + 1 := ⟨m - 1, by omega⟩
  simp [Builtin.clear_, run_underlying Try.underlying26, hst]

theorem Ws.ther {w : World} {g n cap : Nat} {L : List Tm} (h : Ws w (some ⟨g, 0, none⟩) n cap L) : g < w.heap.size ∧ w.there g 0 (cap * 3) ∧ w.rangeAt g 0 (wc L) := by
  rcases h.2.2.2 with ⟨e, _⟩ | ⟨g', e, h1, h2, h3⟩
  · cases e
  · cases e; exact ⟨h1, h3, h2⟩

/-- What timers are behind a call that let some go. -/
def DelF (p : Tm → Bool) (L : List Tm) (a : Option Addr) (cap : Nat) (w : World) (e : Ending) (w' : World) : Prop := ∃ k, e = .returned (.slice a k cap) ∧ Ws w' a k cap (outL p L) ∧ Stay (fun j => a.map Addr.block = some j) w w'

/-- While they are looked through: the first ones stay, the last ones are as they were. -/
structure Sift (p : Tm → Bool) (L : List Tm) (g n cap : Nat) (w : World) (i j : Nat) (wr : World) (M : List Tm) : Prop where
  stay : Stay (fun k => k = g) w wr
  row : Ws wr (some ⟨g, 0, none⟩) n cap M
  fst : M.take i = outL p (L.take j)
  lst : ∀ k, j ≤ k → M[k]? = L[k]?

theorem outL_snoc {p : Tm → Bool} {L : List Tm} {j : Nat} {t : Tm} (h : L[j]? = some t) : outL p (L.take (j + 1)) = outL p (L.take j) ++ (if p t = true then [] else [t]) := by
  unfold outL
  rw [List.take_add_one, h, List.filter_append]
  congr 1
  cases hp : p t <;> simp [hp]

theorem Sift.skip {p : Tm → Bool} {L M : List Tm} {g n cap i j : Nat} {w wr w1 : World} {t : Tm} (h : Sift p L g n cap w i j wr M) (hs : Stay (fun _ => False) wr w1) (ht : L[j]? = some t) (hp : p t = true) : Sift p L g n cap w i (j + 1) w1 M :=
  ⟨h.stay.trans (hs.mono (fun _ _ h => h.elim)), h.row.keep hs, by rw [outL_snoc ht, if_pos hp, List.append_nil]; exact h.fst, fun k hk => h.lst k (by omega)⟩

theorem Sift.keep {p : Tm → Bool} {L M : List Tm} {g n cap i j : Nat} {w wr w1 : World} (h : Sift p L g n cap w i j wr M) (hs : Stay (fun _ => False) wr w1) : Sift p L g n cap w i j w1 M :=
  ⟨h.stay.trans (hs.mono (fun _ _ h => h.elim)), h.row.keep hs, h.fst, h.lst⟩

theorem Sift.put {p : Tm → Bool} {L M : List Tm} {g n cap i j : Nat} {w wr : World} {t u : Tm} (h : Sift p L g n cap w i j wr M) (ht : L[j]? = some t) (hp : p t = false) (hij : i < j) (hu : M[i]? = some u) : Sift p L g n cap w (i + 1) (j + 1) (wr.setCells g (i * 3) t.parts) (M.set i t) := by
  have hi : i < M.length := (List.getElem?_eq_some_iff.1 hu).1
  refine ⟨h.stay.setCells g t.parts (i * 3) rfl, h.row.set hu t, ?_, fun k hk => ?_⟩
  · rw [outL_snoc ht, if_neg (by rw [hp]; decide), List.take_add_one, List.getElem?_set, if_pos rfl, if_pos hi, List.take_set, List.set_eq_of_length_le (by rw [List.length_take]; omega), h.fst]
    rfl
  · rw [List.getElem?_set, if_neg (by omega)]
    exact h.lst k (by omega)

theorem deleteF34_none_28 (a : Option Addr) (n cap : Nat) (L : List Tm) (p : Tm → Bool) (bx bz : Nat) (w : World) (h : Ws w a n cap L) (hm : n ≤ 2048) (hz : ¬ fi p L < L.length)
    (hcl : ∀ w', Stay (fun _ => False) w w' → ∀ t : Tm, Calls Try.prog 28 #[.agg #[.int .i64 t.en, .int .i64 t.nr, .int .i64 t.du], .pointer (some ⟨bx, 0, none⟩), .pointer (some ⟨bz, 0, none⟩)] w' (Gives (.bool (p t)) w')) : Calls Try.prog 34 #[.slice a n cap, .func (.func 28) #[] #[.pointer (some ⟨bx, 0, none⟩), .pointer (some ⟨bz, 0, none⟩)]] w (DelF p L a cap w) := by
  have HI := hide' (index27_28 a n cap L p bx bz w h.rd h.1 hm hcl)
  have e : fiI p L = -1 := by unfold fiI; rw [if_neg hz]
  rw [e] at HI
  have HW := hide' h
  have HO := hide' (out_fi hz)
  clear h hcl e hz
  go_enter Try.func34, Try.ntmps34
  go_wp2_with fail
  refine HI.out.mono ?_
  rintro _ w1 ⟨rfl, hs⟩
  have HS := hide' hs
  clear hs HI
  go_wp2
  go_ret
  exact ⟨n, rfl, by rw [HO.out]; exact HW.out.keep HS.out, HS.out.mono (fun _ _ h => h.elim)⟩

set_option maxHeartbeats 2000000 in
theorem deleteF34_some_28 (g n cap : Nat) (L : List Tm) (p : Tm → Bool) (bx bz : Nat) (w : World) (h : Ws w (some ⟨g, 0, none⟩) n cap L) (hm : n ≤ 2048) (hz : fi p L < L.length)
    (hcl : ∀ w', Stay (fun j => j = g) w w' → ∀ t : Tm, Calls Try.prog 28 #[.agg #[.int .i64 t.en, .int .i64 t.nr, .int .i64 t.du], .pointer (some ⟨bx, 0, none⟩), .pointer (some ⟨bz, 0, none⟩)] w' (Gives (.bool (p t)) w')) : Calls Try.prog 34 #[.slice (some ⟨g, 0, none⟩) n cap, .func (.func 28) #[] #[.pointer (some ⟨bx, 0, none⟩), .pointer (some ⟨bz, 0, none⟩)]] w (DelF p L (some ⟨g, 0, none⟩) cap w) := by
  have HI := hide' (index27_28 (some ⟨g, 0, none⟩) n cap L p bx bz w h.rd h.1 hm (fun w' hs => hcl w' (hs.mono (fun _ _ h => h.elim))))
  obtain ⟨i0, hi0⟩ : ∃ i, i = fi p L := ⟨_, rfl⟩
  have e : fiI p L = ((i0 : Nat) : Int) := by unfold fiI; rw [if_pos hz, hi0]
  rw [e] at HI
  rw [← hi0] at hz
  have hn := h.1
  have hc := h.2.1
  obtain ⟨t0, ht0⟩ : ∃ t, L[i0]? = some t := ⟨_, List.getElem?_eq_getElem hz⟩
  have HX0 : Hid (Sift p L g n cap w i0 (i0 + 1) w L) := ⟨Stay.refl _ _, h, (out_first hi0 ht0).symm, fun _ _ => rfl⟩
  have HCL := hide' hcl
  have HN := hide' hn
  have in0 : i0 < n := by omega
  have in1 : (i0 : Int) < (n : Nat) := by omega
  have nb : (n : Int) ≤ 2048 := by omega
  have nc : n ≤ cap := hc
  have iw : IntKind.i64.wrap ((i0 : Int) + 1) = ((i0 : Int) + 1) := by rw [IntKind.wrap_i64]; omega
  have i1 : ¬ (i0 : Int) = -1 := by omega
  clear h hcl e hz hm ht0 hi0 hn hc t0
  go_enter Try.func34, Try.ntmps34
  go_wp2_with fail
  refine HI.out.mono ?_
  rintro _ w1 ⟨rfl, hs⟩
  have HX1 : Hid (∃ M, Sift p L g n cap w i0 (i0 + 1) w1 M) := ⟨L, HX0.out.keep hs⟩
  clear hs HI HX0
  go_wp2
  go_loopg [5, 6] (n - (i0 + 1)) (fun gg v5 v6 wr => ∃ i j : Nat, i < j ∧ j ≤ n ∧ gg = n - j ∧ v5 = .int .i64 (i : Int) ∧ v6 = .int .i64 (j : Int) ∧ Hid (∃ M, Sift p L g n cap w i j wr M))
  case atStart => exact ⟨i0, i0 + 1, by omega, by omega, rfl, rfl, by go_num, HX1⟩
  case round =>
    clear HX1 iw i1
    obtain ⟨i, j, hij, hjn, rfl, rfl, rfl, HX⟩ := hrel
    obtain ⟨M, hM⟩ := HX.out
    have HM := hide' hM
    clear HX hM
    by_cases hlt : j < n
    · have jn : (j : Int) < (n : Nat) := by omega
      obtain ⟨t, ht⟩ : ∃ t, L[j]? = some t := ⟨_, List.getElem?_eq_getElem (by rw [HN.out]; exact hlt)⟩
      obtain ⟨g', eg, hb⟩ := HM.out.row.at ((HM.out.lst j (Nat.le_refl _)).trans ht)
      cases eg
      obtain ⟨c0, c1, c2⟩ := hb
      have HT := hide' ht
      obtain ⟨B, hB⟩ : ∃ B, B = wr.heap.size := ⟨_, rfl⟩
      obtain ⟨W, hW⟩ : ∃ W, W = wr.alloc (.cells #[.int .i64 t.en, .int .i64 t.nr, .int .i64 t.du] 35) := ⟨_, rfl⟩
      have hs0 : Stay (fun _ => False) wr W := by rw [hW]; exact (Stay.refl _ _).alloc _
      have HB : Hid (TBox W B t) := by rw [hW]; exact TBox.new t hB.symm
      have HMW := hide' (HM.out.keep hs0)
      have HWB : Hid (B = wr.heap.size ∧ W = wr.alloc (.cells #[.int .i64 t.en, .int .i64 t.nr, .int .i64 t.du] 35)) := ⟨hB, hW⟩
      obtain ⟨x, hx⟩ : ∃ x, x = p t := ⟨_, rfl⟩
      have HC := hide' (HCL.out W HMW.out.stay t)
      rw [← hx] at HC
      have HPX := hide' hx
      clear ht hs0 hB hW hx HM
      go_upto_region 8 with fail
      obtain ⟨hB, hW⟩ := HWB.out
      rw [← hW, ← hB]
      clear hB hW HWB c0 c1 c2
      obtain ⟨b0, b1, b2, _, _, _⟩ := HB.out
      cases x
      · go_wp2_with fail
        refine HC.out.mono ?_
        rintro _ w2 ⟨rfl, hs⟩
        clear b0 b1 b2
        obtain ⟨b0, b1, b2, _, _, _⟩ := HB.out.keep hs
        have HM2 := hide' (HMW.out.keep hs)
        clear hs HMW HC HB
        have hin : i < n := by omega
        have i_n : (i : Int) < (n : Nat) := by omega
        obtain ⟨u, hu⟩ : ∃ u, M[i]? = some u := ⟨_, List.getElem?_eq_getElem (by rw [HM2.out.row.1]; exact hin)⟩
        obtain ⟨g', eg, hb⟩ := HM2.out.row.at hu
        cases eg
        obtain ⟨d0, d1, d2⟩ := hb
        have hfr : ∀ q, q < 3 → w2.frozen? ⟨g, i * 3 + q, none⟩ = false := fun q hq => by
          have := (HM2.out.row.ther.2.1 (i * 3 + q) (by omega)).2
          rwa [Nat.zero_add] at this
        have f0 := hfr 0 (by decide)
        have f1 := hfr 1 (by decide)
        have f2 := hfr 2 (by decide)
        rw [Nat.add_zero] at f0
        have HU := hide' hu
        clear hu hfr
        go_upto_region 10 with fail
        generalize hWr : World.setCell _ _ _ = W5
        have HM5 : Hid (∃ M, Sift p L g n cap w (i + 1) (j + 1) W5 M) := by
          have hp := HM2.out.put HT.out HPX.out.symm hij HU.out
          have e5 : w2.setCells g (i * 3) t.parts = W5 := hWr
          rw [e5] at hp
          exact ⟨_, hp⟩
        clear hWr HM2 d0 d1 d2 f0 f1 f2 b0 b1 b2
        go_wp2
        go_roundg (n - (j + 1))
        case measure => omega
        case rel => exact ⟨i + 1, j + 1, by omega, by omega, rfl, by go_num, by go_num, HM5⟩
      · go_wp2_with fail
        refine HC.out.mono ?_
        rintro _ w2 ⟨rfl, hs⟩
        have HM5 : Hid (∃ M, Sift p L g n cap w i (j + 1) w2 M) := ⟨M, HMW.out.skip hs HT.out HPX.out.symm⟩
        clear hs HMW HC HB b0 b1 b2
        go_wp2
        go_roundg (n - (j + 1))
        case measure => omega
        case rel => exact ⟨i, j + 1, by omega, by omega, rfl, rfl, by go_num, HM5⟩
    · have e : j = n := by omega
      subst e
      obtain ⟨m, hm⟩ : ∃ m, j - i = m := ⟨_, rfl⟩
      have hth : wr.there g (i * 3) (m * 3) := there_part HM.out.row.ther.2.1 (by omega)
      have hcl : ∀ ty, (Builtin.clear_ #[26] ty #[.slice (some ⟨g, i * 3, none⟩) m (cap - i)]).run Try.prog wr = .ok (.tuple #[]) (wr.setCells g (i * 3) (zs m)) := fun ty => run_clear26 wr ty g (i * 3) m (cap - i) (by omega) hth
      obtain ⟨W5, hW5⟩ : ∃ W, W = wr.setCells g (i * 3) (zs m) := ⟨_, rfl⟩
      rw [← hW5] at hcl
      have HF : Hid (Ws W5 (some ⟨g, 0, none⟩) i cap (outL p L) ∧ Stay (fun k => k = g) w W5) := by
        have h1 := HM.out.row.take (k := i) (by omega)
        have h2 := h1.behind (zs m) (Nat.le_refl (i * 3))
        rw [← hW5, HM.out.fst, List.take_of_length_le (by rw [HN.out]; exact Nat.le_refl _)] at h2
        exact ⟨h2, by rw [hW5]; exact HM.out.stay.setCells g (zs m) (i * 3) rfl⟩
      have ic : ¬ cap = i := by omega
      have ij1 : (i : Int) ≤ (j : Nat) := by omega
      have ij2 : (i : Int) ≤ (cap : Nat) := by omega
      clear hth hW5 HM
      go_wp2_with (simp only [hcl])
      go_ret
      exact ⟨i, rfl, HF.out.1, HF.out.2.mono (fun k _ e => by rw [e]; rfl)⟩

theorem deleteF34_28 (a : Option Addr) (n cap : Nat) (L : List Tm) (p : Tm → Bool) (bx bz : Nat) (w : World) (h : Ws w a n cap L) (hm : n ≤ 2048)
    (hcl : ∀ w', Stay (fun j => a.map Addr.block = some j) w w' → ∀ t : Tm, Calls Try.prog 28 #[.agg #[.int .i64 t.en, .int .i64 t.nr, .int .i64 t.du], .pointer (some ⟨bx, 0, none⟩), .pointer (some ⟨bz, 0, none⟩)] w' (Gives (.bool (p t)) w')) : Calls Try.prog 34 #[.slice a n cap, .func (.func 28) #[] #[.pointer (some ⟨bx, 0, none⟩), .pointer (some ⟨bz, 0, none⟩)]] w (DelF p L a cap w) := by
  by_cases hz : fi p L < L.length
  · rcases h.2.2.2 with ⟨rfl, h0⟩ | ⟨g, rfl, _⟩
    · have h1 := h.1; have h2 := h.2.1; omega
    · exact deleteF34_some_28 g n cap L p bx bz w h hm hz (fun w' hs => hcl w' (hs.mono (fun k _ e => by rw [e]; rfl)))
  · exact deleteF34_none_28 a n cap L p bx bz w h hm hz (fun w' hs => hcl w' (hs.mono (fun _ _ h => h.elim)))

theorem deleteF34_none_26 (a : Option Addr) (n cap : Nat) (L : List Tm) (p : Tm → Bool) (bx : Nat) (w : World) (h : Ws w a n cap L) (hm : n ≤ 2048) (hz : ¬ fi p L < L.length)
    (hcl : ∀ w', Stay (fun _ => False) w w' → ∀ t : Tm, Calls Try.prog 26 #[.agg #[.int .i64 t.en, .int .i64 t.nr, .int .i64 t.du], .pointer (some ⟨bx, 0, none⟩)] w' (Gives (.bool (p t)) w')) : Calls Try.prog 34 #[.slice a n cap, .func (.func 26) #[] #[.pointer (some ⟨bx, 0, none⟩)]] w (DelF p L a cap w) := by
  have HI := hide' (index27_26 a n cap L p bx w h.rd h.1 hm hcl)
  have e : fiI p L = -1 := by unfold fiI; rw [if_neg hz]
  rw [e] at HI
  have HW := hide' h
  have HO := hide' (out_fi hz)
  clear h hcl e hz
  go_enter Try.func34, Try.ntmps34
  go_wp2_with fail
  refine HI.out.mono ?_
  rintro _ w1 ⟨rfl, hs⟩
  have HS := hide' hs
  clear hs HI
  go_wp2
  go_ret
  exact ⟨n, rfl, by rw [HO.out]; exact HW.out.keep HS.out, HS.out.mono (fun _ _ h => h.elim)⟩

set_option maxHeartbeats 2000000 in
theorem deleteF34_some_26 (g n cap : Nat) (L : List Tm) (p : Tm → Bool) (bx : Nat) (w : World) (h : Ws w (some ⟨g, 0, none⟩) n cap L) (hm : n ≤ 2048) (hz : fi p L < L.length)
    (hcl : ∀ w', Stay (fun j => j = g) w w' → ∀ t : Tm, Calls Try.prog 26 #[.agg #[.int .i64 t.en, .int .i64 t.nr, .int .i64 t.du], .pointer (some ⟨bx, 0, none⟩)] w' (Gives (.bool (p t)) w')) : Calls Try.prog 34 #[.slice (some ⟨g, 0, none⟩) n cap, .func (.func 26) #[] #[.pointer (some ⟨bx, 0, none⟩)]] w (DelF p L (some ⟨g, 0, none⟩) cap w) := by
  have HI := hide' (index27_26 (some ⟨g, 0, none⟩) n cap L p bx w h.rd h.1 hm (fun w' hs => hcl w' (hs.mono (fun _ _ h => h.elim))))
  obtain ⟨i0, hi0⟩ : ∃ i, i = fi p L := ⟨_, rfl⟩
  have e : fiI p L = ((i0 : Nat) : Int) := by unfold fiI; rw [if_pos hz, hi0]
  rw [e] at HI
  rw [← hi0] at hz
  have hn := h.1
  have hc := h.2.1
  obtain ⟨t0, ht0⟩ : ∃ t, L[i0]? = some t := ⟨_, List.getElem?_eq_getElem hz⟩
  have HX0 : Hid (Sift p L g n cap w i0 (i0 + 1) w L) := ⟨Stay.refl _ _, h, (out_first hi0 ht0).symm, fun _ _ => rfl⟩
  have HCL := hide' hcl
  have HN := hide' hn
  have in0 : i0 < n := by omega
  have in1 : (i0 : Int) < (n : Nat) := by omega
  have nb : (n : Int) ≤ 2048 := by omega
  have nc : n ≤ cap := hc
  have iw : IntKind.i64.wrap ((i0 : Int) + 1) = ((i0 : Int) + 1) := by rw [IntKind.wrap_i64]; omega
  have i1 : ¬ (i0 : Int) = -1 := by omega
  clear h hcl e hz hm ht0 hi0 hn hc t0
  go_enter Try.func34, Try.ntmps34
  go_wp2_with fail
  refine HI.out.mono ?_
  rintro _ w1 ⟨rfl, hs⟩
  have HX1 : Hid (∃ M, Sift p L g n cap w i0 (i0 + 1) w1 M) := ⟨L, HX0.out.keep hs⟩
  clear hs HI HX0
  go_wp2
  go_loopg [5, 6] (n - (i0 + 1)) (fun gg v5 v6 wr => ∃ i j : Nat, i < j ∧ j ≤ n ∧ gg = n - j ∧ v5 = .int .i64 (i : Int) ∧ v6 = .int .i64 (j : Int) ∧ Hid (∃ M, Sift p L g n cap w i j wr M))
  case atStart => exact ⟨i0, i0 + 1, by omega, by omega, rfl, rfl, by go_num, HX1⟩
  case round =>
    clear HX1 iw i1
    obtain ⟨i, j, hij, hjn, rfl, rfl, rfl, HX⟩ := hrel
    obtain ⟨M, hM⟩ := HX.out
    have HM := hide' hM
    clear HX hM
    by_cases hlt : j < n
    · have jn : (j : Int) < (n : Nat) := by omega
      obtain ⟨t, ht⟩ : ∃ t, L[j]? = some t := ⟨_, List.getElem?_eq_getElem (by rw [HN.out]; exact hlt)⟩
      obtain ⟨g', eg, hb⟩ := HM.out.row.at ((HM.out.lst j (Nat.le_refl _)).trans ht)
      cases eg
      obtain ⟨c0, c1, c2⟩ := hb
      have HT := hide' ht
      obtain ⟨B, hB⟩ : ∃ B, B = wr.heap.size := ⟨_, rfl⟩
      obtain ⟨W, hW⟩ : ∃ W, W = wr.alloc (.cells #[.int .i64 t.en, .int .i64 t.nr, .int .i64 t.du] 35) := ⟨_, rfl⟩
      have hs0 : Stay (fun _ => False) wr W := by rw [hW]; exact (Stay.refl _ _).alloc _
      have HB : Hid (TBox W B t) := by rw [hW]; exact TBox.new t hB.symm
      have HMW := hide' (HM.out.keep hs0)
      have HWB : Hid (B = wr.heap.size ∧ W = wr.alloc (.cells #[.int .i64 t.en, .int .i64 t.nr, .int .i64 t.du] 35)) := ⟨hB, hW⟩
      obtain ⟨x, hx⟩ : ∃ x, x = p t := ⟨_, rfl⟩
      have HC := hide' (HCL.out W HMW.out.stay t)
      rw [← hx] at HC
      have HPX := hide' hx
      clear ht hs0 hB hW hx HM
      go_upto_region 8 with fail
      obtain ⟨hB, hW⟩ := HWB.out
      rw [← hW, ← hB]
      clear hB hW HWB c0 c1 c2
      obtain ⟨b0, b1, b2, _, _, _⟩ := HB.out
      cases x
      · go_wp2_with fail
        refine HC.out.mono ?_
        rintro _ w2 ⟨rfl, hs⟩
        clear b0 b1 b2
        obtain ⟨b0, b1, b2, _, _, _⟩ := HB.out.keep hs
        have HM2 := hide' (HMW.out.keep hs)
        clear hs HMW HC HB
        have hin : i < n := by omega
        have i_n : (i : Int) < (n : Nat) := by omega
        obtain ⟨u, hu⟩ : ∃ u, M[i]? = some u := ⟨_, List.getElem?_eq_getElem (by rw [HM2.out.row.1]; exact hin)⟩
        obtain ⟨g', eg, hb⟩ := HM2.out.row.at hu
        cases eg
        obtain ⟨d0, d1, d2⟩ := hb
        have hfr : ∀ q, q < 3 → w2.frozen? ⟨g, i * 3 + q, none⟩ = false := fun q hq => by
          have := (HM2.out.row.ther.2.1 (i * 3 + q) (by omega)).2
          rwa [Nat.zero_add] at this
        have f0 := hfr 0 (by decide)
        have f1 := hfr 1 (by decide)
        have f2 := hfr 2 (by decide)
        rw [Nat.add_zero] at f0
        have HU := hide' hu
        clear hu hfr
        go_upto_region 10 with fail
        generalize hWr : World.setCell _ _ _ = W5
        have HM5 : Hid (∃ M, Sift p L g n cap w (i + 1) (j + 1) W5 M) := by
          have hp := HM2.out.put HT.out HPX.out.symm hij HU.out
          have e5 : w2.setCells g (i * 3) t.parts = W5 := hWr
          rw [e5] at hp
          exact ⟨_, hp⟩
        clear hWr HM2 d0 d1 d2 f0 f1 f2 b0 b1 b2
        go_wp2
        go_roundg (n - (j + 1))
        case measure => omega
        case rel => exact ⟨i + 1, j + 1, by omega, by omega, rfl, by go_num, by go_num, HM5⟩
      · go_wp2_with fail
        refine HC.out.mono ?_
        rintro _ w2 ⟨rfl, hs⟩
        have HM5 : Hid (∃ M, Sift p L g n cap w i (j + 1) w2 M) := ⟨M, HMW.out.skip hs HT.out HPX.out.symm⟩
        clear hs HMW HC HB b0 b1 b2
        go_wp2
        go_roundg (n - (j + 1))
        case measure => omega
        case rel => exact ⟨i, j + 1, by omega, by omega, rfl, rfl, by go_num, HM5⟩
    · have e : j = n := by omega
      subst e
      obtain ⟨m, hm⟩ : ∃ m, j - i = m := ⟨_, rfl⟩
      have hth : wr.there g (i * 3) (m * 3) := there_part HM.out.row.ther.2.1 (by omega)
      have hcl : ∀ ty, (Builtin.clear_ #[26] ty #[.slice (some ⟨g, i * 3, none⟩) m (cap - i)]).run Try.prog wr = .ok (.tuple #[]) (wr.setCells g (i * 3) (zs m)) := fun ty => run_clear26 wr ty g (i * 3) m (cap - i) (by omega) hth
      obtain ⟨W5, hW5⟩ : ∃ W, W = wr.setCells g (i * 3) (zs m) := ⟨_, rfl⟩
      rw [← hW5] at hcl
      have HF : Hid (Ws W5 (some ⟨g, 0, none⟩) i cap (outL p L) ∧ Stay (fun k => k = g) w W5) := by
        have h1 := HM.out.row.take (k := i) (by omega)
        have h2 := h1.behind (zs m) (Nat.le_refl (i * 3))
        rw [← hW5, HM.out.fst, List.take_of_length_le (by rw [HN.out]; exact Nat.le_refl _)] at h2
        exact ⟨h2, by rw [hW5]; exact HM.out.stay.setCells g (zs m) (i * 3) rfl⟩
      have ic : ¬ cap = i := by omega
      have ij1 : (i : Int) ≤ (j : Nat) := by omega
      have ij2 : (i : Int) ≤ (cap : Nat) := by omega
      clear hth hW5 HM
      go_wp2_with (simp only [hcl])
      go_ret
      exact ⟨i, rfl, HF.out.1, HF.out.2.mono (fun k _ e => by rw [e]; rfl)⟩

theorem deleteF34_26 (a : Option Addr) (n cap : Nat) (L : List Tm) (p : Tm → Bool) (bx : Nat) (w : World) (h : Ws w a n cap L) (hm : n ≤ 2048)
    (hcl : ∀ w', Stay (fun j => a.map Addr.block = some j) w w' → ∀ t : Tm, Calls Try.prog 26 #[.agg #[.int .i64 t.en, .int .i64 t.nr, .int .i64 t.du], .pointer (some ⟨bx, 0, none⟩)] w' (Gives (.bool (p t)) w')) : Calls Try.prog 34 #[.slice a n cap, .func (.func 26) #[] #[.pointer (some ⟨bx, 0, none⟩)]] w (DelF p L a cap w) := by
  by_cases hz : fi p L < L.length
  · rcases h.2.2.2 with ⟨rfl, h0⟩ | ⟨g, rfl, _⟩
    · have h1 := h.1; have h2 := h.2.1; omega
    · exact deleteF34_some_26 g n cap L p bx w h hm hz (fun w' hs => hcl w' (hs.mono (fun k _ e => by rw [e]; rfl)))
  · exact deleteF34_none_26 a n cap L p bx w h hm hz (fun w' hs => hcl w' (hs.mono (fun _ _ h => h.elim)))

end Go.Proofs.Ytihciknbmhadjaa
