/-
  The document's own answer for what weights count together: what the call hands back, in whatever world; of 1 to 64 weights, each a word of 64 bits.
-/
import Derived.Test.YtmkkkddadpcmeaaK1
import Derived.Maps.AppendAt
namespace Go.Proofs.Ytmkkkddadpcmeaa
open Go.RowKit Ieee

/-- The greatest of the first k, from 0 on. -/
def nm (C : Nat → Nat) : Nat → Nat
  | 0 => 0
  | k + 1 => max (nm C k) (C k)
/-- Is one of the first k infinite? -/
def sm (C : Nat → Nat) : Nat → Bool
  | 0 => false
  | k + 1 => sm C k || isI (C k)

theorem nm_pos (C : Nat → Nat) (hC : ∀ j, Pos (C j)) : ∀ k, Pos (nm C k)
  | 0 => pos_zero
  | k + 1 => by
    show Pos (max (nm C k) (C k))
    rw [Nat.max_def]
    split
    · exact hC k
    · exact nm_pos C hC k

theorem nm_lt (C : Nat → Nat) (wC : ∀ j, C j < 18446744073709551616) : ∀ k, nm C k < 18446744073709551616
  | 0 => by show 0 < _; decide
  | k + 1 => by have := wC k; have := nm_lt C wC k; show max (nm C k) (C k) < _; omega

theorem pos_gt {x y : Nat} (hx : Pos x) (hy : Pos y) (wx : x < 18446744073709551616) (wy : y < 18446744073709551616) : (fo x y == some .gt) = decide (y < x) := by
  have e1 := hx.word wx
  have e2 := hy.word wy
  rw [fo_key hx.num hy.num, hx.kx, hy.kx, ← e1, ← e2]
  rcases Int.lt_trichotomy (x : Int) (y : Int) with h | h | h
  · rw [cmp_lt h, decide_eq_false (by omega)]; rfl
  · rw [cmp_eq h, decide_eq_false (by omega)]; rfl
  · rw [cmp_gt h, decide_eq_true (by omega)]; rfl

theorem max_nm (C : Nat → Nat) (hC : ∀ j, Pos (C j)) (wC : ∀ j, C j < 18446744073709551616) (k : Nat) : maxTo C k = nm C (k + 1) := by
  induction k with
  | zero => show C 0 = max 0 (C 0); omega
  | succ k ih =>
    have hm := max_word C hC wC k
    have hw : maxTo C k < 18446744073709551616 := by rw [ih]; exact nm_lt C wC _
    have h1 := mx_word (max_pos C hC k) (hC (k + 1)) hw (wC (k + 1))
    have h2 := mx_or (maxTo C k) (C (k + 1)) (max_pos C hC k).num (hC (k + 1)).num
    show mx (maxTo C k) (C (k + 1)) = max (nm C (k + 1)) (C (k + 1))
    rw [← ih]
    omega

theorem sm_nm (C : Nat → Nat) (hC : ∀ j, Pos (C j)) (wC : ∀ j, C j < 18446744073709551616) (k : Nat) : sm C k = isI (nm C k) := by
  induction k with
  | zero => show false = isI 0; decide +kernel
  | succ k ih =>
    have p1 := nm_pos C hC k
    have p2 := hC k
    have e1 := p1.word (nm_lt C wC k)
    have e2 := p2.word (wC k)
    show (sm C k || isI (C k)) = isI (max (nm C k) (C k))
    rw [ih, isI_iff p1, isI_iff p2, isI_iff (by rw [Nat.max_def]; split; exact p2; exact p1), ← e1, ← e2]
    have n1 := p1.num
    have n2 := p2.num
    have e3 : rung (max (nm C k) (C k)) = max (nm C k) (C k) := by rw [Nat.max_def]; split <;> omega
    rw [e3]
    rw [Bool.eq_iff_iff]
    simp
    omega

/-- The floats of a row as a list. -/
def flist (T : Nat → Nat) (k : Nat) : List Value := (List.range k).map fun j => .float .f64 (T j)
theorem flist_succ (T : Nat → Nat) (k : Nat) : flist T (k + 1) = flist T k ++ [.float .f64 (T k)] := by
  unfold flist
  rw [List.range_succ, List.map_append]
  rfl
theorem flist_get (T : Nat → Nat) (k j : Nat) (h : j < k) : (flist T k)[j]? = some (.float .f64 (T j)) := by
  unfold flist
  simp [h]

/-- In the midst of a list that is appended to. -/
structure Grow (w wr : World) (v : Value) (k : Nat) (e : TypeId) (l : List Value) : Prop where
  own : wr.ownsRow w.heap.size e 1 v k l
  below : Below w.heap.size w wr

theorem Grow.start (w : World) (q : Nat) (e : TypeId) : Grow w (w.drewN q) (.slice none 0 0) 0 e [] := ⟨World.ownsRow_nil _ _ _ _, ⟨rfl, rfl, rfl, Nat.le_refl _, fun _ _ => rfl⟩⟩

theorem Grow.drewN {w wr : World} {v : Value} {k : Nat} {e : TypeId} {l : List Value} (h : Grow w wr v k e l) (q : Nat) : Grow w (wr.drewN q) v k e l :=
  ⟨h.own, ⟨h.below.os, h.below.tape, h.below.output, h.below.size, h.below.block⟩⟩

theorem Grow.alloc {w wr : World} {v : Value} {k : Nat} {e : TypeId} {l : List Value} (h : Grow w wr v k e l) (o : Obj) : Grow w (wr.alloc o) v k e l :=
  ⟨h.own.alloc o, h.below.alloc h.below.size o⟩

theorem Grow.grown {w wr w' : World} {v v' : Value} {k k' : Nat} {e : TypeId} {l l' : List Value} (h : Grow w wr v k e l) (ho : w'.ownsRow w.heap.size e 1 v' k' l') (hg : wr.grownBy w' v.ownBlock) : Grow w w' v' k' e l' :=
  ⟨ho, h.below.grown hg h.below.size fun k hk => (h.own.lt k hk).1⟩

theorem Grow.done {w wr : World} {v : Value} {k : Nat} {T : Nat → Nat} (h : Grow w wr v k 22 (flist T k)) (h0 : 0 < k) : ∃ B cap', w.heap.size ≤ B ∧ v = .slice (some ⟨B, 0, none⟩) k cap' ∧ ∀ j, j < k → wr.cell? ⟨B, j, none⟩ = some (.float .f64 (T j)) := by
  rcases h.own.2 with ⟨_, e⟩ | ⟨g, cap, cur, hv, hg, _⟩
  · omega
  · refine ⟨g, cap, hg, hv, fun j hj => ?_⟩
    have := h.own.cells (g := g) (by rw [hv]; rfl) j _ (flist_get T k j hj)
    rw [Addr.add_lit, Nat.zero_add] at this
    exact this

set_option maxHeartbeats 2000000 in
set_option maxRecDepth 100000 in
theorem rtogether_any (f : Nat → Nat) (b off n cap : Nat) (w : World) (hn : n ≤ 64) (h0 : 0 < n) (hf : ∀ j, f j < 18446744073709551616)
    (hc : ∀ j, j < n → w.cell? ⟨b, off + j, none⟩ = some (.float .f64 (f j))) :
    Calls Try.prog 15 #[.slice (some ⟨b, off, none⟩) n cap] w fun e w' =>
      ∃ B cap', w.heap.size ≤ B ∧ e = .returned (.slice (some ⟨B, 0, none⟩) n cap') ∧ (∀ j, j < n → w'.cell? ⟨B, j, none⟩ = some (.float .f64 (tog f n j))) ∧ Below w.heap.size w w' := by
  have HC := hide' hc
  have HF := hide' hf
  have h64 : (n : Int) ≤ 64 := by omega
  have h1 : ¬ (n : Int) < 1 := by omega
  have hz2 : ¬ (64 : Int) < n := by omega
  have hP : Hid (∀ j, Pos (cnt (f j))) := fun j => cnt_pos (f j)
  have hL : Hid (∀ j, cnt (f j) < 18446744073709551616) := fun j => cnt_lt _ (hf j)
  obtain ⟨C, hC⟩ : ∃ C : Nat → Nat, C = fun j => cnt (f j) := ⟨_, rfl⟩
  have CC := hide' hC
  obtain ⟨T, hTT⟩ : ∃ T, T = tog f n := ⟨_, rfl⟩
  rw [← hTT]
  have HTT := hide' hTT
  clear hc hf hC hTT
  go_enter Try.func15, Try.ntmps15
  go_wp2_with fail
  go_loopg [4, 5, 6] n (fun g vs vm vi wr => ∃ (k q : Nat), k ≤ n ∧ g = n - k ∧ vi = .int .i64 (k : Int) ∧ vs = .bool (sm C k) ∧ vm = .float .f64 (nm C k) ∧ wr = w.drewN q)
  case atStart => exact ⟨0, 0, Nat.zero_le _, rfl, rfl, rfl, rfl, rfl⟩
  case round =>
    obtain ⟨k, q, hk, rfl, rfl, rfl, rfl, rfl⟩ := hrel
    by_cases hlt : k < n
    · have hcell : w.cell? ⟨b, off + k, none⟩ = some (.float .f64 (f k)) := HC.out k hlt
      have eC : C k = cnt (f k) := by rw [CC.out]
      have eS : sm C (k + 1) = (sm C k || isI (cnt (f k))) := by rw [← eC]; rfl
      have hgt := pos_gt (x := cnt (f k)) (y := nm C k) (hP.out k) (nm_pos C (fun j => by rw [CC.out]; exact hP.out j) k) (hL.out k) (nm_lt C (fun j => by rw [CC.out]; exact hL.out j) k)
      have hri := fun W => rinf_any (f k) (HF.out k) W
      have HRI := hide' hri
      have hkz : (k : Int) < (n : Int) := by omega
      have HK := hide' hlt
      have ES := hide' eS
      have EC := hide' eC
      clear eS eC hri hlt
      obtain ⟨sk, hsk⟩ : ∃ sk, sm C k = sk := ⟨_, rfl⟩
      rw [hsk] at ES ⊢
      have EK := hide' hsk
      clear hsk
      have hM : Hid (nm C (k + 1) = if nm C k < cnt (f k) then cnt (f k) else nm C k) := by
        show max (nm C k) (C k) = _
        rw [EC.out]
        split <;> omega
      by_cases hmx : nm C k < cnt (f k)
      · rw [decide_eq_true hmx] at hgt
        have hM2 : Hid (nm C (k + 1) = cnt (f k)) := by have := hM.out; rw [if_pos hmx] at this; exact this
        clear hM hmx
        cases sk
        · go_wp2_with (first | (go_at_call 33; refine (HRI.out _).mono ?_; rintro e w' ⟨rfl, q', rfl⟩) | (go_at_call 12; refine (rcount_any _ _).mono ?_; rintro e w' ⟨rfl, rfl⟩))
          go_roundg (n - (k + 1))
          case measure => have := HK.out; omega
          case rel => exact ⟨k + 1, _, HK.out, rfl, by go_num, by rw [ES.out]; rfl, by rw [hM2.out], by first | rfl | exact (World.drewN_drewN ..).symm | exact World.drewN_drewN ..⟩
        · go_wp2_with (first | (go_at_call 12; refine (rcount_any _ _).mono ?_; rintro e w' ⟨rfl, rfl⟩))
          go_roundg (n - (k + 1))
          case measure => have := HK.out; omega
          case rel => exact ⟨k + 1, _, HK.out, rfl, by go_num, by rw [ES.out]; rfl, by rw [hM2.out], by first | rfl | exact (World.drewN_drewN ..).symm | exact World.drewN_drewN ..⟩
      · rw [decide_eq_false hmx] at hgt
        have hM2 : Hid (nm C (k + 1) = nm C k) := by have := hM.out; rw [if_neg hmx] at this; exact this
        clear hM hmx
        cases sk
        · go_wp2_with (first | (go_at_call 33; refine (HRI.out _).mono ?_; rintro e w' ⟨rfl, q', rfl⟩) | (go_at_call 12; refine (rcount_any _ _).mono ?_; rintro e w' ⟨rfl, rfl⟩))
          go_roundg (n - (k + 1))
          case measure => have := HK.out; omega
          case rel => exact ⟨k + 1, _, HK.out, rfl, by go_num, by rw [ES.out]; rfl, by rw [hM2.out], by first | rfl | exact (World.drewN_drewN ..).symm | exact World.drewN_drewN ..⟩
        · go_wp2_with (first | (go_at_call 12; refine (rcount_any _ _).mono ?_; rintro e w' ⟨rfl, rfl⟩))
          go_roundg (n - (k + 1))
          case measure => have := HK.out; omega
          case rel => exact ⟨k + 1, _, HK.out, rfl, by go_num, by rw [ES.out]; rfl, by rw [hM2.out], by first | rfl | exact (World.drewN_drewN ..).symm | exact World.drewN_drewN ..⟩
    · have e : k = n := by omega
      subst e
      have hG : nm C k = maxTo C (k - 1) := by
        rw [max_nm C (fun j => by rw [CC.out]; exact hP.out j) (fun j => by rw [CC.out]; exact hL.out j) (k - 1), show k - 1 + 1 = k by omega]
      have hS : sm C k = isI (nm C k) := sm_nm C (fun j => by rw [CC.out]; exact hP.out j) (fun j => by rw [CC.out]; exact hL.out j) k
      have hGp : Pos (nm C k) := nm_pos C (fun j => by rw [CC.out]; exact hP.out j) k
      have hGl : nm C k < 18446744073709551616 := nm_lt C (fun j => by rw [CC.out]; exact hL.out j) k
      obtain ⟨G, hGG⟩ : ∃ G, nm C k = G := ⟨_, rfl⟩
      rw [hS]
      rw [hGG] at hG hGp hGl ⊢
      have HG := hide' hG
      have HGP := hide' hGp
      have HGL := hide' hGl
      obtain ⟨gI, hgI⟩ : ∃ x, isI G = x := ⟨_, rfl⟩
      rw [hgI]
      have HGI := hide' hgI
      clear hG hS hGp hGl hGG hgI
      have hT : Hid (∀ j, T j = togG G (cnt (f j))) := fun j => by
        rw [HTT.out]
        show togG (maxTo (fun i => cnt (f i)) (k - 1)) (cnt (f j)) = _
        rw [HG.out, CC.out]
      obtain ⟨i0, hi0, hz0, hz1, hz2'⟩ := info_parts info22
      go_wp2_with fail
      go_loopg [3, 7] k (fun g u3 vi wr => ∃ (i : Nat) (v3 : Value), v3 = u3 ∧ i ≤ k ∧ g = k - i ∧ vi = .int .i64 (i : Int) ∧ Hid (Grow w wr v3 i 22 (flist T i)))
      case atStart => exact ⟨0, _, rfl, Nat.zero_le _, rfl, rfl, Grow.start w q 22⟩
      case round =>
        obtain ⟨i, v3, rfl, hi, rfl, rfl, HGR⟩ := hrel
        by_cases hlt : i < k
        · have hcell : wr.cell? ⟨b, off + i, none⟩ = some (.float .f64 (f i)) := by
            rw [HGR.out.below.cell (p := ⟨b, off + i, none⟩) (World.block_lt_of_cell? _ _ (HC.out i hlt))]; exact HC.out i hlt
          have hiz : (i : Int) < (k : Int) := by omega
          have HRI := hide' fun W => rinf_any (f i) (HF.out i) W
          have HPi := hide' (hP.out i)
          cases gI
          rotate_left
          · by_cases hci : isI (cnt (f i)) = true
            · have HOWN : Hid (∀ q' : Nat, World.ownsRow ((wr.drewN q').alloc (.cells #[.float .f64 one] 22)) w.heap.size 22 1 v3 i (flist T i)) := fun q' => ((HGR.out.drewN q').alloc _).own
              have HT : Hid (T i = one) := by show T i = one; rw [hT.out i]; unfold togG; simp [HGI.out, hci]
              go_wp2_with (first | (go_at_call 33; refine (HRI.out _).mono ?_; rintro e w' ⟨rfl, q', rfl⟩; simp only [hci]) | (at_builtin; refine wpList_append_own _ rfl _ _ 27 rfl w.heap.size 22 i0 (.float .f64 0) 1 8 Try.underlying27 hi0 hz0 hz1 hz2' rfl (by decide) _ _ _ rfl (HOWN.out _) ⟨wr.heap.size, 0, none⟩ 1 1 [.float .f64 one] rfl rfl (cell_one_new _ _ _) (fun x hx => by simp at hx; subst hx; rfl) (by unfold maxLen; omega) (by omega) (by have := HGR.out.below.size; simp; omega) ?_; intro v' w3 hown' hgrow3 hnil3))
              have HG3 : Hid (Grow w w3 v' (i + 1) 22 (flist T (i + 1))) := by
                rw [flist_succ, HT.out]
                exact ((HGR.out.drewN _).alloc _).grown hown' hgrow3
              clear hown' hgrow3 hnil3 HOWN HGR
              go_wp2
              go_roundg (k - (i + 1))
              case measure => omega
              case rel => exact ⟨i + 1, _, rfl, by omega, rfl, by go_num, HG3⟩
            · have hci : isI (cnt (f i)) = false := by simpa using hci
              have HOWN : Hid (∀ q' : Nat, World.ownsRow ((wr.drewN q').alloc (.cells #[.float .f64 0] 22)) w.heap.size 22 1 v3 i (flist T i)) := fun q' => ((HGR.out.drewN q').alloc _).own
              have HT : Hid (T i = 0) := by show T i = 0; rw [hT.out i]; unfold togG; simp [HGI.out, hci]
              go_wp2_with (first | (go_at_call 33; refine (HRI.out _).mono ?_; rintro e w' ⟨rfl, q', rfl⟩; simp only [hci]) | (at_builtin; refine wpList_append_own _ rfl _ _ 27 rfl w.heap.size 22 i0 (.float .f64 0) 1 8 Try.underlying27 hi0 hz0 hz1 hz2' rfl (by decide) _ _ _ rfl (HOWN.out _) ⟨wr.heap.size, 0, none⟩ 1 1 [.float .f64 0] rfl rfl (cell_one_new _ _ _) (fun x hx => by simp at hx; subst hx; rfl) (by unfold maxLen; omega) (by omega) (by have := HGR.out.below.size; simp; omega) ?_; intro v' w3 hown' hgrow3 hnil3))
              have HG3 : Hid (Grow w w3 v' (i + 1) 22 (flist T (i + 1))) := by
                rw [flist_succ, HT.out]
                exact ((HGR.out.drewN _).alloc _).grown hown' hgrow3
              clear hown' hgrow3 hnil3 HOWN HGR
              go_wp2
              go_roundg (k - (i + 1))
              case measure => omega
              case rel => exact ⟨i + 1, _, rfl, by omega, rfl, by go_num, HG3⟩
          · have hz := isZ_iff HGP.out
            have hp0 := pos_gt HGP.out pos_zero HGL.out (by decide)
            by_cases hg0 : G = 0
            · rw [decide_eq_true (by rw [hg0]; decide)] at hz
              rw [decide_eq_false (by omega)] at hp0
              clear hg0
              have HOWN : Hid (∀ q' : Nat, World.ownsRow ((wr.drewN q').alloc (.cells #[.float .f64 one] 22)) w.heap.size 22 1 v3 i (flist T i)) := fun q' => ((HGR.out.drewN q').alloc _).own
              have HT : Hid (T i = one) := by show T i = one; rw [hT.out i]; unfold togG; simp [HGI.out, hz]
              go_wp2_with (first | (at_builtin; refine wpList_append_own _ rfl _ _ 27 rfl w.heap.size 22 i0 (.float .f64 0) 1 8 Try.underlying27 hi0 hz0 hz1 hz2' rfl (by decide) _ _ _ rfl (HOWN.out 0) ⟨wr.heap.size, 0, none⟩ 1 1 [.float .f64 one] rfl rfl (cell_one_new _ _ _) (fun x hx => by simp at hx; subst hx; rfl) (by unfold maxLen; omega) (by omega) (by have := HGR.out.below.size; simp; omega) ?_; intro v' w3 hown' hgrow3 hnil3))
              have HG3 : Hid (Grow w w3 v' (i + 1) 22 (flist T (i + 1))) := by
                rw [flist_succ, HT.out]
                exact ((HGR.out.drewN 0).alloc _).grown hown' hgrow3
              clear hown' hgrow3 hnil3 HOWN HGR
              go_wp2
              go_roundg (k - (i + 1))
              case measure => omega
              case rel => exact ⟨i + 1, _, rfl, by omega, rfl, by go_num, HG3⟩
            · have hw := HGP.out.word HGL.out
              rw [decide_eq_false (by omega)] at hz
              rw [decide_eq_true (by omega)] at hp0
              have hgi := isI_iff HGP.out
              rw [HGI.out] at hgi
              have hfin : rung G < infR := by have := HGP.out.num; have := of_decide_eq_false hgi.symm; omega
              obtain ⟨r, hr⟩ := quo_some (HPi.out).num hfin (by omega)
              have hquo : ∀ W : World, (binOp .quo 22 (.float .f64 (cnt (f i))) (.float .f64 G)).run Try.prog W = .ok (.float .f64 r) W := fun W => run_float_arith W .quo 22 .f64 _ _ r hr
              have HR := hide' hr
              clear hg0 hw hgi hfin hr
              have HOWN : Hid (∀ q' : Nat, World.ownsRow ((wr.drewN q').alloc (.cells #[.float .f64 r] 22)) w.heap.size 22 1 v3 i (flist T i)) := fun q' => ((HGR.out.drewN q').alloc _).own
              have HT : Hid (T i = r) := by show T i = r; rw [hT.out i]; unfold togG; simp [HGI.out, hz, HR.out]
              go_wp2_with (first | (go_at_call 12; refine (rcount_any _ _).mono ?_; rintro e w' ⟨rfl, rfl⟩) | (at_builtin; refine wpList_append_own _ rfl _ _ 27 rfl w.heap.size 22 i0 (.float .f64 0) 1 8 Try.underlying27 hi0 hz0 hz1 hz2' rfl (by decide) _ _ _ rfl (HOWN.out 0) ⟨wr.heap.size, 0, none⟩ 1 1 [.float .f64 r] rfl rfl (cell_one_new _ _ _) (fun x hx => by simp at hx; subst hx; rfl) (by unfold maxLen; omega) (by omega) (by have := HGR.out.below.size; simp; omega) ?_; intro v' w3 hown' hgrow3 hnil3))
              have HG3 : Hid (Grow w w3 v' (i + 1) 22 (flist T (i + 1))) := by
                rw [flist_succ, HT.out]
                exact ((HGR.out.drewN 0).alloc _).grown hown' hgrow3
              clear hown' hgrow3 hnil3 HOWN HGR
              go_wp2
              go_roundg (k - (i + 1))
              case measure => omega
              case rel => exact ⟨i + 1, _, rfl, by omega, rfl, by go_num, HG3⟩
        · have e : i = k := by omega
          subst e
          have HD := hide' (HGR.out.done h0)
          go_wp2
          go_ret
          obtain ⟨B, cap', d1, d2, d3⟩ := HD.out
          exact ⟨B, cap', d1, by rw [d2]; rfl, d3, HGR.out.below⟩

end Go.Proofs.Ytmkkkddadpcmeaa
