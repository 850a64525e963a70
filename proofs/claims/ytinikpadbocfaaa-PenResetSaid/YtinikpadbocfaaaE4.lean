/-
  PenReset walked: true of any pen and any parameters. No conditions.
-/
import Derived.Test.YtinikpadbocfaaaE3
namespace Go.Proofs.Ytinikpadbocfaaa
open Go.RowKit

/-- A block that an own row does not lie in. -/
def Apart (W : World) (v : Value) (k : Nat) : Prop := k < W.heap.size ∧ v.ownBlock ≠ some k

theorem Apart.alloc {W : World} {v : Value} {k : Nat} (h : Apart W v k) (o : Obj) : Apart (W.alloc o) v k := ⟨by have := h.1; simp; omega, h.2⟩

theorem Apart.fresh {W : World} {v : Value} {k : Nat} (h : Apart W v k) (o : Obj) : Apart (W.alloc o) (.slice (some ⟨W.heap.size, 0, none⟩) 0 0) k := ⟨by have := h.1; simp; omega, fun e => by have h1 := h.1; simp [Value.ownBlock] at e; omega⟩

theorem Apart.none (W : World) (o : Obj) : Apart (W.alloc o) (.slice Option.none 0 0) W.heap.size := ⟨by simp, fun e => by cases e⟩

theorem Apart.new {W : World} {v : Value} {base e s n : Nat} {xs : List Value} {o : Obj} (h : W.ownsRow base e s v n xs) : Apart (W.alloc o) v W.heap.size := ⟨by simp, fun hk => by have := (h.lt _ hk).2; omega⟩

theorem Apart.step {W W1 : World} {v v1 : Value} {k : Nat} {T : Nat → Prop} (h : Apart W v k) (hs : Stay T W W1) (hb : v1.ownBlock = v.ownBlock ∨ v1.ownBlock = some W.heap.size) : Apart W1 v1 k := by
  refine ⟨Nat.lt_of_lt_of_le h.1 hs.size, fun e => ?_⟩
  rcases hb with hb | hb
  · exact h.2 (hb ▸ e)
  · rw [e] at hb
    have := h.1
    cases hb
    omega

theorem TwoB.own {w W W1 : World} {b c B n : Nat} {p q : Pn} {v : Value} {xs : List Value} (h : TwoB w b p c q W) (hs : Stay (fun j => v.ownBlock = some j) W W1) (ho : W.ownsRow B 3 1 v n xs) (hB : b < B ∧ c < B ∧ w.heap.size ≤ B) : TwoB w b p c q W1 :=
  TwoB.grow h (hs.mono fun k _ hk => (ho.lt k hk).1) hB.1 hB.2.1 hB.2.2

theorem TwoB.putOther {w W : World} {b c A : Nat} {p q : Pn} {v0 v1 v2 : Value} (h : TwoB w b p c q W) (hA : w.heap.size ≤ A ∧ b < A ∧ c < A) : TwoB w b p c q (((W.setCell ⟨A, 0, none⟩ v0).setCell ⟨A, 1, none⟩ v1).setCell ⟨A, 2, none⟩ v2) :=
  ⟨h.1.put hA.1 _ _ _, ((h.2.1.other (by omega)).other (by omega)).other (by omega), ((h.2.2.other (by omega)).other (by omega)).other (by omega)⟩

theorem isRowS_of {w : World} {v : Value} {news : List Value} (h : IsRow w v news) : IsRowS w 1 v news.length news := by
  rcases h with ⟨rfl, rfl⟩ | ⟨ad, m, c, rfl, rfl, hc⟩
  · exact .inl ⟨rfl, rfl, rfl⟩
  · exact .inr ⟨ad, c, rfl, by omega, hc⟩

theorem reset_long (p : Pn) (ad : Option Addr) (n k : Nat) (w : World) (_b1 : (n : Int) ≤ 9223372036854775807) (h : (30 : Int) < n) : Calls Try.prog 6 #[.agg #[.int .i64 p.fg, .int .i64 p.bg, .int .i64 p.fl], .slice ad n k] w (LawTrue w) := by
  have HST : Hid (OneB w w.heap.size p (w.alloc (.cells #[.int .i64 p.fg, .int .i64 p.bg, .int .i64 p.fl] 23))) := ⟨(Stay.refl _ _).alloc _, Box.new p rfl⟩
  go_enter Try.func6, Try.ntmps6
  go_upto_region 1 with fail
  obtain ⟨W, hW⟩ : ∃ W, W = (w.alloc (.cells #[.int .i64 p.fg, .int .i64 p.bg, .int .i64 p.fl] 23)) := ⟨_, rfl⟩
  rw [← hW] at HST
  rw [← hW]
  clear hW
  obtain ⟨c0, c1, c2, f0, f1, f2⟩ := HST.out.2
  go_wp2_with fail
  refine (awake7 _).mono ?_
  rintro e w9 ⟨rfl, hs⟩
  have HS9 := hide' (HST.out.keep hs)
  clear hs
  go_wp2
  go_ret
  exact ⟨by simp, HS9.out.1⟩

theorem reset_wrong (p : Pn) (ad : Option Addr) (n k : Nat) (w : World) (h : (n : Int) ≤ 30) (hr : rightB p = false) : Calls Try.prog 6 #[.agg #[.int .i64 p.fg, .int .i64 p.bg, .int .i64 p.fl], .slice ad n k] w (LawTrue w) := by
  have HST : Hid (OneB w w.heap.size p (w.alloc (.cells #[.int .i64 p.fg, .int .i64 p.bg, .int .i64 p.fl] 23))) := ⟨(Stay.refl _ _).alloc _, Box.new p rfl⟩
  have HR := hide' (right9 p)
  rw [hr] at HR
  clear hr
  go_enter Try.func6, Try.ntmps6
  go_upto_region 1 with fail
  obtain ⟨W, hW⟩ : ∃ W, W = (w.alloc (.cells #[.int .i64 p.fg, .int .i64 p.bg, .int .i64 p.fl] 23)) := ⟨_, rfl⟩
  rw [← hW] at HST
  rw [← hW]
  clear hW
  obtain ⟨c0, c1, c2, f0, f1, f2⟩ := HST.out.2
  go_wp2_with fail
  refine (HR.out _).mono ?_
  rintro e w8 ⟨rfl, hs⟩
  have HST2 := hide' (HST.out.keep hs)
  clear hs HST
  go_wp2_with fail
  refine (awake7 _).mono ?_
  rintro e w9 ⟨rfl, hs⟩
  have HS9 := hide' (HST2.out.keep hs)
  clear hs
  go_wp2
  go_ret
  exact ⟨by simp, HS9.out.1⟩

set_option maxRecDepth 100000 in
set_option maxHeartbeats 8000000 in
theorem reset_go (p : Pn) (ad : Option Addr) (n k : Nat) (l : List Int) (w : World) (hA : IArg .i64 w (.slice ad n k) l ad k) (hn : l.length = n) (h3 : n ≤ 30) (hr : rightB p = true) : Calls Try.prog 6 #[.agg #[.int .i64 p.fg, .int .i64 p.bg, .int .i64 p.fl], .slice ad n k] w (LawTrue w) := by
  have HA := hide' hA
  have HN : Hid (l.length ≤ 30) := show l.length ≤ 30 by omega
  have HLN := hide' hn
  have HST : Hid (OneB w w.heap.size p (w.alloc (.cells #[.int .i64 p.fg, .int .i64 p.bg, .int .i64 p.fl] 23))) := ⟨(Stay.refl _ _).alloc _, Box.new p rfl⟩
  have HR := hide' (right9 p)
  rw [hr] at HR
  have HWF1 : Hid (∀ x ∈ l ++ [0, 4], (Lit.int .i64 x).wf = true) := fun x hx => by
    rcases List.mem_append.1 hx with hx | hx
    · exact hA.wf x hx
    · exact w64_wf (by unfold W64; simp at hx; omega)
  have HWF2 : Hid (∀ x ∈ l ++ [22, 23, 24, 25, 27, 28, 29], (Lit.int .i64 x).wf = true) := fun x hx => by
    rcases List.mem_append.1 hx with hx | hx
    · exact hA.wf x hx
    · exact w64_wf (by unfold W64; simp at hx; omega)
  have HP1 : Hid (plainB l = true → applyL p (l ++ [0, 4]) = ⟨0, 0, 8⟩) := fun h => by
    unfold applyL
    rw [if_neg (by simp), runL_append l _ p h]
    exact reset_makes _
  have HP2 : Hid (plainB l = true → (applyL p (l ++ [22, 23, 24, 25, 27, 28, 29])).fl = 0) := fun h => by
    unfold applyL
    rw [if_neg (by simp), runL_append l _ p h]
    exact gone_makes _ (runL_right p l hr)
  have HI : Hid (∀ j, j < l.length → ∃ b o, ad = some ⟨b, o, none⟩ ∧ ∀ W, Stay (fun _ => False) w W → W.cell? ⟨b, o + j, none⟩ = some (.int .i64 (l.getD j 0))) := fun j hj => by
    obtain ⟨b, o, hb, hlt, hI⟩ := hA.cells (fun h => by rw [h] at hj; simp at hj)
    exact ⟨b, o, hb, fun W hs => (hI.keep hlt hs) j hj⟩
  have z1 : (n : Int) ≤ 30 := by omega
  clear hA hn hr
  go_enter Try.func6, Try.ntmps6
  go_upto_region 1 with fail
  obtain ⟨W, hW⟩ : ∃ W, W = (w.alloc (.cells #[.int .i64 p.fg, .int .i64 p.bg, .int .i64 p.fl] 23)) := ⟨_, rfl⟩
  rw [← hW] at HST
  rw [← hW]
  clear hW
  obtain ⟨c0, c1, c2, f0, f1, f2⟩ := HST.out.2
  go_wp2_with fail
  refine (HR.out _).mono ?_
  rintro e w4 ⟨rfl, hs⟩
  have HS4 := hide' (HST.out.keep hs)
  clear HST hs c0 c1 c2 f0 f1 f2
  go_wp2_with fail
  go_loopg [5] n (fun g i wr => ∃ j : Nat, j ≤ n ∧ g = n - j ∧ i = .int .i64 (j : Int) ∧ wr = w4 ∧ Hid (∀ i, i < j → l.getD i 0 ≠ 38 ∧ l.getD i 0 ≠ 48))
  case atStart => exact ⟨0, Nat.zero_le _, rfl, rfl, rfl, fun i hi => absurd hi (by omega)⟩
  case round =>
    obtain ⟨j, hj, rfl, rfl, rfl, HJ⟩ := hrel
    by_cases hlt : j < n
    · obtain ⟨b1, o1, rfl, hcx⟩ := HI.out j (by have := HLN.out; omega)
      have cx := hcx _ HS4.out.1
      clear hcx
      obtain ⟨y, hy⟩ : ∃ y, y = l.getD j 0 := ⟨_, rfl⟩
      rw [← hy] at cx
      have HY := hide' hy
      clear hy
      have jz : (j : Int) < n := by omega
      have j0 : (0 : Int) ≤ j := by omega
      by_cases hy : y = 38 ∨ y = 48
      · rcases hy with rfl | rfl
        all_goals
          go_wp2_with fail
          refine (awake7 _).mono ?_
          rintro e w9 ⟨rfl, hs⟩
          have HS9 := hide' (HS4.out.keep hs)
          clear hs
          go_wp2
          go_ret
          exact ⟨by simp, HS9.out.1⟩
      · have d1 : (y == 38) = false := by simp; omega
        have d2 : (y == 48) = false := by simp; omega
        have HNY : Hid (y ≠ 38 ∧ y ≠ 48) := ⟨fun h => hy (.inl h), fun h => hy (.inr h)⟩
        clear hy
        go_wp2
        go_roundg (n - (j + 1))
        case measure => omega
        case rel =>
          refine ⟨j + 1, by omega, rfl, by go_num, rfl, fun i hi => ?_⟩
          by_cases hij : i = j
          · rw [hij, ← HY.out]; exact HNY.out
          · exact HJ.out i (by omega)
    · have hjn : j = n := by omega
      have HPL : Hid (plainB l = true) := plainB_of (fun i hi => HJ.out i (by have := HLN.out; omega))
      have HE1 := hide' (HP1.out HPL.out)
      have HE2 := hide' (HP2.out HPL.out)
      obtain ⟨xf, xb, hx2⟩ : ∃ f b, applyL p (l ++ [22, 23, 24, 25, 27, 28, 29]) = ⟨f, b, 0⟩ := ⟨_, _, by rw [← HE2.out]⟩
      have HAP1 : Hid (∀ W t, Row W t (l ++ [0, 4]) → Calls Try.prog 11 #[.agg #[.int .i64 p.fg, .int .i64 p.bg, .int .i64 p.fl], t] W (Gives (.agg #[.int .i64 0, .int .i64 0, .int .i64 8]) W)) := fun W t ht => by
        obtain ⟨ad, cap, h⟩ := ht
        have := apply11 p t _ ad cap W h (by have := HN.out; simp; omega)
        rwa [HE1.out] at this
      have HAP2 : Hid (∀ W t, Row W t (l ++ [22, 23, 24, 25, 27, 28, 29]) → Calls Try.prog 11 #[.agg #[.int .i64 p.fg, .int .i64 p.bg, .int .i64 p.fl], t] W (Gives (.agg #[.int .i64 xf, .int .i64 xb, .int .i64 0]) W)) := fun W t ht => by
        obtain ⟨ad, cap, h⟩ := ht
        have := apply11 p t _ ad cap W h (by have := HN.out; simp; omega)
        rwa [hx2] at this
      have HS0 : Hid (TwoB w w.heap.size p w.heap.size p wr) := ⟨HS4.out.1, HS4.out.2, HS4.out.2⟩
      clear hx2 HPL HJ HE1 HE2 HS4
      subst hjn
      go_upto_region 8 with fail
      go_cut [6] from 36 to 42 (fun s6 wx => ∃ A, s6 = .pointer (some ⟨A, 0, none⟩) ∧ Hid (TwoB w w.heap.size p A ⟨0, 0, 8⟩ wx))
      case first =>
        refine any_begin (TwoB w w.heap.size p w.heap.size p) (by kernel_rfl) (fun K0 hK0 => ?_)
        have hS := HS0.out.keep ((Stay.refl _ _).drew)
        obtain ⟨W, hW⟩ : ∃ W, W = World.drew wr := ⟨_, rfl⟩
        rw [← hW] at hS
        rw [← hW]
        clear hW
        refine any_take (i := 0) hK0 (some 36) (.load 23 (.tmp 2)) 23 _ (by kernel_rfl) (fun _ d _ _ _ h => by cases d <;> exact h) (by kernel_rfl) (by kernel_rfl) (fun w' hS' => by exact run_load_box rfl rfl hS'.2.1) hS (fun K1 hK1 => ?_)
        clear hK0 K0
        try simp only [Act.put, List.setIfInBounds_toArray, List.set_cons_zero, List.set_cons_succ]
        refine any_take (i := 2) hK1 (some 38) (.move (.tmp 1)) 24 _ (by kernel_rfl) (fun _ d _ _ _ h => by cases d <;> exact h) (by kernel_rfl) (by kernel_rfl) (fun w' hS' => by simp only [opr]; go_simp; try with_reducible rfl) hS (fun K2 hK2 => ?_)
        clear hK1 K1
        try simp only [Act.put, List.setIfInBounds_toArray, List.set_cons_zero, List.set_cons_succ]
        refine any_pick (rs := [1, 4, 7]) hK2 (by kernel_rfl) (fun K3 hK3 => ?_)
        clear hK2 K2
        intro i hi
        simp only [List.mem_cons, List.not_mem_nil, or_false] at hi
        rcases hi with rfl | rfl | rfl
        · refine op_plain (some 37) (.buildSlice 24 0 #[]) 24 (by kernel_rfl) (by kernel_rfl) ?_
          go_wp2
          have st : Stay (fun _ => False) W (W.alloc (.cells #[] 3)) := (Stay.refl _ _).alloc _
          have hS' := hS.keep st
          have HO := hide' (owns_newS W #[] 3 1 0 rfl (by decide))
          have HOB : Hid (w.heap.size < W.heap.size ∧ w.heap.size < W.heap.size ∧ w.heap.size ≤ W.heap.size) := ⟨hS.2.1.lt, hS.2.2.lt, hS.1.size⟩
          have HBW : Hid (W.heap.size ≤ (W.alloc (.cells #[] 3)).heap.size) := st.size
          clear st
          clear hS
          have hS := hS'
          clear hS'
          obtain ⟨vO2, hvO⟩ : ∃ v, v = Value.slice (some ⟨W.heap.size, 0, none⟩) 0 0 := ⟨_, rfl⟩
          rw [← hvO] at HO
          rw [← hvO]
          clear hvO
          obtain ⟨B3, hB⟩ : ∃ B, B = W.heap.size := ⟨_, rfl⟩
          rw [← hB] at HO HOB HBW
          clear hB
          obtain ⟨W1, hW⟩ : ∃ Wq, Wq = (W.alloc (.cells #[] 3)) := ⟨_, rfl⟩
          rw [← hW] at hS HO HBW
          rw [← hW]
          clear hW
          refine hK3 1 (by simp) _ _ hS (any_more fun K4 hK4 => ?_)
          clear hK3 K3
          refine any_pick (rs := [3, 4, 7]) hK4 (by kernel_rfl) (fun K5 hK5 => ?_)
          clear hK4 K4
          intro i hi
          simp only [List.mem_cons, List.not_mem_nil, or_false] at hi
          rcases hi with rfl | rfl | rfl
          · refine op_plain (some 39) (.call { callee := Callee.builtin Builtin.append, args := #[.tmp 37, .tmp 38], argTypes := #[24, 24] }) 24 (by kernel_rfl) (by kernel_rfl) ?_
            have HSRC := hide' (isRowS_of (HA.out.stay0 hS.1).row)
            go_wp2_with (at_builtin; refine appS rfl _ _ 24 rfl Try.underlying24 Try.info3 rfl (by decide) (by decide) HO.out rfl HSRC.out rfl (one_ints _ _) (by have := HN.out; simp; omega) HBW.out ?_; intro v5 W4 ho hst hb; have HO2 := hide' ho; have HT2 := hide' hst; have HB2 := hide' hb; clear ho hst hb)
            have hS' := TwoB.own hS HT2.out HO.out HOB.out
            have HBW' := hide' (Nat.le_trans HBW.out HT2.out.size)
            clear HO HT2 HB2 HSRC
            clear hS
            have hS := hS'
            clear hS'
            clear HBW
            have HBW := HBW'
            clear HBW'
            have HO := HO2
            clear HO2
            refine hK5 3 (by simp) _ _ hS (any_more fun K6 hK6 => ?_)
            clear hK5 K5
            refine any_pick (rs := [4, 7]) hK6 (by kernel_rfl) (fun K7 hK7 => ?_)
            clear hK6 K6
            intro i hi
            simp only [List.mem_cons, List.not_mem_nil, or_false] at hi
            rcases hi with rfl | rfl
            · refine op_plain (some 40) (.buildSlice 24 2 #[(0, .const (Value.int IntKind.i64 0)), (1, .const (Value.int IntKind.i64 4))]) 24 (by kernel_rfl) (by kernel_rfl) ?_
              go_wp2
              have st : Stay (fun _ => False) W4 (W4.alloc (.cells #[.int .i64 0, .int .i64 4] 3)) := (Stay.refl _ _).alloc _
              have hS' := hS.keep st
              have HO' := hide' (st.owns HO.out (fun _ _ h => h))
              have HBW' := hide' (Nat.le_trans HBW.out st.size)
              have HR := hide' (isRowS_new W4 #[.int .i64 0, .int .i64 4] 3 1 2 rfl)
              have HRA : Hid (Apart (W4.alloc (.cells #[.int .i64 0, .int .i64 4] 3)) v5 W4.heap.size) := Apart.new HO.out
              clear st
              clear hS
              have hS := hS'
              clear hS'
              clear HO
              have HO := HO'
              clear HO'
              clear HBW
              have HBW := HBW'
              clear HBW'
              obtain ⟨BR7, hBR⟩ : ∃ B, B = W4.heap.size := ⟨_, rfl⟩
              rw [← hBR] at HR HRA
              rw [← hBR]
              clear hBR
              obtain ⟨W6, hW⟩ : ∃ Wq, Wq = (W4.alloc (.cells #[.int .i64 0, .int .i64 4] 3)) := ⟨_, rfl⟩
              rw [← hW] at hS HR HRA HO HBW
              rw [← hW]
              clear hW
              refine hK7 4 (by simp) _ _ hS (any_more fun K8 hK8 => ?_)
              clear hK7 K7
              refine any_pick (rs := [5, 7]) hK8 (by kernel_rfl) (fun K9 hK9 => ?_)
              clear hK8 K8
              intro i hi
              simp only [List.mem_cons, List.not_mem_nil, or_false] at hi
              rcases hi with rfl | rfl
              · refine op_plain (some 41) (.call { callee := Callee.builtin Builtin.append, args := #[.tmp 39, .tmp 40], argTypes := #[24, 24] }) 24 (by kernel_rfl) (by kernel_rfl) ?_
                go_wp2_with (at_builtin; refine appS rfl _ _ 24 rfl Try.underlying24 Try.info3 rfl (by decide) (by decide) HO.out rfl HR.out rfl (by intro u hu; simp at hu; rcases hu with rfl | rfl <;> rfl) (by have := HN.out; simp; omega) HBW.out ?_; intro v9 W8 ho hst hb; have HO2 := hide' ho; have HT2 := hide' hst; have HB2 := hide' hb; clear ho hst hb)
                have hS' := TwoB.own hS HT2.out HO.out HOB.out
                have HBW' := hide' (Nat.le_trans HBW.out HT2.out.size)
                have HR' := hide' (HR.out.stay HT2.out (fun k hk h => HRA.out.2 (by cases hk; exact h)))
                have HRA' := hide' (HRA.out.step HT2.out HB2.out)
                clear HO HT2 HB2
                clear hS
                have hS := hS'
                clear hS'
                clear HBW
                have HBW := HBW'
                clear HBW'
                clear HR
                have HR := HR'
                clear HR'
                clear HRA
                have HRA := HRA'
                clear HRA'
                have HO := HO2
                clear HO2
                refine hK9 5 (by simp) _ _ hS (any_more fun K10 hK10 => ?_)
                clear hK9 K9
                refine any_pick (rs := [6, 7]) hK10 (by kernel_rfl) (fun K11 hK11 => ?_)
                clear hK10 K10
                intro i hi
                simp only [List.mem_cons, List.not_mem_nil, or_false] at hi
                rcases hi with rfl | rfl
                · refine op_plain (some 42) (.call { callee := Callee.value (.func 11), args := #[.tmp 36, .tmp 41], argTypes := #[23, 24] }) 23 (by kernel_rfl) (by kernel_rfl) ?_
                  go_wp2_with fail
                  refine (HAP1.out _ _ (row_joined HO.out (by simp) HWF1.out)).mono ?_
                  rintro e W10 ⟨rfl, hs⟩
                  have hS' := hS.keep hs
                  clear hs
                  clear hS
                  have hS := hS'
                  clear hS'
                  go_wp2
                  clear HO HOB HBW HR HRA
                  refine hK11 6 (by simp) _ _ hS (any_more fun K12 hK12 => ?_)
                  clear hK11 K11
                  refine any_pick (rs := [7]) hK12 (by kernel_rfl) (fun K13 hK13 => ?_)
                  clear hK12 K12
                  intro i hi
                  simp only [List.mem_cons, List.not_mem_nil, or_false] at hi
                  rcases hi with rfl
                  refine op_plain (some 6) (.alloc 23) 0 (by kernel_rfl) (by kernel_rfl) ?_
                  go_wp2
                  have st : Stay (fun _ => False) W10 (W10.alloc (.cells #[.int .i64 0, .int .i64 0, .int .i64 0] 23)) := (Stay.refl _ _).alloc _
                  have hS' := hS.keep st
                  have HAb := hide' (Box.new (w := W10) ⟨0, 0, 0⟩ rfl)
                  have HAG : Hid (w.heap.size ≤ W10.heap.size ∧ w.heap.size < W10.heap.size ∧ w.heap.size < W10.heap.size) := ⟨hS.1.size, hS.2.1.lt, hS.2.2.lt⟩
                  have HAA : Hid (Apart (W10.alloc (.cells #[.int .i64 0, .int .i64 0, .int .i64 0] 23)) (.slice none 0 0) W10.heap.size) := Apart.none _ _
                  clear st
                  clear hS
                  have hS := hS'
                  clear hS'
                  obtain ⟨A12, hA'⟩ : ∃ B, B = W10.heap.size := ⟨_, rfl⟩
                  rw [← hA'] at HAb HAA HAG
                  rw [← hA']
                  clear hA'
                  obtain ⟨W11, hW⟩ : ∃ Wq, Wq = (W10.alloc (.cells #[.int .i64 0, .int .i64 0, .int .i64 0] 23)) := ⟨_, rfl⟩
                  rw [← hW] at hS HAb HAA
                  rw [← hW]
                  clear hW
                  refine hK13 7 (by simp) _ _ hS (any_more fun K14 hK14 => ?_)
                  clear hK13 K13
                  refine any_pick (rs := [8]) hK14 (by kernel_rfl) (fun K15 hK15 => ?_)
                  clear hK14 K14
                  intro i hi
                  simp only [List.mem_cons, List.not_mem_nil, or_false] at hi
                  rcases hi with rfl
                  refine op_plain none (.store 23 (.tmp 6) (.tmp 42)) 0 (by kernel_rfl) (by kernel_rfl) ?_
                  obtain ⟨z0, z1, z2, e0, e1, e2⟩ := HAb.out
                  go_wp2
                  generalize hW2 : World.setCell (World.setCell (World.setCell _ _ _) _ _) _ _ = W13
                  have HF : Hid (TwoB w w.heap.size p w.heap.size p W13 ∧ Box W13 A12 ⟨0, 0, 8⟩) := ⟨by rw [← hW2]; exact hS.putOther HAG.out, by rw [← hW2]; exact HAb.out.put ⟨0, 0, 8⟩⟩
                  have hS' : TwoB w w.heap.size p w.heap.size p W13 := HF.out.1
                  clear hS HAb z0 z1 z2 e0 e1 e2 hW2
                  refine hK15 8 (by simp) _ _ hS' (any_more fun K16 hK16 => ?_)
                  clear hK15 K15
                  refine any_done hK16 (by kernel_rfl) ?_
                  clear hK16 K16
                  go_wp2_with fail
                  go_meet
                  exact ⟨A12, rfl, ⟨HF.out.1.1, HF.out.1.2.1, HF.out.2⟩⟩
                · refine op_plain (some 6) (.alloc 23) 0 (by kernel_rfl) (by kernel_rfl) ?_
                  go_wp2
                  have st : Stay (fun _ => False) W8 (W8.alloc (.cells #[.int .i64 0, .int .i64 0, .int .i64 0] 23)) := (Stay.refl _ _).alloc _
                  have hS' := hS.keep st
                  have HO' := hide' (st.owns HO.out (fun _ _ h => h))
                  have HBW' := hide' (Nat.le_trans HBW.out st.size)
                  have HR' := hide' (HR.out.stay st (fun _ _ h => h))
                  have HRA' := hide' (HRA.out.alloc (.cells #[.int .i64 0, .int .i64 0, .int .i64 0] 23))
                  have HAb := hide' (Box.new (w := W8) ⟨0, 0, 0⟩ rfl)
                  have HAG : Hid (w.heap.size ≤ W8.heap.size ∧ w.heap.size < W8.heap.size ∧ w.heap.size < W8.heap.size) := ⟨hS.1.size, hS.2.1.lt, hS.2.2.lt⟩
                  have HAA : Hid (Apart (W8.alloc (.cells #[.int .i64 0, .int .i64 0, .int .i64 0] 23)) v9 W8.heap.size) := Apart.new HO.out
                  clear st
                  clear hS
                  have hS := hS'
                  clear hS'
                  clear HO
                  have HO := HO'
                  clear HO'
                  clear HBW
                  have HBW := HBW'
                  clear HBW'
                  clear HR
                  have HR := HR'
                  clear HR'
                  clear HRA
                  have HRA := HRA'
                  clear HRA'
                  obtain ⟨A15, hA'⟩ : ∃ B, B = W8.heap.size := ⟨_, rfl⟩
                  rw [← hA'] at HAb HAA HAG
                  rw [← hA']
                  clear hA'
                  obtain ⟨W14, hW⟩ : ∃ Wq, Wq = (W8.alloc (.cells #[.int .i64 0, .int .i64 0, .int .i64 0] 23)) := ⟨_, rfl⟩
                  rw [← hW] at hS HAb HAA HO HBW HR HRA
                  rw [← hW]
                  clear hW
                  refine hK11 7 (by simp) _ _ hS (any_more fun K12 hK12 => ?_)
                  clear hK11 K11
                  refine any_pick (rs := [6]) hK12 (by kernel_rfl) (fun K13 hK13 => ?_)
                  clear hK12 K12
                  intro i hi
                  simp only [List.mem_cons, List.not_mem_nil, or_false] at hi
                  rcases hi with rfl
                  refine op_plain (some 42) (.call { callee := Callee.value (.func 11), args := #[.tmp 36, .tmp 41], argTypes := #[23, 24] }) 23 (by kernel_rfl) (by kernel_rfl) ?_
                  go_wp2_with fail
                  refine (HAP1.out _ _ (row_joined HO.out (by simp) HWF1.out)).mono ?_
                  rintro e W16 ⟨rfl, hs⟩
                  have hS' := hS.keep hs
                  have HAb' := hide' (HAb.out.keep hs)
                  clear hs
                  clear hS
                  have hS := hS'
                  clear hS'
                  clear HAb
                  have HAb := HAb'
                  clear HAb'
                  go_wp2
                  clear HAA
                  clear HO HOB HBW HR HRA
                  refine hK13 6 (by simp) _ _ hS (any_more fun K14 hK14 => ?_)
                  clear hK13 K13
                  refine any_pick (rs := [8]) hK14 (by kernel_rfl) (fun K15 hK15 => ?_)
                  clear hK14 K14
                  intro i hi
                  simp only [List.mem_cons, List.not_mem_nil, or_false] at hi
                  rcases hi with rfl
                  refine op_plain none (.store 23 (.tmp 6) (.tmp 42)) 0 (by kernel_rfl) (by kernel_rfl) ?_
                  obtain ⟨z0, z1, z2, e0, e1, e2⟩ := HAb.out
                  go_wp2
                  generalize hW2 : World.setCell (World.setCell (World.setCell _ _ _) _ _) _ _ = W17
                  have HF : Hid (TwoB w w.heap.size p w.heap.size p W17 ∧ Box W17 A15 ⟨0, 0, 8⟩) := ⟨by rw [← hW2]; exact hS.putOther HAG.out, by rw [← hW2]; exact HAb.out.put ⟨0, 0, 8⟩⟩
                  have hS' : TwoB w w.heap.size p w.heap.size p W17 := HF.out.1
                  clear hS HAb z0 z1 z2 e0 e1 e2 hW2
                  refine hK15 8 (by simp) _ _ hS' (any_more fun K16 hK16 => ?_)
                  clear hK15 K15
                  refine any_done hK16 (by kernel_rfl) ?_
                  clear hK16 K16
                  go_wp2_with fail
                  go_meet
                  exact ⟨A15, rfl, ⟨HF.out.1.1, HF.out.1.2.1, HF.out.2⟩⟩
              · refine op_plain (some 6) (.alloc 23) 0 (by kernel_rfl) (by kernel_rfl) ?_
                go_wp2
                have st : Stay (fun _ => False) W6 (W6.alloc (.cells #[.int .i64 0, .int .i64 0, .int .i64 0] 23)) := (Stay.refl _ _).alloc _
                have hS' := hS.keep st
                have HO' := hide' (st.owns HO.out (fun _ _ h => h))
                have HBW' := hide' (Nat.le_trans HBW.out st.size)
                have HR' := hide' (HR.out.stay st (fun _ _ h => h))
                have HRA' := hide' (HRA.out.alloc (.cells #[.int .i64 0, .int .i64 0, .int .i64 0] 23))
                have HAb := hide' (Box.new (w := W6) ⟨0, 0, 0⟩ rfl)
                have HAG : Hid (w.heap.size ≤ W6.heap.size ∧ w.heap.size < W6.heap.size ∧ w.heap.size < W6.heap.size) := ⟨hS.1.size, hS.2.1.lt, hS.2.2.lt⟩
                have HAA : Hid (Apart (W6.alloc (.cells #[.int .i64 0, .int .i64 0, .int .i64 0] 23)) v5 W6.heap.size) := Apart.new HO.out
                clear st
                clear hS
                have hS := hS'
                clear hS'
                clear HO
                have HO := HO'
                clear HO'
                clear HBW
                have HBW := HBW'
                clear HBW'
                clear HR
                have HR := HR'
                clear HR'
                clear HRA
                have HRA := HRA'
                clear HRA'
                obtain ⟨A19, hA'⟩ : ∃ B, B = W6.heap.size := ⟨_, rfl⟩
                rw [← hA'] at HAb HAA HAG
                rw [← hA']
                clear hA'
                obtain ⟨W18, hW⟩ : ∃ Wq, Wq = (W6.alloc (.cells #[.int .i64 0, .int .i64 0, .int .i64 0] 23)) := ⟨_, rfl⟩
                rw [← hW] at hS HAb HAA HO HBW HR HRA
                rw [← hW]
                clear hW
                refine hK9 7 (by simp) _ _ hS (any_more fun K10 hK10 => ?_)
                clear hK9 K9
                refine any_pick (rs := [5]) hK10 (by kernel_rfl) (fun K11 hK11 => ?_)
                clear hK10 K10
                intro i hi
                simp only [List.mem_cons, List.not_mem_nil, or_false] at hi
                rcases hi with rfl
                refine op_plain (some 41) (.call { callee := Callee.builtin Builtin.append, args := #[.tmp 39, .tmp 40], argTypes := #[24, 24] }) 24 (by kernel_rfl) (by kernel_rfl) ?_
                go_wp2_with (at_builtin; refine appS rfl _ _ 24 rfl Try.underlying24 Try.info3 rfl (by decide) (by decide) HO.out rfl HR.out rfl (by intro u hu; simp at hu; rcases hu with rfl | rfl <;> rfl) (by have := HN.out; simp; omega) HBW.out ?_; intro v21 W20 ho hst hb; have HO2 := hide' ho; have HT2 := hide' hst; have HB2 := hide' hb; clear ho hst hb)
                have hS' := TwoB.own hS HT2.out HO.out HOB.out
                have HBW' := hide' (Nat.le_trans HBW.out HT2.out.size)
                have HR' := hide' (HR.out.stay HT2.out (fun k hk h => HRA.out.2 (by cases hk; exact h)))
                have HRA' := hide' (HRA.out.step HT2.out HB2.out)
                have HAb' := hide' (HAb.out.stay HT2.out (fun h => HAA.out.2 h))
                have HAA' := hide' (HAA.out.step HT2.out HB2.out)
                clear HO HT2 HB2
                clear hS
                have hS := hS'
                clear hS'
                clear HBW
                have HBW := HBW'
                clear HBW'
                clear HR
                have HR := HR'
                clear HR'
                clear HRA
                have HRA := HRA'
                clear HRA'
                clear HAb
                have HAb := HAb'
                clear HAb'
                clear HAA
                have HAA := HAA'
                clear HAA'
                have HO := HO2
                clear HO2
                refine hK11 5 (by simp) _ _ hS (any_more fun K12 hK12 => ?_)
                clear hK11 K11
                refine any_pick (rs := [6]) hK12 (by kernel_rfl) (fun K13 hK13 => ?_)
                clear hK12 K12
                intro i hi
                simp only [List.mem_cons, List.not_mem_nil, or_false] at hi
                rcases hi with rfl
                refine op_plain (some 42) (.call { callee := Callee.value (.func 11), args := #[.tmp 36, .tmp 41], argTypes := #[23, 24] }) 23 (by kernel_rfl) (by kernel_rfl) ?_
                go_wp2_with fail
                refine (HAP1.out _ _ (row_joined HO.out (by simp) HWF1.out)).mono ?_
                rintro e W22 ⟨rfl, hs⟩
                have hS' := hS.keep hs
                have HAb' := hide' (HAb.out.keep hs)
                clear hs
                clear hS
                have hS := hS'
                clear hS'
                clear HAb
                have HAb := HAb'
                clear HAb'
                go_wp2
                clear HAA
                clear HO HOB HBW HR HRA
                refine hK13 6 (by simp) _ _ hS (any_more fun K14 hK14 => ?_)
                clear hK13 K13
                refine any_pick (rs := [8]) hK14 (by kernel_rfl) (fun K15 hK15 => ?_)
                clear hK14 K14
                intro i hi
                simp only [List.mem_cons, List.not_mem_nil, or_false] at hi
                rcases hi with rfl
                refine op_plain none (.store 23 (.tmp 6) (.tmp 42)) 0 (by kernel_rfl) (by kernel_rfl) ?_
                obtain ⟨z0, z1, z2, e0, e1, e2⟩ := HAb.out
                go_wp2
                generalize hW2 : World.setCell (World.setCell (World.setCell _ _ _) _ _) _ _ = W23
                have HF : Hid (TwoB w w.heap.size p w.heap.size p W23 ∧ Box W23 A19 ⟨0, 0, 8⟩) := ⟨by rw [← hW2]; exact hS.putOther HAG.out, by rw [← hW2]; exact HAb.out.put ⟨0, 0, 8⟩⟩
                have hS' : TwoB w w.heap.size p w.heap.size p W23 := HF.out.1
                clear hS HAb z0 z1 z2 e0 e1 e2 hW2
                refine hK15 8 (by simp) _ _ hS' (any_more fun K16 hK16 => ?_)
                clear hK15 K15
                refine any_done hK16 (by kernel_rfl) ?_
                clear hK16 K16
                go_wp2_with fail
                go_meet
                exact ⟨A19, rfl, ⟨HF.out.1.1, HF.out.1.2.1, HF.out.2⟩⟩
            · refine op_plain (some 6) (.alloc 23) 0 (by kernel_rfl) (by kernel_rfl) ?_
              go_wp2
              have st : Stay (fun _ => False) W4 (W4.alloc (.cells #[.int .i64 0, .int .i64 0, .int .i64 0] 23)) := (Stay.refl _ _).alloc _
              have hS' := hS.keep st
              have HO' := hide' (st.owns HO.out (fun _ _ h => h))
              have HBW' := hide' (Nat.le_trans HBW.out st.size)
              have HAb := hide' (Box.new (w := W4) ⟨0, 0, 0⟩ rfl)
              have HAG : Hid (w.heap.size ≤ W4.heap.size ∧ w.heap.size < W4.heap.size ∧ w.heap.size < W4.heap.size) := ⟨hS.1.size, hS.2.1.lt, hS.2.2.lt⟩
              have HAA : Hid (Apart (W4.alloc (.cells #[.int .i64 0, .int .i64 0, .int .i64 0] 23)) v5 W4.heap.size) := Apart.new HO.out
              clear st
              clear hS
              have hS := hS'
              clear hS'
              clear HO
              have HO := HO'
              clear HO'
              clear HBW
              have HBW := HBW'
              clear HBW'
              obtain ⟨A25, hA'⟩ : ∃ B, B = W4.heap.size := ⟨_, rfl⟩
              rw [← hA'] at HAb HAA HAG
              rw [← hA']
              clear hA'
              obtain ⟨W24, hW⟩ : ∃ Wq, Wq = (W4.alloc (.cells #[.int .i64 0, .int .i64 0, .int .i64 0] 23)) := ⟨_, rfl⟩
              rw [← hW] at hS HAb HAA HO HBW
              rw [← hW]
              clear hW
              refine hK7 7 (by simp) _ _ hS (any_more fun K8 hK8 => ?_)
              clear hK7 K7
              refine any_pick (rs := [4]) hK8 (by kernel_rfl) (fun K9 hK9 => ?_)
              clear hK8 K8
              intro i hi
              simp only [List.mem_cons, List.not_mem_nil, or_false] at hi
              rcases hi with rfl
              refine op_plain (some 40) (.buildSlice 24 2 #[(0, .const (Value.int IntKind.i64 0)), (1, .const (Value.int IntKind.i64 4))]) 24 (by kernel_rfl) (by kernel_rfl) ?_
              go_wp2
              have st : Stay (fun _ => False) W24 (W24.alloc (.cells #[.int .i64 0, .int .i64 4] 3)) := (Stay.refl _ _).alloc _
              have hS' := hS.keep st
              have HO' := hide' (st.owns HO.out (fun _ _ h => h))
              have HBW' := hide' (Nat.le_trans HBW.out st.size)
              have HAb' := hide' (HAb.out.keep st)
              have HAA' := hide' (HAA.out.alloc (.cells #[.int .i64 0, .int .i64 4] 3))
              have HR := hide' (isRowS_new W24 #[.int .i64 0, .int .i64 4] 3 1 2 rfl)
              have HRA : Hid (Apart (W24.alloc (.cells #[.int .i64 0, .int .i64 4] 3)) v5 W24.heap.size) := Apart.new HO.out
              clear st
              clear hS
              have hS := hS'
              clear hS'
              clear HO
              have HO := HO'
              clear HO'
              clear HBW
              have HBW := HBW'
              clear HBW'
              clear HAb
              have HAb := HAb'
              clear HAb'
              clear HAA
              have HAA := HAA'
              clear HAA'
              obtain ⟨BR27, hBR⟩ : ∃ B, B = W24.heap.size := ⟨_, rfl⟩
              rw [← hBR] at HR HRA
              rw [← hBR]
              clear hBR
              obtain ⟨W26, hW⟩ : ∃ Wq, Wq = (W24.alloc (.cells #[.int .i64 0, .int .i64 4] 3)) := ⟨_, rfl⟩
              rw [← hW] at hS HR HRA HO HBW HAb HAA
              rw [← hW]
              clear hW
              refine hK9 4 (by simp) _ _ hS (any_more fun K10 hK10 => ?_)
              clear hK9 K9
              refine any_pick (rs := [5]) hK10 (by kernel_rfl) (fun K11 hK11 => ?_)
              clear hK10 K10
              intro i hi
              simp only [List.mem_cons, List.not_mem_nil, or_false] at hi
              rcases hi with rfl
              refine op_plain (some 41) (.call { callee := Callee.builtin Builtin.append, args := #[.tmp 39, .tmp 40], argTypes := #[24, 24] }) 24 (by kernel_rfl) (by kernel_rfl) ?_
              go_wp2_with (at_builtin; refine appS rfl _ _ 24 rfl Try.underlying24 Try.info3 rfl (by decide) (by decide) HO.out rfl HR.out rfl (by intro u hu; simp at hu; rcases hu with rfl | rfl <;> rfl) (by have := HN.out; simp; omega) HBW.out ?_; intro v29 W28 ho hst hb; have HO2 := hide' ho; have HT2 := hide' hst; have HB2 := hide' hb; clear ho hst hb)
              have hS' := TwoB.own hS HT2.out HO.out HOB.out
              have HBW' := hide' (Nat.le_trans HBW.out HT2.out.size)
              have HR' := hide' (HR.out.stay HT2.out (fun k hk h => HRA.out.2 (by cases hk; exact h)))
              have HRA' := hide' (HRA.out.step HT2.out HB2.out)
              have HAb' := hide' (HAb.out.stay HT2.out (fun h => HAA.out.2 h))
              have HAA' := hide' (HAA.out.step HT2.out HB2.out)
              clear HO HT2 HB2
              clear hS
              have hS := hS'
              clear hS'
              clear HBW
              have HBW := HBW'
              clear HBW'
              clear HR
              have HR := HR'
              clear HR'
              clear HRA
              have HRA := HRA'
              clear HRA'
              clear HAb
              have HAb := HAb'
              clear HAb'
              clear HAA
              have HAA := HAA'
              clear HAA'
              have HO := HO2
              clear HO2
              refine hK11 5 (by simp) _ _ hS (any_more fun K12 hK12 => ?_)
              clear hK11 K11
              refine any_pick (rs := [6]) hK12 (by kernel_rfl) (fun K13 hK13 => ?_)
              clear hK12 K12
              intro i hi
              simp only [List.mem_cons, List.not_mem_nil, or_false] at hi
              rcases hi with rfl
              refine op_plain (some 42) (.call { callee := Callee.value (.func 11), args := #[.tmp 36, .tmp 41], argTypes := #[23, 24] }) 23 (by kernel_rfl) (by kernel_rfl) ?_
              go_wp2_with fail
              refine (HAP1.out _ _ (row_joined HO.out (by simp) HWF1.out)).mono ?_
              rintro e W30 ⟨rfl, hs⟩
              have hS' := hS.keep hs
              have HAb' := hide' (HAb.out.keep hs)
              clear hs
              clear hS
              have hS := hS'
              clear hS'
              clear HAb
              have HAb := HAb'
              clear HAb'
              go_wp2
              clear HAA
              clear HO HOB HBW HR HRA
              refine hK13 6 (by simp) _ _ hS (any_more fun K14 hK14 => ?_)
              clear hK13 K13
              refine any_pick (rs := [8]) hK14 (by kernel_rfl) (fun K15 hK15 => ?_)
              clear hK14 K14
              intro i hi
              simp only [List.mem_cons, List.not_mem_nil, or_false] at hi
              rcases hi with rfl
              refine op_plain none (.store 23 (.tmp 6) (.tmp 42)) 0 (by kernel_rfl) (by kernel_rfl) ?_
              obtain ⟨z0, z1, z2, e0, e1, e2⟩ := HAb.out
              go_wp2
              generalize hW2 : World.setCell (World.setCell (World.setCell _ _ _) _ _) _ _ = W31
              have HF : Hid (TwoB w w.heap.size p w.heap.size p W31 ∧ Box W31 A25 ⟨0, 0, 8⟩) := ⟨by rw [← hW2]; exact hS.putOther HAG.out, by rw [← hW2]; exact HAb.out.put ⟨0, 0, 8⟩⟩
              have hS' : TwoB w w.heap.size p w.heap.size p W31 := HF.out.1
              clear hS HAb z0 z1 z2 e0 e1 e2 hW2
              refine hK15 8 (by simp) _ _ hS' (any_more fun K16 hK16 => ?_)
              clear hK15 K15
              refine any_done hK16 (by kernel_rfl) ?_
              clear hK16 K16
              go_wp2_with fail
              go_meet
              exact ⟨A25, rfl, ⟨HF.out.1.1, HF.out.1.2.1, HF.out.2⟩⟩
          · refine op_plain (some 40) (.buildSlice 24 2 #[(0, .const (Value.int IntKind.i64 0)), (1, .const (Value.int IntKind.i64 4))]) 24 (by kernel_rfl) (by kernel_rfl) ?_
            go_wp2
            have st : Stay (fun _ => False) W1 (W1.alloc (.cells #[.int .i64 0, .int .i64 4] 3)) := (Stay.refl _ _).alloc _
            have hS' := hS.keep st
            have HO' := hide' (st.owns HO.out (fun _ _ h => h))
            have HBW' := hide' (Nat.le_trans HBW.out st.size)
            have HR := hide' (isRowS_new W1 #[.int .i64 0, .int .i64 4] 3 1 2 rfl)
            have HRA : Hid (Apart (W1.alloc (.cells #[.int .i64 0, .int .i64 4] 3)) vO2 W1.heap.size) := Apart.new HO.out
            clear st
            clear hS
            have hS := hS'
            clear hS'
            clear HO
            have HO := HO'
            clear HO'
            clear HBW
            have HBW := HBW'
            clear HBW'
            obtain ⟨BR33, hBR⟩ : ∃ B, B = W1.heap.size := ⟨_, rfl⟩
            rw [← hBR] at HR HRA
            rw [← hBR]
            clear hBR
            obtain ⟨W32, hW⟩ : ∃ Wq, Wq = (W1.alloc (.cells #[.int .i64 0, .int .i64 4] 3)) := ⟨_, rfl⟩
            rw [← hW] at hS HR HRA HO HBW
            rw [← hW]
            clear hW
            refine hK5 4 (by simp) _ _ hS (any_more fun K6 hK6 => ?_)
            clear hK5 K5
            refine any_pick (rs := [3, 7]) hK6 (by kernel_rfl) (fun K7 hK7 => ?_)
            clear hK6 K6
            intro i hi
            simp only [List.mem_cons, List.not_mem_nil, or_false] at hi
            rcases hi with rfl | rfl
            · refine op_plain (some 39) (.call { callee := Callee.builtin Builtin.append, args := #[.tmp 37, .tmp 38], argTypes := #[24, 24] }) 24 (by kernel_rfl) (by kernel_rfl) ?_
              have HSRC := hide' (isRowS_of (HA.out.stay0 hS.1).row)
              go_wp2_with (at_builtin; refine appS rfl _ _ 24 rfl Try.underlying24 Try.info3 rfl (by decide) (by decide) HO.out rfl HSRC.out rfl (one_ints _ _) (by have := HN.out; simp; omega) HBW.out ?_; intro v35 W34 ho hst hb; have HO2 := hide' ho; have HT2 := hide' hst; have HB2 := hide' hb; clear ho hst hb)
              have hS' := TwoB.own hS HT2.out HO.out HOB.out
              have HBW' := hide' (Nat.le_trans HBW.out HT2.out.size)
              have HR' := hide' (HR.out.stay HT2.out (fun k hk h => HRA.out.2 (by cases hk; exact h)))
              have HRA' := hide' (HRA.out.step HT2.out HB2.out)
              clear HO HT2 HB2 HSRC
              clear hS
              have hS := hS'
              clear hS'
              clear HBW
              have HBW := HBW'
              clear HBW'
              clear HR
              have HR := HR'
              clear HR'
              clear HRA
              have HRA := HRA'
              clear HRA'
              have HO := HO2
              clear HO2
              refine hK7 3 (by simp) _ _ hS (any_more fun K8 hK8 => ?_)
              clear hK7 K7
              refine any_pick (rs := [5, 7]) hK8 (by kernel_rfl) (fun K9 hK9 => ?_)
              clear hK8 K8
              intro i hi
              simp only [List.mem_cons, List.not_mem_nil, or_false] at hi
              rcases hi with rfl | rfl
              · refine op_plain (some 41) (.call { callee := Callee.builtin Builtin.append, args := #[.tmp 39, .tmp 40], argTypes := #[24, 24] }) 24 (by kernel_rfl) (by kernel_rfl) ?_
                go_wp2_with (at_builtin; refine appS rfl _ _ 24 rfl Try.underlying24 Try.info3 rfl (by decide) (by decide) HO.out rfl HR.out rfl (by intro u hu; simp at hu; rcases hu with rfl | rfl <;> rfl) (by have := HN.out; simp; omega) HBW.out ?_; intro v37 W36 ho hst hb; have HO2 := hide' ho; have HT2 := hide' hst; have HB2 := hide' hb; clear ho hst hb)
                have hS' := TwoB.own hS HT2.out HO.out HOB.out
                have HBW' := hide' (Nat.le_trans HBW.out HT2.out.size)
                have HR' := hide' (HR.out.stay HT2.out (fun k hk h => HRA.out.2 (by cases hk; exact h)))
                have HRA' := hide' (HRA.out.step HT2.out HB2.out)
                clear HO HT2 HB2
                clear hS
                have hS := hS'
                clear hS'
                clear HBW
                have HBW := HBW'
                clear HBW'
                clear HR
                have HR := HR'
                clear HR'
                clear HRA
                have HRA := HRA'
                clear HRA'
                have HO := HO2
                clear HO2
                refine hK9 5 (by simp) _ _ hS (any_more fun K10 hK10 => ?_)
                clear hK9 K9
                refine any_pick (rs := [6, 7]) hK10 (by kernel_rfl) (fun K11 hK11 => ?_)
                clear hK10 K10
                intro i hi
                simp only [List.mem_cons, List.not_mem_nil, or_false] at hi
                rcases hi with rfl | rfl
                · refine op_plain (some 42) (.call { callee := Callee.value (.func 11), args := #[.tmp 36, .tmp 41], argTypes := #[23, 24] }) 23 (by kernel_rfl) (by kernel_rfl) ?_
                  go_wp2_with fail
                  refine (HAP1.out _ _ (row_joined HO.out (by simp) HWF1.out)).mono ?_
                  rintro e W38 ⟨rfl, hs⟩
                  have hS' := hS.keep hs
                  clear hs
                  clear hS
                  have hS := hS'
                  clear hS'
                  go_wp2
                  clear HO HOB HBW HR HRA
                  refine hK11 6 (by simp) _ _ hS (any_more fun K12 hK12 => ?_)
                  clear hK11 K11
                  refine any_pick (rs := [7]) hK12 (by kernel_rfl) (fun K13 hK13 => ?_)
                  clear hK12 K12
                  intro i hi
                  simp only [List.mem_cons, List.not_mem_nil, or_false] at hi
                  rcases hi with rfl
                  refine op_plain (some 6) (.alloc 23) 0 (by kernel_rfl) (by kernel_rfl) ?_
                  go_wp2
                  have st : Stay (fun _ => False) W38 (W38.alloc (.cells #[.int .i64 0, .int .i64 0, .int .i64 0] 23)) := (Stay.refl _ _).alloc _
                  have hS' := hS.keep st
                  have HAb := hide' (Box.new (w := W38) ⟨0, 0, 0⟩ rfl)
                  have HAG : Hid (w.heap.size ≤ W38.heap.size ∧ w.heap.size < W38.heap.size ∧ w.heap.size < W38.heap.size) := ⟨hS.1.size, hS.2.1.lt, hS.2.2.lt⟩
                  have HAA : Hid (Apart (W38.alloc (.cells #[.int .i64 0, .int .i64 0, .int .i64 0] 23)) (.slice none 0 0) W38.heap.size) := Apart.none _ _
                  clear st
                  clear hS
                  have hS := hS'
                  clear hS'
                  obtain ⟨A40, hA'⟩ : ∃ B, B = W38.heap.size := ⟨_, rfl⟩
                  rw [← hA'] at HAb HAA HAG
                  rw [← hA']
                  clear hA'
                  obtain ⟨W39, hW⟩ : ∃ Wq, Wq = (W38.alloc (.cells #[.int .i64 0, .int .i64 0, .int .i64 0] 23)) := ⟨_, rfl⟩
                  rw [← hW] at hS HAb HAA
                  rw [← hW]
                  clear hW
                  refine hK13 7 (by simp) _ _ hS (any_more fun K14 hK14 => ?_)
                  clear hK13 K13
                  refine any_pick (rs := [8]) hK14 (by kernel_rfl) (fun K15 hK15 => ?_)
                  clear hK14 K14
                  intro i hi
                  simp only [List.mem_cons, List.not_mem_nil, or_false] at hi
                  rcases hi with rfl
                  refine op_plain none (.store 23 (.tmp 6) (.tmp 42)) 0 (by kernel_rfl) (by kernel_rfl) ?_
                  obtain ⟨z0, z1, z2, e0, e1, e2⟩ := HAb.out
                  go_wp2
                  generalize hW2 : World.setCell (World.setCell (World.setCell _ _ _) _ _) _ _ = W41
                  have HF : Hid (TwoB w w.heap.size p w.heap.size p W41 ∧ Box W41 A40 ⟨0, 0, 8⟩) := ⟨by rw [← hW2]; exact hS.putOther HAG.out, by rw [← hW2]; exact HAb.out.put ⟨0, 0, 8⟩⟩
                  have hS' : TwoB w w.heap.size p w.heap.size p W41 := HF.out.1
                  clear hS HAb z0 z1 z2 e0 e1 e2 hW2
                  refine hK15 8 (by simp) _ _ hS' (any_more fun K16 hK16 => ?_)
                  clear hK15 K15
                  refine any_done hK16 (by kernel_rfl) ?_
                  clear hK16 K16
                  go_wp2_with fail
                  go_meet
                  exact ⟨A40, rfl, ⟨HF.out.1.1, HF.out.1.2.1, HF.out.2⟩⟩
                · refine op_plain (some 6) (.alloc 23) 0 (by kernel_rfl) (by kernel_rfl) ?_
                  go_wp2
                  have st : Stay (fun _ => False) W36 (W36.alloc (.cells #[.int .i64 0, .int .i64 0, .int .i64 0] 23)) := (Stay.refl _ _).alloc _
                  have hS' := hS.keep st
                  have HO' := hide' (st.owns HO.out (fun _ _ h => h))
                  have HBW' := hide' (Nat.le_trans HBW.out st.size)
                  have HR' := hide' (HR.out.stay st (fun _ _ h => h))
                  have HRA' := hide' (HRA.out.alloc (.cells #[.int .i64 0, .int .i64 0, .int .i64 0] 23))
                  have HAb := hide' (Box.new (w := W36) ⟨0, 0, 0⟩ rfl)
                  have HAG : Hid (w.heap.size ≤ W36.heap.size ∧ w.heap.size < W36.heap.size ∧ w.heap.size < W36.heap.size) := ⟨hS.1.size, hS.2.1.lt, hS.2.2.lt⟩
                  have HAA : Hid (Apart (W36.alloc (.cells #[.int .i64 0, .int .i64 0, .int .i64 0] 23)) v37 W36.heap.size) := Apart.new HO.out
                  clear st
                  clear hS
                  have hS := hS'
                  clear hS'
                  clear HO
                  have HO := HO'
                  clear HO'
                  clear HBW
                  have HBW := HBW'
                  clear HBW'
                  clear HR
                  have HR := HR'
                  clear HR'
                  clear HRA
                  have HRA := HRA'
                  clear HRA'
                  obtain ⟨A43, hA'⟩ : ∃ B, B = W36.heap.size := ⟨_, rfl⟩
                  rw [← hA'] at HAb HAA HAG
                  rw [← hA']
                  clear hA'
                  obtain ⟨W42, hW⟩ : ∃ Wq, Wq = (W36.alloc (.cells #[.int .i64 0, .int .i64 0, .int .i64 0] 23)) := ⟨_, rfl⟩
                  rw [← hW] at hS HAb HAA HO HBW HR HRA
                  rw [← hW]
                  clear hW
                  refine hK11 7 (by simp) _ _ hS (any_more fun K12 hK12 => ?_)
                  clear hK11 K11
                  refine any_pick (rs := [6]) hK12 (by kernel_rfl) (fun K13 hK13 => ?_)
                  clear hK12 K12
                  intro i hi
                  simp only [List.mem_cons, List.not_mem_nil, or_false] at hi
                  rcases hi with rfl
                  refine op_plain (some 42) (.call { callee := Callee.value (.func 11), args := #[.tmp 36, .tmp 41], argTypes := #[23, 24] }) 23 (by kernel_rfl) (by kernel_rfl) ?_
                  go_wp2_with fail
                  refine (HAP1.out _ _ (row_joined HO.out (by simp) HWF1.out)).mono ?_
                  rintro e W44 ⟨rfl, hs⟩
                  have hS' := hS.keep hs
                  have HAb' := hide' (HAb.out.keep hs)
                  clear hs
                  clear hS
                  have hS := hS'
                  clear hS'
                  clear HAb
                  have HAb := HAb'
                  clear HAb'
                  go_wp2
                  clear HAA
                  clear HO HOB HBW HR HRA
                  refine hK13 6 (by simp) _ _ hS (any_more fun K14 hK14 => ?_)
                  clear hK13 K13
                  refine any_pick (rs := [8]) hK14 (by kernel_rfl) (fun K15 hK15 => ?_)
                  clear hK14 K14
                  intro i hi
                  simp only [List.mem_cons, List.not_mem_nil, or_false] at hi
                  rcases hi with rfl
                  refine op_plain none (.store 23 (.tmp 6) (.tmp 42)) 0 (by kernel_rfl) (by kernel_rfl) ?_
                  obtain ⟨z0, z1, z2, e0, e1, e2⟩ := HAb.out
                  go_wp2
                  generalize hW2 : World.setCell (World.setCell (World.setCell _ _ _) _ _) _ _ = W45
                  have HF : Hid (TwoB w w.heap.size p w.heap.size p W45 ∧ Box W45 A43 ⟨0, 0, 8⟩) := ⟨by rw [← hW2]; exact hS.putOther HAG.out, by rw [← hW2]; exact HAb.out.put ⟨0, 0, 8⟩⟩
                  have hS' : TwoB w w.heap.size p w.heap.size p W45 := HF.out.1
                  clear hS HAb z0 z1 z2 e0 e1 e2 hW2
                  refine hK15 8 (by simp) _ _ hS' (any_more fun K16 hK16 => ?_)
                  clear hK15 K15
                  refine any_done hK16 (by kernel_rfl) ?_
                  clear hK16 K16
                  go_wp2_with fail
                  go_meet
                  exact ⟨A43, rfl, ⟨HF.out.1.1, HF.out.1.2.1, HF.out.2⟩⟩
              · refine op_plain (some 6) (.alloc 23) 0 (by kernel_rfl) (by kernel_rfl) ?_
                go_wp2
                have st : Stay (fun _ => False) W34 (W34.alloc (.cells #[.int .i64 0, .int .i64 0, .int .i64 0] 23)) := (Stay.refl _ _).alloc _
                have hS' := hS.keep st
                have HO' := hide' (st.owns HO.out (fun _ _ h => h))
                have HBW' := hide' (Nat.le_trans HBW.out st.size)
                have HR' := hide' (HR.out.stay st (fun _ _ h => h))
                have HRA' := hide' (HRA.out.alloc (.cells #[.int .i64 0, .int .i64 0, .int .i64 0] 23))
                have HAb := hide' (Box.new (w := W34) ⟨0, 0, 0⟩ rfl)
                have HAG : Hid (w.heap.size ≤ W34.heap.size ∧ w.heap.size < W34.heap.size ∧ w.heap.size < W34.heap.size) := ⟨hS.1.size, hS.2.1.lt, hS.2.2.lt⟩
                have HAA : Hid (Apart (W34.alloc (.cells #[.int .i64 0, .int .i64 0, .int .i64 0] 23)) v35 W34.heap.size) := Apart.new HO.out
                clear st
                clear hS
                have hS := hS'
                clear hS'
                clear HO
                have HO := HO'
                clear HO'
                clear HBW
                have HBW := HBW'
                clear HBW'
                clear HR
                have HR := HR'
                clear HR'
                clear HRA
                have HRA := HRA'
                clear HRA'
                obtain ⟨A47, hA'⟩ : ∃ B, B = W34.heap.size := ⟨_, rfl⟩
                rw [← hA'] at HAb HAA HAG
                rw [← hA']
                clear hA'
                obtain ⟨W46, hW⟩ : ∃ Wq, Wq = (W34.alloc (.cells #[.int .i64 0, .int .i64 0, .int .i64 0] 23)) := ⟨_, rfl⟩
                rw [← hW] at hS HAb HAA HO HBW HR HRA
                rw [← hW]
                clear hW
                refine hK9 7 (by simp) _ _ hS (any_more fun K10 hK10 => ?_)
                clear hK9 K9
                refine any_pick (rs := [5]) hK10 (by kernel_rfl) (fun K11 hK11 => ?_)
                clear hK10 K10
                intro i hi
                simp only [List.mem_cons, List.not_mem_nil, or_false] at hi
                rcases hi with rfl
                refine op_plain (some 41) (.call { callee := Callee.builtin Builtin.append, args := #[.tmp 39, .tmp 40], argTypes := #[24, 24] }) 24 (by kernel_rfl) (by kernel_rfl) ?_
                go_wp2_with (at_builtin; refine appS rfl _ _ 24 rfl Try.underlying24 Try.info3 rfl (by decide) (by decide) HO.out rfl HR.out rfl (by intro u hu; simp at hu; rcases hu with rfl | rfl <;> rfl) (by have := HN.out; simp; omega) HBW.out ?_; intro v49 W48 ho hst hb; have HO2 := hide' ho; have HT2 := hide' hst; have HB2 := hide' hb; clear ho hst hb)
                have hS' := TwoB.own hS HT2.out HO.out HOB.out
                have HBW' := hide' (Nat.le_trans HBW.out HT2.out.size)
                have HR' := hide' (HR.out.stay HT2.out (fun k hk h => HRA.out.2 (by cases hk; exact h)))
                have HRA' := hide' (HRA.out.step HT2.out HB2.out)
                have HAb' := hide' (HAb.out.stay HT2.out (fun h => HAA.out.2 h))
                have HAA' := hide' (HAA.out.step HT2.out HB2.out)
                clear HO HT2 HB2
                clear hS
                have hS := hS'
                clear hS'
                clear HBW
                have HBW := HBW'
                clear HBW'
                clear HR
                have HR := HR'
                clear HR'
                clear HRA
                have HRA := HRA'
                clear HRA'
                clear HAb
                have HAb := HAb'
                clear HAb'
                clear HAA
                have HAA := HAA'
                clear HAA'
                have HO := HO2
                clear HO2
                refine hK11 5 (by simp) _ _ hS (any_more fun K12 hK12 => ?_)
                clear hK11 K11
                refine any_pick (rs := [6]) hK12 (by kernel_rfl) (fun K13 hK13 => ?_)
                clear hK12 K12
                intro i hi
                simp only [List.mem_cons, List.not_mem_nil, or_false] at hi
                rcases hi with rfl
                refine op_plain (some 42) (.call { callee := Callee.value (.func 11), args := #[.tmp 36, .tmp 41], argTypes := #[23, 24] }) 23 (by kernel_rfl) (by kernel_rfl) ?_
                go_wp2_with fail
                refine (HAP1.out _ _ (row_joined HO.out (by simp) HWF1.out)).mono ?_
                rintro e W50 ⟨rfl, hs⟩
                have hS' := hS.keep hs
                have HAb' := hide' (HAb.out.keep hs)
                clear hs
                clear hS
                have hS := hS'
                clear hS'
                clear HAb
                have HAb := HAb'
                clear HAb'
                go_wp2
                clear HAA
                clear HO HOB HBW HR HRA
                refine hK13 6 (by simp) _ _ hS (any_more fun K14 hK14 => ?_)
                clear hK13 K13
                refine any_pick (rs := [8]) hK14 (by kernel_rfl) (fun K15 hK15 => ?_)
                clear hK14 K14
                intro i hi
                simp only [List.mem_cons, List.not_mem_nil, or_false] at hi
                rcases hi with rfl
                refine op_plain none (.store 23 (.tmp 6) (.tmp 42)) 0 (by kernel_rfl) (by kernel_rfl) ?_
                obtain ⟨z0, z1, z2, e0, e1, e2⟩ := HAb.out
                go_wp2
                generalize hW2 : World.setCell (World.setCell (World.setCell _ _ _) _ _) _ _ = W51
                have HF : Hid (TwoB w w.heap.size p w.heap.size p W51 ∧ Box W51 A47 ⟨0, 0, 8⟩) := ⟨by rw [← hW2]; exact hS.putOther HAG.out, by rw [← hW2]; exact HAb.out.put ⟨0, 0, 8⟩⟩
                have hS' : TwoB w w.heap.size p w.heap.size p W51 := HF.out.1
                clear hS HAb z0 z1 z2 e0 e1 e2 hW2
                refine hK15 8 (by simp) _ _ hS' (any_more fun K16 hK16 => ?_)
                clear hK15 K15
                refine any_done hK16 (by kernel_rfl) ?_
                clear hK16 K16
                go_wp2_with fail
                go_meet
                exact ⟨A47, rfl, ⟨HF.out.1.1, HF.out.1.2.1, HF.out.2⟩⟩
            · refine op_plain (some 6) (.alloc 23) 0 (by kernel_rfl) (by kernel_rfl) ?_
              go_wp2
              have st : Stay (fun _ => False) W32 (W32.alloc (.cells #[.int .i64 0, .int .i64 0, .int .i64 0] 23)) := (Stay.refl _ _).alloc _
              have hS' := hS.keep st
              have HO' := hide' (st.owns HO.out (fun _ _ h => h))
              have HBW' := hide' (Nat.le_trans HBW.out st.size)
              have HR' := hide' (HR.out.stay st (fun _ _ h => h))
              have HRA' := hide' (HRA.out.alloc (.cells #[.int .i64 0, .int .i64 0, .int .i64 0] 23))
              have HAb := hide' (Box.new (w := W32) ⟨0, 0, 0⟩ rfl)
              have HAG : Hid (w.heap.size ≤ W32.heap.size ∧ w.heap.size < W32.heap.size ∧ w.heap.size < W32.heap.size) := ⟨hS.1.size, hS.2.1.lt, hS.2.2.lt⟩
              have HAA : Hid (Apart (W32.alloc (.cells #[.int .i64 0, .int .i64 0, .int .i64 0] 23)) vO2 W32.heap.size) := Apart.new HO.out
              clear st
              clear hS
              have hS := hS'
              clear hS'
              clear HO
              have HO := HO'
              clear HO'
              clear HBW
              have HBW := HBW'
              clear HBW'
              clear HR
              have HR := HR'
              clear HR'
              clear HRA
              have HRA := HRA'
              clear HRA'
              obtain ⟨A53, hA'⟩ : ∃ B, B = W32.heap.size := ⟨_, rfl⟩
              rw [← hA'] at HAb HAA HAG
              rw [← hA']
              clear hA'
              obtain ⟨W52, hW⟩ : ∃ Wq, Wq = (W32.alloc (.cells #[.int .i64 0, .int .i64 0, .int .i64 0] 23)) := ⟨_, rfl⟩
              rw [← hW] at hS HAb HAA HO HBW HR HRA
              rw [← hW]
              clear hW
              refine hK7 7 (by simp) _ _ hS (any_more fun K8 hK8 => ?_)
              clear hK7 K7
              refine any_pick (rs := [3]) hK8 (by kernel_rfl) (fun K9 hK9 => ?_)
              clear hK8 K8
              intro i hi
              simp only [List.mem_cons, List.not_mem_nil, or_false] at hi
              rcases hi with rfl
              refine op_plain (some 39) (.call { callee := Callee.builtin Builtin.append, args := #[.tmp 37, .tmp 38], argTypes := #[24, 24] }) 24 (by kernel_rfl) (by kernel_rfl) ?_
              have HSRC := hide' (isRowS_of (HA.out.stay0 hS.1).row)
              go_wp2_with (at_builtin; refine appS rfl _ _ 24 rfl Try.underlying24 Try.info3 rfl (by decide) (by decide) HO.out rfl HSRC.out rfl (one_ints _ _) (by have := HN.out; simp; omega) HBW.out ?_; intro v55 W54 ho hst hb; have HO2 := hide' ho; have HT2 := hide' hst; have HB2 := hide' hb; clear ho hst hb)
              have hS' := TwoB.own hS HT2.out HO.out HOB.out
              have HBW' := hide' (Nat.le_trans HBW.out HT2.out.size)
              have HR' := hide' (HR.out.stay HT2.out (fun k hk h => HRA.out.2 (by cases hk; exact h)))
              have HRA' := hide' (HRA.out.step HT2.out HB2.out)
              have HAb' := hide' (HAb.out.stay HT2.out (fun h => HAA.out.2 h))
              have HAA' := hide' (HAA.out.step HT2.out HB2.out)
              clear HO HT2 HB2 HSRC
              clear hS
              have hS := hS'
              clear hS'
              clear HBW
              have HBW := HBW'
              clear HBW'
              clear HR
              have HR := HR'
              clear HR'
              clear HRA
              have HRA := HRA'
              clear HRA'
              clear HAb
              have HAb := HAb'
              clear HAb'
              clear HAA
              have HAA := HAA'
              clear HAA'
              have HO := HO2
              clear HO2
              refine hK9 3 (by simp) _ _ hS (any_more fun K10 hK10 => ?_)
              clear hK9 K9
              refine any_pick (rs := [5]) hK10 (by kernel_rfl) (fun K11 hK11 => ?_)
              clear hK10 K10
              intro i hi
              simp only [List.mem_cons, List.not_mem_nil, or_false] at hi
              rcases hi with rfl
              refine op_plain (some 41) (.call { callee := Callee.builtin Builtin.append, args := #[.tmp 39, .tmp 40], argTypes := #[24, 24] }) 24 (by kernel_rfl) (by kernel_rfl) ?_
              go_wp2_with (at_builtin; refine appS rfl _ _ 24 rfl Try.underlying24 Try.info3 rfl (by decide) (by decide) HO.out rfl HR.out rfl (by intro u hu; simp at hu; rcases hu with rfl | rfl <;> rfl) (by have := HN.out; simp; omega) HBW.out ?_; intro v57 W56 ho hst hb; have HO2 := hide' ho; have HT2 := hide' hst; have HB2 := hide' hb; clear ho hst hb)
              have hS' := TwoB.own hS HT2.out HO.out HOB.out
              have HBW' := hide' (Nat.le_trans HBW.out HT2.out.size)
              have HR' := hide' (HR.out.stay HT2.out (fun k hk h => HRA.out.2 (by cases hk; exact h)))
              have HRA' := hide' (HRA.out.step HT2.out HB2.out)
              have HAb' := hide' (HAb.out.stay HT2.out (fun h => HAA.out.2 h))
              have HAA' := hide' (HAA.out.step HT2.out HB2.out)
              clear HO HT2 HB2
              clear hS
              have hS := hS'
              clear hS'
              clear HBW
              have HBW := HBW'
              clear HBW'
              clear HR
              have HR := HR'
              clear HR'
              clear HRA
              have HRA := HRA'
              clear HRA'
              clear HAb
              have HAb := HAb'
              clear HAb'
              clear HAA
              have HAA := HAA'
              clear HAA'
              have HO := HO2
              clear HO2
              refine hK11 5 (by simp) _ _ hS (any_more fun K12 hK12 => ?_)
              clear hK11 K11
              refine any_pick (rs := [6]) hK12 (by kernel_rfl) (fun K13 hK13 => ?_)
              clear hK12 K12
              intro i hi
              simp only [List.mem_cons, List.not_mem_nil, or_false] at hi
              rcases hi with rfl
              refine op_plain (some 42) (.call { callee := Callee.value (.func 11), args := #[.tmp 36, .tmp 41], argTypes := #[23, 24] }) 23 (by kernel_rfl) (by kernel_rfl) ?_
              go_wp2_with fail
              refine (HAP1.out _ _ (row_joined HO.out (by simp) HWF1.out)).mono ?_
              rintro e W58 ⟨rfl, hs⟩
              have hS' := hS.keep hs
              have HAb' := hide' (HAb.out.keep hs)
              clear hs
              clear hS
              have hS := hS'
              clear hS'
              clear HAb
              have HAb := HAb'
              clear HAb'
              go_wp2
              clear HAA
              clear HO HOB HBW HR HRA
              refine hK13 6 (by simp) _ _ hS (any_more fun K14 hK14 => ?_)
              clear hK13 K13
              refine any_pick (rs := [8]) hK14 (by kernel_rfl) (fun K15 hK15 => ?_)
              clear hK14 K14
              intro i hi
              simp only [List.mem_cons, List.not_mem_nil, or_false] at hi
              rcases hi with rfl
              refine op_plain none (.store 23 (.tmp 6) (.tmp 42)) 0 (by kernel_rfl) (by kernel_rfl) ?_
              obtain ⟨z0, z1, z2, e0, e1, e2⟩ := HAb.out
              go_wp2
              generalize hW2 : World.setCell (World.setCell (World.setCell _ _ _) _ _) _ _ = W59
              have HF : Hid (TwoB w w.heap.size p w.heap.size p W59 ∧ Box W59 A53 ⟨0, 0, 8⟩) := ⟨by rw [← hW2]; exact hS.putOther HAG.out, by rw [← hW2]; exact HAb.out.put ⟨0, 0, 8⟩⟩
              have hS' : TwoB w w.heap.size p w.heap.size p W59 := HF.out.1
              clear hS HAb z0 z1 z2 e0 e1 e2 hW2
              refine hK15 8 (by simp) _ _ hS' (any_more fun K16 hK16 => ?_)
              clear hK15 K15
              refine any_done hK16 (by kernel_rfl) ?_
              clear hK16 K16
              go_wp2_with fail
              go_meet
              exact ⟨A53, rfl, ⟨HF.out.1.1, HF.out.1.2.1, HF.out.2⟩⟩
          · refine op_plain (some 6) (.alloc 23) 0 (by kernel_rfl) (by kernel_rfl) ?_
            go_wp2
            have st : Stay (fun _ => False) W1 (W1.alloc (.cells #[.int .i64 0, .int .i64 0, .int .i64 0] 23)) := (Stay.refl _ _).alloc _
            have hS' := hS.keep st
            have HO' := hide' (st.owns HO.out (fun _ _ h => h))
            have HBW' := hide' (Nat.le_trans HBW.out st.size)
            have HAb := hide' (Box.new (w := W1) ⟨0, 0, 0⟩ rfl)
            have HAG : Hid (w.heap.size ≤ W1.heap.size ∧ w.heap.size < W1.heap.size ∧ w.heap.size < W1.heap.size) := ⟨hS.1.size, hS.2.1.lt, hS.2.2.lt⟩
            have HAA : Hid (Apart (W1.alloc (.cells #[.int .i64 0, .int .i64 0, .int .i64 0] 23)) vO2 W1.heap.size) := Apart.new HO.out
            clear st
            clear hS
            have hS := hS'
            clear hS'
            clear HO
            have HO := HO'
            clear HO'
            clear HBW
            have HBW := HBW'
            clear HBW'
            obtain ⟨A61, hA'⟩ : ∃ B, B = W1.heap.size := ⟨_, rfl⟩
            rw [← hA'] at HAb HAA HAG
            rw [← hA']
            clear hA'
            obtain ⟨W60, hW⟩ : ∃ Wq, Wq = (W1.alloc (.cells #[.int .i64 0, .int .i64 0, .int .i64 0] 23)) := ⟨_, rfl⟩
            rw [← hW] at hS HAb HAA HO HBW
            rw [← hW]
            clear hW
            refine hK5 7 (by simp) _ _ hS (any_more fun K6 hK6 => ?_)
            clear hK5 K5
            refine any_pick (rs := [3, 4]) hK6 (by kernel_rfl) (fun K7 hK7 => ?_)
            clear hK6 K6
            intro i hi
            simp only [List.mem_cons, List.not_mem_nil, or_false] at hi
            rcases hi with rfl | rfl
            · refine op_plain (some 39) (.call { callee := Callee.builtin Builtin.append, args := #[.tmp 37, .tmp 38], argTypes := #[24, 24] }) 24 (by kernel_rfl) (by kernel_rfl) ?_
              have HSRC := hide' (isRowS_of (HA.out.stay0 hS.1).row)
              go_wp2_with (at_builtin; refine appS rfl _ _ 24 rfl Try.underlying24 Try.info3 rfl (by decide) (by decide) HO.out rfl HSRC.out rfl (one_ints _ _) (by have := HN.out; simp; omega) HBW.out ?_; intro v63 W62 ho hst hb; have HO2 := hide' ho; have HT2 := hide' hst; have HB2 := hide' hb; clear ho hst hb)
              have hS' := TwoB.own hS HT2.out HO.out HOB.out
              have HBW' := hide' (Nat.le_trans HBW.out HT2.out.size)
              have HAb' := hide' (HAb.out.stay HT2.out (fun h => HAA.out.2 h))
              have HAA' := hide' (HAA.out.step HT2.out HB2.out)
              clear HO HT2 HB2 HSRC
              clear hS
              have hS := hS'
              clear hS'
              clear HBW
              have HBW := HBW'
              clear HBW'
              clear HAb
              have HAb := HAb'
              clear HAb'
              clear HAA
              have HAA := HAA'
              clear HAA'
              have HO := HO2
              clear HO2
              refine hK7 3 (by simp) _ _ hS (any_more fun K8 hK8 => ?_)
              clear hK7 K7
              refine any_pick (rs := [4]) hK8 (by kernel_rfl) (fun K9 hK9 => ?_)
              clear hK8 K8
              intro i hi
              simp only [List.mem_cons, List.not_mem_nil, or_false] at hi
              rcases hi with rfl
              refine op_plain (some 40) (.buildSlice 24 2 #[(0, .const (Value.int IntKind.i64 0)), (1, .const (Value.int IntKind.i64 4))]) 24 (by kernel_rfl) (by kernel_rfl) ?_
              go_wp2
              have st : Stay (fun _ => False) W62 (W62.alloc (.cells #[.int .i64 0, .int .i64 4] 3)) := (Stay.refl _ _).alloc _
              have hS' := hS.keep st
              have HO' := hide' (st.owns HO.out (fun _ _ h => h))
              have HBW' := hide' (Nat.le_trans HBW.out st.size)
              have HAb' := hide' (HAb.out.keep st)
              have HAA' := hide' (HAA.out.alloc (.cells #[.int .i64 0, .int .i64 4] 3))
              have HR := hide' (isRowS_new W62 #[.int .i64 0, .int .i64 4] 3 1 2 rfl)
              have HRA : Hid (Apart (W62.alloc (.cells #[.int .i64 0, .int .i64 4] 3)) v63 W62.heap.size) := Apart.new HO.out
              clear st
              clear hS
              have hS := hS'
              clear hS'
              clear HO
              have HO := HO'
              clear HO'
              clear HBW
              have HBW := HBW'
              clear HBW'
              clear HAb
              have HAb := HAb'
              clear HAb'
              clear HAA
              have HAA := HAA'
              clear HAA'
              obtain ⟨BR65, hBR⟩ : ∃ B, B = W62.heap.size := ⟨_, rfl⟩
              rw [← hBR] at HR HRA
              rw [← hBR]
              clear hBR
              obtain ⟨W64, hW⟩ : ∃ Wq, Wq = (W62.alloc (.cells #[.int .i64 0, .int .i64 4] 3)) := ⟨_, rfl⟩
              rw [← hW] at hS HR HRA HO HBW HAb HAA
              rw [← hW]
              clear hW
              refine hK9 4 (by simp) _ _ hS (any_more fun K10 hK10 => ?_)
              clear hK9 K9
              refine any_pick (rs := [5]) hK10 (by kernel_rfl) (fun K11 hK11 => ?_)
              clear hK10 K10
              intro i hi
              simp only [List.mem_cons, List.not_mem_nil, or_false] at hi
              rcases hi with rfl
              refine op_plain (some 41) (.call { callee := Callee.builtin Builtin.append, args := #[.tmp 39, .tmp 40], argTypes := #[24, 24] }) 24 (by kernel_rfl) (by kernel_rfl) ?_
              go_wp2_with (at_builtin; refine appS rfl _ _ 24 rfl Try.underlying24 Try.info3 rfl (by decide) (by decide) HO.out rfl HR.out rfl (by intro u hu; simp at hu; rcases hu with rfl | rfl <;> rfl) (by have := HN.out; simp; omega) HBW.out ?_; intro v67 W66 ho hst hb; have HO2 := hide' ho; have HT2 := hide' hst; have HB2 := hide' hb; clear ho hst hb)
              have hS' := TwoB.own hS HT2.out HO.out HOB.out
              have HBW' := hide' (Nat.le_trans HBW.out HT2.out.size)
              have HR' := hide' (HR.out.stay HT2.out (fun k hk h => HRA.out.2 (by cases hk; exact h)))
              have HRA' := hide' (HRA.out.step HT2.out HB2.out)
              have HAb' := hide' (HAb.out.stay HT2.out (fun h => HAA.out.2 h))
              have HAA' := hide' (HAA.out.step HT2.out HB2.out)
              clear HO HT2 HB2
              clear hS
              have hS := hS'
              clear hS'
              clear HBW
              have HBW := HBW'
              clear HBW'
              clear HR
              have HR := HR'
              clear HR'
              clear HRA
              have HRA := HRA'
              clear HRA'
              clear HAb
              have HAb := HAb'
              clear HAb'
              clear HAA
              have HAA := HAA'
              clear HAA'
              have HO := HO2
              clear HO2
              refine hK11 5 (by simp) _ _ hS (any_more fun K12 hK12 => ?_)
              clear hK11 K11
              refine any_pick (rs := [6]) hK12 (by kernel_rfl) (fun K13 hK13 => ?_)
              clear hK12 K12
              intro i hi
              simp only [List.mem_cons, List.not_mem_nil, or_false] at hi
              rcases hi with rfl
              refine op_plain (some 42) (.call { callee := Callee.value (.func 11), args := #[.tmp 36, .tmp 41], argTypes := #[23, 24] }) 23 (by kernel_rfl) (by kernel_rfl) ?_
              go_wp2_with fail
              refine (HAP1.out _ _ (row_joined HO.out (by simp) HWF1.out)).mono ?_
              rintro e W68 ⟨rfl, hs⟩
              have hS' := hS.keep hs
              have HAb' := hide' (HAb.out.keep hs)
              clear hs
              clear hS
              have hS := hS'
              clear hS'
              clear HAb
              have HAb := HAb'
              clear HAb'
              go_wp2
              clear HAA
              clear HO HOB HBW HR HRA
              refine hK13 6 (by simp) _ _ hS (any_more fun K14 hK14 => ?_)
              clear hK13 K13
              refine any_pick (rs := [8]) hK14 (by kernel_rfl) (fun K15 hK15 => ?_)
              clear hK14 K14
              intro i hi
              simp only [List.mem_cons, List.not_mem_nil, or_false] at hi
              rcases hi with rfl
              refine op_plain none (.store 23 (.tmp 6) (.tmp 42)) 0 (by kernel_rfl) (by kernel_rfl) ?_
              obtain ⟨z0, z1, z2, e0, e1, e2⟩ := HAb.out
              go_wp2
              generalize hW2 : World.setCell (World.setCell (World.setCell _ _ _) _ _) _ _ = W69
              have HF : Hid (TwoB w w.heap.size p w.heap.size p W69 ∧ Box W69 A61 ⟨0, 0, 8⟩) := ⟨by rw [← hW2]; exact hS.putOther HAG.out, by rw [← hW2]; exact HAb.out.put ⟨0, 0, 8⟩⟩
              have hS' : TwoB w w.heap.size p w.heap.size p W69 := HF.out.1
              clear hS HAb z0 z1 z2 e0 e1 e2 hW2
              refine hK15 8 (by simp) _ _ hS' (any_more fun K16 hK16 => ?_)
              clear hK15 K15
              refine any_done hK16 (by kernel_rfl) ?_
              clear hK16 K16
              go_wp2_with fail
              go_meet
              exact ⟨A61, rfl, ⟨HF.out.1.1, HF.out.1.2.1, HF.out.2⟩⟩
            · refine op_plain (some 40) (.buildSlice 24 2 #[(0, .const (Value.int IntKind.i64 0)), (1, .const (Value.int IntKind.i64 4))]) 24 (by kernel_rfl) (by kernel_rfl) ?_
              go_wp2
              have st : Stay (fun _ => False) W60 (W60.alloc (.cells #[.int .i64 0, .int .i64 4] 3)) := (Stay.refl _ _).alloc _
              have hS' := hS.keep st
              have HO' := hide' (st.owns HO.out (fun _ _ h => h))
              have HBW' := hide' (Nat.le_trans HBW.out st.size)
              have HAb' := hide' (HAb.out.keep st)
              have HAA' := hide' (HAA.out.alloc (.cells #[.int .i64 0, .int .i64 4] 3))
              have HR := hide' (isRowS_new W60 #[.int .i64 0, .int .i64 4] 3 1 2 rfl)
              have HRA : Hid (Apart (W60.alloc (.cells #[.int .i64 0, .int .i64 4] 3)) vO2 W60.heap.size) := Apart.new HO.out
              clear st
              clear hS
              have hS := hS'
              clear hS'
              clear HO
              have HO := HO'
              clear HO'
              clear HBW
              have HBW := HBW'
              clear HBW'
              clear HAb
              have HAb := HAb'
              clear HAb'
              clear HAA
              have HAA := HAA'
              clear HAA'
              obtain ⟨BR71, hBR⟩ : ∃ B, B = W60.heap.size := ⟨_, rfl⟩
              rw [← hBR] at HR HRA
              rw [← hBR]
              clear hBR
              obtain ⟨W70, hW⟩ : ∃ Wq, Wq = (W60.alloc (.cells #[.int .i64 0, .int .i64 4] 3)) := ⟨_, rfl⟩
              rw [← hW] at hS HR HRA HO HBW HAb HAA
              rw [← hW]
              clear hW
              refine hK7 4 (by simp) _ _ hS (any_more fun K8 hK8 => ?_)
              clear hK7 K7
              refine any_pick (rs := [3]) hK8 (by kernel_rfl) (fun K9 hK9 => ?_)
              clear hK8 K8
              intro i hi
              simp only [List.mem_cons, List.not_mem_nil, or_false] at hi
              rcases hi with rfl
              refine op_plain (some 39) (.call { callee := Callee.builtin Builtin.append, args := #[.tmp 37, .tmp 38], argTypes := #[24, 24] }) 24 (by kernel_rfl) (by kernel_rfl) ?_
              have HSRC := hide' (isRowS_of (HA.out.stay0 hS.1).row)
              go_wp2_with (at_builtin; refine appS rfl _ _ 24 rfl Try.underlying24 Try.info3 rfl (by decide) (by decide) HO.out rfl HSRC.out rfl (one_ints _ _) (by have := HN.out; simp; omega) HBW.out ?_; intro v73 W72 ho hst hb; have HO2 := hide' ho; have HT2 := hide' hst; have HB2 := hide' hb; clear ho hst hb)
              have hS' := TwoB.own hS HT2.out HO.out HOB.out
              have HBW' := hide' (Nat.le_trans HBW.out HT2.out.size)
              have HR' := hide' (HR.out.stay HT2.out (fun k hk h => HRA.out.2 (by cases hk; exact h)))
              have HRA' := hide' (HRA.out.step HT2.out HB2.out)
              have HAb' := hide' (HAb.out.stay HT2.out (fun h => HAA.out.2 h))
              have HAA' := hide' (HAA.out.step HT2.out HB2.out)
              clear HO HT2 HB2 HSRC
              clear hS
              have hS := hS'
              clear hS'
              clear HBW
              have HBW := HBW'
              clear HBW'
              clear HR
              have HR := HR'
              clear HR'
              clear HRA
              have HRA := HRA'
              clear HRA'
              clear HAb
              have HAb := HAb'
              clear HAb'
              clear HAA
              have HAA := HAA'
              clear HAA'
              have HO := HO2
              clear HO2
              refine hK9 3 (by simp) _ _ hS (any_more fun K10 hK10 => ?_)
              clear hK9 K9
              refine any_pick (rs := [5]) hK10 (by kernel_rfl) (fun K11 hK11 => ?_)
              clear hK10 K10
              intro i hi
              simp only [List.mem_cons, List.not_mem_nil, or_false] at hi
              rcases hi with rfl
              refine op_plain (some 41) (.call { callee := Callee.builtin Builtin.append, args := #[.tmp 39, .tmp 40], argTypes := #[24, 24] }) 24 (by kernel_rfl) (by kernel_rfl) ?_
              go_wp2_with (at_builtin; refine appS rfl _ _ 24 rfl Try.underlying24 Try.info3 rfl (by decide) (by decide) HO.out rfl HR.out rfl (by intro u hu; simp at hu; rcases hu with rfl | rfl <;> rfl) (by have := HN.out; simp; omega) HBW.out ?_; intro v75 W74 ho hst hb; have HO2 := hide' ho; have HT2 := hide' hst; have HB2 := hide' hb; clear ho hst hb)
              have hS' := TwoB.own hS HT2.out HO.out HOB.out
              have HBW' := hide' (Nat.le_trans HBW.out HT2.out.size)
              have HR' := hide' (HR.out.stay HT2.out (fun k hk h => HRA.out.2 (by cases hk; exact h)))
              have HRA' := hide' (HRA.out.step HT2.out HB2.out)
              have HAb' := hide' (HAb.out.stay HT2.out (fun h => HAA.out.2 h))
              have HAA' := hide' (HAA.out.step HT2.out HB2.out)
              clear HO HT2 HB2
              clear hS
              have hS := hS'
              clear hS'
              clear HBW
              have HBW := HBW'
              clear HBW'
              clear HR
              have HR := HR'
              clear HR'
              clear HRA
              have HRA := HRA'
              clear HRA'
              clear HAb
              have HAb := HAb'
              clear HAb'
              clear HAA
              have HAA := HAA'
              clear HAA'
              have HO := HO2
              clear HO2
              refine hK11 5 (by simp) _ _ hS (any_more fun K12 hK12 => ?_)
              clear hK11 K11
              refine any_pick (rs := [6]) hK12 (by kernel_rfl) (fun K13 hK13 => ?_)
              clear hK12 K12
              intro i hi
              simp only [List.mem_cons, List.not_mem_nil, or_false] at hi
              rcases hi with rfl
              refine op_plain (some 42) (.call { callee := Callee.value (.func 11), args := #[.tmp 36, .tmp 41], argTypes := #[23, 24] }) 23 (by kernel_rfl) (by kernel_rfl) ?_
              go_wp2_with fail
              refine (HAP1.out _ _ (row_joined HO.out (by simp) HWF1.out)).mono ?_
              rintro e W76 ⟨rfl, hs⟩
              have hS' := hS.keep hs
              have HAb' := hide' (HAb.out.keep hs)
              clear hs
              clear hS
              have hS := hS'
              clear hS'
              clear HAb
              have HAb := HAb'
              clear HAb'
              go_wp2
              clear HAA
              clear HO HOB HBW HR HRA
              refine hK13 6 (by simp) _ _ hS (any_more fun K14 hK14 => ?_)
              clear hK13 K13
              refine any_pick (rs := [8]) hK14 (by kernel_rfl) (fun K15 hK15 => ?_)
              clear hK14 K14
              intro i hi
              simp only [List.mem_cons, List.not_mem_nil, or_false] at hi
              rcases hi with rfl
              refine op_plain none (.store 23 (.tmp 6) (.tmp 42)) 0 (by kernel_rfl) (by kernel_rfl) ?_
              obtain ⟨z0, z1, z2, e0, e1, e2⟩ := HAb.out
              go_wp2
              generalize hW2 : World.setCell (World.setCell (World.setCell _ _ _) _ _) _ _ = W77
              have HF : Hid (TwoB w w.heap.size p w.heap.size p W77 ∧ Box W77 A61 ⟨0, 0, 8⟩) := ⟨by rw [← hW2]; exact hS.putOther HAG.out, by rw [← hW2]; exact HAb.out.put ⟨0, 0, 8⟩⟩
              have hS' : TwoB w w.heap.size p w.heap.size p W77 := HF.out.1
              clear hS HAb z0 z1 z2 e0 e1 e2 hW2
              refine hK15 8 (by simp) _ _ hS' (any_more fun K16 hK16 => ?_)
              clear hK15 K15
              refine any_done hK16 (by kernel_rfl) ?_
              clear hK16 K16
              go_wp2_with fail
              go_meet
              exact ⟨A61, rfl, ⟨HF.out.1.1, HF.out.1.2.1, HF.out.2⟩⟩
        · refine op_plain (some 40) (.buildSlice 24 2 #[(0, .const (Value.int IntKind.i64 0)), (1, .const (Value.int IntKind.i64 4))]) 24 (by kernel_rfl) (by kernel_rfl) ?_
          go_wp2
          have st : Stay (fun _ => False) W (W.alloc (.cells #[.int .i64 0, .int .i64 4] 3)) := (Stay.refl _ _).alloc _
          have hS' := hS.keep st
          have HR := hide' (isRowS_new W #[.int .i64 0, .int .i64 4] 3 1 2 rfl)
          have HRA : Hid (Apart (W.alloc (.cells #[.int .i64 0, .int .i64 4] 3)) (.slice none 0 0) W.heap.size) := Apart.none _ _
          clear st
          clear hS
          have hS := hS'
          clear hS'
          obtain ⟨BR79, hBR⟩ : ∃ B, B = W.heap.size := ⟨_, rfl⟩
          rw [← hBR] at HR HRA
          rw [← hBR]
          clear hBR
          obtain ⟨W78, hW⟩ : ∃ Wq, Wq = (W.alloc (.cells #[.int .i64 0, .int .i64 4] 3)) := ⟨_, rfl⟩
          rw [← hW] at hS HR HRA
          rw [← hW]
          clear hW
          refine hK3 4 (by simp) _ _ hS (any_more fun K4 hK4 => ?_)
          clear hK3 K3
          refine any_pick (rs := [1, 7]) hK4 (by kernel_rfl) (fun K5 hK5 => ?_)
          clear hK4 K4
          intro i hi
          simp only [List.mem_cons, List.not_mem_nil, or_false] at hi
          rcases hi with rfl | rfl
          · refine op_plain (some 37) (.buildSlice 24 0 #[]) 24 (by kernel_rfl) (by kernel_rfl) ?_
            go_wp2
            have st : Stay (fun _ => False) W78 (W78.alloc (.cells #[] 3)) := (Stay.refl _ _).alloc _
            have hS' := hS.keep st
            have HR' := hide' (HR.out.stay st (fun _ _ h => h))
            have HRA' := hide' (HRA.out.fresh (.cells #[] 3))
            have HO := hide' (owns_newS W78 #[] 3 1 0 rfl (by decide))
            have HOB : Hid (w.heap.size < W78.heap.size ∧ w.heap.size < W78.heap.size ∧ w.heap.size ≤ W78.heap.size) := ⟨hS.2.1.lt, hS.2.2.lt, hS.1.size⟩
            have HBW : Hid (W78.heap.size ≤ (W78.alloc (.cells #[] 3)).heap.size) := st.size
            clear st
            clear hS
            have hS := hS'
            clear hS'
            clear HR
            have HR := HR'
            clear HR'
            clear HRA
            have HRA := HRA'
            clear HRA'
            obtain ⟨vO81, hvO⟩ : ∃ v, v = Value.slice (some ⟨W78.heap.size, 0, none⟩) 0 0 := ⟨_, rfl⟩
            rw [← hvO] at HO HRA
            rw [← hvO]
            clear hvO
            obtain ⟨B82, hB⟩ : ∃ B, B = W78.heap.size := ⟨_, rfl⟩
            rw [← hB] at HO HOB HBW
            clear hB
            obtain ⟨W80, hW⟩ : ∃ Wq, Wq = (W78.alloc (.cells #[] 3)) := ⟨_, rfl⟩
            rw [← hW] at hS HO HBW HR HRA
            rw [← hW]
            clear hW
            refine hK5 1 (by simp) _ _ hS (any_more fun K6 hK6 => ?_)
            clear hK5 K5
            refine any_pick (rs := [3, 7]) hK6 (by kernel_rfl) (fun K7 hK7 => ?_)
            clear hK6 K6
            intro i hi
            simp only [List.mem_cons, List.not_mem_nil, or_false] at hi
            rcases hi with rfl | rfl
            · refine op_plain (some 39) (.call { callee := Callee.builtin Builtin.append, args := #[.tmp 37, .tmp 38], argTypes := #[24, 24] }) 24 (by kernel_rfl) (by kernel_rfl) ?_
              have HSRC := hide' (isRowS_of (HA.out.stay0 hS.1).row)
              go_wp2_with (at_builtin; refine appS rfl _ _ 24 rfl Try.underlying24 Try.info3 rfl (by decide) (by decide) HO.out rfl HSRC.out rfl (one_ints _ _) (by have := HN.out; simp; omega) HBW.out ?_; intro v84 W83 ho hst hb; have HO2 := hide' ho; have HT2 := hide' hst; have HB2 := hide' hb; clear ho hst hb)
              have hS' := TwoB.own hS HT2.out HO.out HOB.out
              have HBW' := hide' (Nat.le_trans HBW.out HT2.out.size)
              have HR' := hide' (HR.out.stay HT2.out (fun k hk h => HRA.out.2 (by cases hk; exact h)))
              have HRA' := hide' (HRA.out.step HT2.out HB2.out)
              clear HO HT2 HB2 HSRC
              clear hS
              have hS := hS'
              clear hS'
              clear HBW
              have HBW := HBW'
              clear HBW'
              clear HR
              have HR := HR'
              clear HR'
              clear HRA
              have HRA := HRA'
              clear HRA'
              have HO := HO2
              clear HO2
              refine hK7 3 (by simp) _ _ hS (any_more fun K8 hK8 => ?_)
              clear hK7 K7
              refine any_pick (rs := [5, 7]) hK8 (by kernel_rfl) (fun K9 hK9 => ?_)
              clear hK8 K8
              intro i hi
              simp only [List.mem_cons, List.not_mem_nil, or_false] at hi
              rcases hi with rfl | rfl
              · refine op_plain (some 41) (.call { callee := Callee.builtin Builtin.append, args := #[.tmp 39, .tmp 40], argTypes := #[24, 24] }) 24 (by kernel_rfl) (by kernel_rfl) ?_
                go_wp2_with (at_builtin; refine appS rfl _ _ 24 rfl Try.underlying24 Try.info3 rfl (by decide) (by decide) HO.out rfl HR.out rfl (by intro u hu; simp at hu; rcases hu with rfl | rfl <;> rfl) (by have := HN.out; simp; omega) HBW.out ?_; intro v86 W85 ho hst hb; have HO2 := hide' ho; have HT2 := hide' hst; have HB2 := hide' hb; clear ho hst hb)
                have hS' := TwoB.own hS HT2.out HO.out HOB.out
                have HBW' := hide' (Nat.le_trans HBW.out HT2.out.size)
                have HR' := hide' (HR.out.stay HT2.out (fun k hk h => HRA.out.2 (by cases hk; exact h)))
                have HRA' := hide' (HRA.out.step HT2.out HB2.out)
                clear HO HT2 HB2
                clear hS
                have hS := hS'
                clear hS'
                clear HBW
                have HBW := HBW'
                clear HBW'
                clear HR
                have HR := HR'
                clear HR'
                clear HRA
                have HRA := HRA'
                clear HRA'
                have HO := HO2
                clear HO2
                refine hK9 5 (by simp) _ _ hS (any_more fun K10 hK10 => ?_)
                clear hK9 K9
                refine any_pick (rs := [6, 7]) hK10 (by kernel_rfl) (fun K11 hK11 => ?_)
                clear hK10 K10
                intro i hi
                simp only [List.mem_cons, List.not_mem_nil, or_false] at hi
                rcases hi with rfl | rfl
                · refine op_plain (some 42) (.call { callee := Callee.value (.func 11), args := #[.tmp 36, .tmp 41], argTypes := #[23, 24] }) 23 (by kernel_rfl) (by kernel_rfl) ?_
                  go_wp2_with fail
                  refine (HAP1.out _ _ (row_joined HO.out (by simp) HWF1.out)).mono ?_
                  rintro e W87 ⟨rfl, hs⟩
                  have hS' := hS.keep hs
                  clear hs
                  clear hS
                  have hS := hS'
                  clear hS'
                  go_wp2
                  clear HO HOB HBW HR HRA
                  refine hK11 6 (by simp) _ _ hS (any_more fun K12 hK12 => ?_)
                  clear hK11 K11
                  refine any_pick (rs := [7]) hK12 (by kernel_rfl) (fun K13 hK13 => ?_)
                  clear hK12 K12
                  intro i hi
                  simp only [List.mem_cons, List.not_mem_nil, or_false] at hi
                  rcases hi with rfl
                  refine op_plain (some 6) (.alloc 23) 0 (by kernel_rfl) (by kernel_rfl) ?_
                  go_wp2
                  have st : Stay (fun _ => False) W87 (W87.alloc (.cells #[.int .i64 0, .int .i64 0, .int .i64 0] 23)) := (Stay.refl _ _).alloc _
                  have hS' := hS.keep st
                  have HAb := hide' (Box.new (w := W87) ⟨0, 0, 0⟩ rfl)
                  have HAG : Hid (w.heap.size ≤ W87.heap.size ∧ w.heap.size < W87.heap.size ∧ w.heap.size < W87.heap.size) := ⟨hS.1.size, hS.2.1.lt, hS.2.2.lt⟩
                  have HAA : Hid (Apart (W87.alloc (.cells #[.int .i64 0, .int .i64 0, .int .i64 0] 23)) (.slice none 0 0) W87.heap.size) := Apart.none _ _
                  clear st
                  clear hS
                  have hS := hS'
                  clear hS'
                  obtain ⟨A89, hA'⟩ : ∃ B, B = W87.heap.size := ⟨_, rfl⟩
                  rw [← hA'] at HAb HAA HAG
                  rw [← hA']
                  clear hA'
                  obtain ⟨W88, hW⟩ : ∃ Wq, Wq = (W87.alloc (.cells #[.int .i64 0, .int .i64 0, .int .i64 0] 23)) := ⟨_, rfl⟩
                  rw [← hW] at hS HAb HAA
                  rw [← hW]
                  clear hW
                  refine hK13 7 (by simp) _ _ hS (any_more fun K14 hK14 => ?_)
                  clear hK13 K13
                  refine any_pick (rs := [8]) hK14 (by kernel_rfl) (fun K15 hK15 => ?_)
                  clear hK14 K14
                  intro i hi
                  simp only [List.mem_cons, List.not_mem_nil, or_false] at hi
                  rcases hi with rfl
                  refine op_plain none (.store 23 (.tmp 6) (.tmp 42)) 0 (by kernel_rfl) (by kernel_rfl) ?_
                  obtain ⟨z0, z1, z2, e0, e1, e2⟩ := HAb.out
                  go_wp2
                  generalize hW2 : World.setCell (World.setCell (World.setCell _ _ _) _ _) _ _ = W90
                  have HF : Hid (TwoB w w.heap.size p w.heap.size p W90 ∧ Box W90 A89 ⟨0, 0, 8⟩) := ⟨by rw [← hW2]; exact hS.putOther HAG.out, by rw [← hW2]; exact HAb.out.put ⟨0, 0, 8⟩⟩
                  have hS' : TwoB w w.heap.size p w.heap.size p W90 := HF.out.1
                  clear hS HAb z0 z1 z2 e0 e1 e2 hW2
                  refine hK15 8 (by simp) _ _ hS' (any_more fun K16 hK16 => ?_)
                  clear hK15 K15
                  refine any_done hK16 (by kernel_rfl) ?_
                  clear hK16 K16
                  go_wp2_with fail
                  go_meet
                  exact ⟨A89, rfl, ⟨HF.out.1.1, HF.out.1.2.1, HF.out.2⟩⟩
                · refine op_plain (some 6) (.alloc 23) 0 (by kernel_rfl) (by kernel_rfl) ?_
                  go_wp2
                  have st : Stay (fun _ => False) W85 (W85.alloc (.cells #[.int .i64 0, .int .i64 0, .int .i64 0] 23)) := (Stay.refl _ _).alloc _
                  have hS' := hS.keep st
                  have HO' := hide' (st.owns HO.out (fun _ _ h => h))
                  have HBW' := hide' (Nat.le_trans HBW.out st.size)
                  have HR' := hide' (HR.out.stay st (fun _ _ h => h))
                  have HRA' := hide' (HRA.out.alloc (.cells #[.int .i64 0, .int .i64 0, .int .i64 0] 23))
                  have HAb := hide' (Box.new (w := W85) ⟨0, 0, 0⟩ rfl)
                  have HAG : Hid (w.heap.size ≤ W85.heap.size ∧ w.heap.size < W85.heap.size ∧ w.heap.size < W85.heap.size) := ⟨hS.1.size, hS.2.1.lt, hS.2.2.lt⟩
                  have HAA : Hid (Apart (W85.alloc (.cells #[.int .i64 0, .int .i64 0, .int .i64 0] 23)) v86 W85.heap.size) := Apart.new HO.out
                  clear st
                  clear hS
                  have hS := hS'
                  clear hS'
                  clear HO
                  have HO := HO'
                  clear HO'
                  clear HBW
                  have HBW := HBW'
                  clear HBW'
                  clear HR
                  have HR := HR'
                  clear HR'
                  clear HRA
                  have HRA := HRA'
                  clear HRA'
                  obtain ⟨A92, hA'⟩ : ∃ B, B = W85.heap.size := ⟨_, rfl⟩
                  rw [← hA'] at HAb HAA HAG
                  rw [← hA']
                  clear hA'
                  obtain ⟨W91, hW⟩ : ∃ Wq, Wq = (W85.alloc (.cells #[.int .i64 0, .int .i64 0, .int .i64 0] 23)) := ⟨_, rfl⟩
                  rw [← hW] at hS HAb HAA HO HBW HR HRA
                  rw [← hW]
                  clear hW
                  refine hK11 7 (by simp) _ _ hS (any_more fun K12 hK12 => ?_)
                  clear hK11 K11
                  refine any_pick (rs := [6]) hK12 (by kernel_rfl) (fun K13 hK13 => ?_)
                  clear hK12 K12
                  intro i hi
                  simp only [List.mem_cons, List.not_mem_nil, or_false] at hi
                  rcases hi with rfl
                  refine op_plain (some 42) (.call { callee := Callee.value (.func 11), args := #[.tmp 36, .tmp 41], argTypes := #[23, 24] }) 23 (by kernel_rfl) (by kernel_rfl) ?_
                  go_wp2_with fail
                  refine (HAP1.out _ _ (row_joined HO.out (by simp) HWF1.out)).mono ?_
                  rintro e W93 ⟨rfl, hs⟩
                  have hS' := hS.keep hs
                  have HAb' := hide' (HAb.out.keep hs)
                  clear hs
                  clear hS
                  have hS := hS'
                  clear hS'
                  clear HAb
                  have HAb := HAb'
                  clear HAb'
                  go_wp2
                  clear HAA
                  clear HO HOB HBW HR HRA
                  refine hK13 6 (by simp) _ _ hS (any_more fun K14 hK14 => ?_)
                  clear hK13 K13
                  refine any_pick (rs := [8]) hK14 (by kernel_rfl) (fun K15 hK15 => ?_)
                  clear hK14 K14
                  intro i hi
                  simp only [List.mem_cons, List.not_mem_nil, or_false] at hi
                  rcases hi with rfl
                  refine op_plain none (.store 23 (.tmp 6) (.tmp 42)) 0 (by kernel_rfl) (by kernel_rfl) ?_
                  obtain ⟨z0, z1, z2, e0, e1, e2⟩ := HAb.out
                  go_wp2
                  generalize hW2 : World.setCell (World.setCell (World.setCell _ _ _) _ _) _ _ = W94
                  have HF : Hid (TwoB w w.heap.size p w.heap.size p W94 ∧ Box W94 A92 ⟨0, 0, 8⟩) := ⟨by rw [← hW2]; exact hS.putOther HAG.out, by rw [← hW2]; exact HAb.out.put ⟨0, 0, 8⟩⟩
                  have hS' : TwoB w w.heap.size p w.heap.size p W94 := HF.out.1
                  clear hS HAb z0 z1 z2 e0 e1 e2 hW2
                  refine hK15 8 (by simp) _ _ hS' (any_more fun K16 hK16 => ?_)
                  clear hK15 K15
                  refine any_done hK16 (by kernel_rfl) ?_
                  clear hK16 K16
                  go_wp2_with fail
                  go_meet
                  exact ⟨A92, rfl, ⟨HF.out.1.1, HF.out.1.2.1, HF.out.2⟩⟩
              · refine op_plain (some 6) (.alloc 23) 0 (by kernel_rfl) (by kernel_rfl) ?_
                go_wp2
                have st : Stay (fun _ => False) W83 (W83.alloc (.cells #[.int .i64 0, .int .i64 0, .int .i64 0] 23)) := (Stay.refl _ _).alloc _
                have hS' := hS.keep st
                have HO' := hide' (st.owns HO.out (fun _ _ h => h))
                have HBW' := hide' (Nat.le_trans HBW.out st.size)
                have HR' := hide' (HR.out.stay st (fun _ _ h => h))
                have HRA' := hide' (HRA.out.alloc (.cells #[.int .i64 0, .int .i64 0, .int .i64 0] 23))
                have HAb := hide' (Box.new (w := W83) ⟨0, 0, 0⟩ rfl)
                have HAG : Hid (w.heap.size ≤ W83.heap.size ∧ w.heap.size < W83.heap.size ∧ w.heap.size < W83.heap.size) := ⟨hS.1.size, hS.2.1.lt, hS.2.2.lt⟩
                have HAA : Hid (Apart (W83.alloc (.cells #[.int .i64 0, .int .i64 0, .int .i64 0] 23)) v84 W83.heap.size) := Apart.new HO.out
                clear st
                clear hS
                have hS := hS'
                clear hS'
                clear HO
                have HO := HO'
                clear HO'
                clear HBW
                have HBW := HBW'
                clear HBW'
                clear HR
                have HR := HR'
                clear HR'
                clear HRA
                have HRA := HRA'
                clear HRA'
                obtain ⟨A96, hA'⟩ : ∃ B, B = W83.heap.size := ⟨_, rfl⟩
                rw [← hA'] at HAb HAA HAG
                rw [← hA']
                clear hA'
                obtain ⟨W95, hW⟩ : ∃ Wq, Wq = (W83.alloc (.cells #[.int .i64 0, .int .i64 0, .int .i64 0] 23)) := ⟨_, rfl⟩
                rw [← hW] at hS HAb HAA HO HBW HR HRA
                rw [← hW]
                clear hW
                refine hK9 7 (by simp) _ _ hS (any_more fun K10 hK10 => ?_)
                clear hK9 K9
                refine any_pick (rs := [5]) hK10 (by kernel_rfl) (fun K11 hK11 => ?_)
                clear hK10 K10
                intro i hi
                simp only [List.mem_cons, List.not_mem_nil, or_false] at hi
                rcases hi with rfl
                refine op_plain (some 41) (.call { callee := Callee.builtin Builtin.append, args := #[.tmp 39, .tmp 40], argTypes := #[24, 24] }) 24 (by kernel_rfl) (by kernel_rfl) ?_
                go_wp2_with (at_builtin; refine appS rfl _ _ 24 rfl Try.underlying24 Try.info3 rfl (by decide) (by decide) HO.out rfl HR.out rfl (by intro u hu; simp at hu; rcases hu with rfl | rfl <;> rfl) (by have := HN.out; simp; omega) HBW.out ?_; intro v98 W97 ho hst hb; have HO2 := hide' ho; have HT2 := hide' hst; have HB2 := hide' hb; clear ho hst hb)
                have hS' := TwoB.own hS HT2.out HO.out HOB.out
                have HBW' := hide' (Nat.le_trans HBW.out HT2.out.size)
                have HR' := hide' (HR.out.stay HT2.out (fun k hk h => HRA.out.2 (by cases hk; exact h)))
                have HRA' := hide' (HRA.out.step HT2.out HB2.out)
                have HAb' := hide' (HAb.out.stay HT2.out (fun h => HAA.out.2 h))
                have HAA' := hide' (HAA.out.step HT2.out HB2.out)
                clear HO HT2 HB2
                clear hS
                have hS := hS'
                clear hS'
                clear HBW
                have HBW := HBW'
                clear HBW'
                clear HR
                have HR := HR'
                clear HR'
                clear HRA
                have HRA := HRA'
                clear HRA'
                clear HAb
                have HAb := HAb'
                clear HAb'
                clear HAA
                have HAA := HAA'
                clear HAA'
                have HO := HO2
                clear HO2
                refine hK11 5 (by simp) _ _ hS (any_more fun K12 hK12 => ?_)
                clear hK11 K11
                refine any_pick (rs := [6]) hK12 (by kernel_rfl) (fun K13 hK13 => ?_)
                clear hK12 K12
                intro i hi
                simp only [List.mem_cons, List.not_mem_nil, or_false] at hi
                rcases hi with rfl
                refine op_plain (some 42) (.call { callee := Callee.value (.func 11), args := #[.tmp 36, .tmp 41], argTypes := #[23, 24] }) 23 (by kernel_rfl) (by kernel_rfl) ?_
                go_wp2_with fail
                refine (HAP1.out _ _ (row_joined HO.out (by simp) HWF1.out)).mono ?_
                rintro e W99 ⟨rfl, hs⟩
                have hS' := hS.keep hs
                have HAb' := hide' (HAb.out.keep hs)
                clear hs
                clear hS
                have hS := hS'
                clear hS'
                clear HAb
                have HAb := HAb'
                clear HAb'
                go_wp2
                clear HAA
                clear HO HOB HBW HR HRA
                refine hK13 6 (by simp) _ _ hS (any_more fun K14 hK14 => ?_)
                clear hK13 K13
                refine any_pick (rs := [8]) hK14 (by kernel_rfl) (fun K15 hK15 => ?_)
                clear hK14 K14
                intro i hi
                simp only [List.mem_cons, List.not_mem_nil, or_false] at hi
                rcases hi with rfl
                refine op_plain none (.store 23 (.tmp 6) (.tmp 42)) 0 (by kernel_rfl) (by kernel_rfl) ?_
                obtain ⟨z0, z1, z2, e0, e1, e2⟩ := HAb.out
                go_wp2
                generalize hW2 : World.setCell (World.setCell (World.setCell _ _ _) _ _) _ _ = W100
                have HF : Hid (TwoB w w.heap.size p w.heap.size p W100 ∧ Box W100 A96 ⟨0, 0, 8⟩) := ⟨by rw [← hW2]; exact hS.putOther HAG.out, by rw [← hW2]; exact HAb.out.put ⟨0, 0, 8⟩⟩
                have hS' : TwoB w w.heap.size p w.heap.size p W100 := HF.out.1
                clear hS HAb z0 z1 z2 e0 e1 e2 hW2
                refine hK15 8 (by simp) _ _ hS' (any_more fun K16 hK16 => ?_)
                clear hK15 K15
                refine any_done hK16 (by kernel_rfl) ?_
                clear hK16 K16
                go_wp2_with fail
                go_meet
                exact ⟨A96, rfl, ⟨HF.out.1.1, HF.out.1.2.1, HF.out.2⟩⟩
            · refine op_plain (some 6) (.alloc 23) 0 (by kernel_rfl) (by kernel_rfl) ?_
              go_wp2
              have st : Stay (fun _ => False) W80 (W80.alloc (.cells #[.int .i64 0, .int .i64 0, .int .i64 0] 23)) := (Stay.refl _ _).alloc _
              have hS' := hS.keep st
              have HO' := hide' (st.owns HO.out (fun _ _ h => h))
              have HBW' := hide' (Nat.le_trans HBW.out st.size)
              have HR' := hide' (HR.out.stay st (fun _ _ h => h))
              have HRA' := hide' (HRA.out.alloc (.cells #[.int .i64 0, .int .i64 0, .int .i64 0] 23))
              have HAb := hide' (Box.new (w := W80) ⟨0, 0, 0⟩ rfl)
              have HAG : Hid (w.heap.size ≤ W80.heap.size ∧ w.heap.size < W80.heap.size ∧ w.heap.size < W80.heap.size) := ⟨hS.1.size, hS.2.1.lt, hS.2.2.lt⟩
              have HAA : Hid (Apart (W80.alloc (.cells #[.int .i64 0, .int .i64 0, .int .i64 0] 23)) vO81 W80.heap.size) := Apart.new HO.out
              clear st
              clear hS
              have hS := hS'
              clear hS'
              clear HO
              have HO := HO'
              clear HO'
              clear HBW
              have HBW := HBW'
              clear HBW'
              clear HR
              have HR := HR'
              clear HR'
              clear HRA
              have HRA := HRA'
              clear HRA'
              obtain ⟨A102, hA'⟩ : ∃ B, B = W80.heap.size := ⟨_, rfl⟩
              rw [← hA'] at HAb HAA HAG
              rw [← hA']
              clear hA'
              obtain ⟨W101, hW⟩ : ∃ Wq, Wq = (W80.alloc (.cells #[.int .i64 0, .int .i64 0, .int .i64 0] 23)) := ⟨_, rfl⟩
              rw [← hW] at hS HAb HAA HO HBW HR HRA
              rw [← hW]
              clear hW
              refine hK7 7 (by simp) _ _ hS (any_more fun K8 hK8 => ?_)
              clear hK7 K7
              refine any_pick (rs := [3]) hK8 (by kernel_rfl) (fun K9 hK9 => ?_)
              clear hK8 K8
              intro i hi
              simp only [List.mem_cons, List.not_mem_nil, or_false] at hi
              rcases hi with rfl
              refine op_plain (some 39) (.call { callee := Callee.builtin Builtin.append, args := #[.tmp 37, .tmp 38], argTypes := #[24, 24] }) 24 (by kernel_rfl) (by kernel_rfl) ?_
              have HSRC := hide' (isRowS_of (HA.out.stay0 hS.1).row)
              go_wp2_with (at_builtin; refine appS rfl _ _ 24 rfl Try.underlying24 Try.info3 rfl (by decide) (by decide) HO.out rfl HSRC.out rfl (one_ints _ _) (by have := HN.out; simp; omega) HBW.out ?_; intro v104 W103 ho hst hb; have HO2 := hide' ho; have HT2 := hide' hst; have HB2 := hide' hb; clear ho hst hb)
              have hS' := TwoB.own hS HT2.out HO.out HOB.out
              have HBW' := hide' (Nat.le_trans HBW.out HT2.out.size)
              have HR' := hide' (HR.out.stay HT2.out (fun k hk h => HRA.out.2 (by cases hk; exact h)))
              have HRA' := hide' (HRA.out.step HT2.out HB2.out)
              have HAb' := hide' (HAb.out.stay HT2.out (fun h => HAA.out.2 h))
              have HAA' := hide' (HAA.out.step HT2.out HB2.out)
              clear HO HT2 HB2 HSRC
              clear hS
              have hS := hS'
              clear hS'
              clear HBW
              have HBW := HBW'
              clear HBW'
              clear HR
              have HR := HR'
              clear HR'
              clear HRA
              have HRA := HRA'
              clear HRA'
              clear HAb
              have HAb := HAb'
              clear HAb'
              clear HAA
              have HAA := HAA'
              clear HAA'
              have HO := HO2
              clear HO2
              refine hK9 3 (by simp) _ _ hS (any_more fun K10 hK10 => ?_)
              clear hK9 K9
              refine any_pick (rs := [5]) hK10 (by kernel_rfl) (fun K11 hK11 => ?_)
              clear hK10 K10
              intro i hi
              simp only [List.mem_cons, List.not_mem_nil, or_false] at hi
              rcases hi with rfl
              refine op_plain (some 41) (.call { callee := Callee.builtin Builtin.append, args := #[.tmp 39, .tmp 40], argTypes := #[24, 24] }) 24 (by kernel_rfl) (by kernel_rfl) ?_
              go_wp2_with (at_builtin; refine appS rfl _ _ 24 rfl Try.underlying24 Try.info3 rfl (by decide) (by decide) HO.out rfl HR.out rfl (by intro u hu; simp at hu; rcases hu with rfl | rfl <;> rfl) (by have := HN.out; simp; omega) HBW.out ?_; intro v106 W105 ho hst hb; have HO2 := hide' ho; have HT2 := hide' hst; have HB2 := hide' hb; clear ho hst hb)
              have hS' := TwoB.own hS HT2.out HO.out HOB.out
              have HBW' := hide' (Nat.le_trans HBW.out HT2.out.size)
              have HR' := hide' (HR.out.stay HT2.out (fun k hk h => HRA.out.2 (by cases hk; exact h)))
              have HRA' := hide' (HRA.out.step HT2.out HB2.out)
              have HAb' := hide' (HAb.out.stay HT2.out (fun h => HAA.out.2 h))
              have HAA' := hide' (HAA.out.step HT2.out HB2.out)
              clear HO HT2 HB2
              clear hS
              have hS := hS'
              clear hS'
              clear HBW
              have HBW := HBW'
              clear HBW'
              clear HR
              have HR := HR'
              clear HR'
              clear HRA
              have HRA := HRA'
              clear HRA'
              clear HAb
              have HAb := HAb'
              clear HAb'
              clear HAA
              have HAA := HAA'
              clear HAA'
              have HO := HO2
              clear HO2
              refine hK11 5 (by simp) _ _ hS (any_more fun K12 hK12 => ?_)
              clear hK11 K11
              refine any_pick (rs := [6]) hK12 (by kernel_rfl) (fun K13 hK13 => ?_)
              clear hK12 K12
              intro i hi
              simp only [List.mem_cons, List.not_mem_nil, or_false] at hi
              rcases hi with rfl
              refine op_plain (some 42) (.call { callee := Callee.value (.func 11), args := #[.tmp 36, .tmp 41], argTypes := #[23, 24] }) 23 (by kernel_rfl) (by kernel_rfl) ?_
              go_wp2_with fail
              refine (HAP1.out _ _ (row_joined HO.out (by simp) HWF1.out)).mono ?_
              rintro e W107 ⟨rfl, hs⟩
              have hS' := hS.keep hs
              have HAb' := hide' (HAb.out.keep hs)
              clear hs
              clear hS
              have hS := hS'
              clear hS'
              clear HAb
              have HAb := HAb'
              clear HAb'
              go_wp2
              clear HAA
              clear HO HOB HBW HR HRA
              refine hK13 6 (by simp) _ _ hS (any_more fun K14 hK14 => ?_)
              clear hK13 K13
              refine any_pick (rs := [8]) hK14 (by kernel_rfl) (fun K15 hK15 => ?_)
              clear hK14 K14
              intro i hi
              simp only [List.mem_cons, List.not_mem_nil, or_false] at hi
              rcases hi with rfl
              refine op_plain none (.store 23 (.tmp 6) (.tmp 42)) 0 (by kernel_rfl) (by kernel_rfl) ?_
              obtain ⟨z0, z1, z2, e0, e1, e2⟩ := HAb.out
              go_wp2
              generalize hW2 : World.setCell (World.setCell (World.setCell _ _ _) _ _) _ _ = W108
              have HF : Hid (TwoB w w.heap.size p w.heap.size p W108 ∧ Box W108 A102 ⟨0, 0, 8⟩) := ⟨by rw [← hW2]; exact hS.putOther HAG.out, by rw [← hW2]; exact HAb.out.put ⟨0, 0, 8⟩⟩
              have hS' : TwoB w w.heap.size p w.heap.size p W108 := HF.out.1
              clear hS HAb z0 z1 z2 e0 e1 e2 hW2
              refine hK15 8 (by simp) _ _ hS' (any_more fun K16 hK16 => ?_)
              clear hK15 K15
              refine any_done hK16 (by kernel_rfl) ?_
              clear hK16 K16
              go_wp2_with fail
              go_meet
              exact ⟨A102, rfl, ⟨HF.out.1.1, HF.out.1.2.1, HF.out.2⟩⟩
          · refine op_plain (some 6) (.alloc 23) 0 (by kernel_rfl) (by kernel_rfl) ?_
            go_wp2
            have st : Stay (fun _ => False) W78 (W78.alloc (.cells #[.int .i64 0, .int .i64 0, .int .i64 0] 23)) := (Stay.refl _ _).alloc _
            have hS' := hS.keep st
            have HR' := hide' (HR.out.stay st (fun _ _ h => h))
            have HRA' := hide' (HRA.out.alloc (.cells #[.int .i64 0, .int .i64 0, .int .i64 0] 23))
            have HAb := hide' (Box.new (w := W78) ⟨0, 0, 0⟩ rfl)
            have HAG : Hid (w.heap.size ≤ W78.heap.size ∧ w.heap.size < W78.heap.size ∧ w.heap.size < W78.heap.size) := ⟨hS.1.size, hS.2.1.lt, hS.2.2.lt⟩
            have HAA : Hid (Apart (W78.alloc (.cells #[.int .i64 0, .int .i64 0, .int .i64 0] 23)) (.slice none 0 0) W78.heap.size) := Apart.none _ _
            clear st
            clear hS
            have hS := hS'
            clear hS'
            clear HR
            have HR := HR'
            clear HR'
            clear HRA
            have HRA := HRA'
            clear HRA'
            obtain ⟨A110, hA'⟩ : ∃ B, B = W78.heap.size := ⟨_, rfl⟩
            rw [← hA'] at HAb HAA HAG
            rw [← hA']
            clear hA'
            obtain ⟨W109, hW⟩ : ∃ Wq, Wq = (W78.alloc (.cells #[.int .i64 0, .int .i64 0, .int .i64 0] 23)) := ⟨_, rfl⟩
            rw [← hW] at hS HAb HAA HR HRA
            rw [← hW]
            clear hW
            refine hK5 7 (by simp) _ _ hS (any_more fun K6 hK6 => ?_)
            clear hK5 K5
            refine any_pick (rs := [1]) hK6 (by kernel_rfl) (fun K7 hK7 => ?_)
            clear hK6 K6
            intro i hi
            simp only [List.mem_cons, List.not_mem_nil, or_false] at hi
            rcases hi with rfl
            refine op_plain (some 37) (.buildSlice 24 0 #[]) 24 (by kernel_rfl) (by kernel_rfl) ?_
            go_wp2
            have st : Stay (fun _ => False) W109 (W109.alloc (.cells #[] 3)) := (Stay.refl _ _).alloc _
            have hS' := hS.keep st
            have HR' := hide' (HR.out.stay st (fun _ _ h => h))
            have HRA' := hide' (HRA.out.fresh (.cells #[] 3))
            have HAb' := hide' (HAb.out.keep st)
            have HAA' := hide' (HAA.out.fresh (.cells #[] 3))
            have HO := hide' (owns_newS W109 #[] 3 1 0 rfl (by decide))
            have HOB : Hid (w.heap.size < W109.heap.size ∧ w.heap.size < W109.heap.size ∧ w.heap.size ≤ W109.heap.size) := ⟨hS.2.1.lt, hS.2.2.lt, hS.1.size⟩
            have HBW : Hid (W109.heap.size ≤ (W109.alloc (.cells #[] 3)).heap.size) := st.size
            clear st
            clear hS
            have hS := hS'
            clear hS'
            clear HR
            have HR := HR'
            clear HR'
            clear HRA
            have HRA := HRA'
            clear HRA'
            clear HAb
            have HAb := HAb'
            clear HAb'
            clear HAA
            have HAA := HAA'
            clear HAA'
            obtain ⟨vO112, hvO⟩ : ∃ v, v = Value.slice (some ⟨W109.heap.size, 0, none⟩) 0 0 := ⟨_, rfl⟩
            rw [← hvO] at HO HRA HAA
            rw [← hvO]
            clear hvO
            obtain ⟨B113, hB⟩ : ∃ B, B = W109.heap.size := ⟨_, rfl⟩
            rw [← hB] at HO HOB HBW
            clear hB
            obtain ⟨W111, hW⟩ : ∃ Wq, Wq = (W109.alloc (.cells #[] 3)) := ⟨_, rfl⟩
            rw [← hW] at hS HO HBW HR HRA HAb HAA
            rw [← hW]
            clear hW
            refine hK7 1 (by simp) _ _ hS (any_more fun K8 hK8 => ?_)
            clear hK7 K7
            refine any_pick (rs := [3]) hK8 (by kernel_rfl) (fun K9 hK9 => ?_)
            clear hK8 K8
            intro i hi
            simp only [List.mem_cons, List.not_mem_nil, or_false] at hi
            rcases hi with rfl
            refine op_plain (some 39) (.call { callee := Callee.builtin Builtin.append, args := #[.tmp 37, .tmp 38], argTypes := #[24, 24] }) 24 (by kernel_rfl) (by kernel_rfl) ?_
            have HSRC := hide' (isRowS_of (HA.out.stay0 hS.1).row)
            go_wp2_with (at_builtin; refine appS rfl _ _ 24 rfl Try.underlying24 Try.info3 rfl (by decide) (by decide) HO.out rfl HSRC.out rfl (one_ints _ _) (by have := HN.out; simp; omega) HBW.out ?_; intro v115 W114 ho hst hb; have HO2 := hide' ho; have HT2 := hide' hst; have HB2 := hide' hb; clear ho hst hb)
            have hS' := TwoB.own hS HT2.out HO.out HOB.out
            have HBW' := hide' (Nat.le_trans HBW.out HT2.out.size)
            have HR' := hide' (HR.out.stay HT2.out (fun k hk h => HRA.out.2 (by cases hk; exact h)))
            have HRA' := hide' (HRA.out.step HT2.out HB2.out)
            have HAb' := hide' (HAb.out.stay HT2.out (fun h => HAA.out.2 h))
            have HAA' := hide' (HAA.out.step HT2.out HB2.out)
            clear HO HT2 HB2 HSRC
            clear hS
            have hS := hS'
            clear hS'
            clear HBW
            have HBW := HBW'
            clear HBW'
            clear HR
            have HR := HR'
            clear HR'
            clear HRA
            have HRA := HRA'
            clear HRA'
            clear HAb
            have HAb := HAb'
            clear HAb'
            clear HAA
            have HAA := HAA'
            clear HAA'
            have HO := HO2
            clear HO2
            refine hK9 3 (by simp) _ _ hS (any_more fun K10 hK10 => ?_)
            clear hK9 K9
            refine any_pick (rs := [5]) hK10 (by kernel_rfl) (fun K11 hK11 => ?_)
            clear hK10 K10
            intro i hi
            simp only [List.mem_cons, List.not_mem_nil, or_false] at hi
            rcases hi with rfl
            refine op_plain (some 41) (.call { callee := Callee.builtin Builtin.append, args := #[.tmp 39, .tmp 40], argTypes := #[24, 24] }) 24 (by kernel_rfl) (by kernel_rfl) ?_
            go_wp2_with (at_builtin; refine appS rfl _ _ 24 rfl Try.underlying24 Try.info3 rfl (by decide) (by decide) HO.out rfl HR.out rfl (by intro u hu; simp at hu; rcases hu with rfl | rfl <;> rfl) (by have := HN.out; simp; omega) HBW.out ?_; intro v117 W116 ho hst hb; have HO2 := hide' ho; have HT2 := hide' hst; have HB2 := hide' hb; clear ho hst hb)
            have hS' := TwoB.own hS HT2.out HO.out HOB.out
            have HBW' := hide' (Nat.le_trans HBW.out HT2.out.size)
            have HR' := hide' (HR.out.stay HT2.out (fun k hk h => HRA.out.2 (by cases hk; exact h)))
            have HRA' := hide' (HRA.out.step HT2.out HB2.out)
            have HAb' := hide' (HAb.out.stay HT2.out (fun h => HAA.out.2 h))
            have HAA' := hide' (HAA.out.step HT2.out HB2.out)
            clear HO HT2 HB2
            clear hS
            have hS := hS'
            clear hS'
            clear HBW
            have HBW := HBW'
            clear HBW'
            clear HR
            have HR := HR'
            clear HR'
            clear HRA
            have HRA := HRA'
            clear HRA'
            clear HAb
            have HAb := HAb'
            clear HAb'
            clear HAA
            have HAA := HAA'
            clear HAA'
            have HO := HO2
            clear HO2
            refine hK11 5 (by simp) _ _ hS (any_more fun K12 hK12 => ?_)
            clear hK11 K11
            refine any_pick (rs := [6]) hK12 (by kernel_rfl) (fun K13 hK13 => ?_)
            clear hK12 K12
            intro i hi
            simp only [List.mem_cons, List.not_mem_nil, or_false] at hi
            rcases hi with rfl
            refine op_plain (some 42) (.call { callee := Callee.value (.func 11), args := #[.tmp 36, .tmp 41], argTypes := #[23, 24] }) 23 (by kernel_rfl) (by kernel_rfl) ?_
            go_wp2_with fail
            refine (HAP1.out _ _ (row_joined HO.out (by simp) HWF1.out)).mono ?_
            rintro e W118 ⟨rfl, hs⟩
            have hS' := hS.keep hs
            have HAb' := hide' (HAb.out.keep hs)
            clear hs
            clear hS
            have hS := hS'
            clear hS'
            clear HAb
            have HAb := HAb'
            clear HAb'
            go_wp2
            clear HAA
            clear HO HOB HBW HR HRA
            refine hK13 6 (by simp) _ _ hS (any_more fun K14 hK14 => ?_)
            clear hK13 K13
            refine any_pick (rs := [8]) hK14 (by kernel_rfl) (fun K15 hK15 => ?_)
            clear hK14 K14
            intro i hi
            simp only [List.mem_cons, List.not_mem_nil, or_false] at hi
            rcases hi with rfl
            refine op_plain none (.store 23 (.tmp 6) (.tmp 42)) 0 (by kernel_rfl) (by kernel_rfl) ?_
            obtain ⟨z0, z1, z2, e0, e1, e2⟩ := HAb.out
            go_wp2
            generalize hW2 : World.setCell (World.setCell (World.setCell _ _ _) _ _) _ _ = W119
            have HF : Hid (TwoB w w.heap.size p w.heap.size p W119 ∧ Box W119 A110 ⟨0, 0, 8⟩) := ⟨by rw [← hW2]; exact hS.putOther HAG.out, by rw [← hW2]; exact HAb.out.put ⟨0, 0, 8⟩⟩
            have hS' : TwoB w w.heap.size p w.heap.size p W119 := HF.out.1
            clear hS HAb z0 z1 z2 e0 e1 e2 hW2
            refine hK15 8 (by simp) _ _ hS' (any_more fun K16 hK16 => ?_)
            clear hK15 K15
            refine any_done hK16 (by kernel_rfl) ?_
            clear hK16 K16
            go_wp2_with fail
            go_meet
            exact ⟨A110, rfl, ⟨HF.out.1.1, HF.out.1.2.1, HF.out.2⟩⟩
        · refine op_plain (some 6) (.alloc 23) 0 (by kernel_rfl) (by kernel_rfl) ?_
          go_wp2
          have st : Stay (fun _ => False) W (W.alloc (.cells #[.int .i64 0, .int .i64 0, .int .i64 0] 23)) := (Stay.refl _ _).alloc _
          have hS' := hS.keep st
          have HAb := hide' (Box.new (w := W) ⟨0, 0, 0⟩ rfl)
          have HAG : Hid (w.heap.size ≤ W.heap.size ∧ w.heap.size < W.heap.size ∧ w.heap.size < W.heap.size) := ⟨hS.1.size, hS.2.1.lt, hS.2.2.lt⟩
          have HAA : Hid (Apart (W.alloc (.cells #[.int .i64 0, .int .i64 0, .int .i64 0] 23)) (.slice none 0 0) W.heap.size) := Apart.none _ _
          clear st
          clear hS
          have hS := hS'
          clear hS'
          obtain ⟨A121, hA'⟩ : ∃ B, B = W.heap.size := ⟨_, rfl⟩
          rw [← hA'] at HAb HAA HAG
          rw [← hA']
          clear hA'
          obtain ⟨W120, hW⟩ : ∃ Wq, Wq = (W.alloc (.cells #[.int .i64 0, .int .i64 0, .int .i64 0] 23)) := ⟨_, rfl⟩
          rw [← hW] at hS HAb HAA
          rw [← hW]
          clear hW
          refine hK3 7 (by simp) _ _ hS (any_more fun K4 hK4 => ?_)
          clear hK3 K3
          refine any_pick (rs := [1, 4]) hK4 (by kernel_rfl) (fun K5 hK5 => ?_)
          clear hK4 K4
          intro i hi
          simp only [List.mem_cons, List.not_mem_nil, or_false] at hi
          rcases hi with rfl | rfl
          · refine op_plain (some 37) (.buildSlice 24 0 #[]) 24 (by kernel_rfl) (by kernel_rfl) ?_
            go_wp2
            have st : Stay (fun _ => False) W120 (W120.alloc (.cells #[] 3)) := (Stay.refl _ _).alloc _
            have hS' := hS.keep st
            have HAb' := hide' (HAb.out.keep st)
            have HAA' := hide' (HAA.out.fresh (.cells #[] 3))
            have HO := hide' (owns_newS W120 #[] 3 1 0 rfl (by decide))
            have HOB : Hid (w.heap.size < W120.heap.size ∧ w.heap.size < W120.heap.size ∧ w.heap.size ≤ W120.heap.size) := ⟨hS.2.1.lt, hS.2.2.lt, hS.1.size⟩
            have HBW : Hid (W120.heap.size ≤ (W120.alloc (.cells #[] 3)).heap.size) := st.size
            clear st
            clear hS
            have hS := hS'
            clear hS'
            clear HAb
            have HAb := HAb'
            clear HAb'
            clear HAA
            have HAA := HAA'
            clear HAA'
            obtain ⟨vO123, hvO⟩ : ∃ v, v = Value.slice (some ⟨W120.heap.size, 0, none⟩) 0 0 := ⟨_, rfl⟩
            rw [← hvO] at HO HAA
            rw [← hvO]
            clear hvO
            obtain ⟨B124, hB⟩ : ∃ B, B = W120.heap.size := ⟨_, rfl⟩
            rw [← hB] at HO HOB HBW
            clear hB
            obtain ⟨W122, hW⟩ : ∃ Wq, Wq = (W120.alloc (.cells #[] 3)) := ⟨_, rfl⟩
            rw [← hW] at hS HO HBW HAb HAA
            rw [← hW]
            clear hW
            refine hK5 1 (by simp) _ _ hS (any_more fun K6 hK6 => ?_)
            clear hK5 K5
            refine any_pick (rs := [3, 4]) hK6 (by kernel_rfl) (fun K7 hK7 => ?_)
            clear hK6 K6
            intro i hi
            simp only [List.mem_cons, List.not_mem_nil, or_false] at hi
            rcases hi with rfl | rfl
            · refine op_plain (some 39) (.call { callee := Callee.builtin Builtin.append, args := #[.tmp 37, .tmp 38], argTypes := #[24, 24] }) 24 (by kernel_rfl) (by kernel_rfl) ?_
              have HSRC := hide' (isRowS_of (HA.out.stay0 hS.1).row)
              go_wp2_with (at_builtin; refine appS rfl _ _ 24 rfl Try.underlying24 Try.info3 rfl (by decide) (by decide) HO.out rfl HSRC.out rfl (one_ints _ _) (by have := HN.out; simp; omega) HBW.out ?_; intro v126 W125 ho hst hb; have HO2 := hide' ho; have HT2 := hide' hst; have HB2 := hide' hb; clear ho hst hb)
              have hS' := TwoB.own hS HT2.out HO.out HOB.out
              have HBW' := hide' (Nat.le_trans HBW.out HT2.out.size)
              have HAb' := hide' (HAb.out.stay HT2.out (fun h => HAA.out.2 h))
              have HAA' := hide' (HAA.out.step HT2.out HB2.out)
              clear HO HT2 HB2 HSRC
              clear hS
              have hS := hS'
              clear hS'
              clear HBW
              have HBW := HBW'
              clear HBW'
              clear HAb
              have HAb := HAb'
              clear HAb'
              clear HAA
              have HAA := HAA'
              clear HAA'
              have HO := HO2
              clear HO2
              refine hK7 3 (by simp) _ _ hS (any_more fun K8 hK8 => ?_)
              clear hK7 K7
              refine any_pick (rs := [4]) hK8 (by kernel_rfl) (fun K9 hK9 => ?_)
              clear hK8 K8
              intro i hi
              simp only [List.mem_cons, List.not_mem_nil, or_false] at hi
              rcases hi with rfl
              refine op_plain (some 40) (.buildSlice 24 2 #[(0, .const (Value.int IntKind.i64 0)), (1, .const (Value.int IntKind.i64 4))]) 24 (by kernel_rfl) (by kernel_rfl) ?_
              go_wp2
              have st : Stay (fun _ => False) W125 (W125.alloc (.cells #[.int .i64 0, .int .i64 4] 3)) := (Stay.refl _ _).alloc _
              have hS' := hS.keep st
              have HO' := hide' (st.owns HO.out (fun _ _ h => h))
              have HBW' := hide' (Nat.le_trans HBW.out st.size)
              have HAb' := hide' (HAb.out.keep st)
              have HAA' := hide' (HAA.out.alloc (.cells #[.int .i64 0, .int .i64 4] 3))
              have HR := hide' (isRowS_new W125 #[.int .i64 0, .int .i64 4] 3 1 2 rfl)
              have HRA : Hid (Apart (W125.alloc (.cells #[.int .i64 0, .int .i64 4] 3)) v126 W125.heap.size) := Apart.new HO.out
              clear st
              clear hS
              have hS := hS'
              clear hS'
              clear HO
              have HO := HO'
              clear HO'
              clear HBW
              have HBW := HBW'
              clear HBW'
              clear HAb
              have HAb := HAb'
              clear HAb'
              clear HAA
              have HAA := HAA'
              clear HAA'
              obtain ⟨BR128, hBR⟩ : ∃ B, B = W125.heap.size := ⟨_, rfl⟩
              rw [← hBR] at HR HRA
              rw [← hBR]
              clear hBR
              obtain ⟨W127, hW⟩ : ∃ Wq, Wq = (W125.alloc (.cells #[.int .i64 0, .int .i64 4] 3)) := ⟨_, rfl⟩
              rw [← hW] at hS HR HRA HO HBW HAb HAA
              rw [← hW]
              clear hW
              refine hK9 4 (by simp) _ _ hS (any_more fun K10 hK10 => ?_)
              clear hK9 K9
              refine any_pick (rs := [5]) hK10 (by kernel_rfl) (fun K11 hK11 => ?_)
              clear hK10 K10
              intro i hi
              simp only [List.mem_cons, List.not_mem_nil, or_false] at hi
              rcases hi with rfl
              refine op_plain (some 41) (.call { callee := Callee.builtin Builtin.append, args := #[.tmp 39, .tmp 40], argTypes := #[24, 24] }) 24 (by kernel_rfl) (by kernel_rfl) ?_
              go_wp2_with (at_builtin; refine appS rfl _ _ 24 rfl Try.underlying24 Try.info3 rfl (by decide) (by decide) HO.out rfl HR.out rfl (by intro u hu; simp at hu; rcases hu with rfl | rfl <;> rfl) (by have := HN.out; simp; omega) HBW.out ?_; intro v130 W129 ho hst hb; have HO2 := hide' ho; have HT2 := hide' hst; have HB2 := hide' hb; clear ho hst hb)
              have hS' := TwoB.own hS HT2.out HO.out HOB.out
              have HBW' := hide' (Nat.le_trans HBW.out HT2.out.size)
              have HR' := hide' (HR.out.stay HT2.out (fun k hk h => HRA.out.2 (by cases hk; exact h)))
              have HRA' := hide' (HRA.out.step HT2.out HB2.out)
              have HAb' := hide' (HAb.out.stay HT2.out (fun h => HAA.out.2 h))
              have HAA' := hide' (HAA.out.step HT2.out HB2.out)
              clear HO HT2 HB2
              clear hS
              have hS := hS'
              clear hS'
              clear HBW
              have HBW := HBW'
              clear HBW'
              clear HR
              have HR := HR'
              clear HR'
              clear HRA
              have HRA := HRA'
              clear HRA'
              clear HAb
              have HAb := HAb'
              clear HAb'
              clear HAA
              have HAA := HAA'
              clear HAA'
              have HO := HO2
              clear HO2
              refine hK11 5 (by simp) _ _ hS (any_more fun K12 hK12 => ?_)
              clear hK11 K11
              refine any_pick (rs := [6]) hK12 (by kernel_rfl) (fun K13 hK13 => ?_)
              clear hK12 K12
              intro i hi
              simp only [List.mem_cons, List.not_mem_nil, or_false] at hi
              rcases hi with rfl
              refine op_plain (some 42) (.call { callee := Callee.value (.func 11), args := #[.tmp 36, .tmp 41], argTypes := #[23, 24] }) 23 (by kernel_rfl) (by kernel_rfl) ?_
              go_wp2_with fail
              refine (HAP1.out _ _ (row_joined HO.out (by simp) HWF1.out)).mono ?_
              rintro e W131 ⟨rfl, hs⟩
              have hS' := hS.keep hs
              have HAb' := hide' (HAb.out.keep hs)
              clear hs
              clear hS
              have hS := hS'
              clear hS'
              clear HAb
              have HAb := HAb'
              clear HAb'
              go_wp2
              clear HAA
              clear HO HOB HBW HR HRA
              refine hK13 6 (by simp) _ _ hS (any_more fun K14 hK14 => ?_)
              clear hK13 K13
              refine any_pick (rs := [8]) hK14 (by kernel_rfl) (fun K15 hK15 => ?_)
              clear hK14 K14
              intro i hi
              simp only [List.mem_cons, List.not_mem_nil, or_false] at hi
              rcases hi with rfl
              refine op_plain none (.store 23 (.tmp 6) (.tmp 42)) 0 (by kernel_rfl) (by kernel_rfl) ?_
              obtain ⟨z0, z1, z2, e0, e1, e2⟩ := HAb.out
              go_wp2
              generalize hW2 : World.setCell (World.setCell (World.setCell _ _ _) _ _) _ _ = W132
              have HF : Hid (TwoB w w.heap.size p w.heap.size p W132 ∧ Box W132 A121 ⟨0, 0, 8⟩) := ⟨by rw [← hW2]; exact hS.putOther HAG.out, by rw [← hW2]; exact HAb.out.put ⟨0, 0, 8⟩⟩
              have hS' : TwoB w w.heap.size p w.heap.size p W132 := HF.out.1
              clear hS HAb z0 z1 z2 e0 e1 e2 hW2
              refine hK15 8 (by simp) _ _ hS' (any_more fun K16 hK16 => ?_)
              clear hK15 K15
              refine any_done hK16 (by kernel_rfl) ?_
              clear hK16 K16
              go_wp2_with fail
              go_meet
              exact ⟨A121, rfl, ⟨HF.out.1.1, HF.out.1.2.1, HF.out.2⟩⟩
            · refine op_plain (some 40) (.buildSlice 24 2 #[(0, .const (Value.int IntKind.i64 0)), (1, .const (Value.int IntKind.i64 4))]) 24 (by kernel_rfl) (by kernel_rfl) ?_
              go_wp2
              have st : Stay (fun _ => False) W122 (W122.alloc (.cells #[.int .i64 0, .int .i64 4] 3)) := (Stay.refl _ _).alloc _
              have hS' := hS.keep st
              have HO' := hide' (st.owns HO.out (fun _ _ h => h))
              have HBW' := hide' (Nat.le_trans HBW.out st.size)
              have HAb' := hide' (HAb.out.keep st)
              have HAA' := hide' (HAA.out.alloc (.cells #[.int .i64 0, .int .i64 4] 3))
              have HR := hide' (isRowS_new W122 #[.int .i64 0, .int .i64 4] 3 1 2 rfl)
              have HRA : Hid (Apart (W122.alloc (.cells #[.int .i64 0, .int .i64 4] 3)) vO123 W122.heap.size) := Apart.new HO.out
              clear st
              clear hS
              have hS := hS'
              clear hS'
              clear HO
              have HO := HO'
              clear HO'
              clear HBW
              have HBW := HBW'
              clear HBW'
              clear HAb
              have HAb := HAb'
              clear HAb'
              clear HAA
              have HAA := HAA'
              clear HAA'
              obtain ⟨BR134, hBR⟩ : ∃ B, B = W122.heap.size := ⟨_, rfl⟩
              rw [← hBR] at HR HRA
              rw [← hBR]
              clear hBR
              obtain ⟨W133, hW⟩ : ∃ Wq, Wq = (W122.alloc (.cells #[.int .i64 0, .int .i64 4] 3)) := ⟨_, rfl⟩
              rw [← hW] at hS HR HRA HO HBW HAb HAA
              rw [← hW]
              clear hW
              refine hK7 4 (by simp) _ _ hS (any_more fun K8 hK8 => ?_)
              clear hK7 K7
              refine any_pick (rs := [3]) hK8 (by kernel_rfl) (fun K9 hK9 => ?_)
              clear hK8 K8
              intro i hi
              simp only [List.mem_cons, List.not_mem_nil, or_false] at hi
              rcases hi with rfl
              refine op_plain (some 39) (.call { callee := Callee.builtin Builtin.append, args := #[.tmp 37, .tmp 38], argTypes := #[24, 24] }) 24 (by kernel_rfl) (by kernel_rfl) ?_
              have HSRC := hide' (isRowS_of (HA.out.stay0 hS.1).row)
              go_wp2_with (at_builtin; refine appS rfl _ _ 24 rfl Try.underlying24 Try.info3 rfl (by decide) (by decide) HO.out rfl HSRC.out rfl (one_ints _ _) (by have := HN.out; simp; omega) HBW.out ?_; intro v136 W135 ho hst hb; have HO2 := hide' ho; have HT2 := hide' hst; have HB2 := hide' hb; clear ho hst hb)
              have hS' := TwoB.own hS HT2.out HO.out HOB.out
              have HBW' := hide' (Nat.le_trans HBW.out HT2.out.size)
              have HR' := hide' (HR.out.stay HT2.out (fun k hk h => HRA.out.2 (by cases hk; exact h)))
              have HRA' := hide' (HRA.out.step HT2.out HB2.out)
              have HAb' := hide' (HAb.out.stay HT2.out (fun h => HAA.out.2 h))
              have HAA' := hide' (HAA.out.step HT2.out HB2.out)
              clear HO HT2 HB2 HSRC
              clear hS
              have hS := hS'
              clear hS'
              clear HBW
              have HBW := HBW'
              clear HBW'
              clear HR
              have HR := HR'
              clear HR'
              clear HRA
              have HRA := HRA'
              clear HRA'
              clear HAb
              have HAb := HAb'
              clear HAb'
              clear HAA
              have HAA := HAA'
              clear HAA'
              have HO := HO2
              clear HO2
              refine hK9 3 (by simp) _ _ hS (any_more fun K10 hK10 => ?_)
              clear hK9 K9
              refine any_pick (rs := [5]) hK10 (by kernel_rfl) (fun K11 hK11 => ?_)
              clear hK10 K10
              intro i hi
              simp only [List.mem_cons, List.not_mem_nil, or_false] at hi
              rcases hi with rfl
              refine op_plain (some 41) (.call { callee := Callee.builtin Builtin.append, args := #[.tmp 39, .tmp 40], argTypes := #[24, 24] }) 24 (by kernel_rfl) (by kernel_rfl) ?_
              go_wp2_with (at_builtin; refine appS rfl _ _ 24 rfl Try.underlying24 Try.info3 rfl (by decide) (by decide) HO.out rfl HR.out rfl (by intro u hu; simp at hu; rcases hu with rfl | rfl <;> rfl) (by have := HN.out; simp; omega) HBW.out ?_; intro v138 W137 ho hst hb; have HO2 := hide' ho; have HT2 := hide' hst; have HB2 := hide' hb; clear ho hst hb)
              have hS' := TwoB.own hS HT2.out HO.out HOB.out
              have HBW' := hide' (Nat.le_trans HBW.out HT2.out.size)
              have HR' := hide' (HR.out.stay HT2.out (fun k hk h => HRA.out.2 (by cases hk; exact h)))
              have HRA' := hide' (HRA.out.step HT2.out HB2.out)
              have HAb' := hide' (HAb.out.stay HT2.out (fun h => HAA.out.2 h))
              have HAA' := hide' (HAA.out.step HT2.out HB2.out)
              clear HO HT2 HB2
              clear hS
              have hS := hS'
              clear hS'
              clear HBW
              have HBW := HBW'
              clear HBW'
              clear HR
              have HR := HR'
              clear HR'
              clear HRA
              have HRA := HRA'
              clear HRA'
              clear HAb
              have HAb := HAb'
              clear HAb'
              clear HAA
              have HAA := HAA'
              clear HAA'
              have HO := HO2
              clear HO2
              refine hK11 5 (by simp) _ _ hS (any_more fun K12 hK12 => ?_)
              clear hK11 K11
              refine any_pick (rs := [6]) hK12 (by kernel_rfl) (fun K13 hK13 => ?_)
              clear hK12 K12
              intro i hi
              simp only [List.mem_cons, List.not_mem_nil, or_false] at hi
              rcases hi with rfl
              refine op_plain (some 42) (.call { callee := Callee.value (.func 11), args := #[.tmp 36, .tmp 41], argTypes := #[23, 24] }) 23 (by kernel_rfl) (by kernel_rfl) ?_
              go_wp2_with fail
              refine (HAP1.out _ _ (row_joined HO.out (by simp) HWF1.out)).mono ?_
              rintro e W139 ⟨rfl, hs⟩
              have hS' := hS.keep hs
              have HAb' := hide' (HAb.out.keep hs)
              clear hs
              clear hS
              have hS := hS'
              clear hS'
              clear HAb
              have HAb := HAb'
              clear HAb'
              go_wp2
              clear HAA
              clear HO HOB HBW HR HRA
              refine hK13 6 (by simp) _ _ hS (any_more fun K14 hK14 => ?_)
              clear hK13 K13
              refine any_pick (rs := [8]) hK14 (by kernel_rfl) (fun K15 hK15 => ?_)
              clear hK14 K14
              intro i hi
              simp only [List.mem_cons, List.not_mem_nil, or_false] at hi
              rcases hi with rfl
              refine op_plain none (.store 23 (.tmp 6) (.tmp 42)) 0 (by kernel_rfl) (by kernel_rfl) ?_
              obtain ⟨z0, z1, z2, e0, e1, e2⟩ := HAb.out
              go_wp2
              generalize hW2 : World.setCell (World.setCell (World.setCell _ _ _) _ _) _ _ = W140
              have HF : Hid (TwoB w w.heap.size p w.heap.size p W140 ∧ Box W140 A121 ⟨0, 0, 8⟩) := ⟨by rw [← hW2]; exact hS.putOther HAG.out, by rw [← hW2]; exact HAb.out.put ⟨0, 0, 8⟩⟩
              have hS' : TwoB w w.heap.size p w.heap.size p W140 := HF.out.1
              clear hS HAb z0 z1 z2 e0 e1 e2 hW2
              refine hK15 8 (by simp) _ _ hS' (any_more fun K16 hK16 => ?_)
              clear hK15 K15
              refine any_done hK16 (by kernel_rfl) ?_
              clear hK16 K16
              go_wp2_with fail
              go_meet
              exact ⟨A121, rfl, ⟨HF.out.1.1, HF.out.1.2.1, HF.out.2⟩⟩
          · refine op_plain (some 40) (.buildSlice 24 2 #[(0, .const (Value.int IntKind.i64 0)), (1, .const (Value.int IntKind.i64 4))]) 24 (by kernel_rfl) (by kernel_rfl) ?_
            go_wp2
            have st : Stay (fun _ => False) W120 (W120.alloc (.cells #[.int .i64 0, .int .i64 4] 3)) := (Stay.refl _ _).alloc _
            have hS' := hS.keep st
            have HAb' := hide' (HAb.out.keep st)
            have HAA' := hide' (HAA.out.alloc (.cells #[.int .i64 0, .int .i64 4] 3))
            have HR := hide' (isRowS_new W120 #[.int .i64 0, .int .i64 4] 3 1 2 rfl)
            have HRA : Hid (Apart (W120.alloc (.cells #[.int .i64 0, .int .i64 4] 3)) (.slice none 0 0) W120.heap.size) := Apart.none _ _
            clear st
            clear hS
            have hS := hS'
            clear hS'
            clear HAb
            have HAb := HAb'
            clear HAb'
            clear HAA
            have HAA := HAA'
            clear HAA'
            obtain ⟨BR142, hBR⟩ : ∃ B, B = W120.heap.size := ⟨_, rfl⟩
            rw [← hBR] at HR HRA
            rw [← hBR]
            clear hBR
            obtain ⟨W141, hW⟩ : ∃ Wq, Wq = (W120.alloc (.cells #[.int .i64 0, .int .i64 4] 3)) := ⟨_, rfl⟩
            rw [← hW] at hS HR HRA HAb HAA
            rw [← hW]
            clear hW
            refine hK5 4 (by simp) _ _ hS (any_more fun K6 hK6 => ?_)
            clear hK5 K5
            refine any_pick (rs := [1]) hK6 (by kernel_rfl) (fun K7 hK7 => ?_)
            clear hK6 K6
            intro i hi
            simp only [List.mem_cons, List.not_mem_nil, or_false] at hi
            rcases hi with rfl
            refine op_plain (some 37) (.buildSlice 24 0 #[]) 24 (by kernel_rfl) (by kernel_rfl) ?_
            go_wp2
            have st : Stay (fun _ => False) W141 (W141.alloc (.cells #[] 3)) := (Stay.refl _ _).alloc _
            have hS' := hS.keep st
            have HR' := hide' (HR.out.stay st (fun _ _ h => h))
            have HRA' := hide' (HRA.out.fresh (.cells #[] 3))
            have HAb' := hide' (HAb.out.keep st)
            have HAA' := hide' (HAA.out.fresh (.cells #[] 3))
            have HO := hide' (owns_newS W141 #[] 3 1 0 rfl (by decide))
            have HOB : Hid (w.heap.size < W141.heap.size ∧ w.heap.size < W141.heap.size ∧ w.heap.size ≤ W141.heap.size) := ⟨hS.2.1.lt, hS.2.2.lt, hS.1.size⟩
            have HBW : Hid (W141.heap.size ≤ (W141.alloc (.cells #[] 3)).heap.size) := st.size
            clear st
            clear hS
            have hS := hS'
            clear hS'
            clear HR
            have HR := HR'
            clear HR'
            clear HRA
            have HRA := HRA'
            clear HRA'
            clear HAb
            have HAb := HAb'
            clear HAb'
            clear HAA
            have HAA := HAA'
            clear HAA'
            obtain ⟨vO144, hvO⟩ : ∃ v, v = Value.slice (some ⟨W141.heap.size, 0, none⟩) 0 0 := ⟨_, rfl⟩
            rw [← hvO] at HO HRA HAA
            rw [← hvO]
            clear hvO
            obtain ⟨B145, hB⟩ : ∃ B, B = W141.heap.size := ⟨_, rfl⟩
            rw [← hB] at HO HOB HBW
            clear hB
            obtain ⟨W143, hW⟩ : ∃ Wq, Wq = (W141.alloc (.cells #[] 3)) := ⟨_, rfl⟩
            rw [← hW] at hS HO HBW HR HRA HAb HAA
            rw [← hW]
            clear hW
            refine hK7 1 (by simp) _ _ hS (any_more fun K8 hK8 => ?_)
            clear hK7 K7
            refine any_pick (rs := [3]) hK8 (by kernel_rfl) (fun K9 hK9 => ?_)
            clear hK8 K8
            intro i hi
            simp only [List.mem_cons, List.not_mem_nil, or_false] at hi
            rcases hi with rfl
            refine op_plain (some 39) (.call { callee := Callee.builtin Builtin.append, args := #[.tmp 37, .tmp 38], argTypes := #[24, 24] }) 24 (by kernel_rfl) (by kernel_rfl) ?_
            have HSRC := hide' (isRowS_of (HA.out.stay0 hS.1).row)
            go_wp2_with (at_builtin; refine appS rfl _ _ 24 rfl Try.underlying24 Try.info3 rfl (by decide) (by decide) HO.out rfl HSRC.out rfl (one_ints _ _) (by have := HN.out; simp; omega) HBW.out ?_; intro v147 W146 ho hst hb; have HO2 := hide' ho; have HT2 := hide' hst; have HB2 := hide' hb; clear ho hst hb)
            have hS' := TwoB.own hS HT2.out HO.out HOB.out
            have HBW' := hide' (Nat.le_trans HBW.out HT2.out.size)
            have HR' := hide' (HR.out.stay HT2.out (fun k hk h => HRA.out.2 (by cases hk; exact h)))
            have HRA' := hide' (HRA.out.step HT2.out HB2.out)
            have HAb' := hide' (HAb.out.stay HT2.out (fun h => HAA.out.2 h))
            have HAA' := hide' (HAA.out.step HT2.out HB2.out)
            clear HO HT2 HB2 HSRC
            clear hS
            have hS := hS'
            clear hS'
            clear HBW
            have HBW := HBW'
            clear HBW'
            clear HR
            have HR := HR'
            clear HR'
            clear HRA
            have HRA := HRA'
            clear HRA'
            clear HAb
            have HAb := HAb'
            clear HAb'
            clear HAA
            have HAA := HAA'
            clear HAA'
            have HO := HO2
            clear HO2
            refine hK9 3 (by simp) _ _ hS (any_more fun K10 hK10 => ?_)
            clear hK9 K9
            refine any_pick (rs := [5]) hK10 (by kernel_rfl) (fun K11 hK11 => ?_)
            clear hK10 K10
            intro i hi
            simp only [List.mem_cons, List.not_mem_nil, or_false] at hi
            rcases hi with rfl
            refine op_plain (some 41) (.call { callee := Callee.builtin Builtin.append, args := #[.tmp 39, .tmp 40], argTypes := #[24, 24] }) 24 (by kernel_rfl) (by kernel_rfl) ?_
            go_wp2_with (at_builtin; refine appS rfl _ _ 24 rfl Try.underlying24 Try.info3 rfl (by decide) (by decide) HO.out rfl HR.out rfl (by intro u hu; simp at hu; rcases hu with rfl | rfl <;> rfl) (by have := HN.out; simp; omega) HBW.out ?_; intro v149 W148 ho hst hb; have HO2 := hide' ho; have HT2 := hide' hst; have HB2 := hide' hb; clear ho hst hb)
            have hS' := TwoB.own hS HT2.out HO.out HOB.out
            have HBW' := hide' (Nat.le_trans HBW.out HT2.out.size)
            have HR' := hide' (HR.out.stay HT2.out (fun k hk h => HRA.out.2 (by cases hk; exact h)))
            have HRA' := hide' (HRA.out.step HT2.out HB2.out)
            have HAb' := hide' (HAb.out.stay HT2.out (fun h => HAA.out.2 h))
            have HAA' := hide' (HAA.out.step HT2.out HB2.out)
            clear HO HT2 HB2
            clear hS
            have hS := hS'
            clear hS'
            clear HBW
            have HBW := HBW'
            clear HBW'
            clear HR
            have HR := HR'
            clear HR'
            clear HRA
            have HRA := HRA'
            clear HRA'
            clear HAb
            have HAb := HAb'
            clear HAb'
            clear HAA
            have HAA := HAA'
            clear HAA'
            have HO := HO2
            clear HO2
            refine hK11 5 (by simp) _ _ hS (any_more fun K12 hK12 => ?_)
            clear hK11 K11
            refine any_pick (rs := [6]) hK12 (by kernel_rfl) (fun K13 hK13 => ?_)
            clear hK12 K12
            intro i hi
            simp only [List.mem_cons, List.not_mem_nil, or_false] at hi
            rcases hi with rfl
            refine op_plain (some 42) (.call { callee := Callee.value (.func 11), args := #[.tmp 36, .tmp 41], argTypes := #[23, 24] }) 23 (by kernel_rfl) (by kernel_rfl) ?_
            go_wp2_with fail
            refine (HAP1.out _ _ (row_joined HO.out (by simp) HWF1.out)).mono ?_
            rintro e W150 ⟨rfl, hs⟩
            have hS' := hS.keep hs
            have HAb' := hide' (HAb.out.keep hs)
            clear hs
            clear hS
            have hS := hS'
            clear hS'
            clear HAb
            have HAb := HAb'
            clear HAb'
            go_wp2
            clear HAA
            clear HO HOB HBW HR HRA
            refine hK13 6 (by simp) _ _ hS (any_more fun K14 hK14 => ?_)
            clear hK13 K13
            refine any_pick (rs := [8]) hK14 (by kernel_rfl) (fun K15 hK15 => ?_)
            clear hK14 K14
            intro i hi
            simp only [List.mem_cons, List.not_mem_nil, or_false] at hi
            rcases hi with rfl
            refine op_plain none (.store 23 (.tmp 6) (.tmp 42)) 0 (by kernel_rfl) (by kernel_rfl) ?_
            obtain ⟨z0, z1, z2, e0, e1, e2⟩ := HAb.out
            go_wp2
            generalize hW2 : World.setCell (World.setCell (World.setCell _ _ _) _ _) _ _ = W151
            have HF : Hid (TwoB w w.heap.size p w.heap.size p W151 ∧ Box W151 A121 ⟨0, 0, 8⟩) := ⟨by rw [← hW2]; exact hS.putOther HAG.out, by rw [← hW2]; exact HAb.out.put ⟨0, 0, 8⟩⟩
            have hS' : TwoB w w.heap.size p w.heap.size p W151 := HF.out.1
            clear hS HAb z0 z1 z2 e0 e1 e2 hW2
            refine hK15 8 (by simp) _ _ hS' (any_more fun K16 hK16 => ?_)
            clear hK15 K15
            refine any_done hK16 (by kernel_rfl) ?_
            clear hK16 K16
            go_wp2_with fail
            go_meet
            exact ⟨A121, rfl, ⟨HF.out.1.1, HF.out.1.2.1, HF.out.2⟩⟩
      case rest =>
      obtain ⟨A1, rfl, HS8⟩ := hcut
      clear HS0
      go_upto_region 9 with fail
      go_cut [7] from 43 to 49 (fun s7 wx => ∃ A, s7 = .pointer (some ⟨A, 0, none⟩) ∧ Hid (TwoB w A1 ⟨0, 0, 8⟩ A ⟨xf, xb, 0⟩ wx))
      case first =>
        refine any_begin (TwoB w w.heap.size p A1 ⟨0, 0, 8⟩) (by kernel_rfl) (fun K0 hK0 => ?_)
        have hS := HS8.out.keep ((Stay.refl _ _).drew)
        obtain ⟨W, hW⟩ : ∃ W, W = World.drew wc := ⟨_, rfl⟩
        rw [← hW] at hS
        rw [← hW]
        clear hW
        refine any_take (i := 0) hK0 (some 43) (.load 23 (.tmp 2)) 23 _ (by kernel_rfl) (fun _ d _ _ _ h => by cases d <;> exact h) (by kernel_rfl) (by kernel_rfl) (fun w' hS' => by exact run_load_box rfl rfl hS'.2.1) hS (fun K1 hK1 => ?_)
        clear hK0 K0
        try simp only [Act.put, List.setIfInBounds_toArray, List.set_cons_zero, List.set_cons_succ]
        refine any_take (i := 2) hK1 (some 45) (.move (.tmp 1)) 24 _ (by kernel_rfl) (fun _ d _ _ _ h => by cases d <;> exact h) (by kernel_rfl) (by kernel_rfl) (fun w' hS' => by simp only [opr]; go_simp; try with_reducible rfl) hS (fun K2 hK2 => ?_)
        clear hK1 K1
        try simp only [Act.put, List.setIfInBounds_toArray, List.set_cons_zero, List.set_cons_succ]
        refine any_pick (rs := [1, 4, 7]) hK2 (by kernel_rfl) (fun K3 hK3 => ?_)
        clear hK2 K2
        intro i hi
        simp only [List.mem_cons, List.not_mem_nil, or_false] at hi
        rcases hi with rfl | rfl | rfl
        · refine op_plain (some 44) (.buildSlice 24 0 #[]) 24 (by kernel_rfl) (by kernel_rfl) ?_
          go_wp2
          have st : Stay (fun _ => False) W (W.alloc (.cells #[] 3)) := (Stay.refl _ _).alloc _
          have hS' := hS.keep st
          have HO := hide' (owns_newS W #[] 3 1 0 rfl (by decide))
          have HOB : Hid (w.heap.size < W.heap.size ∧ A1 < W.heap.size ∧ w.heap.size ≤ W.heap.size) := ⟨hS.2.1.lt, hS.2.2.lt, hS.1.size⟩
          have HBW : Hid (W.heap.size ≤ (W.alloc (.cells #[] 3)).heap.size) := st.size
          clear st
          clear hS
          have hS := hS'
          clear hS'
          obtain ⟨vO2, hvO⟩ : ∃ v, v = Value.slice (some ⟨W.heap.size, 0, none⟩) 0 0 := ⟨_, rfl⟩
          rw [← hvO] at HO
          rw [← hvO]
          clear hvO
          obtain ⟨B3, hB⟩ : ∃ B, B = W.heap.size := ⟨_, rfl⟩
          rw [← hB] at HO HOB HBW
          clear hB
          obtain ⟨W1, hW⟩ : ∃ Wq, Wq = (W.alloc (.cells #[] 3)) := ⟨_, rfl⟩
          rw [← hW] at hS HO HBW
          rw [← hW]
          clear hW
          refine hK3 1 (by simp) _ _ hS (any_more fun K4 hK4 => ?_)
          clear hK3 K3
          refine any_pick (rs := [3, 4, 7]) hK4 (by kernel_rfl) (fun K5 hK5 => ?_)
          clear hK4 K4
          intro i hi
          simp only [List.mem_cons, List.not_mem_nil, or_false] at hi
          rcases hi with rfl | rfl | rfl
          · refine op_plain (some 46) (.call { callee := Callee.builtin Builtin.append, args := #[.tmp 44, .tmp 45], argTypes := #[24, 24] }) 24 (by kernel_rfl) (by kernel_rfl) ?_
            have HSRC := hide' (isRowS_of (HA.out.stay0 hS.1).row)
            go_wp2_with (at_builtin; refine appS rfl _ _ 24 rfl Try.underlying24 Try.info3 rfl (by decide) (by decide) HO.out rfl HSRC.out rfl (one_ints _ _) (by have := HN.out; simp; omega) HBW.out ?_; intro v5 W4 ho hst hb; have HO2 := hide' ho; have HT2 := hide' hst; have HB2 := hide' hb; clear ho hst hb)
            have hS' := TwoB.own hS HT2.out HO.out HOB.out
            have HBW' := hide' (Nat.le_trans HBW.out HT2.out.size)
            clear HO HT2 HB2 HSRC
            clear hS
            have hS := hS'
            clear hS'
            clear HBW
            have HBW := HBW'
            clear HBW'
            have HO := HO2
            clear HO2
            refine hK5 3 (by simp) _ _ hS (any_more fun K6 hK6 => ?_)
            clear hK5 K5
            refine any_pick (rs := [4, 7]) hK6 (by kernel_rfl) (fun K7 hK7 => ?_)
            clear hK6 K6
            intro i hi
            simp only [List.mem_cons, List.not_mem_nil, or_false] at hi
            rcases hi with rfl | rfl
            · refine op_plain (some 47) (.buildSlice 24 7 #[(0, .const (Value.int IntKind.i64 22)), (1, .const (Value.int IntKind.i64 23)), (2, .const (Value.int IntKind.i64 24)), (3, .const (Value.int IntKind.i64 25)), (4, .const (Value.int IntKind.i64 27)), (5, .const (Value.int IntKind.i64 28)), (6, .const (Value.int IntKind.i64 29))]) 24 (by kernel_rfl) (by kernel_rfl) ?_
              go_wp2
              have st : Stay (fun _ => False) W4 (W4.alloc (.cells #[.int .i64 22, .int .i64 23, .int .i64 24, .int .i64 25, .int .i64 27, .int .i64 28, .int .i64 29] 3)) := (Stay.refl _ _).alloc _
              have hS' := hS.keep st
              have HO' := hide' (st.owns HO.out (fun _ _ h => h))
              have HBW' := hide' (Nat.le_trans HBW.out st.size)
              have HR := hide' (isRowS_new W4 #[.int .i64 22, .int .i64 23, .int .i64 24, .int .i64 25, .int .i64 27, .int .i64 28, .int .i64 29] 3 1 7 rfl)
              have HRA : Hid (Apart (W4.alloc (.cells #[.int .i64 22, .int .i64 23, .int .i64 24, .int .i64 25, .int .i64 27, .int .i64 28, .int .i64 29] 3)) v5 W4.heap.size) := Apart.new HO.out
              clear st
              clear hS
              have hS := hS'
              clear hS'
              clear HO
              have HO := HO'
              clear HO'
              clear HBW
              have HBW := HBW'
              clear HBW'
              obtain ⟨BR7, hBR⟩ : ∃ B, B = W4.heap.size := ⟨_, rfl⟩
              rw [← hBR] at HR HRA
              rw [← hBR]
              clear hBR
              obtain ⟨W6, hW⟩ : ∃ Wq, Wq = (W4.alloc (.cells #[.int .i64 22, .int .i64 23, .int .i64 24, .int .i64 25, .int .i64 27, .int .i64 28, .int .i64 29] 3)) := ⟨_, rfl⟩
              rw [← hW] at hS HR HRA HO HBW
              rw [← hW]
              clear hW
              refine hK7 4 (by simp) _ _ hS (any_more fun K8 hK8 => ?_)
              clear hK7 K7
              refine any_pick (rs := [5, 7]) hK8 (by kernel_rfl) (fun K9 hK9 => ?_)
              clear hK8 K8
              intro i hi
              simp only [List.mem_cons, List.not_mem_nil, or_false] at hi
              rcases hi with rfl | rfl
              · refine op_plain (some 48) (.call { callee := Callee.builtin Builtin.append, args := #[.tmp 46, .tmp 47], argTypes := #[24, 24] }) 24 (by kernel_rfl) (by kernel_rfl) ?_
                go_wp2_with (at_builtin; refine appS rfl _ _ 24 rfl Try.underlying24 Try.info3 rfl (by decide) (by decide) HO.out rfl HR.out rfl (by intro u hu; simp at hu; rcases hu with rfl | rfl | rfl | rfl | rfl | rfl | rfl <;> rfl) (by have := HN.out; simp; omega) HBW.out ?_; intro v9 W8 ho hst hb; have HO2 := hide' ho; have HT2 := hide' hst; have HB2 := hide' hb; clear ho hst hb)
                have hS' := TwoB.own hS HT2.out HO.out HOB.out
                have HBW' := hide' (Nat.le_trans HBW.out HT2.out.size)
                have HR' := hide' (HR.out.stay HT2.out (fun k hk h => HRA.out.2 (by cases hk; exact h)))
                have HRA' := hide' (HRA.out.step HT2.out HB2.out)
                clear HO HT2 HB2
                clear hS
                have hS := hS'
                clear hS'
                clear HBW
                have HBW := HBW'
                clear HBW'
                clear HR
                have HR := HR'
                clear HR'
                clear HRA
                have HRA := HRA'
                clear HRA'
                have HO := HO2
                clear HO2
                refine hK9 5 (by simp) _ _ hS (any_more fun K10 hK10 => ?_)
                clear hK9 K9
                refine any_pick (rs := [6, 7]) hK10 (by kernel_rfl) (fun K11 hK11 => ?_)
                clear hK10 K10
                intro i hi
                simp only [List.mem_cons, List.not_mem_nil, or_false] at hi
                rcases hi with rfl | rfl
                · refine op_plain (some 49) (.call { callee := Callee.value (.func 11), args := #[.tmp 43, .tmp 48], argTypes := #[23, 24] }) 23 (by kernel_rfl) (by kernel_rfl) ?_
                  go_wp2_with fail
                  refine (HAP2.out _ _ (row_joined HO.out (by simp) HWF2.out)).mono ?_
                  rintro e W10 ⟨rfl, hs⟩
                  have hS' := hS.keep hs
                  clear hs
                  clear hS
                  have hS := hS'
                  clear hS'
                  go_wp2
                  clear HO HOB HBW HR HRA
                  refine hK11 6 (by simp) _ _ hS (any_more fun K12 hK12 => ?_)
                  clear hK11 K11
                  refine any_pick (rs := [7]) hK12 (by kernel_rfl) (fun K13 hK13 => ?_)
                  clear hK12 K12
                  intro i hi
                  simp only [List.mem_cons, List.not_mem_nil, or_false] at hi
                  rcases hi with rfl
                  refine op_plain (some 7) (.alloc 23) 0 (by kernel_rfl) (by kernel_rfl) ?_
                  go_wp2
                  have st : Stay (fun _ => False) W10 (W10.alloc (.cells #[.int .i64 0, .int .i64 0, .int .i64 0] 23)) := (Stay.refl _ _).alloc _
                  have hS' := hS.keep st
                  have HAb := hide' (Box.new (w := W10) ⟨0, 0, 0⟩ rfl)
                  have HAG : Hid (w.heap.size ≤ W10.heap.size ∧ w.heap.size < W10.heap.size ∧ A1 < W10.heap.size) := ⟨hS.1.size, hS.2.1.lt, hS.2.2.lt⟩
                  have HAA : Hid (Apart (W10.alloc (.cells #[.int .i64 0, .int .i64 0, .int .i64 0] 23)) (.slice none 0 0) W10.heap.size) := Apart.none _ _
                  clear st
                  clear hS
                  have hS := hS'
                  clear hS'
                  obtain ⟨A12, hA'⟩ : ∃ B, B = W10.heap.size := ⟨_, rfl⟩
                  rw [← hA'] at HAb HAA HAG
                  rw [← hA']
                  clear hA'
                  obtain ⟨W11, hW⟩ : ∃ Wq, Wq = (W10.alloc (.cells #[.int .i64 0, .int .i64 0, .int .i64 0] 23)) := ⟨_, rfl⟩
                  rw [← hW] at hS HAb HAA
                  rw [← hW]
                  clear hW
                  refine hK13 7 (by simp) _ _ hS (any_more fun K14 hK14 => ?_)
                  clear hK13 K13
                  refine any_pick (rs := [8]) hK14 (by kernel_rfl) (fun K15 hK15 => ?_)
                  clear hK14 K14
                  intro i hi
                  simp only [List.mem_cons, List.not_mem_nil, or_false] at hi
                  rcases hi with rfl
                  refine op_plain none (.store 23 (.tmp 7) (.tmp 49)) 0 (by kernel_rfl) (by kernel_rfl) ?_
                  obtain ⟨z0, z1, z2, e0, e1, e2⟩ := HAb.out
                  go_wp2
                  generalize hW2 : World.setCell (World.setCell (World.setCell _ _ _) _ _) _ _ = W13
                  have HF : Hid (TwoB w w.heap.size p A1 ⟨0, 0, 8⟩ W13 ∧ Box W13 A12 ⟨xf, xb, 0⟩) := ⟨by rw [← hW2]; exact hS.putOther HAG.out, by rw [← hW2]; exact HAb.out.put ⟨xf, xb, 0⟩⟩
                  have hS' : TwoB w w.heap.size p A1 ⟨0, 0, 8⟩ W13 := HF.out.1
                  clear hS HAb z0 z1 z2 e0 e1 e2 hW2
                  refine hK15 8 (by simp) _ _ hS' (any_more fun K16 hK16 => ?_)
                  clear hK15 K15
                  refine any_done hK16 (by kernel_rfl) ?_
                  clear hK16 K16
                  go_wp2_with fail
                  go_meet
                  exact ⟨A12, rfl, ⟨HF.out.1.1, HF.out.1.2.2, HF.out.2⟩⟩
                · refine op_plain (some 7) (.alloc 23) 0 (by kernel_rfl) (by kernel_rfl) ?_
                  go_wp2
                  have st : Stay (fun _ => False) W8 (W8.alloc (.cells #[.int .i64 0, .int .i64 0, .int .i64 0] 23)) := (Stay.refl _ _).alloc _
                  have hS' := hS.keep st
                  have HO' := hide' (st.owns HO.out (fun _ _ h => h))
                  have HBW' := hide' (Nat.le_trans HBW.out st.size)
                  have HR' := hide' (HR.out.stay st (fun _ _ h => h))
                  have HRA' := hide' (HRA.out.alloc (.cells #[.int .i64 0, .int .i64 0, .int .i64 0] 23))
                  have HAb := hide' (Box.new (w := W8) ⟨0, 0, 0⟩ rfl)
                  have HAG : Hid (w.heap.size ≤ W8.heap.size ∧ w.heap.size < W8.heap.size ∧ A1 < W8.heap.size) := ⟨hS.1.size, hS.2.1.lt, hS.2.2.lt⟩
                  have HAA : Hid (Apart (W8.alloc (.cells #[.int .i64 0, .int .i64 0, .int .i64 0] 23)) v9 W8.heap.size) := Apart.new HO.out
                  clear st
                  clear hS
                  have hS := hS'
                  clear hS'
                  clear HO
                  have HO := HO'
                  clear HO'
                  clear HBW
                  have HBW := HBW'
                  clear HBW'
                  clear HR
                  have HR := HR'
                  clear HR'
                  clear HRA
                  have HRA := HRA'
                  clear HRA'
                  obtain ⟨A15, hA'⟩ : ∃ B, B = W8.heap.size := ⟨_, rfl⟩
                  rw [← hA'] at HAb HAA HAG
                  rw [← hA']
                  clear hA'
                  obtain ⟨W14, hW⟩ : ∃ Wq, Wq = (W8.alloc (.cells #[.int .i64 0, .int .i64 0, .int .i64 0] 23)) := ⟨_, rfl⟩
                  rw [← hW] at hS HAb HAA HO HBW HR HRA
                  rw [← hW]
                  clear hW
                  refine hK11 7 (by simp) _ _ hS (any_more fun K12 hK12 => ?_)
                  clear hK11 K11
                  refine any_pick (rs := [6]) hK12 (by kernel_rfl) (fun K13 hK13 => ?_)
                  clear hK12 K12
                  intro i hi
                  simp only [List.mem_cons, List.not_mem_nil, or_false] at hi
                  rcases hi with rfl
                  refine op_plain (some 49) (.call { callee := Callee.value (.func 11), args := #[.tmp 43, .tmp 48], argTypes := #[23, 24] }) 23 (by kernel_rfl) (by kernel_rfl) ?_
                  go_wp2_with fail
                  refine (HAP2.out _ _ (row_joined HO.out (by simp) HWF2.out)).mono ?_
                  rintro e W16 ⟨rfl, hs⟩
                  have hS' := hS.keep hs
                  have HAb' := hide' (HAb.out.keep hs)
                  clear hs
                  clear hS
                  have hS := hS'
                  clear hS'
                  clear HAb
                  have HAb := HAb'
                  clear HAb'
                  go_wp2
                  clear HAA
                  clear HO HOB HBW HR HRA
                  refine hK13 6 (by simp) _ _ hS (any_more fun K14 hK14 => ?_)
                  clear hK13 K13
                  refine any_pick (rs := [8]) hK14 (by kernel_rfl) (fun K15 hK15 => ?_)
                  clear hK14 K14
                  intro i hi
                  simp only [List.mem_cons, List.not_mem_nil, or_false] at hi
                  rcases hi with rfl
                  refine op_plain none (.store 23 (.tmp 7) (.tmp 49)) 0 (by kernel_rfl) (by kernel_rfl) ?_
                  obtain ⟨z0, z1, z2, e0, e1, e2⟩ := HAb.out
                  go_wp2
                  generalize hW2 : World.setCell (World.setCell (World.setCell _ _ _) _ _) _ _ = W17
                  have HF : Hid (TwoB w w.heap.size p A1 ⟨0, 0, 8⟩ W17 ∧ Box W17 A15 ⟨xf, xb, 0⟩) := ⟨by rw [← hW2]; exact hS.putOther HAG.out, by rw [← hW2]; exact HAb.out.put ⟨xf, xb, 0⟩⟩
                  have hS' : TwoB w w.heap.size p A1 ⟨0, 0, 8⟩ W17 := HF.out.1
                  clear hS HAb z0 z1 z2 e0 e1 e2 hW2
                  refine hK15 8 (by simp) _ _ hS' (any_more fun K16 hK16 => ?_)
                  clear hK15 K15
                  refine any_done hK16 (by kernel_rfl) ?_
                  clear hK16 K16
                  go_wp2_with fail
                  go_meet
                  exact ⟨A15, rfl, ⟨HF.out.1.1, HF.out.1.2.2, HF.out.2⟩⟩
              · refine op_plain (some 7) (.alloc 23) 0 (by kernel_rfl) (by kernel_rfl) ?_
                go_wp2
                have st : Stay (fun _ => False) W6 (W6.alloc (.cells #[.int .i64 0, .int .i64 0, .int .i64 0] 23)) := (Stay.refl _ _).alloc _
                have hS' := hS.keep st
                have HO' := hide' (st.owns HO.out (fun _ _ h => h))
                have HBW' := hide' (Nat.le_trans HBW.out st.size)
                have HR' := hide' (HR.out.stay st (fun _ _ h => h))
                have HRA' := hide' (HRA.out.alloc (.cells #[.int .i64 0, .int .i64 0, .int .i64 0] 23))
                have HAb := hide' (Box.new (w := W6) ⟨0, 0, 0⟩ rfl)
                have HAG : Hid (w.heap.size ≤ W6.heap.size ∧ w.heap.size < W6.heap.size ∧ A1 < W6.heap.size) := ⟨hS.1.size, hS.2.1.lt, hS.2.2.lt⟩
                have HAA : Hid (Apart (W6.alloc (.cells #[.int .i64 0, .int .i64 0, .int .i64 0] 23)) v5 W6.heap.size) := Apart.new HO.out
                clear st
                clear hS
                have hS := hS'
                clear hS'
                clear HO
                have HO := HO'
                clear HO'
                clear HBW
                have HBW := HBW'
                clear HBW'
                clear HR
                have HR := HR'
                clear HR'
                clear HRA
                have HRA := HRA'
                clear HRA'
                obtain ⟨A19, hA'⟩ : ∃ B, B = W6.heap.size := ⟨_, rfl⟩
                rw [← hA'] at HAb HAA HAG
                rw [← hA']
                clear hA'
                obtain ⟨W18, hW⟩ : ∃ Wq, Wq = (W6.alloc (.cells #[.int .i64 0, .int .i64 0, .int .i64 0] 23)) := ⟨_, rfl⟩
                rw [← hW] at hS HAb HAA HO HBW HR HRA
                rw [← hW]
                clear hW
                refine hK9 7 (by simp) _ _ hS (any_more fun K10 hK10 => ?_)
                clear hK9 K9
                refine any_pick (rs := [5]) hK10 (by kernel_rfl) (fun K11 hK11 => ?_)
                clear hK10 K10
                intro i hi
                simp only [List.mem_cons, List.not_mem_nil, or_false] at hi
                rcases hi with rfl
                refine op_plain (some 48) (.call { callee := Callee.builtin Builtin.append, args := #[.tmp 46, .tmp 47], argTypes := #[24, 24] }) 24 (by kernel_rfl) (by kernel_rfl) ?_
                go_wp2_with (at_builtin; refine appS rfl _ _ 24 rfl Try.underlying24 Try.info3 rfl (by decide) (by decide) HO.out rfl HR.out rfl (by intro u hu; simp at hu; rcases hu with rfl | rfl | rfl | rfl | rfl | rfl | rfl <;> rfl) (by have := HN.out; simp; omega) HBW.out ?_; intro v21 W20 ho hst hb; have HO2 := hide' ho; have HT2 := hide' hst; have HB2 := hide' hb; clear ho hst hb)
                have hS' := TwoB.own hS HT2.out HO.out HOB.out
                have HBW' := hide' (Nat.le_trans HBW.out HT2.out.size)
                have HR' := hide' (HR.out.stay HT2.out (fun k hk h => HRA.out.2 (by cases hk; exact h)))
                have HRA' := hide' (HRA.out.step HT2.out HB2.out)
                have HAb' := hide' (HAb.out.stay HT2.out (fun h => HAA.out.2 h))
                have HAA' := hide' (HAA.out.step HT2.out HB2.out)
                clear HO HT2 HB2
                clear hS
                have hS := hS'
                clear hS'
                clear HBW
                have HBW := HBW'
                clear HBW'
                clear HR
                have HR := HR'
                clear HR'
                clear HRA
                have HRA := HRA'
                clear HRA'
                clear HAb
                have HAb := HAb'
                clear HAb'
                clear HAA
                have HAA := HAA'
                clear HAA'
                have HO := HO2
                clear HO2
                refine hK11 5 (by simp) _ _ hS (any_more fun K12 hK12 => ?_)
                clear hK11 K11
                refine any_pick (rs := [6]) hK12 (by kernel_rfl) (fun K13 hK13 => ?_)
                clear hK12 K12
                intro i hi
                simp only [List.mem_cons, List.not_mem_nil, or_false] at hi
                rcases hi with rfl
                refine op_plain (some 49) (.call { callee := Callee.value (.func 11), args := #[.tmp 43, .tmp 48], argTypes := #[23, 24] }) 23 (by kernel_rfl) (by kernel_rfl) ?_
                go_wp2_with fail
                refine (HAP2.out _ _ (row_joined HO.out (by simp) HWF2.out)).mono ?_
                rintro e W22 ⟨rfl, hs⟩
                have hS' := hS.keep hs
                have HAb' := hide' (HAb.out.keep hs)
                clear hs
                clear hS
                have hS := hS'
                clear hS'
                clear HAb
                have HAb := HAb'
                clear HAb'
                go_wp2
                clear HAA
                clear HO HOB HBW HR HRA
                refine hK13 6 (by simp) _ _ hS (any_more fun K14 hK14 => ?_)
                clear hK13 K13
                refine any_pick (rs := [8]) hK14 (by kernel_rfl) (fun K15 hK15 => ?_)
                clear hK14 K14
                intro i hi
                simp only [List.mem_cons, List.not_mem_nil, or_false] at hi
                rcases hi with rfl
                refine op_plain none (.store 23 (.tmp 7) (.tmp 49)) 0 (by kernel_rfl) (by kernel_rfl) ?_
                obtain ⟨z0, z1, z2, e0, e1, e2⟩ := HAb.out
                go_wp2
                generalize hW2 : World.setCell (World.setCell (World.setCell _ _ _) _ _) _ _ = W23
                have HF : Hid (TwoB w w.heap.size p A1 ⟨0, 0, 8⟩ W23 ∧ Box W23 A19 ⟨xf, xb, 0⟩) := ⟨by rw [← hW2]; exact hS.putOther HAG.out, by rw [← hW2]; exact HAb.out.put ⟨xf, xb, 0⟩⟩
                have hS' : TwoB w w.heap.size p A1 ⟨0, 0, 8⟩ W23 := HF.out.1
                clear hS HAb z0 z1 z2 e0 e1 e2 hW2
                refine hK15 8 (by simp) _ _ hS' (any_more fun K16 hK16 => ?_)
                clear hK15 K15
                refine any_done hK16 (by kernel_rfl) ?_
                clear hK16 K16
                go_wp2_with fail
                go_meet
                exact ⟨A19, rfl, ⟨HF.out.1.1, HF.out.1.2.2, HF.out.2⟩⟩
            · refine op_plain (some 7) (.alloc 23) 0 (by kernel_rfl) (by kernel_rfl) ?_
              go_wp2
              have st : Stay (fun _ => False) W4 (W4.alloc (.cells #[.int .i64 0, .int .i64 0, .int .i64 0] 23)) := (Stay.refl _ _).alloc _
              have hS' := hS.keep st
              have HO' := hide' (st.owns HO.out (fun _ _ h => h))
              have HBW' := hide' (Nat.le_trans HBW.out st.size)
              have HAb := hide' (Box.new (w := W4) ⟨0, 0, 0⟩ rfl)
              have HAG : Hid (w.heap.size ≤ W4.heap.size ∧ w.heap.size < W4.heap.size ∧ A1 < W4.heap.size) := ⟨hS.1.size, hS.2.1.lt, hS.2.2.lt⟩
              have HAA : Hid (Apart (W4.alloc (.cells #[.int .i64 0, .int .i64 0, .int .i64 0] 23)) v5 W4.heap.size) := Apart.new HO.out
              clear st
              clear hS
              have hS := hS'
              clear hS'
              clear HO
              have HO := HO'
              clear HO'
              clear HBW
              have HBW := HBW'
              clear HBW'
              obtain ⟨A25, hA'⟩ : ∃ B, B = W4.heap.size := ⟨_, rfl⟩
              rw [← hA'] at HAb HAA HAG
              rw [← hA']
              clear hA'
              obtain ⟨W24, hW⟩ : ∃ Wq, Wq = (W4.alloc (.cells #[.int .i64 0, .int .i64 0, .int .i64 0] 23)) := ⟨_, rfl⟩
              rw [← hW] at hS HAb HAA HO HBW
              rw [← hW]
              clear hW
              refine hK7 7 (by simp) _ _ hS (any_more fun K8 hK8 => ?_)
              clear hK7 K7
              refine any_pick (rs := [4]) hK8 (by kernel_rfl) (fun K9 hK9 => ?_)
              clear hK8 K8
              intro i hi
              simp only [List.mem_cons, List.not_mem_nil, or_false] at hi
              rcases hi with rfl
              refine op_plain (some 47) (.buildSlice 24 7 #[(0, .const (Value.int IntKind.i64 22)), (1, .const (Value.int IntKind.i64 23)), (2, .const (Value.int IntKind.i64 24)), (3, .const (Value.int IntKind.i64 25)), (4, .const (Value.int IntKind.i64 27)), (5, .const (Value.int IntKind.i64 28)), (6, .const (Value.int IntKind.i64 29))]) 24 (by kernel_rfl) (by kernel_rfl) ?_
              go_wp2
              have st : Stay (fun _ => False) W24 (W24.alloc (.cells #[.int .i64 22, .int .i64 23, .int .i64 24, .int .i64 25, .int .i64 27, .int .i64 28, .int .i64 29] 3)) := (Stay.refl _ _).alloc _
              have hS' := hS.keep st
              have HO' := hide' (st.owns HO.out (fun _ _ h => h))
              have HBW' := hide' (Nat.le_trans HBW.out st.size)
              have HAb' := hide' (HAb.out.keep st)
              have HAA' := hide' (HAA.out.alloc (.cells #[.int .i64 22, .int .i64 23, .int .i64 24, .int .i64 25, .int .i64 27, .int .i64 28, .int .i64 29] 3))
              have HR := hide' (isRowS_new W24 #[.int .i64 22, .int .i64 23, .int .i64 24, .int .i64 25, .int .i64 27, .int .i64 28, .int .i64 29] 3 1 7 rfl)
              have HRA : Hid (Apart (W24.alloc (.cells #[.int .i64 22, .int .i64 23, .int .i64 24, .int .i64 25, .int .i64 27, .int .i64 28, .int .i64 29] 3)) v5 W24.heap.size) := Apart.new HO.out
              clear st
              clear hS
              have hS := hS'
              clear hS'
              clear HO
              have HO := HO'
              clear HO'
              clear HBW
              have HBW := HBW'
              clear HBW'
              clear HAb
              have HAb := HAb'
              clear HAb'
              clear HAA
              have HAA := HAA'
              clear HAA'
              obtain ⟨BR27, hBR⟩ : ∃ B, B = W24.heap.size := ⟨_, rfl⟩
              rw [← hBR] at HR HRA
              rw [← hBR]
              clear hBR
              obtain ⟨W26, hW⟩ : ∃ Wq, Wq = (W24.alloc (.cells #[.int .i64 22, .int .i64 23, .int .i64 24, .int .i64 25, .int .i64 27, .int .i64 28, .int .i64 29] 3)) := ⟨_, rfl⟩
              rw [← hW] at hS HR HRA HO HBW HAb HAA
              rw [← hW]
              clear hW
              refine hK9 4 (by simp) _ _ hS (any_more fun K10 hK10 => ?_)
              clear hK9 K9
              refine any_pick (rs := [5]) hK10 (by kernel_rfl) (fun K11 hK11 => ?_)
              clear hK10 K10
              intro i hi
              simp only [List.mem_cons, List.not_mem_nil, or_false] at hi
              rcases hi with rfl
              refine op_plain (some 48) (.call { callee := Callee.builtin Builtin.append, args := #[.tmp 46, .tmp 47], argTypes := #[24, 24] }) 24 (by kernel_rfl) (by kernel_rfl) ?_
              go_wp2_with (at_builtin; refine appS rfl _ _ 24 rfl Try.underlying24 Try.info3 rfl (by decide) (by decide) HO.out rfl HR.out rfl (by intro u hu; simp at hu; rcases hu with rfl | rfl | rfl | rfl | rfl | rfl | rfl <;> rfl) (by have := HN.out; simp; omega) HBW.out ?_; intro v29 W28 ho hst hb; have HO2 := hide' ho; have HT2 := hide' hst; have HB2 := hide' hb; clear ho hst hb)
              have hS' := TwoB.own hS HT2.out HO.out HOB.out
              have HBW' := hide' (Nat.le_trans HBW.out HT2.out.size)
              have HR' := hide' (HR.out.stay HT2.out (fun k hk h => HRA.out.2 (by cases hk; exact h)))
              have HRA' := hide' (HRA.out.step HT2.out HB2.out)
              have HAb' := hide' (HAb.out.stay HT2.out (fun h => HAA.out.2 h))
              have HAA' := hide' (HAA.out.step HT2.out HB2.out)
              clear HO HT2 HB2
              clear hS
              have hS := hS'
              clear hS'
              clear HBW
              have HBW := HBW'
              clear HBW'
              clear HR
              have HR := HR'
              clear HR'
              clear HRA
              have HRA := HRA'
              clear HRA'
              clear HAb
              have HAb := HAb'
              clear HAb'
              clear HAA
              have HAA := HAA'
              clear HAA'
              have HO := HO2
              clear HO2
              refine hK11 5 (by simp) _ _ hS (any_more fun K12 hK12 => ?_)
              clear hK11 K11
              refine any_pick (rs := [6]) hK12 (by kernel_rfl) (fun K13 hK13 => ?_)
              clear hK12 K12
              intro i hi
              simp only [List.mem_cons, List.not_mem_nil, or_false] at hi
              rcases hi with rfl
              refine op_plain (some 49) (.call { callee := Callee.value (.func 11), args := #[.tmp 43, .tmp 48], argTypes := #[23, 24] }) 23 (by kernel_rfl) (by kernel_rfl) ?_
              go_wp2_with fail
              refine (HAP2.out _ _ (row_joined HO.out (by simp) HWF2.out)).mono ?_
              rintro e W30 ⟨rfl, hs⟩
              have hS' := hS.keep hs
              have HAb' := hide' (HAb.out.keep hs)
              clear hs
              clear hS
              have hS := hS'
              clear hS'
              clear HAb
              have HAb := HAb'
              clear HAb'
              go_wp2
              clear HAA
              clear HO HOB HBW HR HRA
              refine hK13 6 (by simp) _ _ hS (any_more fun K14 hK14 => ?_)
              clear hK13 K13
              refine any_pick (rs := [8]) hK14 (by kernel_rfl) (fun K15 hK15 => ?_)
              clear hK14 K14
              intro i hi
              simp only [List.mem_cons, List.not_mem_nil, or_false] at hi
              rcases hi with rfl
              refine op_plain none (.store 23 (.tmp 7) (.tmp 49)) 0 (by kernel_rfl) (by kernel_rfl) ?_
              obtain ⟨z0, z1, z2, e0, e1, e2⟩ := HAb.out
              go_wp2
              generalize hW2 : World.setCell (World.setCell (World.setCell _ _ _) _ _) _ _ = W31
              have HF : Hid (TwoB w w.heap.size p A1 ⟨0, 0, 8⟩ W31 ∧ Box W31 A25 ⟨xf, xb, 0⟩) := ⟨by rw [← hW2]; exact hS.putOther HAG.out, by rw [← hW2]; exact HAb.out.put ⟨xf, xb, 0⟩⟩
              have hS' : TwoB w w.heap.size p A1 ⟨0, 0, 8⟩ W31 := HF.out.1
              clear hS HAb z0 z1 z2 e0 e1 e2 hW2
              refine hK15 8 (by simp) _ _ hS' (any_more fun K16 hK16 => ?_)
              clear hK15 K15
              refine any_done hK16 (by kernel_rfl) ?_
              clear hK16 K16
              go_wp2_with fail
              go_meet
              exact ⟨A25, rfl, ⟨HF.out.1.1, HF.out.1.2.2, HF.out.2⟩⟩
          · refine op_plain (some 47) (.buildSlice 24 7 #[(0, .const (Value.int IntKind.i64 22)), (1, .const (Value.int IntKind.i64 23)), (2, .const (Value.int IntKind.i64 24)), (3, .const (Value.int IntKind.i64 25)), (4, .const (Value.int IntKind.i64 27)), (5, .const (Value.int IntKind.i64 28)), (6, .const (Value.int IntKind.i64 29))]) 24 (by kernel_rfl) (by kernel_rfl) ?_
            go_wp2
            have st : Stay (fun _ => False) W1 (W1.alloc (.cells #[.int .i64 22, .int .i64 23, .int .i64 24, .int .i64 25, .int .i64 27, .int .i64 28, .int .i64 29] 3)) := (Stay.refl _ _).alloc _
            have hS' := hS.keep st
            have HO' := hide' (st.owns HO.out (fun _ _ h => h))
            have HBW' := hide' (Nat.le_trans HBW.out st.size)
            have HR := hide' (isRowS_new W1 #[.int .i64 22, .int .i64 23, .int .i64 24, .int .i64 25, .int .i64 27, .int .i64 28, .int .i64 29] 3 1 7 rfl)
            have HRA : Hid (Apart (W1.alloc (.cells #[.int .i64 22, .int .i64 23, .int .i64 24, .int .i64 25, .int .i64 27, .int .i64 28, .int .i64 29] 3)) vO2 W1.heap.size) := Apart.new HO.out
            clear st
            clear hS
            have hS := hS'
            clear hS'
            clear HO
            have HO := HO'
            clear HO'
            clear HBW
            have HBW := HBW'
            clear HBW'
            obtain ⟨BR33, hBR⟩ : ∃ B, B = W1.heap.size := ⟨_, rfl⟩
            rw [← hBR] at HR HRA
            rw [← hBR]
            clear hBR
            obtain ⟨W32, hW⟩ : ∃ Wq, Wq = (W1.alloc (.cells #[.int .i64 22, .int .i64 23, .int .i64 24, .int .i64 25, .int .i64 27, .int .i64 28, .int .i64 29] 3)) := ⟨_, rfl⟩
            rw [← hW] at hS HR HRA HO HBW
            rw [← hW]
            clear hW
            refine hK5 4 (by simp) _ _ hS (any_more fun K6 hK6 => ?_)
            clear hK5 K5
            refine any_pick (rs := [3, 7]) hK6 (by kernel_rfl) (fun K7 hK7 => ?_)
            clear hK6 K6
            intro i hi
            simp only [List.mem_cons, List.not_mem_nil, or_false] at hi
            rcases hi with rfl | rfl
            · refine op_plain (some 46) (.call { callee := Callee.builtin Builtin.append, args := #[.tmp 44, .tmp 45], argTypes := #[24, 24] }) 24 (by kernel_rfl) (by kernel_rfl) ?_
              have HSRC := hide' (isRowS_of (HA.out.stay0 hS.1).row)
              go_wp2_with (at_builtin; refine appS rfl _ _ 24 rfl Try.underlying24 Try.info3 rfl (by decide) (by decide) HO.out rfl HSRC.out rfl (one_ints _ _) (by have := HN.out; simp; omega) HBW.out ?_; intro v35 W34 ho hst hb; have HO2 := hide' ho; have HT2 := hide' hst; have HB2 := hide' hb; clear ho hst hb)
              have hS' := TwoB.own hS HT2.out HO.out HOB.out
              have HBW' := hide' (Nat.le_trans HBW.out HT2.out.size)
              have HR' := hide' (HR.out.stay HT2.out (fun k hk h => HRA.out.2 (by cases hk; exact h)))
              have HRA' := hide' (HRA.out.step HT2.out HB2.out)
              clear HO HT2 HB2 HSRC
              clear hS
              have hS := hS'
              clear hS'
              clear HBW
              have HBW := HBW'
              clear HBW'
              clear HR
              have HR := HR'
              clear HR'
              clear HRA
              have HRA := HRA'
              clear HRA'
              have HO := HO2
              clear HO2
              refine hK7 3 (by simp) _ _ hS (any_more fun K8 hK8 => ?_)
              clear hK7 K7
              refine any_pick (rs := [5, 7]) hK8 (by kernel_rfl) (fun K9 hK9 => ?_)
              clear hK8 K8
              intro i hi
              simp only [List.mem_cons, List.not_mem_nil, or_false] at hi
              rcases hi with rfl | rfl
              · refine op_plain (some 48) (.call { callee := Callee.builtin Builtin.append, args := #[.tmp 46, .tmp 47], argTypes := #[24, 24] }) 24 (by kernel_rfl) (by kernel_rfl) ?_
                go_wp2_with (at_builtin; refine appS rfl _ _ 24 rfl Try.underlying24 Try.info3 rfl (by decide) (by decide) HO.out rfl HR.out rfl (by intro u hu; simp at hu; rcases hu with rfl | rfl | rfl | rfl | rfl | rfl | rfl <;> rfl) (by have := HN.out; simp; omega) HBW.out ?_; intro v37 W36 ho hst hb; have HO2 := hide' ho; have HT2 := hide' hst; have HB2 := hide' hb; clear ho hst hb)
                have hS' := TwoB.own hS HT2.out HO.out HOB.out
                have HBW' := hide' (Nat.le_trans HBW.out HT2.out.size)
                have HR' := hide' (HR.out.stay HT2.out (fun k hk h => HRA.out.2 (by cases hk; exact h)))
                have HRA' := hide' (HRA.out.step HT2.out HB2.out)
                clear HO HT2 HB2
                clear hS
                have hS := hS'
                clear hS'
                clear HBW
                have HBW := HBW'
                clear HBW'
                clear HR
                have HR := HR'
                clear HR'
                clear HRA
                have HRA := HRA'
                clear HRA'
                have HO := HO2
                clear HO2
                refine hK9 5 (by simp) _ _ hS (any_more fun K10 hK10 => ?_)
                clear hK9 K9
                refine any_pick (rs := [6, 7]) hK10 (by kernel_rfl) (fun K11 hK11 => ?_)
                clear hK10 K10
                intro i hi
                simp only [List.mem_cons, List.not_mem_nil, or_false] at hi
                rcases hi with rfl | rfl
                · refine op_plain (some 49) (.call { callee := Callee.value (.func 11), args := #[.tmp 43, .tmp 48], argTypes := #[23, 24] }) 23 (by kernel_rfl) (by kernel_rfl) ?_
                  go_wp2_with fail
                  refine (HAP2.out _ _ (row_joined HO.out (by simp) HWF2.out)).mono ?_
                  rintro e W38 ⟨rfl, hs⟩
                  have hS' := hS.keep hs
                  clear hs
                  clear hS
                  have hS := hS'
                  clear hS'
                  go_wp2
                  clear HO HOB HBW HR HRA
                  refine hK11 6 (by simp) _ _ hS (any_more fun K12 hK12 => ?_)
                  clear hK11 K11
                  refine any_pick (rs := [7]) hK12 (by kernel_rfl) (fun K13 hK13 => ?_)
                  clear hK12 K12
                  intro i hi
                  simp only [List.mem_cons, List.not_mem_nil, or_false] at hi
                  rcases hi with rfl
                  refine op_plain (some 7) (.alloc 23) 0 (by kernel_rfl) (by kernel_rfl) ?_
                  go_wp2
                  have st : Stay (fun _ => False) W38 (W38.alloc (.cells #[.int .i64 0, .int .i64 0, .int .i64 0] 23)) := (Stay.refl _ _).alloc _
                  have hS' := hS.keep st
                  have HAb := hide' (Box.new (w := W38) ⟨0, 0, 0⟩ rfl)
                  have HAG : Hid (w.heap.size ≤ W38.heap.size ∧ w.heap.size < W38.heap.size ∧ A1 < W38.heap.size) := ⟨hS.1.size, hS.2.1.lt, hS.2.2.lt⟩
                  have HAA : Hid (Apart (W38.alloc (.cells #[.int .i64 0, .int .i64 0, .int .i64 0] 23)) (.slice none 0 0) W38.heap.size) := Apart.none _ _
                  clear st
                  clear hS
                  have hS := hS'
                  clear hS'
                  obtain ⟨A40, hA'⟩ : ∃ B, B = W38.heap.size := ⟨_, rfl⟩
                  rw [← hA'] at HAb HAA HAG
                  rw [← hA']
                  clear hA'
                  obtain ⟨W39, hW⟩ : ∃ Wq, Wq = (W38.alloc (.cells #[.int .i64 0, .int .i64 0, .int .i64 0] 23)) := ⟨_, rfl⟩
                  rw [← hW] at hS HAb HAA
                  rw [← hW]
                  clear hW
                  refine hK13 7 (by simp) _ _ hS (any_more fun K14 hK14 => ?_)
                  clear hK13 K13
                  refine any_pick (rs := [8]) hK14 (by kernel_rfl) (fun K15 hK15 => ?_)
                  clear hK14 K14
                  intro i hi
                  simp only [List.mem_cons, List.not_mem_nil, or_false] at hi
                  rcases hi with rfl
                  refine op_plain none (.store 23 (.tmp 7) (.tmp 49)) 0 (by kernel_rfl) (by kernel_rfl) ?_
                  obtain ⟨z0, z1, z2, e0, e1, e2⟩ := HAb.out
                  go_wp2
                  generalize hW2 : World.setCell (World.setCell (World.setCell _ _ _) _ _) _ _ = W41
                  have HF : Hid (TwoB w w.heap.size p A1 ⟨0, 0, 8⟩ W41 ∧ Box W41 A40 ⟨xf, xb, 0⟩) := ⟨by rw [← hW2]; exact hS.putOther HAG.out, by rw [← hW2]; exact HAb.out.put ⟨xf, xb, 0⟩⟩
                  have hS' : TwoB w w.heap.size p A1 ⟨0, 0, 8⟩ W41 := HF.out.1
                  clear hS HAb z0 z1 z2 e0 e1 e2 hW2
                  refine hK15 8 (by simp) _ _ hS' (any_more fun K16 hK16 => ?_)
                  clear hK15 K15
                  refine any_done hK16 (by kernel_rfl) ?_
                  clear hK16 K16
                  go_wp2_with fail
                  go_meet
                  exact ⟨A40, rfl, ⟨HF.out.1.1, HF.out.1.2.2, HF.out.2⟩⟩
                · refine op_plain (some 7) (.alloc 23) 0 (by kernel_rfl) (by kernel_rfl) ?_
                  go_wp2
                  have st : Stay (fun _ => False) W36 (W36.alloc (.cells #[.int .i64 0, .int .i64 0, .int .i64 0] 23)) := (Stay.refl _ _).alloc _
                  have hS' := hS.keep st
                  have HO' := hide' (st.owns HO.out (fun _ _ h => h))
                  have HBW' := hide' (Nat.le_trans HBW.out st.size)
                  have HR' := hide' (HR.out.stay st (fun _ _ h => h))
                  have HRA' := hide' (HRA.out.alloc (.cells #[.int .i64 0, .int .i64 0, .int .i64 0] 23))
                  have HAb := hide' (Box.new (w := W36) ⟨0, 0, 0⟩ rfl)
                  have HAG : Hid (w.heap.size ≤ W36.heap.size ∧ w.heap.size < W36.heap.size ∧ A1 < W36.heap.size) := ⟨hS.1.size, hS.2.1.lt, hS.2.2.lt⟩
                  have HAA : Hid (Apart (W36.alloc (.cells #[.int .i64 0, .int .i64 0, .int .i64 0] 23)) v37 W36.heap.size) := Apart.new HO.out
                  clear st
                  clear hS
                  have hS := hS'
                  clear hS'
                  clear HO
                  have HO := HO'
                  clear HO'
                  clear HBW
                  have HBW := HBW'
                  clear HBW'
                  clear HR
                  have HR := HR'
                  clear HR'
                  clear HRA
                  have HRA := HRA'
                  clear HRA'
                  obtain ⟨A43, hA'⟩ : ∃ B, B = W36.heap.size := ⟨_, rfl⟩
                  rw [← hA'] at HAb HAA HAG
                  rw [← hA']
                  clear hA'
                  obtain ⟨W42, hW⟩ : ∃ Wq, Wq = (W36.alloc (.cells #[.int .i64 0, .int .i64 0, .int .i64 0] 23)) := ⟨_, rfl⟩
                  rw [← hW] at hS HAb HAA HO HBW HR HRA
                  rw [← hW]
                  clear hW
                  refine hK11 7 (by simp) _ _ hS (any_more fun K12 hK12 => ?_)
                  clear hK11 K11
                  refine any_pick (rs := [6]) hK12 (by kernel_rfl) (fun K13 hK13 => ?_)
                  clear hK12 K12
                  intro i hi
                  simp only [List.mem_cons, List.not_mem_nil, or_false] at hi
                  rcases hi with rfl
                  refine op_plain (some 49) (.call { callee := Callee.value (.func 11), args := #[.tmp 43, .tmp 48], argTypes := #[23, 24] }) 23 (by kernel_rfl) (by kernel_rfl) ?_
                  go_wp2_with fail
                  refine (HAP2.out _ _ (row_joined HO.out (by simp) HWF2.out)).mono ?_
                  rintro e W44 ⟨rfl, hs⟩
                  have hS' := hS.keep hs
                  have HAb' := hide' (HAb.out.keep hs)
                  clear hs
                  clear hS
                  have hS := hS'
                  clear hS'
                  clear HAb
                  have HAb := HAb'
                  clear HAb'
                  go_wp2
                  clear HAA
                  clear HO HOB HBW HR HRA
                  refine hK13 6 (by simp) _ _ hS (any_more fun K14 hK14 => ?_)
                  clear hK13 K13
                  refine any_pick (rs := [8]) hK14 (by kernel_rfl) (fun K15 hK15 => ?_)
                  clear hK14 K14
                  intro i hi
                  simp only [List.mem_cons, List.not_mem_nil, or_false] at hi
                  rcases hi with rfl
                  refine op_plain none (.store 23 (.tmp 7) (.tmp 49)) 0 (by kernel_rfl) (by kernel_rfl) ?_
                  obtain ⟨z0, z1, z2, e0, e1, e2⟩ := HAb.out
                  go_wp2
                  generalize hW2 : World.setCell (World.setCell (World.setCell _ _ _) _ _) _ _ = W45
                  have HF : Hid (TwoB w w.heap.size p A1 ⟨0, 0, 8⟩ W45 ∧ Box W45 A43 ⟨xf, xb, 0⟩) := ⟨by rw [← hW2]; exact hS.putOther HAG.out, by rw [← hW2]; exact HAb.out.put ⟨xf, xb, 0⟩⟩
                  have hS' : TwoB w w.heap.size p A1 ⟨0, 0, 8⟩ W45 := HF.out.1
                  clear hS HAb z0 z1 z2 e0 e1 e2 hW2
                  refine hK15 8 (by simp) _ _ hS' (any_more fun K16 hK16 => ?_)
                  clear hK15 K15
                  refine any_done hK16 (by kernel_rfl) ?_
                  clear hK16 K16
                  go_wp2_with fail
                  go_meet
                  exact ⟨A43, rfl, ⟨HF.out.1.1, HF.out.1.2.2, HF.out.2⟩⟩
              · refine op_plain (some 7) (.alloc 23) 0 (by kernel_rfl) (by kernel_rfl) ?_
                go_wp2
                have st : Stay (fun _ => False) W34 (W34.alloc (.cells #[.int .i64 0, .int .i64 0, .int .i64 0] 23)) := (Stay.refl _ _).alloc _
                have hS' := hS.keep st
                have HO' := hide' (st.owns HO.out (fun _ _ h => h))
                have HBW' := hide' (Nat.le_trans HBW.out st.size)
                have HR' := hide' (HR.out.stay st (fun _ _ h => h))
                have HRA' := hide' (HRA.out.alloc (.cells #[.int .i64 0, .int .i64 0, .int .i64 0] 23))
                have HAb := hide' (Box.new (w := W34) ⟨0, 0, 0⟩ rfl)
                have HAG : Hid (w.heap.size ≤ W34.heap.size ∧ w.heap.size < W34.heap.size ∧ A1 < W34.heap.size) := ⟨hS.1.size, hS.2.1.lt, hS.2.2.lt⟩
                have HAA : Hid (Apart (W34.alloc (.cells #[.int .i64 0, .int .i64 0, .int .i64 0] 23)) v35 W34.heap.size) := Apart.new HO.out
                clear st
                clear hS
                have hS := hS'
                clear hS'
                clear HO
                have HO := HO'
                clear HO'
                clear HBW
                have HBW := HBW'
                clear HBW'
                clear HR
                have HR := HR'
                clear HR'
                clear HRA
                have HRA := HRA'
                clear HRA'
                obtain ⟨A47, hA'⟩ : ∃ B, B = W34.heap.size := ⟨_, rfl⟩
                rw [← hA'] at HAb HAA HAG
                rw [← hA']
                clear hA'
                obtain ⟨W46, hW⟩ : ∃ Wq, Wq = (W34.alloc (.cells #[.int .i64 0, .int .i64 0, .int .i64 0] 23)) := ⟨_, rfl⟩
                rw [← hW] at hS HAb HAA HO HBW HR HRA
                rw [← hW]
                clear hW
                refine hK9 7 (by simp) _ _ hS (any_more fun K10 hK10 => ?_)
                clear hK9 K9
                refine any_pick (rs := [5]) hK10 (by kernel_rfl) (fun K11 hK11 => ?_)
                clear hK10 K10
                intro i hi
                simp only [List.mem_cons, List.not_mem_nil, or_false] at hi
                rcases hi with rfl
                refine op_plain (some 48) (.call { callee := Callee.builtin Builtin.append, args := #[.tmp 46, .tmp 47], argTypes := #[24, 24] }) 24 (by kernel_rfl) (by kernel_rfl) ?_
                go_wp2_with (at_builtin; refine appS rfl _ _ 24 rfl Try.underlying24 Try.info3 rfl (by decide) (by decide) HO.out rfl HR.out rfl (by intro u hu; simp at hu; rcases hu with rfl | rfl | rfl | rfl | rfl | rfl | rfl <;> rfl) (by have := HN.out; simp; omega) HBW.out ?_; intro v49 W48 ho hst hb; have HO2 := hide' ho; have HT2 := hide' hst; have HB2 := hide' hb; clear ho hst hb)
                have hS' := TwoB.own hS HT2.out HO.out HOB.out
                have HBW' := hide' (Nat.le_trans HBW.out HT2.out.size)
                have HR' := hide' (HR.out.stay HT2.out (fun k hk h => HRA.out.2 (by cases hk; exact h)))
                have HRA' := hide' (HRA.out.step HT2.out HB2.out)
                have HAb' := hide' (HAb.out.stay HT2.out (fun h => HAA.out.2 h))
                have HAA' := hide' (HAA.out.step HT2.out HB2.out)
                clear HO HT2 HB2
                clear hS
                have hS := hS'
                clear hS'
                clear HBW
                have HBW := HBW'
                clear HBW'
                clear HR
                have HR := HR'
                clear HR'
                clear HRA
                have HRA := HRA'
                clear HRA'
                clear HAb
                have HAb := HAb'
                clear HAb'
                clear HAA
                have HAA := HAA'
                clear HAA'
                have HO := HO2
                clear HO2
                refine hK11 5 (by simp) _ _ hS (any_more fun K12 hK12 => ?_)
                clear hK11 K11
                refine any_pick (rs := [6]) hK12 (by kernel_rfl) (fun K13 hK13 => ?_)
                clear hK12 K12
                intro i hi
                simp only [List.mem_cons, List.not_mem_nil, or_false] at hi
                rcases hi with rfl
                refine op_plain (some 49) (.call { callee := Callee.value (.func 11), args := #[.tmp 43, .tmp 48], argTypes := #[23, 24] }) 23 (by kernel_rfl) (by kernel_rfl) ?_
                go_wp2_with fail
                refine (HAP2.out _ _ (row_joined HO.out (by simp) HWF2.out)).mono ?_
                rintro e W50 ⟨rfl, hs⟩
                have hS' := hS.keep hs
                have HAb' := hide' (HAb.out.keep hs)
                clear hs
                clear hS
                have hS := hS'
                clear hS'
                clear HAb
                have HAb := HAb'
                clear HAb'
                go_wp2
                clear HAA
                clear HO HOB HBW HR HRA
                refine hK13 6 (by simp) _ _ hS (any_more fun K14 hK14 => ?_)
                clear hK13 K13
                refine any_pick (rs := [8]) hK14 (by kernel_rfl) (fun K15 hK15 => ?_)
                clear hK14 K14
                intro i hi
                simp only [List.mem_cons, List.not_mem_nil, or_false] at hi
                rcases hi with rfl
                refine op_plain none (.store 23 (.tmp 7) (.tmp 49)) 0 (by kernel_rfl) (by kernel_rfl) ?_
                obtain ⟨z0, z1, z2, e0, e1, e2⟩ := HAb.out
                go_wp2
                generalize hW2 : World.setCell (World.setCell (World.setCell _ _ _) _ _) _ _ = W51
                have HF : Hid (TwoB w w.heap.size p A1 ⟨0, 0, 8⟩ W51 ∧ Box W51 A47 ⟨xf, xb, 0⟩) := ⟨by rw [← hW2]; exact hS.putOther HAG.out, by rw [← hW2]; exact HAb.out.put ⟨xf, xb, 0⟩⟩
                have hS' : TwoB w w.heap.size p A1 ⟨0, 0, 8⟩ W51 := HF.out.1
                clear hS HAb z0 z1 z2 e0 e1 e2 hW2
                refine hK15 8 (by simp) _ _ hS' (any_more fun K16 hK16 => ?_)
                clear hK15 K15
                refine any_done hK16 (by kernel_rfl) ?_
                clear hK16 K16
                go_wp2_with fail
                go_meet
                exact ⟨A47, rfl, ⟨HF.out.1.1, HF.out.1.2.2, HF.out.2⟩⟩
            · refine op_plain (some 7) (.alloc 23) 0 (by kernel_rfl) (by kernel_rfl) ?_
              go_wp2
              have st : Stay (fun _ => False) W32 (W32.alloc (.cells #[.int .i64 0, .int .i64 0, .int .i64 0] 23)) := (Stay.refl _ _).alloc _
              have hS' := hS.keep st
              have HO' := hide' (st.owns HO.out (fun _ _ h => h))
              have HBW' := hide' (Nat.le_trans HBW.out st.size)
              have HR' := hide' (HR.out.stay st (fun _ _ h => h))
              have HRA' := hide' (HRA.out.alloc (.cells #[.int .i64 0, .int .i64 0, .int .i64 0] 23))
              have HAb := hide' (Box.new (w := W32) ⟨0, 0, 0⟩ rfl)
              have HAG : Hid (w.heap.size ≤ W32.heap.size ∧ w.heap.size < W32.heap.size ∧ A1 < W32.heap.size) := ⟨hS.1.size, hS.2.1.lt, hS.2.2.lt⟩
              have HAA : Hid (Apart (W32.alloc (.cells #[.int .i64 0, .int .i64 0, .int .i64 0] 23)) vO2 W32.heap.size) := Apart.new HO.out
              clear st
              clear hS
              have hS := hS'
              clear hS'
              clear HO
              have HO := HO'
              clear HO'
              clear HBW
              have HBW := HBW'
              clear HBW'
              clear HR
              have HR := HR'
              clear HR'
              clear HRA
              have HRA := HRA'
              clear HRA'
              obtain ⟨A53, hA'⟩ : ∃ B, B = W32.heap.size := ⟨_, rfl⟩
              rw [← hA'] at HAb HAA HAG
              rw [← hA']
              clear hA'
              obtain ⟨W52, hW⟩ : ∃ Wq, Wq = (W32.alloc (.cells #[.int .i64 0, .int .i64 0, .int .i64 0] 23)) := ⟨_, rfl⟩
              rw [← hW] at hS HAb HAA HO HBW HR HRA
              rw [← hW]
              clear hW
              refine hK7 7 (by simp) _ _ hS (any_more fun K8 hK8 => ?_)
              clear hK7 K7
              refine any_pick (rs := [3]) hK8 (by kernel_rfl) (fun K9 hK9 => ?_)
              clear hK8 K8
              intro i hi
              simp only [List.mem_cons, List.not_mem_nil, or_false] at hi
              rcases hi with rfl
              refine op_plain (some 46) (.call { callee := Callee.builtin Builtin.append, args := #[.tmp 44, .tmp 45], argTypes := #[24, 24] }) 24 (by kernel_rfl) (by kernel_rfl) ?_
              have HSRC := hide' (isRowS_of (HA.out.stay0 hS.1).row)
              go_wp2_with (at_builtin; refine appS rfl _ _ 24 rfl Try.underlying24 Try.info3 rfl (by decide) (by decide) HO.out rfl HSRC.out rfl (one_ints _ _) (by have := HN.out; simp; omega) HBW.out ?_; intro v55 W54 ho hst hb; have HO2 := hide' ho; have HT2 := hide' hst; have HB2 := hide' hb; clear ho hst hb)
              have hS' := TwoB.own hS HT2.out HO.out HOB.out
              have HBW' := hide' (Nat.le_trans HBW.out HT2.out.size)
              have HR' := hide' (HR.out.stay HT2.out (fun k hk h => HRA.out.2 (by cases hk; exact h)))
              have HRA' := hide' (HRA.out.step HT2.out HB2.out)
              have HAb' := hide' (HAb.out.stay HT2.out (fun h => HAA.out.2 h))
              have HAA' := hide' (HAA.out.step HT2.out HB2.out)
              clear HO HT2 HB2 HSRC
              clear hS
              have hS := hS'
              clear hS'
              clear HBW
              have HBW := HBW'
              clear HBW'
              clear HR
              have HR := HR'
              clear HR'
              clear HRA
              have HRA := HRA'
              clear HRA'
              clear HAb
              have HAb := HAb'
              clear HAb'
              clear HAA
              have HAA := HAA'
              clear HAA'
              have HO := HO2
              clear HO2
              refine hK9 3 (by simp) _ _ hS (any_more fun K10 hK10 => ?_)
              clear hK9 K9
              refine any_pick (rs := [5]) hK10 (by kernel_rfl) (fun K11 hK11 => ?_)
              clear hK10 K10
              intro i hi
              simp only [List.mem_cons, List.not_mem_nil, or_false] at hi
              rcases hi with rfl
              refine op_plain (some 48) (.call { callee := Callee.builtin Builtin.append, args := #[.tmp 46, .tmp 47], argTypes := #[24, 24] }) 24 (by kernel_rfl) (by kernel_rfl) ?_
              go_wp2_with (at_builtin; refine appS rfl _ _ 24 rfl Try.underlying24 Try.info3 rfl (by decide) (by decide) HO.out rfl HR.out rfl (by intro u hu; simp at hu; rcases hu with rfl | rfl | rfl | rfl | rfl | rfl | rfl <;> rfl) (by have := HN.out; simp; omega) HBW.out ?_; intro v57 W56 ho hst hb; have HO2 := hide' ho; have HT2 := hide' hst; have HB2 := hide' hb; clear ho hst hb)
              have hS' := TwoB.own hS HT2.out HO.out HOB.out
              have HBW' := hide' (Nat.le_trans HBW.out HT2.out.size)
              have HR' := hide' (HR.out.stay HT2.out (fun k hk h => HRA.out.2 (by cases hk; exact h)))
              have HRA' := hide' (HRA.out.step HT2.out HB2.out)
              have HAb' := hide' (HAb.out.stay HT2.out (fun h => HAA.out.2 h))
              have HAA' := hide' (HAA.out.step HT2.out HB2.out)
              clear HO HT2 HB2
              clear hS
              have hS := hS'
              clear hS'
              clear HBW
              have HBW := HBW'
              clear HBW'
              clear HR
              have HR := HR'
              clear HR'
              clear HRA
              have HRA := HRA'
              clear HRA'
              clear HAb
              have HAb := HAb'
              clear HAb'
              clear HAA
              have HAA := HAA'
              clear HAA'
              have HO := HO2
              clear HO2
              refine hK11 5 (by simp) _ _ hS (any_more fun K12 hK12 => ?_)
              clear hK11 K11
              refine any_pick (rs := [6]) hK12 (by kernel_rfl) (fun K13 hK13 => ?_)
              clear hK12 K12
              intro i hi
              simp only [List.mem_cons, List.not_mem_nil, or_false] at hi
              rcases hi with rfl
              refine op_plain (some 49) (.call { callee := Callee.value (.func 11), args := #[.tmp 43, .tmp 48], argTypes := #[23, 24] }) 23 (by kernel_rfl) (by kernel_rfl) ?_
              go_wp2_with fail
              refine (HAP2.out _ _ (row_joined HO.out (by simp) HWF2.out)).mono ?_
              rintro e W58 ⟨rfl, hs⟩
              have hS' := hS.keep hs
              have HAb' := hide' (HAb.out.keep hs)
              clear hs
              clear hS
              have hS := hS'
              clear hS'
              clear HAb
              have HAb := HAb'
              clear HAb'
              go_wp2
              clear HAA
              clear HO HOB HBW HR HRA
              refine hK13 6 (by simp) _ _ hS (any_more fun K14 hK14 => ?_)
              clear hK13 K13
              refine any_pick (rs := [8]) hK14 (by kernel_rfl) (fun K15 hK15 => ?_)
              clear hK14 K14
              intro i hi
              simp only [List.mem_cons, List.not_mem_nil, or_false] at hi
              rcases hi with rfl
              refine op_plain none (.store 23 (.tmp 7) (.tmp 49)) 0 (by kernel_rfl) (by kernel_rfl) ?_
              obtain ⟨z0, z1, z2, e0, e1, e2⟩ := HAb.out
              go_wp2
              generalize hW2 : World.setCell (World.setCell (World.setCell _ _ _) _ _) _ _ = W59
              have HF : Hid (TwoB w w.heap.size p A1 ⟨0, 0, 8⟩ W59 ∧ Box W59 A53 ⟨xf, xb, 0⟩) := ⟨by rw [← hW2]; exact hS.putOther HAG.out, by rw [← hW2]; exact HAb.out.put ⟨xf, xb, 0⟩⟩
              have hS' : TwoB w w.heap.size p A1 ⟨0, 0, 8⟩ W59 := HF.out.1
              clear hS HAb z0 z1 z2 e0 e1 e2 hW2
              refine hK15 8 (by simp) _ _ hS' (any_more fun K16 hK16 => ?_)
              clear hK15 K15
              refine any_done hK16 (by kernel_rfl) ?_
              clear hK16 K16
              go_wp2_with fail
              go_meet
              exact ⟨A53, rfl, ⟨HF.out.1.1, HF.out.1.2.2, HF.out.2⟩⟩
          · refine op_plain (some 7) (.alloc 23) 0 (by kernel_rfl) (by kernel_rfl) ?_
            go_wp2
            have st : Stay (fun _ => False) W1 (W1.alloc (.cells #[.int .i64 0, .int .i64 0, .int .i64 0] 23)) := (Stay.refl _ _).alloc _
            have hS' := hS.keep st
            have HO' := hide' (st.owns HO.out (fun _ _ h => h))
            have HBW' := hide' (Nat.le_trans HBW.out st.size)
            have HAb := hide' (Box.new (w := W1) ⟨0, 0, 0⟩ rfl)
            have HAG : Hid (w.heap.size ≤ W1.heap.size ∧ w.heap.size < W1.heap.size ∧ A1 < W1.heap.size) := ⟨hS.1.size, hS.2.1.lt, hS.2.2.lt⟩
            have HAA : Hid (Apart (W1.alloc (.cells #[.int .i64 0, .int .i64 0, .int .i64 0] 23)) vO2 W1.heap.size) := Apart.new HO.out
            clear st
            clear hS
            have hS := hS'
            clear hS'
            clear HO
            have HO := HO'
            clear HO'
            clear HBW
            have HBW := HBW'
            clear HBW'
            obtain ⟨A61, hA'⟩ : ∃ B, B = W1.heap.size := ⟨_, rfl⟩
            rw [← hA'] at HAb HAA HAG
            rw [← hA']
            clear hA'
            obtain ⟨W60, hW⟩ : ∃ Wq, Wq = (W1.alloc (.cells #[.int .i64 0, .int .i64 0, .int .i64 0] 23)) := ⟨_, rfl⟩
            rw [← hW] at hS HAb HAA HO HBW
            rw [← hW]
            clear hW
            refine hK5 7 (by simp) _ _ hS (any_more fun K6 hK6 => ?_)
            clear hK5 K5
            refine any_pick (rs := [3, 4]) hK6 (by kernel_rfl) (fun K7 hK7 => ?_)
            clear hK6 K6
            intro i hi
            simp only [List.mem_cons, List.not_mem_nil, or_false] at hi
            rcases hi with rfl | rfl
            · refine op_plain (some 46) (.call { callee := Callee.builtin Builtin.append, args := #[.tmp 44, .tmp 45], argTypes := #[24, 24] }) 24 (by kernel_rfl) (by kernel_rfl) ?_
              have HSRC := hide' (isRowS_of (HA.out.stay0 hS.1).row)
              go_wp2_with (at_builtin; refine appS rfl _ _ 24 rfl Try.underlying24 Try.info3 rfl (by decide) (by decide) HO.out rfl HSRC.out rfl (one_ints _ _) (by have := HN.out; simp; omega) HBW.out ?_; intro v63 W62 ho hst hb; have HO2 := hide' ho; have HT2 := hide' hst; have HB2 := hide' hb; clear ho hst hb)
              have hS' := TwoB.own hS HT2.out HO.out HOB.out
              have HBW' := hide' (Nat.le_trans HBW.out HT2.out.size)
              have HAb' := hide' (HAb.out.stay HT2.out (fun h => HAA.out.2 h))
              have HAA' := hide' (HAA.out.step HT2.out HB2.out)
              clear HO HT2 HB2 HSRC
              clear hS
              have hS := hS'
              clear hS'
              clear HBW
              have HBW := HBW'
              clear HBW'
              clear HAb
              have HAb := HAb'
              clear HAb'
              clear HAA
              have HAA := HAA'
              clear HAA'
              have HO := HO2
              clear HO2
              refine hK7 3 (by simp) _ _ hS (any_more fun K8 hK8 => ?_)
              clear hK7 K7
              refine any_pick (rs := [4]) hK8 (by kernel_rfl) (fun K9 hK9 => ?_)
              clear hK8 K8
              intro i hi
              simp only [List.mem_cons, List.not_mem_nil, or_false] at hi
              rcases hi with rfl
              refine op_plain (some 47) (.buildSlice 24 7 #[(0, .const (Value.int IntKind.i64 22)), (1, .const (Value.int IntKind.i64 23)), (2, .const (Value.int IntKind.i64 24)), (3, .const (Value.int IntKind.i64 25)), (4, .const (Value.int IntKind.i64 27)), (5, .const (Value.int IntKind.i64 28)), (6, .const (Value.int IntKind.i64 29))]) 24 (by kernel_rfl) (by kernel_rfl) ?_
              go_wp2
              have st : Stay (fun _ => False) W62 (W62.alloc (.cells #[.int .i64 22, .int .i64 23, .int .i64 24, .int .i64 25, .int .i64 27, .int .i64 28, .int .i64 29] 3)) := (Stay.refl _ _).alloc _
              have hS' := hS.keep st
              have HO' := hide' (st.owns HO.out (fun _ _ h => h))
              have HBW' := hide' (Nat.le_trans HBW.out st.size)
              have HAb' := hide' (HAb.out.keep st)
              have HAA' := hide' (HAA.out.alloc (.cells #[.int .i64 22, .int .i64 23, .int .i64 24, .int .i64 25, .int .i64 27, .int .i64 28, .int .i64 29] 3))
              have HR := hide' (isRowS_new W62 #[.int .i64 22, .int .i64 23, .int .i64 24, .int .i64 25, .int .i64 27, .int .i64 28, .int .i64 29] 3 1 7 rfl)
              have HRA : Hid (Apart (W62.alloc (.cells #[.int .i64 22, .int .i64 23, .int .i64 24, .int .i64 25, .int .i64 27, .int .i64 28, .int .i64 29] 3)) v63 W62.heap.size) := Apart.new HO.out
              clear st
              clear hS
              have hS := hS'
              clear hS'
              clear HO
              have HO := HO'
              clear HO'
              clear HBW
              have HBW := HBW'
              clear HBW'
              clear HAb
              have HAb := HAb'
              clear HAb'
              clear HAA
              have HAA := HAA'
              clear HAA'
              obtain ⟨BR65, hBR⟩ : ∃ B, B = W62.heap.size := ⟨_, rfl⟩
              rw [← hBR] at HR HRA
              rw [← hBR]
              clear hBR
              obtain ⟨W64, hW⟩ : ∃ Wq, Wq = (W62.alloc (.cells #[.int .i64 22, .int .i64 23, .int .i64 24, .int .i64 25, .int .i64 27, .int .i64 28, .int .i64 29] 3)) := ⟨_, rfl⟩
              rw [← hW] at hS HR HRA HO HBW HAb HAA
              rw [← hW]
              clear hW
              refine hK9 4 (by simp) _ _ hS (any_more fun K10 hK10 => ?_)
              clear hK9 K9
              refine any_pick (rs := [5]) hK10 (by kernel_rfl) (fun K11 hK11 => ?_)
              clear hK10 K10
              intro i hi
              simp only [List.mem_cons, List.not_mem_nil, or_false] at hi
              rcases hi with rfl
              refine op_plain (some 48) (.call { callee := Callee.builtin Builtin.append, args := #[.tmp 46, .tmp 47], argTypes := #[24, 24] }) 24 (by kernel_rfl) (by kernel_rfl) ?_
              go_wp2_with (at_builtin; refine appS rfl _ _ 24 rfl Try.underlying24 Try.info3 rfl (by decide) (by decide) HO.out rfl HR.out rfl (by intro u hu; simp at hu; rcases hu with rfl | rfl | rfl | rfl | rfl | rfl | rfl <;> rfl) (by have := HN.out; simp; omega) HBW.out ?_; intro v67 W66 ho hst hb; have HO2 := hide' ho; have HT2 := hide' hst; have HB2 := hide' hb; clear ho hst hb)
              have hS' := TwoB.own hS HT2.out HO.out HOB.out
              have HBW' := hide' (Nat.le_trans HBW.out HT2.out.size)
              have HR' := hide' (HR.out.stay HT2.out (fun k hk h => HRA.out.2 (by cases hk; exact h)))
              have HRA' := hide' (HRA.out.step HT2.out HB2.out)
              have HAb' := hide' (HAb.out.stay HT2.out (fun h => HAA.out.2 h))
              have HAA' := hide' (HAA.out.step HT2.out HB2.out)
              clear HO HT2 HB2
              clear hS
              have hS := hS'
              clear hS'
              clear HBW
              have HBW := HBW'
              clear HBW'
              clear HR
              have HR := HR'
              clear HR'
              clear HRA
              have HRA := HRA'
              clear HRA'
              clear HAb
              have HAb := HAb'
              clear HAb'
              clear HAA
              have HAA := HAA'
              clear HAA'
              have HO := HO2
              clear HO2
              refine hK11 5 (by simp) _ _ hS (any_more fun K12 hK12 => ?_)
              clear hK11 K11
              refine any_pick (rs := [6]) hK12 (by kernel_rfl) (fun K13 hK13 => ?_)
              clear hK12 K12
              intro i hi
              simp only [List.mem_cons, List.not_mem_nil, or_false] at hi
              rcases hi with rfl
              refine op_plain (some 49) (.call { callee := Callee.value (.func 11), args := #[.tmp 43, .tmp 48], argTypes := #[23, 24] }) 23 (by kernel_rfl) (by kernel_rfl) ?_
              go_wp2_with fail
              refine (HAP2.out _ _ (row_joined HO.out (by simp) HWF2.out)).mono ?_
              rintro e W68 ⟨rfl, hs⟩
              have hS' := hS.keep hs
              have HAb' := hide' (HAb.out.keep hs)
              clear hs
              clear hS
              have hS := hS'
              clear hS'
              clear HAb
              have HAb := HAb'
              clear HAb'
              go_wp2
              clear HAA
              clear HO HOB HBW HR HRA
              refine hK13 6 (by simp) _ _ hS (any_more fun K14 hK14 => ?_)
              clear hK13 K13
              refine any_pick (rs := [8]) hK14 (by kernel_rfl) (fun K15 hK15 => ?_)
              clear hK14 K14
              intro i hi
              simp only [List.mem_cons, List.not_mem_nil, or_false] at hi
              rcases hi with rfl
              refine op_plain none (.store 23 (.tmp 7) (.tmp 49)) 0 (by kernel_rfl) (by kernel_rfl) ?_
              obtain ⟨z0, z1, z2, e0, e1, e2⟩ := HAb.out
              go_wp2
              generalize hW2 : World.setCell (World.setCell (World.setCell _ _ _) _ _) _ _ = W69
              have HF : Hid (TwoB w w.heap.size p A1 ⟨0, 0, 8⟩ W69 ∧ Box W69 A61 ⟨xf, xb, 0⟩) := ⟨by rw [← hW2]; exact hS.putOther HAG.out, by rw [← hW2]; exact HAb.out.put ⟨xf, xb, 0⟩⟩
              have hS' : TwoB w w.heap.size p A1 ⟨0, 0, 8⟩ W69 := HF.out.1
              clear hS HAb z0 z1 z2 e0 e1 e2 hW2
              refine hK15 8 (by simp) _ _ hS' (any_more fun K16 hK16 => ?_)
              clear hK15 K15
              refine any_done hK16 (by kernel_rfl) ?_
              clear hK16 K16
              go_wp2_with fail
              go_meet
              exact ⟨A61, rfl, ⟨HF.out.1.1, HF.out.1.2.2, HF.out.2⟩⟩
            · refine op_plain (some 47) (.buildSlice 24 7 #[(0, .const (Value.int IntKind.i64 22)), (1, .const (Value.int IntKind.i64 23)), (2, .const (Value.int IntKind.i64 24)), (3, .const (Value.int IntKind.i64 25)), (4, .const (Value.int IntKind.i64 27)), (5, .const (Value.int IntKind.i64 28)), (6, .const (Value.int IntKind.i64 29))]) 24 (by kernel_rfl) (by kernel_rfl) ?_
              go_wp2
              have st : Stay (fun _ => False) W60 (W60.alloc (.cells #[.int .i64 22, .int .i64 23, .int .i64 24, .int .i64 25, .int .i64 27, .int .i64 28, .int .i64 29] 3)) := (Stay.refl _ _).alloc _
              have hS' := hS.keep st
              have HO' := hide' (st.owns HO.out (fun _ _ h => h))
              have HBW' := hide' (Nat.le_trans HBW.out st.size)
              have HAb' := hide' (HAb.out.keep st)
              have HAA' := hide' (HAA.out.alloc (.cells #[.int .i64 22, .int .i64 23, .int .i64 24, .int .i64 25, .int .i64 27, .int .i64 28, .int .i64 29] 3))
              have HR := hide' (isRowS_new W60 #[.int .i64 22, .int .i64 23, .int .i64 24, .int .i64 25, .int .i64 27, .int .i64 28, .int .i64 29] 3 1 7 rfl)
              have HRA : Hid (Apart (W60.alloc (.cells #[.int .i64 22, .int .i64 23, .int .i64 24, .int .i64 25, .int .i64 27, .int .i64 28, .int .i64 29] 3)) vO2 W60.heap.size) := Apart.new HO.out
              clear st
              clear hS
              have hS := hS'
              clear hS'
              clear HO
              have HO := HO'
              clear HO'
              clear HBW
              have HBW := HBW'
              clear HBW'
              clear HAb
              have HAb := HAb'
              clear HAb'
              clear HAA
              have HAA := HAA'
              clear HAA'
              obtain ⟨BR71, hBR⟩ : ∃ B, B = W60.heap.size := ⟨_, rfl⟩
              rw [← hBR] at HR HRA
              rw [← hBR]
              clear hBR
              obtain ⟨W70, hW⟩ : ∃ Wq, Wq = (W60.alloc (.cells #[.int .i64 22, .int .i64 23, .int .i64 24, .int .i64 25, .int .i64 27, .int .i64 28, .int .i64 29] 3)) := ⟨_, rfl⟩
              rw [← hW] at hS HR HRA HO HBW HAb HAA
              rw [← hW]
              clear hW
              refine hK7 4 (by simp) _ _ hS (any_more fun K8 hK8 => ?_)
              clear hK7 K7
              refine any_pick (rs := [3]) hK8 (by kernel_rfl) (fun K9 hK9 => ?_)
              clear hK8 K8
              intro i hi
              simp only [List.mem_cons, List.not_mem_nil, or_false] at hi
              rcases hi with rfl
              refine op_plain (some 46) (.call { callee := Callee.builtin Builtin.append, args := #[.tmp 44, .tmp 45], argTypes := #[24, 24] }) 24 (by kernel_rfl) (by kernel_rfl) ?_
              have HSRC := hide' (isRowS_of (HA.out.stay0 hS.1).row)
              go_wp2_with (at_builtin; refine appS rfl _ _ 24 rfl Try.underlying24 Try.info3 rfl (by decide) (by decide) HO.out rfl HSRC.out rfl (one_ints _ _) (by have := HN.out; simp; omega) HBW.out ?_; intro v73 W72 ho hst hb; have HO2 := hide' ho; have HT2 := hide' hst; have HB2 := hide' hb; clear ho hst hb)
              have hS' := TwoB.own hS HT2.out HO.out HOB.out
              have HBW' := hide' (Nat.le_trans HBW.out HT2.out.size)
              have HR' := hide' (HR.out.stay HT2.out (fun k hk h => HRA.out.2 (by cases hk; exact h)))
              have HRA' := hide' (HRA.out.step HT2.out HB2.out)
              have HAb' := hide' (HAb.out.stay HT2.out (fun h => HAA.out.2 h))
              have HAA' := hide' (HAA.out.step HT2.out HB2.out)
              clear HO HT2 HB2 HSRC
              clear hS
              have hS := hS'
              clear hS'
              clear HBW
              have HBW := HBW'
              clear HBW'
              clear HR
              have HR := HR'
              clear HR'
              clear HRA
              have HRA := HRA'
              clear HRA'
              clear HAb
              have HAb := HAb'
              clear HAb'
              clear HAA
              have HAA := HAA'
              clear HAA'
              have HO := HO2
              clear HO2
              refine hK9 3 (by simp) _ _ hS (any_more fun K10 hK10 => ?_)
              clear hK9 K9
              refine any_pick (rs := [5]) hK10 (by kernel_rfl) (fun K11 hK11 => ?_)
              clear hK10 K10
              intro i hi
              simp only [List.mem_cons, List.not_mem_nil, or_false] at hi
              rcases hi with rfl
              refine op_plain (some 48) (.call { callee := Callee.builtin Builtin.append, args := #[.tmp 46, .tmp 47], argTypes := #[24, 24] }) 24 (by kernel_rfl) (by kernel_rfl) ?_
              go_wp2_with (at_builtin; refine appS rfl _ _ 24 rfl Try.underlying24 Try.info3 rfl (by decide) (by decide) HO.out rfl HR.out rfl (by intro u hu; simp at hu; rcases hu with rfl | rfl | rfl | rfl | rfl | rfl | rfl <;> rfl) (by have := HN.out; simp; omega) HBW.out ?_; intro v75 W74 ho hst hb; have HO2 := hide' ho; have HT2 := hide' hst; have HB2 := hide' hb; clear ho hst hb)
              have hS' := TwoB.own hS HT2.out HO.out HOB.out
              have HBW' := hide' (Nat.le_trans HBW.out HT2.out.size)
              have HR' := hide' (HR.out.stay HT2.out (fun k hk h => HRA.out.2 (by cases hk; exact h)))
              have HRA' := hide' (HRA.out.step HT2.out HB2.out)
              have HAb' := hide' (HAb.out.stay HT2.out (fun h => HAA.out.2 h))
              have HAA' := hide' (HAA.out.step HT2.out HB2.out)
              clear HO HT2 HB2
              clear hS
              have hS := hS'
              clear hS'
              clear HBW
              have HBW := HBW'
              clear HBW'
              clear HR
              have HR := HR'
              clear HR'
              clear HRA
              have HRA := HRA'
              clear HRA'
              clear HAb
              have HAb := HAb'
              clear HAb'
              clear HAA
              have HAA := HAA'
              clear HAA'
              have HO := HO2
              clear HO2
              refine hK11 5 (by simp) _ _ hS (any_more fun K12 hK12 => ?_)
              clear hK11 K11
              refine any_pick (rs := [6]) hK12 (by kernel_rfl) (fun K13 hK13 => ?_)
              clear hK12 K12
              intro i hi
              simp only [List.mem_cons, List.not_mem_nil, or_false] at hi
              rcases hi with rfl
              refine op_plain (some 49) (.call { callee := Callee.value (.func 11), args := #[.tmp 43, .tmp 48], argTypes := #[23, 24] }) 23 (by kernel_rfl) (by kernel_rfl) ?_
              go_wp2_with fail
              refine (HAP2.out _ _ (row_joined HO.out (by simp) HWF2.out)).mono ?_
              rintro e W76 ⟨rfl, hs⟩
              have hS' := hS.keep hs
              have HAb' := hide' (HAb.out.keep hs)
              clear hs
              clear hS
              have hS := hS'
              clear hS'
              clear HAb
              have HAb := HAb'
              clear HAb'
              go_wp2
              clear HAA
              clear HO HOB HBW HR HRA
              refine hK13 6 (by simp) _ _ hS (any_more fun K14 hK14 => ?_)
              clear hK13 K13
              refine any_pick (rs := [8]) hK14 (by kernel_rfl) (fun K15 hK15 => ?_)
              clear hK14 K14
              intro i hi
              simp only [List.mem_cons, List.not_mem_nil, or_false] at hi
              rcases hi with rfl
              refine op_plain none (.store 23 (.tmp 7) (.tmp 49)) 0 (by kernel_rfl) (by kernel_rfl) ?_
              obtain ⟨z0, z1, z2, e0, e1, e2⟩ := HAb.out
              go_wp2
              generalize hW2 : World.setCell (World.setCell (World.setCell _ _ _) _ _) _ _ = W77
              have HF : Hid (TwoB w w.heap.size p A1 ⟨0, 0, 8⟩ W77 ∧ Box W77 A61 ⟨xf, xb, 0⟩) := ⟨by rw [← hW2]; exact hS.putOther HAG.out, by rw [← hW2]; exact HAb.out.put ⟨xf, xb, 0⟩⟩
              have hS' : TwoB w w.heap.size p A1 ⟨0, 0, 8⟩ W77 := HF.out.1
              clear hS HAb z0 z1 z2 e0 e1 e2 hW2
              refine hK15 8 (by simp) _ _ hS' (any_more fun K16 hK16 => ?_)
              clear hK15 K15
              refine any_done hK16 (by kernel_rfl) ?_
              clear hK16 K16
              go_wp2_with fail
              go_meet
              exact ⟨A61, rfl, ⟨HF.out.1.1, HF.out.1.2.2, HF.out.2⟩⟩
        · refine op_plain (some 47) (.buildSlice 24 7 #[(0, .const (Value.int IntKind.i64 22)), (1, .const (Value.int IntKind.i64 23)), (2, .const (Value.int IntKind.i64 24)), (3, .const (Value.int IntKind.i64 25)), (4, .const (Value.int IntKind.i64 27)), (5, .const (Value.int IntKind.i64 28)), (6, .const (Value.int IntKind.i64 29))]) 24 (by kernel_rfl) (by kernel_rfl) ?_
          go_wp2
          have st : Stay (fun _ => False) W (W.alloc (.cells #[.int .i64 22, .int .i64 23, .int .i64 24, .int .i64 25, .int .i64 27, .int .i64 28, .int .i64 29] 3)) := (Stay.refl _ _).alloc _
          have hS' := hS.keep st
          have HR := hide' (isRowS_new W #[.int .i64 22, .int .i64 23, .int .i64 24, .int .i64 25, .int .i64 27, .int .i64 28, .int .i64 29] 3 1 7 rfl)
          have HRA : Hid (Apart (W.alloc (.cells #[.int .i64 22, .int .i64 23, .int .i64 24, .int .i64 25, .int .i64 27, .int .i64 28, .int .i64 29] 3)) (.slice none 0 0) W.heap.size) := Apart.none _ _
          clear st
          clear hS
          have hS := hS'
          clear hS'
          obtain ⟨BR79, hBR⟩ : ∃ B, B = W.heap.size := ⟨_, rfl⟩
          rw [← hBR] at HR HRA
          rw [← hBR]
          clear hBR
          obtain ⟨W78, hW⟩ : ∃ Wq, Wq = (W.alloc (.cells #[.int .i64 22, .int .i64 23, .int .i64 24, .int .i64 25, .int .i64 27, .int .i64 28, .int .i64 29] 3)) := ⟨_, rfl⟩
          rw [← hW] at hS HR HRA
          rw [← hW]
          clear hW
          refine hK3 4 (by simp) _ _ hS (any_more fun K4 hK4 => ?_)
          clear hK3 K3
          refine any_pick (rs := [1, 7]) hK4 (by kernel_rfl) (fun K5 hK5 => ?_)
          clear hK4 K4
          intro i hi
          simp only [List.mem_cons, List.not_mem_nil, or_false] at hi
          rcases hi with rfl | rfl
          · refine op_plain (some 44) (.buildSlice 24 0 #[]) 24 (by kernel_rfl) (by kernel_rfl) ?_
            go_wp2
            have st : Stay (fun _ => False) W78 (W78.alloc (.cells #[] 3)) := (Stay.refl _ _).alloc _
            have hS' := hS.keep st
            have HR' := hide' (HR.out.stay st (fun _ _ h => h))
            have HRA' := hide' (HRA.out.fresh (.cells #[] 3))
            have HO := hide' (owns_newS W78 #[] 3 1 0 rfl (by decide))
            have HOB : Hid (w.heap.size < W78.heap.size ∧ A1 < W78.heap.size ∧ w.heap.size ≤ W78.heap.size) := ⟨hS.2.1.lt, hS.2.2.lt, hS.1.size⟩
            have HBW : Hid (W78.heap.size ≤ (W78.alloc (.cells #[] 3)).heap.size) := st.size
            clear st
            clear hS
            have hS := hS'
            clear hS'
            clear HR
            have HR := HR'
            clear HR'
            clear HRA
            have HRA := HRA'
            clear HRA'
            obtain ⟨vO81, hvO⟩ : ∃ v, v = Value.slice (some ⟨W78.heap.size, 0, none⟩) 0 0 := ⟨_, rfl⟩
            rw [← hvO] at HO HRA
            rw [← hvO]
            clear hvO
            obtain ⟨B82, hB⟩ : ∃ B, B = W78.heap.size := ⟨_, rfl⟩
            rw [← hB] at HO HOB HBW
            clear hB
            obtain ⟨W80, hW⟩ : ∃ Wq, Wq = (W78.alloc (.cells #[] 3)) := ⟨_, rfl⟩
            rw [← hW] at hS HO HBW HR HRA
            rw [← hW]
            clear hW
            refine hK5 1 (by simp) _ _ hS (any_more fun K6 hK6 => ?_)
            clear hK5 K5
            refine any_pick (rs := [3, 7]) hK6 (by kernel_rfl) (fun K7 hK7 => ?_)
            clear hK6 K6
            intro i hi
            simp only [List.mem_cons, List.not_mem_nil, or_false] at hi
            rcases hi with rfl | rfl
            · refine op_plain (some 46) (.call { callee := Callee.builtin Builtin.append, args := #[.tmp 44, .tmp 45], argTypes := #[24, 24] }) 24 (by kernel_rfl) (by kernel_rfl) ?_
              have HSRC := hide' (isRowS_of (HA.out.stay0 hS.1).row)
              go_wp2_with (at_builtin; refine appS rfl _ _ 24 rfl Try.underlying24 Try.info3 rfl (by decide) (by decide) HO.out rfl HSRC.out rfl (one_ints _ _) (by have := HN.out; simp; omega) HBW.out ?_; intro v84 W83 ho hst hb; have HO2 := hide' ho; have HT2 := hide' hst; have HB2 := hide' hb; clear ho hst hb)
              have hS' := TwoB.own hS HT2.out HO.out HOB.out
              have HBW' := hide' (Nat.le_trans HBW.out HT2.out.size)
              have HR' := hide' (HR.out.stay HT2.out (fun k hk h => HRA.out.2 (by cases hk; exact h)))
              have HRA' := hide' (HRA.out.step HT2.out HB2.out)
              clear HO HT2 HB2 HSRC
              clear hS
              have hS := hS'
              clear hS'
              clear HBW
              have HBW := HBW'
              clear HBW'
              clear HR
              have HR := HR'
              clear HR'
              clear HRA
              have HRA := HRA'
              clear HRA'
              have HO := HO2
              clear HO2
              refine hK7 3 (by simp) _ _ hS (any_more fun K8 hK8 => ?_)
              clear hK7 K7
              refine any_pick (rs := [5, 7]) hK8 (by kernel_rfl) (fun K9 hK9 => ?_)
              clear hK8 K8
              intro i hi
              simp only [List.mem_cons, List.not_mem_nil, or_false] at hi
              rcases hi with rfl | rfl
              · refine op_plain (some 48) (.call { callee := Callee.builtin Builtin.append, args := #[.tmp 46, .tmp 47], argTypes := #[24, 24] }) 24 (by kernel_rfl) (by kernel_rfl) ?_
                go_wp2_with (at_builtin; refine appS rfl _ _ 24 rfl Try.underlying24 Try.info3 rfl (by decide) (by decide) HO.out rfl HR.out rfl (by intro u hu; simp at hu; rcases hu with rfl | rfl | rfl | rfl | rfl | rfl | rfl <;> rfl) (by have := HN.out; simp; omega) HBW.out ?_; intro v86 W85 ho hst hb; have HO2 := hide' ho; have HT2 := hide' hst; have HB2 := hide' hb; clear ho hst hb)
                have hS' := TwoB.own hS HT2.out HO.out HOB.out
                have HBW' := hide' (Nat.le_trans HBW.out HT2.out.size)
                have HR' := hide' (HR.out.stay HT2.out (fun k hk h => HRA.out.2 (by cases hk; exact h)))
                have HRA' := hide' (HRA.out.step HT2.out HB2.out)
                clear HO HT2 HB2
                clear hS
                have hS := hS'
                clear hS'
                clear HBW
                have HBW := HBW'
                clear HBW'
                clear HR
                have HR := HR'
                clear HR'
                clear HRA
                have HRA := HRA'
                clear HRA'
                have HO := HO2
                clear HO2
                refine hK9 5 (by simp) _ _ hS (any_more fun K10 hK10 => ?_)
                clear hK9 K9
                refine any_pick (rs := [6, 7]) hK10 (by kernel_rfl) (fun K11 hK11 => ?_)
                clear hK10 K10
                intro i hi
                simp only [List.mem_cons, List.not_mem_nil, or_false] at hi
                rcases hi with rfl | rfl
                · refine op_plain (some 49) (.call { callee := Callee.value (.func 11), args := #[.tmp 43, .tmp 48], argTypes := #[23, 24] }) 23 (by kernel_rfl) (by kernel_rfl) ?_
                  go_wp2_with fail
                  refine (HAP2.out _ _ (row_joined HO.out (by simp) HWF2.out)).mono ?_
                  rintro e W87 ⟨rfl, hs⟩
                  have hS' := hS.keep hs
                  clear hs
                  clear hS
                  have hS := hS'
                  clear hS'
                  go_wp2
                  clear HO HOB HBW HR HRA
                  refine hK11 6 (by simp) _ _ hS (any_more fun K12 hK12 => ?_)
                  clear hK11 K11
                  refine any_pick (rs := [7]) hK12 (by kernel_rfl) (fun K13 hK13 => ?_)
                  clear hK12 K12
                  intro i hi
                  simp only [List.mem_cons, List.not_mem_nil, or_false] at hi
                  rcases hi with rfl
                  refine op_plain (some 7) (.alloc 23) 0 (by kernel_rfl) (by kernel_rfl) ?_
                  go_wp2
                  have st : Stay (fun _ => False) W87 (W87.alloc (.cells #[.int .i64 0, .int .i64 0, .int .i64 0] 23)) := (Stay.refl _ _).alloc _
                  have hS' := hS.keep st
                  have HAb := hide' (Box.new (w := W87) ⟨0, 0, 0⟩ rfl)
                  have HAG : Hid (w.heap.size ≤ W87.heap.size ∧ w.heap.size < W87.heap.size ∧ A1 < W87.heap.size) := ⟨hS.1.size, hS.2.1.lt, hS.2.2.lt⟩
                  have HAA : Hid (Apart (W87.alloc (.cells #[.int .i64 0, .int .i64 0, .int .i64 0] 23)) (.slice none 0 0) W87.heap.size) := Apart.none _ _
                  clear st
                  clear hS
                  have hS := hS'
                  clear hS'
                  obtain ⟨A89, hA'⟩ : ∃ B, B = W87.heap.size := ⟨_, rfl⟩
                  rw [← hA'] at HAb HAA HAG
                  rw [← hA']
                  clear hA'
                  obtain ⟨W88, hW⟩ : ∃ Wq, Wq = (W87.alloc (.cells #[.int .i64 0, .int .i64 0, .int .i64 0] 23)) := ⟨_, rfl⟩
                  rw [← hW] at hS HAb HAA
                  rw [← hW]
                  clear hW
                  refine hK13 7 (by simp) _ _ hS (any_more fun K14 hK14 => ?_)
                  clear hK13 K13
                  refine any_pick (rs := [8]) hK14 (by kernel_rfl) (fun K15 hK15 => ?_)
                  clear hK14 K14
                  intro i hi
                  simp only [List.mem_cons, List.not_mem_nil, or_false] at hi
                  rcases hi with rfl
                  refine op_plain none (.store 23 (.tmp 7) (.tmp 49)) 0 (by kernel_rfl) (by kernel_rfl) ?_
                  obtain ⟨z0, z1, z2, e0, e1, e2⟩ := HAb.out
                  go_wp2
                  generalize hW2 : World.setCell (World.setCell (World.setCell _ _ _) _ _) _ _ = W90
                  have HF : Hid (TwoB w w.heap.size p A1 ⟨0, 0, 8⟩ W90 ∧ Box W90 A89 ⟨xf, xb, 0⟩) := ⟨by rw [← hW2]; exact hS.putOther HAG.out, by rw [← hW2]; exact HAb.out.put ⟨xf, xb, 0⟩⟩
                  have hS' : TwoB w w.heap.size p A1 ⟨0, 0, 8⟩ W90 := HF.out.1
                  clear hS HAb z0 z1 z2 e0 e1 e2 hW2
                  refine hK15 8 (by simp) _ _ hS' (any_more fun K16 hK16 => ?_)
                  clear hK15 K15
                  refine any_done hK16 (by kernel_rfl) ?_
                  clear hK16 K16
                  go_wp2_with fail
                  go_meet
                  exact ⟨A89, rfl, ⟨HF.out.1.1, HF.out.1.2.2, HF.out.2⟩⟩
                · refine op_plain (some 7) (.alloc 23) 0 (by kernel_rfl) (by kernel_rfl) ?_
                  go_wp2
                  have st : Stay (fun _ => False) W85 (W85.alloc (.cells #[.int .i64 0, .int .i64 0, .int .i64 0] 23)) := (Stay.refl _ _).alloc _
                  have hS' := hS.keep st
                  have HO' := hide' (st.owns HO.out (fun _ _ h => h))
                  have HBW' := hide' (Nat.le_trans HBW.out st.size)
                  have HR' := hide' (HR.out.stay st (fun _ _ h => h))
                  have HRA' := hide' (HRA.out.alloc (.cells #[.int .i64 0, .int .i64 0, .int .i64 0] 23))
                  have HAb := hide' (Box.new (w := W85) ⟨0, 0, 0⟩ rfl)
                  have HAG : Hid (w.heap.size ≤ W85.heap.size ∧ w.heap.size < W85.heap.size ∧ A1 < W85.heap.size) := ⟨hS.1.size, hS.2.1.lt, hS.2.2.lt⟩
                  have HAA : Hid (Apart (W85.alloc (.cells #[.int .i64 0, .int .i64 0, .int .i64 0] 23)) v86 W85.heap.size) := Apart.new HO.out
                  clear st
                  clear hS
                  have hS := hS'
                  clear hS'
                  clear HO
                  have HO := HO'
                  clear HO'
                  clear HBW
                  have HBW := HBW'
                  clear HBW'
                  clear HR
                  have HR := HR'
                  clear HR'
                  clear HRA
                  have HRA := HRA'
                  clear HRA'
                  obtain ⟨A92, hA'⟩ : ∃ B, B = W85.heap.size := ⟨_, rfl⟩
                  rw [← hA'] at HAb HAA HAG
                  rw [← hA']
                  clear hA'
                  obtain ⟨W91, hW⟩ : ∃ Wq, Wq = (W85.alloc (.cells #[.int .i64 0, .int .i64 0, .int .i64 0] 23)) := ⟨_, rfl⟩
                  rw [← hW] at hS HAb HAA HO HBW HR HRA
                  rw [← hW]
                  clear hW
                  refine hK11 7 (by simp) _ _ hS (any_more fun K12 hK12 => ?_)
                  clear hK11 K11
                  refine any_pick (rs := [6]) hK12 (by kernel_rfl) (fun K13 hK13 => ?_)
                  clear hK12 K12
                  intro i hi
                  simp only [List.mem_cons, List.not_mem_nil, or_false] at hi
                  rcases hi with rfl
                  refine op_plain (some 49) (.call { callee := Callee.value (.func 11), args := #[.tmp 43, .tmp 48], argTypes := #[23, 24] }) 23 (by kernel_rfl) (by kernel_rfl) ?_
                  go_wp2_with fail
                  refine (HAP2.out _ _ (row_joined HO.out (by simp) HWF2.out)).mono ?_
                  rintro e W93 ⟨rfl, hs⟩
                  have hS' := hS.keep hs
                  have HAb' := hide' (HAb.out.keep hs)
                  clear hs
                  clear hS
                  have hS := hS'
                  clear hS'
                  clear HAb
                  have HAb := HAb'
                  clear HAb'
                  go_wp2
                  clear HAA
                  clear HO HOB HBW HR HRA
                  refine hK13 6 (by simp) _ _ hS (any_more fun K14 hK14 => ?_)
                  clear hK13 K13
                  refine any_pick (rs := [8]) hK14 (by kernel_rfl) (fun K15 hK15 => ?_)
                  clear hK14 K14
                  intro i hi
                  simp only [List.mem_cons, List.not_mem_nil, or_false] at hi
                  rcases hi with rfl
                  refine op_plain none (.store 23 (.tmp 7) (.tmp 49)) 0 (by kernel_rfl) (by kernel_rfl) ?_
                  obtain ⟨z0, z1, z2, e0, e1, e2⟩ := HAb.out
                  go_wp2
                  generalize hW2 : World.setCell (World.setCell (World.setCell _ _ _) _ _) _ _ = W94
                  have HF : Hid (TwoB w w.heap.size p A1 ⟨0, 0, 8⟩ W94 ∧ Box W94 A92 ⟨xf, xb, 0⟩) := ⟨by rw [← hW2]; exact hS.putOther HAG.out, by rw [← hW2]; exact HAb.out.put ⟨xf, xb, 0⟩⟩
                  have hS' : TwoB w w.heap.size p A1 ⟨0, 0, 8⟩ W94 := HF.out.1
                  clear hS HAb z0 z1 z2 e0 e1 e2 hW2
                  refine hK15 8 (by simp) _ _ hS' (any_more fun K16 hK16 => ?_)
                  clear hK15 K15
                  refine any_done hK16 (by kernel_rfl) ?_
                  clear hK16 K16
                  go_wp2_with fail
                  go_meet
                  exact ⟨A92, rfl, ⟨HF.out.1.1, HF.out.1.2.2, HF.out.2⟩⟩
              · refine op_plain (some 7) (.alloc 23) 0 (by kernel_rfl) (by kernel_rfl) ?_
                go_wp2
                have st : Stay (fun _ => False) W83 (W83.alloc (.cells #[.int .i64 0, .int .i64 0, .int .i64 0] 23)) := (Stay.refl _ _).alloc _
                have hS' := hS.keep st
                have HO' := hide' (st.owns HO.out (fun _ _ h => h))
                have HBW' := hide' (Nat.le_trans HBW.out st.size)
                have HR' := hide' (HR.out.stay st (fun _ _ h => h))
                have HRA' := hide' (HRA.out.alloc (.cells #[.int .i64 0, .int .i64 0, .int .i64 0] 23))
                have HAb := hide' (Box.new (w := W83) ⟨0, 0, 0⟩ rfl)
                have HAG : Hid (w.heap.size ≤ W83.heap.size ∧ w.heap.size < W83.heap.size ∧ A1 < W83.heap.size) := ⟨hS.1.size, hS.2.1.lt, hS.2.2.lt⟩
                have HAA : Hid (Apart (W83.alloc (.cells #[.int .i64 0, .int .i64 0, .int .i64 0] 23)) v84 W83.heap.size) := Apart.new HO.out
                clear st
                clear hS
                have hS := hS'
                clear hS'
                clear HO
                have HO := HO'
                clear HO'
                clear HBW
                have HBW := HBW'
                clear HBW'
                clear HR
                have HR := HR'
                clear HR'
                clear HRA
                have HRA := HRA'
                clear HRA'
                obtain ⟨A96, hA'⟩ : ∃ B, B = W83.heap.size := ⟨_, rfl⟩
                rw [← hA'] at HAb HAA HAG
                rw [← hA']
                clear hA'
                obtain ⟨W95, hW⟩ : ∃ Wq, Wq = (W83.alloc (.cells #[.int .i64 0, .int .i64 0, .int .i64 0] 23)) := ⟨_, rfl⟩
                rw [← hW] at hS HAb HAA HO HBW HR HRA
                rw [← hW]
                clear hW
                refine hK9 7 (by simp) _ _ hS (any_more fun K10 hK10 => ?_)
                clear hK9 K9
                refine any_pick (rs := [5]) hK10 (by kernel_rfl) (fun K11 hK11 => ?_)
                clear hK10 K10
                intro i hi
                simp only [List.mem_cons, List.not_mem_nil, or_false] at hi
                rcases hi with rfl
                refine op_plain (some 48) (.call { callee := Callee.builtin Builtin.append, args := #[.tmp 46, .tmp 47], argTypes := #[24, 24] }) 24 (by kernel_rfl) (by kernel_rfl) ?_
                go_wp2_with (at_builtin; refine appS rfl _ _ 24 rfl Try.underlying24 Try.info3 rfl (by decide) (by decide) HO.out rfl HR.out rfl (by intro u hu; simp at hu; rcases hu with rfl | rfl | rfl | rfl | rfl | rfl | rfl <;> rfl) (by have := HN.out; simp; omega) HBW.out ?_; intro v98 W97 ho hst hb; have HO2 := hide' ho; have HT2 := hide' hst; have HB2 := hide' hb; clear ho hst hb)
                have hS' := TwoB.own hS HT2.out HO.out HOB.out
                have HBW' := hide' (Nat.le_trans HBW.out HT2.out.size)
                have HR' := hide' (HR.out.stay HT2.out (fun k hk h => HRA.out.2 (by cases hk; exact h)))
                have HRA' := hide' (HRA.out.step HT2.out HB2.out)
                have HAb' := hide' (HAb.out.stay HT2.out (fun h => HAA.out.2 h))
                have HAA' := hide' (HAA.out.step HT2.out HB2.out)
                clear HO HT2 HB2
                clear hS
                have hS := hS'
                clear hS'
                clear HBW
                have HBW := HBW'
                clear HBW'
                clear HR
                have HR := HR'
                clear HR'
                clear HRA
                have HRA := HRA'
                clear HRA'
                clear HAb
                have HAb := HAb'
                clear HAb'
                clear HAA
                have HAA := HAA'
                clear HAA'
                have HO := HO2
                clear HO2
                refine hK11 5 (by simp) _ _ hS (any_more fun K12 hK12 => ?_)
                clear hK11 K11
                refine any_pick (rs := [6]) hK12 (by kernel_rfl) (fun K13 hK13 => ?_)
                clear hK12 K12
                intro i hi
                simp only [List.mem_cons, List.not_mem_nil, or_false] at hi
                rcases hi with rfl
                refine op_plain (some 49) (.call { callee := Callee.value (.func 11), args := #[.tmp 43, .tmp 48], argTypes := #[23, 24] }) 23 (by kernel_rfl) (by kernel_rfl) ?_
                go_wp2_with fail
                refine (HAP2.out _ _ (row_joined HO.out (by simp) HWF2.out)).mono ?_
                rintro e W99 ⟨rfl, hs⟩
                have hS' := hS.keep hs
                have HAb' := hide' (HAb.out.keep hs)
                clear hs
                clear hS
                have hS := hS'
                clear hS'
                clear HAb
                have HAb := HAb'
                clear HAb'
                go_wp2
                clear HAA
                clear HO HOB HBW HR HRA
                refine hK13 6 (by simp) _ _ hS (any_more fun K14 hK14 => ?_)
                clear hK13 K13
                refine any_pick (rs := [8]) hK14 (by kernel_rfl) (fun K15 hK15 => ?_)
                clear hK14 K14
                intro i hi
                simp only [List.mem_cons, List.not_mem_nil, or_false] at hi
                rcases hi with rfl
                refine op_plain none (.store 23 (.tmp 7) (.tmp 49)) 0 (by kernel_rfl) (by kernel_rfl) ?_
                obtain ⟨z0, z1, z2, e0, e1, e2⟩ := HAb.out
                go_wp2
                generalize hW2 : World.setCell (World.setCell (World.setCell _ _ _) _ _) _ _ = W100
                have HF : Hid (TwoB w w.heap.size p A1 ⟨0, 0, 8⟩ W100 ∧ Box W100 A96 ⟨xf, xb, 0⟩) := ⟨by rw [← hW2]; exact hS.putOther HAG.out, by rw [← hW2]; exact HAb.out.put ⟨xf, xb, 0⟩⟩
                have hS' : TwoB w w.heap.size p A1 ⟨0, 0, 8⟩ W100 := HF.out.1
                clear hS HAb z0 z1 z2 e0 e1 e2 hW2
                refine hK15 8 (by simp) _ _ hS' (any_more fun K16 hK16 => ?_)
                clear hK15 K15
                refine any_done hK16 (by kernel_rfl) ?_
                clear hK16 K16
                go_wp2_with fail
                go_meet
                exact ⟨A96, rfl, ⟨HF.out.1.1, HF.out.1.2.2, HF.out.2⟩⟩
            · refine op_plain (some 7) (.alloc 23) 0 (by kernel_rfl) (by kernel_rfl) ?_
              go_wp2
              have st : Stay (fun _ => False) W80 (W80.alloc (.cells #[.int .i64 0, .int .i64 0, .int .i64 0] 23)) := (Stay.refl _ _).alloc _
              have hS' := hS.keep st
              have HO' := hide' (st.owns HO.out (fun _ _ h => h))
              have HBW' := hide' (Nat.le_trans HBW.out st.size)
              have HR' := hide' (HR.out.stay st (fun _ _ h => h))
              have HRA' := hide' (HRA.out.alloc (.cells #[.int .i64 0, .int .i64 0, .int .i64 0] 23))
              have HAb := hide' (Box.new (w := W80) ⟨0, 0, 0⟩ rfl)
              have HAG : Hid (w.heap.size ≤ W80.heap.size ∧ w.heap.size < W80.heap.size ∧ A1 < W80.heap.size) := ⟨hS.1.size, hS.2.1.lt, hS.2.2.lt⟩
              have HAA : Hid (Apart (W80.alloc (.cells #[.int .i64 0, .int .i64 0, .int .i64 0] 23)) vO81 W80.heap.size) := Apart.new HO.out
              clear st
              clear hS
              have hS := hS'
              clear hS'
              clear HO
              have HO := HO'
              clear HO'
              clear HBW
              have HBW := HBW'
              clear HBW'
              clear HR
              have HR := HR'
              clear HR'
              clear HRA
              have HRA := HRA'
              clear HRA'
              obtain ⟨A102, hA'⟩ : ∃ B, B = W80.heap.size := ⟨_, rfl⟩
              rw [← hA'] at HAb HAA HAG
              rw [← hA']
              clear hA'
              obtain ⟨W101, hW⟩ : ∃ Wq, Wq = (W80.alloc (.cells #[.int .i64 0, .int .i64 0, .int .i64 0] 23)) := ⟨_, rfl⟩
              rw [← hW] at hS HAb HAA HO HBW HR HRA
              rw [← hW]
              clear hW
              refine hK7 7 (by simp) _ _ hS (any_more fun K8 hK8 => ?_)
              clear hK7 K7
              refine any_pick (rs := [3]) hK8 (by kernel_rfl) (fun K9 hK9 => ?_)
              clear hK8 K8
              intro i hi
              simp only [List.mem_cons, List.not_mem_nil, or_false] at hi
              rcases hi with rfl
              refine op_plain (some 46) (.call { callee := Callee.builtin Builtin.append, args := #[.tmp 44, .tmp 45], argTypes := #[24, 24] }) 24 (by kernel_rfl) (by kernel_rfl) ?_
              have HSRC := hide' (isRowS_of (HA.out.stay0 hS.1).row)
              go_wp2_with (at_builtin; refine appS rfl _ _ 24 rfl Try.underlying24 Try.info3 rfl (by decide) (by decide) HO.out rfl HSRC.out rfl (one_ints _ _) (by have := HN.out; simp; omega) HBW.out ?_; intro v104 W103 ho hst hb; have HO2 := hide' ho; have HT2 := hide' hst; have HB2 := hide' hb; clear ho hst hb)
              have hS' := TwoB.own hS HT2.out HO.out HOB.out
              have HBW' := hide' (Nat.le_trans HBW.out HT2.out.size)
              have HR' := hide' (HR.out.stay HT2.out (fun k hk h => HRA.out.2 (by cases hk; exact h)))
              have HRA' := hide' (HRA.out.step HT2.out HB2.out)
              have HAb' := hide' (HAb.out.stay HT2.out (fun h => HAA.out.2 h))
              have HAA' := hide' (HAA.out.step HT2.out HB2.out)
              clear HO HT2 HB2 HSRC
              clear hS
              have hS := hS'
              clear hS'
              clear HBW
              have HBW := HBW'
              clear HBW'
              clear HR
              have HR := HR'
              clear HR'
              clear HRA
              have HRA := HRA'
              clear HRA'
              clear HAb
              have HAb := HAb'
              clear HAb'
              clear HAA
              have HAA := HAA'
              clear HAA'
              have HO := HO2
              clear HO2
              refine hK9 3 (by simp) _ _ hS (any_more fun K10 hK10 => ?_)
              clear hK9 K9
              refine any_pick (rs := [5]) hK10 (by kernel_rfl) (fun K11 hK11 => ?_)
              clear hK10 K10
              intro i hi
              simp only [List.mem_cons, List.not_mem_nil, or_false] at hi
              rcases hi with rfl
              refine op_plain (some 48) (.call { callee := Callee.builtin Builtin.append, args := #[.tmp 46, .tmp 47], argTypes := #[24, 24] }) 24 (by kernel_rfl) (by kernel_rfl) ?_
              go_wp2_with (at_builtin; refine appS rfl _ _ 24 rfl Try.underlying24 Try.info3 rfl (by decide) (by decide) HO.out rfl HR.out rfl (by intro u hu; simp at hu; rcases hu with rfl | rfl | rfl | rfl | rfl | rfl | rfl <;> rfl) (by have := HN.out; simp; omega) HBW.out ?_; intro v106 W105 ho hst hb; have HO2 := hide' ho; have HT2 := hide' hst; have HB2 := hide' hb; clear ho hst hb)
              have hS' := TwoB.own hS HT2.out HO.out HOB.out
              have HBW' := hide' (Nat.le_trans HBW.out HT2.out.size)
              have HR' := hide' (HR.out.stay HT2.out (fun k hk h => HRA.out.2 (by cases hk; exact h)))
              have HRA' := hide' (HRA.out.step HT2.out HB2.out)
              have HAb' := hide' (HAb.out.stay HT2.out (fun h => HAA.out.2 h))
              have HAA' := hide' (HAA.out.step HT2.out HB2.out)
              clear HO HT2 HB2
              clear hS
              have hS := hS'
              clear hS'
              clear HBW
              have HBW := HBW'
              clear HBW'
              clear HR
              have HR := HR'
              clear HR'
              clear HRA
              have HRA := HRA'
              clear HRA'
              clear HAb
              have HAb := HAb'
              clear HAb'
              clear HAA
              have HAA := HAA'
              clear HAA'
              have HO := HO2
              clear HO2
              refine hK11 5 (by simp) _ _ hS (any_more fun K12 hK12 => ?_)
              clear hK11 K11
              refine any_pick (rs := [6]) hK12 (by kernel_rfl) (fun K13 hK13 => ?_)
              clear hK12 K12
              intro i hi
              simp only [List.mem_cons, List.not_mem_nil, or_false] at hi
              rcases hi with rfl
              refine op_plain (some 49) (.call { callee := Callee.value (.func 11), args := #[.tmp 43, .tmp 48], argTypes := #[23, 24] }) 23 (by kernel_rfl) (by kernel_rfl) ?_
              go_wp2_with fail
              refine (HAP2.out _ _ (row_joined HO.out (by simp) HWF2.out)).mono ?_
              rintro e W107 ⟨rfl, hs⟩
              have hS' := hS.keep hs
              have HAb' := hide' (HAb.out.keep hs)
              clear hs
              clear hS
              have hS := hS'
              clear hS'
              clear HAb
              have HAb := HAb'
              clear HAb'
              go_wp2
              clear HAA
              clear HO HOB HBW HR HRA
              refine hK13 6 (by simp) _ _ hS (any_more fun K14 hK14 => ?_)
              clear hK13 K13
              refine any_pick (rs := [8]) hK14 (by kernel_rfl) (fun K15 hK15 => ?_)
              clear hK14 K14
              intro i hi
              simp only [List.mem_cons, List.not_mem_nil, or_false] at hi
              rcases hi with rfl
              refine op_plain none (.store 23 (.tmp 7) (.tmp 49)) 0 (by kernel_rfl) (by kernel_rfl) ?_
              obtain ⟨z0, z1, z2, e0, e1, e2⟩ := HAb.out
              go_wp2
              generalize hW2 : World.setCell (World.setCell (World.setCell _ _ _) _ _) _ _ = W108
              have HF : Hid (TwoB w w.heap.size p A1 ⟨0, 0, 8⟩ W108 ∧ Box W108 A102 ⟨xf, xb, 0⟩) := ⟨by rw [← hW2]; exact hS.putOther HAG.out, by rw [← hW2]; exact HAb.out.put ⟨xf, xb, 0⟩⟩
              have hS' : TwoB w w.heap.size p A1 ⟨0, 0, 8⟩ W108 := HF.out.1
              clear hS HAb z0 z1 z2 e0 e1 e2 hW2
              refine hK15 8 (by simp) _ _ hS' (any_more fun K16 hK16 => ?_)
              clear hK15 K15
              refine any_done hK16 (by kernel_rfl) ?_
              clear hK16 K16
              go_wp2_with fail
              go_meet
              exact ⟨A102, rfl, ⟨HF.out.1.1, HF.out.1.2.2, HF.out.2⟩⟩
          · refine op_plain (some 7) (.alloc 23) 0 (by kernel_rfl) (by kernel_rfl) ?_
            go_wp2
            have st : Stay (fun _ => False) W78 (W78.alloc (.cells #[.int .i64 0, .int .i64 0, .int .i64 0] 23)) := (Stay.refl _ _).alloc _
            have hS' := hS.keep st
            have HR' := hide' (HR.out.stay st (fun _ _ h => h))
            have HRA' := hide' (HRA.out.alloc (.cells #[.int .i64 0, .int .i64 0, .int .i64 0] 23))
            have HAb := hide' (Box.new (w := W78) ⟨0, 0, 0⟩ rfl)
            have HAG : Hid (w.heap.size ≤ W78.heap.size ∧ w.heap.size < W78.heap.size ∧ A1 < W78.heap.size) := ⟨hS.1.size, hS.2.1.lt, hS.2.2.lt⟩
            have HAA : Hid (Apart (W78.alloc (.cells #[.int .i64 0, .int .i64 0, .int .i64 0] 23)) (.slice none 0 0) W78.heap.size) := Apart.none _ _
            clear st
            clear hS
            have hS := hS'
            clear hS'
            clear HR
            have HR := HR'
            clear HR'
            clear HRA
            have HRA := HRA'
            clear HRA'
            obtain ⟨A110, hA'⟩ : ∃ B, B = W78.heap.size := ⟨_, rfl⟩
            rw [← hA'] at HAb HAA HAG
            rw [← hA']
            clear hA'
            obtain ⟨W109, hW⟩ : ∃ Wq, Wq = (W78.alloc (.cells #[.int .i64 0, .int .i64 0, .int .i64 0] 23)) := ⟨_, rfl⟩
            rw [← hW] at hS HAb HAA HR HRA
            rw [← hW]
            clear hW
            refine hK5 7 (by simp) _ _ hS (any_more fun K6 hK6 => ?_)
            clear hK5 K5
            refine any_pick (rs := [1]) hK6 (by kernel_rfl) (fun K7 hK7 => ?_)
            clear hK6 K6
            intro i hi
            simp only [List.mem_cons, List.not_mem_nil, or_false] at hi
            rcases hi with rfl
            refine op_plain (some 44) (.buildSlice 24 0 #[]) 24 (by kernel_rfl) (by kernel_rfl) ?_
            go_wp2
            have st : Stay (fun _ => False) W109 (W109.alloc (.cells #[] 3)) := (Stay.refl _ _).alloc _
            have hS' := hS.keep st
            have HR' := hide' (HR.out.stay st (fun _ _ h => h))
            have HRA' := hide' (HRA.out.fresh (.cells #[] 3))
            have HAb' := hide' (HAb.out.keep st)
            have HAA' := hide' (HAA.out.fresh (.cells #[] 3))
            have HO := hide' (owns_newS W109 #[] 3 1 0 rfl (by decide))
            have HOB : Hid (w.heap.size < W109.heap.size ∧ A1 < W109.heap.size ∧ w.heap.size ≤ W109.heap.size) := ⟨hS.2.1.lt, hS.2.2.lt, hS.1.size⟩
            have HBW : Hid (W109.heap.size ≤ (W109.alloc (.cells #[] 3)).heap.size) := st.size
            clear st
            clear hS
            have hS := hS'
            clear hS'
            clear HR
            have HR := HR'
            clear HR'
            clear HRA
            have HRA := HRA'
            clear HRA'
            clear HAb
            have HAb := HAb'
            clear HAb'
            clear HAA
            have HAA := HAA'
            clear HAA'
            obtain ⟨vO112, hvO⟩ : ∃ v, v = Value.slice (some ⟨W109.heap.size, 0, none⟩) 0 0 := ⟨_, rfl⟩
            rw [← hvO] at HO HRA HAA
            rw [← hvO]
            clear hvO
            obtain ⟨B113, hB⟩ : ∃ B, B = W109.heap.size := ⟨_, rfl⟩
            rw [← hB] at HO HOB HBW
            clear hB
            obtain ⟨W111, hW⟩ : ∃ Wq, Wq = (W109.alloc (.cells #[] 3)) := ⟨_, rfl⟩
            rw [← hW] at hS HO HBW HR HRA HAb HAA
            rw [← hW]
            clear hW
            refine hK7 1 (by simp) _ _ hS (any_more fun K8 hK8 => ?_)
            clear hK7 K7
            refine any_pick (rs := [3]) hK8 (by kernel_rfl) (fun K9 hK9 => ?_)
            clear hK8 K8
            intro i hi
            simp only [List.mem_cons, List.not_mem_nil, or_false] at hi
            rcases hi with rfl
            refine op_plain (some 46) (.call { callee := Callee.builtin Builtin.append, args := #[.tmp 44, .tmp 45], argTypes := #[24, 24] }) 24 (by kernel_rfl) (by kernel_rfl) ?_
            have HSRC := hide' (isRowS_of (HA.out.stay0 hS.1).row)
            go_wp2_with (at_builtin; refine appS rfl _ _ 24 rfl Try.underlying24 Try.info3 rfl (by decide) (by decide) HO.out rfl HSRC.out rfl (one_ints _ _) (by have := HN.out; simp; omega) HBW.out ?_; intro v115 W114 ho hst hb; have HO2 := hide' ho; have HT2 := hide' hst; have HB2 := hide' hb; clear ho hst hb)
            have hS' := TwoB.own hS HT2.out HO.out HOB.out
            have HBW' := hide' (Nat.le_trans HBW.out HT2.out.size)
            have HR' := hide' (HR.out.stay HT2.out (fun k hk h => HRA.out.2 (by cases hk; exact h)))
            have HRA' := hide' (HRA.out.step HT2.out HB2.out)
            have HAb' := hide' (HAb.out.stay HT2.out (fun h => HAA.out.2 h))
            have HAA' := hide' (HAA.out.step HT2.out HB2.out)
            clear HO HT2 HB2 HSRC
            clear hS
            have hS := hS'
            clear hS'
            clear HBW
            have HBW := HBW'
            clear HBW'
            clear HR
            have HR := HR'
            clear HR'
            clear HRA
            have HRA := HRA'
            clear HRA'
            clear HAb
            have HAb := HAb'
            clear HAb'
            clear HAA
            have HAA := HAA'
            clear HAA'
            have HO := HO2
            clear HO2
            refine hK9 3 (by simp) _ _ hS (any_more fun K10 hK10 => ?_)
            clear hK9 K9
            refine any_pick (rs := [5]) hK10 (by kernel_rfl) (fun K11 hK11 => ?_)
            clear hK10 K10
            intro i hi
            simp only [List.mem_cons, List.not_mem_nil, or_false] at hi
            rcases hi with rfl
            refine op_plain (some 48) (.call { callee := Callee.builtin Builtin.append, args := #[.tmp 46, .tmp 47], argTypes := #[24, 24] }) 24 (by kernel_rfl) (by kernel_rfl) ?_
            go_wp2_with (at_builtin; refine appS rfl _ _ 24 rfl Try.underlying24 Try.info3 rfl (by decide) (by decide) HO.out rfl HR.out rfl (by intro u hu; simp at hu; rcases hu with rfl | rfl | rfl | rfl | rfl | rfl | rfl <;> rfl) (by have := HN.out; simp; omega) HBW.out ?_; intro v117 W116 ho hst hb; have HO2 := hide' ho; have HT2 := hide' hst; have HB2 := hide' hb; clear ho hst hb)
            have hS' := TwoB.own hS HT2.out HO.out HOB.out
            have HBW' := hide' (Nat.le_trans HBW.out HT2.out.size)
            have HR' := hide' (HR.out.stay HT2.out (fun k hk h => HRA.out.2 (by cases hk; exact h)))
            have HRA' := hide' (HRA.out.step HT2.out HB2.out)
            have HAb' := hide' (HAb.out.stay HT2.out (fun h => HAA.out.2 h))
            have HAA' := hide' (HAA.out.step HT2.out HB2.out)
            clear HO HT2 HB2
            clear hS
            have hS := hS'
            clear hS'
            clear HBW
            have HBW := HBW'
            clear HBW'
            clear HR
            have HR := HR'
            clear HR'
            clear HRA
            have HRA := HRA'
            clear HRA'
            clear HAb
            have HAb := HAb'
            clear HAb'
            clear HAA
            have HAA := HAA'
            clear HAA'
            have HO := HO2
            clear HO2
            refine hK11 5 (by simp) _ _ hS (any_more fun K12 hK12 => ?_)
            clear hK11 K11
            refine any_pick (rs := [6]) hK12 (by kernel_rfl) (fun K13 hK13 => ?_)
            clear hK12 K12
            intro i hi
            simp only [List.mem_cons, List.not_mem_nil, or_false] at hi
            rcases hi with rfl
            refine op_plain (some 49) (.call { callee := Callee.value (.func 11), args := #[.tmp 43, .tmp 48], argTypes := #[23, 24] }) 23 (by kernel_rfl) (by kernel_rfl) ?_
            go_wp2_with fail
            refine (HAP2.out _ _ (row_joined HO.out (by simp) HWF2.out)).mono ?_
            rintro e W118 ⟨rfl, hs⟩
            have hS' := hS.keep hs
            have HAb' := hide' (HAb.out.keep hs)
            clear hs
            clear hS
            have hS := hS'
            clear hS'
            clear HAb
            have HAb := HAb'
            clear HAb'
            go_wp2
            clear HAA
            clear HO HOB HBW HR HRA
            refine hK13 6 (by simp) _ _ hS (any_more fun K14 hK14 => ?_)
            clear hK13 K13
            refine any_pick (rs := [8]) hK14 (by kernel_rfl) (fun K15 hK15 => ?_)
            clear hK14 K14
            intro i hi
            simp only [List.mem_cons, List.not_mem_nil, or_false] at hi
            rcases hi with rfl
            refine op_plain none (.store 23 (.tmp 7) (.tmp 49)) 0 (by kernel_rfl) (by kernel_rfl) ?_
            obtain ⟨z0, z1, z2, e0, e1, e2⟩ := HAb.out
            go_wp2
            generalize hW2 : World.setCell (World.setCell (World.setCell _ _ _) _ _) _ _ = W119
            have HF : Hid (TwoB w w.heap.size p A1 ⟨0, 0, 8⟩ W119 ∧ Box W119 A110 ⟨xf, xb, 0⟩) := ⟨by rw [← hW2]; exact hS.putOther HAG.out, by rw [← hW2]; exact HAb.out.put ⟨xf, xb, 0⟩⟩
            have hS' : TwoB w w.heap.size p A1 ⟨0, 0, 8⟩ W119 := HF.out.1
            clear hS HAb z0 z1 z2 e0 e1 e2 hW2
            refine hK15 8 (by simp) _ _ hS' (any_more fun K16 hK16 => ?_)
            clear hK15 K15
            refine any_done hK16 (by kernel_rfl) ?_
            clear hK16 K16
            go_wp2_with fail
            go_meet
            exact ⟨A110, rfl, ⟨HF.out.1.1, HF.out.1.2.2, HF.out.2⟩⟩
        · refine op_plain (some 7) (.alloc 23) 0 (by kernel_rfl) (by kernel_rfl) ?_
          go_wp2
          have st : Stay (fun _ => False) W (W.alloc (.cells #[.int .i64 0, .int .i64 0, .int .i64 0] 23)) := (Stay.refl _ _).alloc _
          have hS' := hS.keep st
          have HAb := hide' (Box.new (w := W) ⟨0, 0, 0⟩ rfl)
          have HAG : Hid (w.heap.size ≤ W.heap.size ∧ w.heap.size < W.heap.size ∧ A1 < W.heap.size) := ⟨hS.1.size, hS.2.1.lt, hS.2.2.lt⟩
          have HAA : Hid (Apart (W.alloc (.cells #[.int .i64 0, .int .i64 0, .int .i64 0] 23)) (.slice none 0 0) W.heap.size) := Apart.none _ _
          clear st
          clear hS
          have hS := hS'
          clear hS'
          obtain ⟨A121, hA'⟩ : ∃ B, B = W.heap.size := ⟨_, rfl⟩
          rw [← hA'] at HAb HAA HAG
          rw [← hA']
          clear hA'
          obtain ⟨W120, hW⟩ : ∃ Wq, Wq = (W.alloc (.cells #[.int .i64 0, .int .i64 0, .int .i64 0] 23)) := ⟨_, rfl⟩
          rw [← hW] at hS HAb HAA
          rw [← hW]
          clear hW
          refine hK3 7 (by simp) _ _ hS (any_more fun K4 hK4 => ?_)
          clear hK3 K3
          refine any_pick (rs := [1, 4]) hK4 (by kernel_rfl) (fun K5 hK5 => ?_)
          clear hK4 K4
          intro i hi
          simp only [List.mem_cons, List.not_mem_nil, or_false] at hi
          rcases hi with rfl | rfl
          · refine op_plain (some 44) (.buildSlice 24 0 #[]) 24 (by kernel_rfl) (by kernel_rfl) ?_
            go_wp2
            have st : Stay (fun _ => False) W120 (W120.alloc (.cells #[] 3)) := (Stay.refl _ _).alloc _
            have hS' := hS.keep st
            have HAb' := hide' (HAb.out.keep st)
            have HAA' := hide' (HAA.out.fresh (.cells #[] 3))
            have HO := hide' (owns_newS W120 #[] 3 1 0 rfl (by decide))
            have HOB : Hid (w.heap.size < W120.heap.size ∧ A1 < W120.heap.size ∧ w.heap.size ≤ W120.heap.size) := ⟨hS.2.1.lt, hS.2.2.lt, hS.1.size⟩
            have HBW : Hid (W120.heap.size ≤ (W120.alloc (.cells #[] 3)).heap.size) := st.size
            clear st
            clear hS
            have hS := hS'
            clear hS'
            clear HAb
            have HAb := HAb'
            clear HAb'
            clear HAA
            have HAA := HAA'
            clear HAA'
            obtain ⟨vO123, hvO⟩ : ∃ v, v = Value.slice (some ⟨W120.heap.size, 0, none⟩) 0 0 := ⟨_, rfl⟩
            rw [← hvO] at HO HAA
            rw [← hvO]
            clear hvO
            obtain ⟨B124, hB⟩ : ∃ B, B = W120.heap.size := ⟨_, rfl⟩
            rw [← hB] at HO HOB HBW
            clear hB
            obtain ⟨W122, hW⟩ : ∃ Wq, Wq = (W120.alloc (.cells #[] 3)) := ⟨_, rfl⟩
            rw [← hW] at hS HO HBW HAb HAA
            rw [← hW]
            clear hW
            refine hK5 1 (by simp) _ _ hS (any_more fun K6 hK6 => ?_)
            clear hK5 K5
            refine any_pick (rs := [3, 4]) hK6 (by kernel_rfl) (fun K7 hK7 => ?_)
            clear hK6 K6
            intro i hi
            simp only [List.mem_cons, List.not_mem_nil, or_false] at hi
            rcases hi with rfl | rfl
            · refine op_plain (some 46) (.call { callee := Callee.builtin Builtin.append, args := #[.tmp 44, .tmp 45], argTypes := #[24, 24] }) 24 (by kernel_rfl) (by kernel_rfl) ?_
              have HSRC := hide' (isRowS_of (HA.out.stay0 hS.1).row)
              go_wp2_with (at_builtin; refine appS rfl _ _ 24 rfl Try.underlying24 Try.info3 rfl (by decide) (by decide) HO.out rfl HSRC.out rfl (one_ints _ _) (by have := HN.out; simp; omega) HBW.out ?_; intro v126 W125 ho hst hb; have HO2 := hide' ho; have HT2 := hide' hst; have HB2 := hide' hb; clear ho hst hb)
              have hS' := TwoB.own hS HT2.out HO.out HOB.out
              have HBW' := hide' (Nat.le_trans HBW.out HT2.out.size)
              have HAb' := hide' (HAb.out.stay HT2.out (fun h => HAA.out.2 h))
              have HAA' := hide' (HAA.out.step HT2.out HB2.out)
              clear HO HT2 HB2 HSRC
              clear hS
              have hS := hS'
              clear hS'
              clear HBW
              have HBW := HBW'
              clear HBW'
              clear HAb
              have HAb := HAb'
              clear HAb'
              clear HAA
              have HAA := HAA'
              clear HAA'
              have HO := HO2
              clear HO2
              refine hK7 3 (by simp) _ _ hS (any_more fun K8 hK8 => ?_)
              clear hK7 K7
              refine any_pick (rs := [4]) hK8 (by kernel_rfl) (fun K9 hK9 => ?_)
              clear hK8 K8
              intro i hi
              simp only [List.mem_cons, List.not_mem_nil, or_false] at hi
              rcases hi with rfl
              refine op_plain (some 47) (.buildSlice 24 7 #[(0, .const (Value.int IntKind.i64 22)), (1, .const (Value.int IntKind.i64 23)), (2, .const (Value.int IntKind.i64 24)), (3, .const (Value.int IntKind.i64 25)), (4, .const (Value.int IntKind.i64 27)), (5, .const (Value.int IntKind.i64 28)), (6, .const (Value.int IntKind.i64 29))]) 24 (by kernel_rfl) (by kernel_rfl) ?_
              go_wp2
              have st : Stay (fun _ => False) W125 (W125.alloc (.cells #[.int .i64 22, .int .i64 23, .int .i64 24, .int .i64 25, .int .i64 27, .int .i64 28, .int .i64 29] 3)) := (Stay.refl _ _).alloc _
              have hS' := hS.keep st
              have HO' := hide' (st.owns HO.out (fun _ _ h => h))
              have HBW' := hide' (Nat.le_trans HBW.out st.size)
              have HAb' := hide' (HAb.out.keep st)
              have HAA' := hide' (HAA.out.alloc (.cells #[.int .i64 22, .int .i64 23, .int .i64 24, .int .i64 25, .int .i64 27, .int .i64 28, .int .i64 29] 3))
              have HR := hide' (isRowS_new W125 #[.int .i64 22, .int .i64 23, .int .i64 24, .int .i64 25, .int .i64 27, .int .i64 28, .int .i64 29] 3 1 7 rfl)
              have HRA : Hid (Apart (W125.alloc (.cells #[.int .i64 22, .int .i64 23, .int .i64 24, .int .i64 25, .int .i64 27, .int .i64 28, .int .i64 29] 3)) v126 W125.heap.size) := Apart.new HO.out
              clear st
              clear hS
              have hS := hS'
              clear hS'
              clear HO
              have HO := HO'
              clear HO'
              clear HBW
              have HBW := HBW'
              clear HBW'
              clear HAb
              have HAb := HAb'
              clear HAb'
              clear HAA
              have HAA := HAA'
              clear HAA'
              obtain ⟨BR128, hBR⟩ : ∃ B, B = W125.heap.size := ⟨_, rfl⟩
              rw [← hBR] at HR HRA
              rw [← hBR]
              clear hBR
              obtain ⟨W127, hW⟩ : ∃ Wq, Wq = (W125.alloc (.cells #[.int .i64 22, .int .i64 23, .int .i64 24, .int .i64 25, .int .i64 27, .int .i64 28, .int .i64 29] 3)) := ⟨_, rfl⟩
              rw [← hW] at hS HR HRA HO HBW HAb HAA
              rw [← hW]
              clear hW
              refine hK9 4 (by simp) _ _ hS (any_more fun K10 hK10 => ?_)
              clear hK9 K9
              refine any_pick (rs := [5]) hK10 (by kernel_rfl) (fun K11 hK11 => ?_)
              clear hK10 K10
              intro i hi
              simp only [List.mem_cons, List.not_mem_nil, or_false] at hi
              rcases hi with rfl
              refine op_plain (some 48) (.call { callee := Callee.builtin Builtin.append, args := #[.tmp 46, .tmp 47], argTypes := #[24, 24] }) 24 (by kernel_rfl) (by kernel_rfl) ?_
              go_wp2_with (at_builtin; refine appS rfl _ _ 24 rfl Try.underlying24 Try.info3 rfl (by decide) (by decide) HO.out rfl HR.out rfl (by intro u hu; simp at hu; rcases hu with rfl | rfl | rfl | rfl | rfl | rfl | rfl <;> rfl) (by have := HN.out; simp; omega) HBW.out ?_; intro v130 W129 ho hst hb; have HO2 := hide' ho; have HT2 := hide' hst; have HB2 := hide' hb; clear ho hst hb)
              have hS' := TwoB.own hS HT2.out HO.out HOB.out
              have HBW' := hide' (Nat.le_trans HBW.out HT2.out.size)
              have HR' := hide' (HR.out.stay HT2.out (fun k hk h => HRA.out.2 (by cases hk; exact h)))
              have HRA' := hide' (HRA.out.step HT2.out HB2.out)
              have HAb' := hide' (HAb.out.stay HT2.out (fun h => HAA.out.2 h))
              have HAA' := hide' (HAA.out.step HT2.out HB2.out)
              clear HO HT2 HB2
              clear hS
              have hS := hS'
              clear hS'
              clear HBW
              have HBW := HBW'
              clear HBW'
              clear HR
              have HR := HR'
              clear HR'
              clear HRA
              have HRA := HRA'
              clear HRA'
              clear HAb
              have HAb := HAb'
              clear HAb'
              clear HAA
              have HAA := HAA'
              clear HAA'
              have HO := HO2
              clear HO2
              refine hK11 5 (by simp) _ _ hS (any_more fun K12 hK12 => ?_)
              clear hK11 K11
              refine any_pick (rs := [6]) hK12 (by kernel_rfl) (fun K13 hK13 => ?_)
              clear hK12 K12
              intro i hi
              simp only [List.mem_cons, List.not_mem_nil, or_false] at hi
              rcases hi with rfl
              refine op_plain (some 49) (.call { callee := Callee.value (.func 11), args := #[.tmp 43, .tmp 48], argTypes := #[23, 24] }) 23 (by kernel_rfl) (by kernel_rfl) ?_
              go_wp2_with fail
              refine (HAP2.out _ _ (row_joined HO.out (by simp) HWF2.out)).mono ?_
              rintro e W131 ⟨rfl, hs⟩
              have hS' := hS.keep hs
              have HAb' := hide' (HAb.out.keep hs)
              clear hs
              clear hS
              have hS := hS'
              clear hS'
              clear HAb
              have HAb := HAb'
              clear HAb'
              go_wp2
              clear HAA
              clear HO HOB HBW HR HRA
              refine hK13 6 (by simp) _ _ hS (any_more fun K14 hK14 => ?_)
              clear hK13 K13
              refine any_pick (rs := [8]) hK14 (by kernel_rfl) (fun K15 hK15 => ?_)
              clear hK14 K14
              intro i hi
              simp only [List.mem_cons, List.not_mem_nil, or_false] at hi
              rcases hi with rfl
              refine op_plain none (.store 23 (.tmp 7) (.tmp 49)) 0 (by kernel_rfl) (by kernel_rfl) ?_
              obtain ⟨z0, z1, z2, e0, e1, e2⟩ := HAb.out
              go_wp2
              generalize hW2 : World.setCell (World.setCell (World.setCell _ _ _) _ _) _ _ = W132
              have HF : Hid (TwoB w w.heap.size p A1 ⟨0, 0, 8⟩ W132 ∧ Box W132 A121 ⟨xf, xb, 0⟩) := ⟨by rw [← hW2]; exact hS.putOther HAG.out, by rw [← hW2]; exact HAb.out.put ⟨xf, xb, 0⟩⟩
              have hS' : TwoB w w.heap.size p A1 ⟨0, 0, 8⟩ W132 := HF.out.1
              clear hS HAb z0 z1 z2 e0 e1 e2 hW2
              refine hK15 8 (by simp) _ _ hS' (any_more fun K16 hK16 => ?_)
              clear hK15 K15
              refine any_done hK16 (by kernel_rfl) ?_
              clear hK16 K16
              go_wp2_with fail
              go_meet
              exact ⟨A121, rfl, ⟨HF.out.1.1, HF.out.1.2.2, HF.out.2⟩⟩
            · refine op_plain (some 47) (.buildSlice 24 7 #[(0, .const (Value.int IntKind.i64 22)), (1, .const (Value.int IntKind.i64 23)), (2, .const (Value.int IntKind.i64 24)), (3, .const (Value.int IntKind.i64 25)), (4, .const (Value.int IntKind.i64 27)), (5, .const (Value.int IntKind.i64 28)), (6, .const (Value.int IntKind.i64 29))]) 24 (by kernel_rfl) (by kernel_rfl) ?_
              go_wp2
              have st : Stay (fun _ => False) W122 (W122.alloc (.cells #[.int .i64 22, .int .i64 23, .int .i64 24, .int .i64 25, .int .i64 27, .int .i64 28, .int .i64 29] 3)) := (Stay.refl _ _).alloc _
              have hS' := hS.keep st
              have HO' := hide' (st.owns HO.out (fun _ _ h => h))
              have HBW' := hide' (Nat.le_trans HBW.out st.size)
              have HAb' := hide' (HAb.out.keep st)
              have HAA' := hide' (HAA.out.alloc (.cells #[.int .i64 22, .int .i64 23, .int .i64 24, .int .i64 25, .int .i64 27, .int .i64 28, .int .i64 29] 3))
              have HR := hide' (isRowS_new W122 #[.int .i64 22, .int .i64 23, .int .i64 24, .int .i64 25, .int .i64 27, .int .i64 28, .int .i64 29] 3 1 7 rfl)
              have HRA : Hid (Apart (W122.alloc (.cells #[.int .i64 22, .int .i64 23, .int .i64 24, .int .i64 25, .int .i64 27, .int .i64 28, .int .i64 29] 3)) vO123 W122.heap.size) := Apart.new HO.out
              clear st
              clear hS
              have hS := hS'
              clear hS'
              clear HO
              have HO := HO'
              clear HO'
              clear HBW
              have HBW := HBW'
              clear HBW'
              clear HAb
              have HAb := HAb'
              clear HAb'
              clear HAA
              have HAA := HAA'
              clear HAA'
              obtain ⟨BR134, hBR⟩ : ∃ B, B = W122.heap.size := ⟨_, rfl⟩
              rw [← hBR] at HR HRA
              rw [← hBR]
              clear hBR
              obtain ⟨W133, hW⟩ : ∃ Wq, Wq = (W122.alloc (.cells #[.int .i64 22, .int .i64 23, .int .i64 24, .int .i64 25, .int .i64 27, .int .i64 28, .int .i64 29] 3)) := ⟨_, rfl⟩
              rw [← hW] at hS HR HRA HO HBW HAb HAA
              rw [← hW]
              clear hW
              refine hK7 4 (by simp) _ _ hS (any_more fun K8 hK8 => ?_)
              clear hK7 K7
              refine any_pick (rs := [3]) hK8 (by kernel_rfl) (fun K9 hK9 => ?_)
              clear hK8 K8
              intro i hi
              simp only [List.mem_cons, List.not_mem_nil, or_false] at hi
              rcases hi with rfl
              refine op_plain (some 46) (.call { callee := Callee.builtin Builtin.append, args := #[.tmp 44, .tmp 45], argTypes := #[24, 24] }) 24 (by kernel_rfl) (by kernel_rfl) ?_
              have HSRC := hide' (isRowS_of (HA.out.stay0 hS.1).row)
              go_wp2_with (at_builtin; refine appS rfl _ _ 24 rfl Try.underlying24 Try.info3 rfl (by decide) (by decide) HO.out rfl HSRC.out rfl (one_ints _ _) (by have := HN.out; simp; omega) HBW.out ?_; intro v136 W135 ho hst hb; have HO2 := hide' ho; have HT2 := hide' hst; have HB2 := hide' hb; clear ho hst hb)
              have hS' := TwoB.own hS HT2.out HO.out HOB.out
              have HBW' := hide' (Nat.le_trans HBW.out HT2.out.size)
              have HR' := hide' (HR.out.stay HT2.out (fun k hk h => HRA.out.2 (by cases hk; exact h)))
              have HRA' := hide' (HRA.out.step HT2.out HB2.out)
              have HAb' := hide' (HAb.out.stay HT2.out (fun h => HAA.out.2 h))
              have HAA' := hide' (HAA.out.step HT2.out HB2.out)
              clear HO HT2 HB2 HSRC
              clear hS
              have hS := hS'
              clear hS'
              clear HBW
              have HBW := HBW'
              clear HBW'
              clear HR
              have HR := HR'
              clear HR'
              clear HRA
              have HRA := HRA'
              clear HRA'
              clear HAb
              have HAb := HAb'
              clear HAb'
              clear HAA
              have HAA := HAA'
              clear HAA'
              have HO := HO2
              clear HO2
              refine hK9 3 (by simp) _ _ hS (any_more fun K10 hK10 => ?_)
              clear hK9 K9
              refine any_pick (rs := [5]) hK10 (by kernel_rfl) (fun K11 hK11 => ?_)
              clear hK10 K10
              intro i hi
              simp only [List.mem_cons, List.not_mem_nil, or_false] at hi
              rcases hi with rfl
              refine op_plain (some 48) (.call { callee := Callee.builtin Builtin.append, args := #[.tmp 46, .tmp 47], argTypes := #[24, 24] }) 24 (by kernel_rfl) (by kernel_rfl) ?_
              go_wp2_with (at_builtin; refine appS rfl _ _ 24 rfl Try.underlying24 Try.info3 rfl (by decide) (by decide) HO.out rfl HR.out rfl (by intro u hu; simp at hu; rcases hu with rfl | rfl | rfl | rfl | rfl | rfl | rfl <;> rfl) (by have := HN.out; simp; omega) HBW.out ?_; intro v138 W137 ho hst hb; have HO2 := hide' ho; have HT2 := hide' hst; have HB2 := hide' hb; clear ho hst hb)
              have hS' := TwoB.own hS HT2.out HO.out HOB.out
              have HBW' := hide' (Nat.le_trans HBW.out HT2.out.size)
              have HR' := hide' (HR.out.stay HT2.out (fun k hk h => HRA.out.2 (by cases hk; exact h)))
              have HRA' := hide' (HRA.out.step HT2.out HB2.out)
              have HAb' := hide' (HAb.out.stay HT2.out (fun h => HAA.out.2 h))
              have HAA' := hide' (HAA.out.step HT2.out HB2.out)
              clear HO HT2 HB2
              clear hS
              have hS := hS'
              clear hS'
              clear HBW
              have HBW := HBW'
              clear HBW'
              clear HR
              have HR := HR'
              clear HR'
              clear HRA
              have HRA := HRA'
              clear HRA'
              clear HAb
              have HAb := HAb'
              clear HAb'
              clear HAA
              have HAA := HAA'
              clear HAA'
              have HO := HO2
              clear HO2
              refine hK11 5 (by simp) _ _ hS (any_more fun K12 hK12 => ?_)
              clear hK11 K11
              refine any_pick (rs := [6]) hK12 (by kernel_rfl) (fun K13 hK13 => ?_)
              clear hK12 K12
              intro i hi
              simp only [List.mem_cons, List.not_mem_nil, or_false] at hi
              rcases hi with rfl
              refine op_plain (some 49) (.call { callee := Callee.value (.func 11), args := #[.tmp 43, .tmp 48], argTypes := #[23, 24] }) 23 (by kernel_rfl) (by kernel_rfl) ?_
              go_wp2_with fail
              refine (HAP2.out _ _ (row_joined HO.out (by simp) HWF2.out)).mono ?_
              rintro e W139 ⟨rfl, hs⟩
              have hS' := hS.keep hs
              have HAb' := hide' (HAb.out.keep hs)
              clear hs
              clear hS
              have hS := hS'
              clear hS'
              clear HAb
              have HAb := HAb'
              clear HAb'
              go_wp2
              clear HAA
              clear HO HOB HBW HR HRA
              refine hK13 6 (by simp) _ _ hS (any_more fun K14 hK14 => ?_)
              clear hK13 K13
              refine any_pick (rs := [8]) hK14 (by kernel_rfl) (fun K15 hK15 => ?_)
              clear hK14 K14
              intro i hi
              simp only [List.mem_cons, List.not_mem_nil, or_false] at hi
              rcases hi with rfl
              refine op_plain none (.store 23 (.tmp 7) (.tmp 49)) 0 (by kernel_rfl) (by kernel_rfl) ?_
              obtain ⟨z0, z1, z2, e0, e1, e2⟩ := HAb.out
              go_wp2
              generalize hW2 : World.setCell (World.setCell (World.setCell _ _ _) _ _) _ _ = W140
              have HF : Hid (TwoB w w.heap.size p A1 ⟨0, 0, 8⟩ W140 ∧ Box W140 A121 ⟨xf, xb, 0⟩) := ⟨by rw [← hW2]; exact hS.putOther HAG.out, by rw [← hW2]; exact HAb.out.put ⟨xf, xb, 0⟩⟩
              have hS' : TwoB w w.heap.size p A1 ⟨0, 0, 8⟩ W140 := HF.out.1
              clear hS HAb z0 z1 z2 e0 e1 e2 hW2
              refine hK15 8 (by simp) _ _ hS' (any_more fun K16 hK16 => ?_)
              clear hK15 K15
              refine any_done hK16 (by kernel_rfl) ?_
              clear hK16 K16
              go_wp2_with fail
              go_meet
              exact ⟨A121, rfl, ⟨HF.out.1.1, HF.out.1.2.2, HF.out.2⟩⟩
          · refine op_plain (some 47) (.buildSlice 24 7 #[(0, .const (Value.int IntKind.i64 22)), (1, .const (Value.int IntKind.i64 23)), (2, .const (Value.int IntKind.i64 24)), (3, .const (Value.int IntKind.i64 25)), (4, .const (Value.int IntKind.i64 27)), (5, .const (Value.int IntKind.i64 28)), (6, .const (Value.int IntKind.i64 29))]) 24 (by kernel_rfl) (by kernel_rfl) ?_
            go_wp2
            have st : Stay (fun _ => False) W120 (W120.alloc (.cells #[.int .i64 22, .int .i64 23, .int .i64 24, .int .i64 25, .int .i64 27, .int .i64 28, .int .i64 29] 3)) := (Stay.refl _ _).alloc _
            have hS' := hS.keep st
            have HAb' := hide' (HAb.out.keep st)
            have HAA' := hide' (HAA.out.alloc (.cells #[.int .i64 22, .int .i64 23, .int .i64 24, .int .i64 25, .int .i64 27, .int .i64 28, .int .i64 29] 3))
            have HR := hide' (isRowS_new W120 #[.int .i64 22, .int .i64 23, .int .i64 24, .int .i64 25, .int .i64 27, .int .i64 28, .int .i64 29] 3 1 7 rfl)
            have HRA : Hid (Apart (W120.alloc (.cells #[.int .i64 22, .int .i64 23, .int .i64 24, .int .i64 25, .int .i64 27, .int .i64 28, .int .i64 29] 3)) (.slice none 0 0) W120.heap.size) := Apart.none _ _
            clear st
            clear hS
            have hS := hS'
            clear hS'
            clear HAb
            have HAb := HAb'
            clear HAb'
            clear HAA
            have HAA := HAA'
            clear HAA'
            obtain ⟨BR142, hBR⟩ : ∃ B, B = W120.heap.size := ⟨_, rfl⟩
            rw [← hBR] at HR HRA
            rw [← hBR]
            clear hBR
            obtain ⟨W141, hW⟩ : ∃ Wq, Wq = (W120.alloc (.cells #[.int .i64 22, .int .i64 23, .int .i64 24, .int .i64 25, .int .i64 27, .int .i64 28, .int .i64 29] 3)) := ⟨_, rfl⟩
            rw [← hW] at hS HR HRA HAb HAA
            rw [← hW]
            clear hW
            refine hK5 4 (by simp) _ _ hS (any_more fun K6 hK6 => ?_)
            clear hK5 K5
            refine any_pick (rs := [1]) hK6 (by kernel_rfl) (fun K7 hK7 => ?_)
            clear hK6 K6
            intro i hi
            simp only [List.mem_cons, List.not_mem_nil, or_false] at hi
            rcases hi with rfl
            refine op_plain (some 44) (.buildSlice 24 0 #[]) 24 (by kernel_rfl) (by kernel_rfl) ?_
            go_wp2
            have st : Stay (fun _ => False) W141 (W141.alloc (.cells #[] 3)) := (Stay.refl _ _).alloc _
            have hS' := hS.keep st
            have HR' := hide' (HR.out.stay st (fun _ _ h => h))
            have HRA' := hide' (HRA.out.fresh (.cells #[] 3))
            have HAb' := hide' (HAb.out.keep st)
            have HAA' := hide' (HAA.out.fresh (.cells #[] 3))
            have HO := hide' (owns_newS W141 #[] 3 1 0 rfl (by decide))
            have HOB : Hid (w.heap.size < W141.heap.size ∧ A1 < W141.heap.size ∧ w.heap.size ≤ W141.heap.size) := ⟨hS.2.1.lt, hS.2.2.lt, hS.1.size⟩
            have HBW : Hid (W141.heap.size ≤ (W141.alloc (.cells #[] 3)).heap.size) := st.size
            clear st
            clear hS
            have hS := hS'
            clear hS'
            clear HR
            have HR := HR'
            clear HR'
            clear HRA
            have HRA := HRA'
            clear HRA'
            clear HAb
            have HAb := HAb'
            clear HAb'
            clear HAA
            have HAA := HAA'
            clear HAA'
            obtain ⟨vO144, hvO⟩ : ∃ v, v = Value.slice (some ⟨W141.heap.size, 0, none⟩) 0 0 := ⟨_, rfl⟩
            rw [← hvO] at HO HRA HAA
            rw [← hvO]
            clear hvO
            obtain ⟨B145, hB⟩ : ∃ B, B = W141.heap.size := ⟨_, rfl⟩
            rw [← hB] at HO HOB HBW
            clear hB
            obtain ⟨W143, hW⟩ : ∃ Wq, Wq = (W141.alloc (.cells #[] 3)) := ⟨_, rfl⟩
            rw [← hW] at hS HO HBW HR HRA HAb HAA
            rw [← hW]
            clear hW
            refine hK7 1 (by simp) _ _ hS (any_more fun K8 hK8 => ?_)
            clear hK7 K7
            refine any_pick (rs := [3]) hK8 (by kernel_rfl) (fun K9 hK9 => ?_)
            clear hK8 K8
            intro i hi
            simp only [List.mem_cons, List.not_mem_nil, or_false] at hi
            rcases hi with rfl
            refine op_plain (some 46) (.call { callee := Callee.builtin Builtin.append, args := #[.tmp 44, .tmp 45], argTypes := #[24, 24] }) 24 (by kernel_rfl) (by kernel_rfl) ?_
            have HSRC := hide' (isRowS_of (HA.out.stay0 hS.1).row)
            go_wp2_with (at_builtin; refine appS rfl _ _ 24 rfl Try.underlying24 Try.info3 rfl (by decide) (by decide) HO.out rfl HSRC.out rfl (one_ints _ _) (by have := HN.out; simp; omega) HBW.out ?_; intro v147 W146 ho hst hb; have HO2 := hide' ho; have HT2 := hide' hst; have HB2 := hide' hb; clear ho hst hb)
            have hS' := TwoB.own hS HT2.out HO.out HOB.out
            have HBW' := hide' (Nat.le_trans HBW.out HT2.out.size)
            have HR' := hide' (HR.out.stay HT2.out (fun k hk h => HRA.out.2 (by cases hk; exact h)))
            have HRA' := hide' (HRA.out.step HT2.out HB2.out)
            have HAb' := hide' (HAb.out.stay HT2.out (fun h => HAA.out.2 h))
            have HAA' := hide' (HAA.out.step HT2.out HB2.out)
            clear HO HT2 HB2 HSRC
            clear hS
            have hS := hS'
            clear hS'
            clear HBW
            have HBW := HBW'
            clear HBW'
            clear HR
            have HR := HR'
            clear HR'
            clear HRA
            have HRA := HRA'
            clear HRA'
            clear HAb
            have HAb := HAb'
            clear HAb'
            clear HAA
            have HAA := HAA'
            clear HAA'
            have HO := HO2
            clear HO2
            refine hK9 3 (by simp) _ _ hS (any_more fun K10 hK10 => ?_)
            clear hK9 K9
            refine any_pick (rs := [5]) hK10 (by kernel_rfl) (fun K11 hK11 => ?_)
            clear hK10 K10
            intro i hi
            simp only [List.mem_cons, List.not_mem_nil, or_false] at hi
            rcases hi with rfl
            refine op_plain (some 48) (.call { callee := Callee.builtin Builtin.append, args := #[.tmp 46, .tmp 47], argTypes := #[24, 24] }) 24 (by kernel_rfl) (by kernel_rfl) ?_
            go_wp2_with (at_builtin; refine appS rfl _ _ 24 rfl Try.underlying24 Try.info3 rfl (by decide) (by decide) HO.out rfl HR.out rfl (by intro u hu; simp at hu; rcases hu with rfl | rfl | rfl | rfl | rfl | rfl | rfl <;> rfl) (by have := HN.out; simp; omega) HBW.out ?_; intro v149 W148 ho hst hb; have HO2 := hide' ho; have HT2 := hide' hst; have HB2 := hide' hb; clear ho hst hb)
            have hS' := TwoB.own hS HT2.out HO.out HOB.out
            have HBW' := hide' (Nat.le_trans HBW.out HT2.out.size)
            have HR' := hide' (HR.out.stay HT2.out (fun k hk h => HRA.out.2 (by cases hk; exact h)))
            have HRA' := hide' (HRA.out.step HT2.out HB2.out)
            have HAb' := hide' (HAb.out.stay HT2.out (fun h => HAA.out.2 h))
            have HAA' := hide' (HAA.out.step HT2.out HB2.out)
            clear HO HT2 HB2
            clear hS
            have hS := hS'
            clear hS'
            clear HBW
            have HBW := HBW'
            clear HBW'
            clear HR
            have HR := HR'
            clear HR'
            clear HRA
            have HRA := HRA'
            clear HRA'
            clear HAb
            have HAb := HAb'
            clear HAb'
            clear HAA
            have HAA := HAA'
            clear HAA'
            have HO := HO2
            clear HO2
            refine hK11 5 (by simp) _ _ hS (any_more fun K12 hK12 => ?_)
            clear hK11 K11
            refine any_pick (rs := [6]) hK12 (by kernel_rfl) (fun K13 hK13 => ?_)
            clear hK12 K12
            intro i hi
            simp only [List.mem_cons, List.not_mem_nil, or_false] at hi
            rcases hi with rfl
            refine op_plain (some 49) (.call { callee := Callee.value (.func 11), args := #[.tmp 43, .tmp 48], argTypes := #[23, 24] }) 23 (by kernel_rfl) (by kernel_rfl) ?_
            go_wp2_with fail
            refine (HAP2.out _ _ (row_joined HO.out (by simp) HWF2.out)).mono ?_
            rintro e W150 ⟨rfl, hs⟩
            have hS' := hS.keep hs
            have HAb' := hide' (HAb.out.keep hs)
            clear hs
            clear hS
            have hS := hS'
            clear hS'
            clear HAb
            have HAb := HAb'
            clear HAb'
            go_wp2
            clear HAA
            clear HO HOB HBW HR HRA
            refine hK13 6 (by simp) _ _ hS (any_more fun K14 hK14 => ?_)
            clear hK13 K13
            refine any_pick (rs := [8]) hK14 (by kernel_rfl) (fun K15 hK15 => ?_)
            clear hK14 K14
            intro i hi
            simp only [List.mem_cons, List.not_mem_nil, or_false] at hi
            rcases hi with rfl
            refine op_plain none (.store 23 (.tmp 7) (.tmp 49)) 0 (by kernel_rfl) (by kernel_rfl) ?_
            obtain ⟨z0, z1, z2, e0, e1, e2⟩ := HAb.out
            go_wp2
            generalize hW2 : World.setCell (World.setCell (World.setCell _ _ _) _ _) _ _ = W151
            have HF : Hid (TwoB w w.heap.size p A1 ⟨0, 0, 8⟩ W151 ∧ Box W151 A121 ⟨xf, xb, 0⟩) := ⟨by rw [← hW2]; exact hS.putOther HAG.out, by rw [← hW2]; exact HAb.out.put ⟨xf, xb, 0⟩⟩
            have hS' : TwoB w w.heap.size p A1 ⟨0, 0, 8⟩ W151 := HF.out.1
            clear hS HAb z0 z1 z2 e0 e1 e2 hW2
            refine hK15 8 (by simp) _ _ hS' (any_more fun K16 hK16 => ?_)
            clear hK15 K15
            refine any_done hK16 (by kernel_rfl) ?_
            clear hK16 K16
            go_wp2_with fail
            go_meet
            exact ⟨A121, rfl, ⟨HF.out.1.1, HF.out.1.2.2, HF.out.2⟩⟩
      case rest =>
      obtain ⟨A2, rfl, HS9⟩ := hcut
      clear HS8
      obtain ⟨_, ⟨c0, c1, c2, f0, f1, f2⟩, e0, e1, e2, g0, g1, g2⟩ := HS9.out
      go_wp2_with fail
      refine (awake7 _).mono ?_
      rintro e w10 ⟨rfl, hs⟩
      have HS10 := hide' (HS9.out.keep hs)
      clear hs
      go_wp2
      go_ret
      exact ⟨by simp, HS10.out.1⟩

end Go.Proofs.Ytinikpadbocfaaa
