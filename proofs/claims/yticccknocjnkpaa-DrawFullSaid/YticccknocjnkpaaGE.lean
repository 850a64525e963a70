/-
  An iterator over the cells of a view made: walked. No conditions.
  The window of a number. No conditions.
  A window is filled: walked. No conditions.
-/
import Derived.Test.YticccknocjnkpaaGB
import Derived.Test.YticccknocjnkpaaGD
import Derived.RangeFuncBox
namespace Go.Proofs.Yticccknocjnkpaa
open Go.RowKit Go.Shelf

/-- What the iterator's maker lays. -/
def OwnedV (s : Value) (p : Wn) (I : R) (w : World) (e : Ending) (w' : World) : Prop :=
  ∃ br bv : Nat, e = .returned (.func (.func 66) #[] #[.pointer (some ⟨br, 0, none⟩), .pointer (some ⟨bv, 0, none⟩)]) ∧ Stay (fun _ => False) w w' ∧ Box w' br I ∧ VBox w' bv ⟨s, p.id, p.env, p.x, p.y, p.w, p.h, p.hid, p.x, p.y, p.w, p.h⟩ ∧ w.heap.size ≤ bv ∧ w.heap.size ≤ br

theorem owned41 (s : Value) (p : Wn) (r I : R) (hI : I = bothR r ⟨p.x, p.y, p.w, p.h⟩) (w : World) :
    Calls Try.prog 41 #[.agg #[s, .int .i64 p.id, .int .i64 p.env, .int .i64 p.x, .int .i64 p.y, .int .i64 p.w, .int .i64 p.h, .bool p.hid, .int .i64 p.x, .int .i64 p.y, .int .i64 p.w, .int .i64 p.h], .agg #[.int .i64 r.x, .int .i64 r.y, .int .i64 r.w, .int .i64 r.h]] w (OwnedV s p I w) := by
  obtain ⟨W0, hW0⟩ : ∃ W, W = (w.alloc (.cells #[s, .int .i64 p.id, .int .i64 p.env, .int .i64 p.x, .int .i64 p.y, .int .i64 p.w, .int .i64 p.h, .bool p.hid, .int .i64 p.x, .int .i64 p.y, .int .i64 p.w, .int .i64 p.h] 92)).alloc (.cells #[.int .i64 r.x, .int .i64 r.y, .int .i64 r.w, .int .i64 r.h] 41) := ⟨_, rfl⟩
  obtain ⟨bv, hbv⟩ : ∃ b, b = w.heap.size := ⟨_, rfl⟩
  obtain ⟨br, hbr⟩ : ∃ b, b = bv + 1 := ⟨_, rfl⟩
  have hst0 : Stay (fun _ => False) w W0 := by rw [hW0]; exact ((Stay.refl _ _).alloc _).alloc _
  have HST := hide' hst0
  have HBV := hide' (show VBox W0 bv ⟨s, p.id, p.env, p.x, p.y, p.w, p.h, p.hid, p.x, p.y, p.w, p.h⟩ by rw [hW0]; exact (VBox.new ⟨s, p.id, p.env, p.x, p.y, p.w, p.h, p.hid, p.x, p.y, p.w, p.h⟩ hbv.symm).alloc _)
  have HBR := hide' (show Box W0 br r by rw [hW0]; exact Box.new r (by rw [hbr, hbv]; simp))
  have HNW := hide' (show w.heap.size ≤ bv ∧ w.heap.size ≤ br ∧ ¬ bv = br by omega)
  have HB := hide' (fun W => both65 r ⟨p.x, p.y, p.w, p.h⟩ W)
  rw [← hI] at HB
  simp only at HB
  obtain ⟨r0, r1, r2, r3, _⟩ := HBR.out
  obtain ⟨v0, v1, v2, v3, v4, v5, v6, v7, v8, v9, va, vb, _⟩ := HBV.out
  simp only at v0 v1 v2 v3 v4 v5 v6 v7 v8 v9 va vb
  clear hst0 hI
  go_enter Try.func41, Try.ntmps41
  go_upto_region 1 with fail
  rw [← hW0, ← hbv]
  rw [← hbr]
  clear hW0 hbv hbr
  go_wp2_with fail
  refine (HB.out _).mono ?_
  rintro _ w1 ⟨rfl, hs⟩
  have HS1 := hide' (HST.out.trans hs)
  have HB1 := hide' (HBR.out.keep hs)
  have HV1 := hide' (HBV.out.keep hs)
  clear hs r0 r1 r2 r3 v0 v1 v2 v3 v4 v5 v6 v7 v8 v9 va vb HBR HBV HST HB
  obtain ⟨r0, r1, r2, r3, k0, k1, k2, k3⟩ := HB1.out
  simp only
  go_wp2
  go_ret
  refine ⟨br, bv, rfl, HS1.out.put HNW.out.2.1 _ _ _ _, HB1.out.put I, HV1.out.stay (T := fun j => j = br) ?_ HNW.out.2.2, HNW.out.1, HNW.out.2.1⟩
  exact (((((Stay.refl (fun j => j = br) w1).setCell (p := ⟨br, 0, none⟩) rfl _).setCell (p := ⟨br, 1, none⟩) rfl _).setCell (p := ⟨br, 2, none⟩) rfl _).setCell (p := ⟨br, 3, none⟩) rfl _)

section
variable {P : Program} {ops : Array Oper} {S : World → Prop} {Q : Exit → Act → World → Prop} {F : Fence} {n : Nat}

/-- What is behind a region that doesn't panic. -/
def noP (Q : Exit → Act → World → Prop) : Exit → Act → World → Prop
  | .panic _, _, _ => False
  | e, a, w => Q e a w

/-- A drawn region, by a plan, where what a panic leaves hangs on the slots. -/
theorem wp_region_mixP {id : Nat} {a : Act} {w : World} (S : World → Prop) (σ : List (Nat × Bool)) (hm : P.follows .mixedOrders = true)
    (hB : (Region.noSelect ops && (σ.length == ops.size) && mixB .any ops σ (Array.replicate ops.size false)) = true)
    (hS : S w.drew) (h : wpMix P ops S (noP Q) σ a w.drew) : (Code.region id ops true).wp P Q a w :=
  (wpIn_wide (n := 0)).1 (wpIn_mono ((wpIn_wide (n := 0)).2 (wp_region_mix S σ hm hB (fun _ _ _ _ _ h => h.elim) hS h)) (fun e a w h => by
    cases e <;> first | exact h | exact h.elim))

/-- Where no panic comes, what it leaves doesn't matter. -/
theorem wp_noP {c : Code} {a : Act} {w : World} (h : c.wp P (noP Q) a w) : c.wp P Q a w :=
  (wpIn_wide (n := 0)).1 (wpIn_mono ((wpIn_wide (n := 0)).2 h) (fun e a w h => by
    cases e <;> first | exact h | exact h.elim))

theorem anyP_done {md : Region.Mode} {fuel : Nat} {listed : Array Bool} {K : Act → World → Prop} {a : Act} {w : World} (hK : ∀ a w, wpAnyH P md ops (noP Q) S fuel listed a w → K a w) (hr : (Region.ready md ops listed).isEmpty = true) (h : Q .normal a w) : K a w := any_done hK hr h

theorem mixP_nil {a : Act} {w : World} (h : Q .normal a w) : wpMix P ops S (noP Q) [] a w := h

end

end Go.Proofs.Yticccknocjnkpaa

namespace Go.Proofs.Yticccknocjnkpaa
open Go.RowKit Go.Shelf

theorem errW_get (L : List Wn) (id : Int) : ∃ p : Wn, ∃ e : Bool, getR L id = (p, e) ∧ errW L id = (if e = true then 0 else 5) ∧ (e = false → p = Wn.zero) := by
  unfold getR errW
  cases L[plN L id]? with
  | none => exact ⟨Wn.zero, false, rfl, rfl, fun _ => rfl⟩
  | some p => exact ⟨p, true, rfl, rfl, fun e => by cases e⟩

end Go.Proofs.Yticccknocjnkpaa

namespace Go.Proofs.Yticccknocjnkpaa
open Go.RowKit Go.Shelf

theorem put_bi {fq : Fm} {nb k : Nat} {wl W : World} {f : Nat → Cl} {N : List Wr} {v : Value} (H : BI fq nb wl f N k v W) (x y : Int) (c : Cl) (hx : 0 ≤ x ∧ x < (fq.G.w : Nat)) (hy : 0 ≤ y ∧ y < (fq.G.h : Nat)) (hl : N.length ≤ 900000) :
    Calls Try.prog 43 #[.pointer (some ⟨fq.b, 0, none⟩), .int .i64 x, .int .i64 y, .agg #[.int .i32 c.r, .int .i64 c.fg, .int .i64 c.bg, .int .i64 c.fl]] W fun e w' => ∃ v2, e = .returned (.bool true) ∧ FAt w' (fq.with v2) (setF fq.G.w fq.G.h f x y c) (N ++ [Wr.of x y c]) ∧ Moved (fq.with v) (fq.with v2) W w' := by
  have h1 := H.fa.grid.w2
  have h2 := H.fa.grid.h2
  have hw : fq.G.w ≤ 512 := h1
  have hh : fq.G.h ≤ 512 := h2
  have hi : insB fq.G.w fq.G.h x y = true := by
    obtain ⟨X, rfl⟩ : ∃ X : Nat, x = X := ⟨x.toNat, by omega⟩
    obtain ⟨Y, rfl⟩ : ∃ Y : Nat, y = Y := ⟨y.toNat, by omega⟩
    exact ins_nat (by omega) (by omega)
  have h := put43 (fq.with v) f N x y c W H.fa (by unfold I64; omega) (by unfold I64; omega) hl
  refine h.mono ?_
  rintro e w' ⟨v2, he, ha, hm⟩
  have e1 : insB (fq.with v).G.w (fq.with v).G.h x y = true := hi
  rw [e1] at he
  unfold noteL at ha
  rw [if_pos e1] at ha
  exact ⟨v2, he, ha, hm⟩

theorem marks_ret2 {F : Fence} {n : Nat} {fn : Func} {R : Ending → World → Prop} {tmps : Array Value} {w : World} {t u : Tmp} (h : fn.results = #[.tmp t, .tmp u]) (hR : R (.returned (.tuple #[tmps.getD t undef, tmps.getD u undef])) w) : bodyPostM F n Try.prog fn R .ret { tmps := tmps, defers := [] } w :=
  ⟨_, results_tmp2 h _ _ _, hR⟩

theorem marks_ret2_D {F : Fence} {n : Nat} {fn : Func} {R : Ending → World → Prop} {tmps : Array Value} {w : World} {t u : Tmp} {D : Nat} (hK : w.heap[D]? = some (.deferred (some []))) (h : fn.results = #[.tmp t, .tmp u]) (hR : R (.returned (.tuple #[tmps.getD t undef, tmps.getD u undef])) (w.putObj D (.deferred none))) : bodyPostM F n Try.prog fn R .ret { tmps := tmps, defers := [{ target := .collected D, args := #[] }] } w :=
  ⟨by simp, .inl ⟨_, _, rfl, run_takeDeferred hK, _, results_tmp2 h _ _ _, hR⟩⟩

/-- What was drawn, of places. -/
def drawM {P : Nat → Nat → Bool} (Q : Nat → Nat → Wr) (l : List { q : Nat × Nat // P q.1 q.2 = true }) : List Wr := l.map fun x => Q x.1.1 x.1.2

theorem drawM_snoc {P : Nat → Nat → Bool} {Q : Nat → Nat → Wr} {l : List { q : Nat × Nat // P q.1 q.2 = true }} {x : { q : Nat × Nat // P q.1 q.2 = true }} : drawM Q (l ++ [x]) = drawM Q l ++ [Q x.1.1 x.1.2] := by
  unfold drawM
  rw [List.map_append]
  rfl

theorem drawM_row {P : Nat → Nat → Bool} (Q : Nat → Nat → Wr) (j : Nat) : ∀ k, drawM Q (rowS P j k) = rowN P Q j k
  | 0 => rfl
  | k + 1 => by
    show _ = rowN P Q j k ++ if P j k = true then [Q j k] else []
    by_cases h : P j k = true
    · rw [rowS_hit h, drawM_snoc, drawM_row Q j k, if_pos h]
    · rw [rowS_miss h, drawM_row Q j k, if_neg h, List.append_nil]

theorem drawM_all {P : Nat → Nat → Bool} (Q : Nat → Nat → Wr) (n : Nat) : ∀ j, drawM Q (allS P n j) = allN P Q n j
  | 0 => rfl
  | j + 1 => by
    show drawM Q (allS P n j ++ rowS P j n) = allN P Q n j ++ rowN P Q j n
    rw [← drawM_all Q n j, ← drawM_row Q j n]
    unfold drawM
    rw [List.map_append]

theorem drawM_fill (L : List Wn) (p : Wn) (r : R) (c : Cl) : drawM (fillQ p c) (ownS L p r) = fillA L p r c := by
  unfold ownS fillA
  by_cases h : rightB r = true
  · rw [if_pos h, if_pos h, drawM_all]
  · rw [if_neg h, if_neg h]
    rfl

theorem drawM_len {P : Nat → Nat → Bool} (Q : Nat → Nat → Wr) (l : List { q : Nat × Nat // P q.1 q.2 = true }) : (drawM Q l).length = l.length := by
  unfold drawM
  rw [List.length_map]

/-- Where a place that is handed out lies. -/
theorem fill_at {L : List Wn} {p : Wn} {r : R} {j k : Nat} (h : fillP L p r j k = true) : (k : Int) < p.w ∧ (j : Int) < p.h ∧ (1 ≤ r.w ∧ 1 ≤ r.h ∧ r.x ≤ k ∧ (k : Int) - r.x < r.w ∧ r.y ≤ j ∧ (j : Int) - r.y < r.h) := by
  unfold fillP inB ownB at h
  simp only [Bool.and_eq_true, decide_eq_true_eq] at h
  obtain ⟨⟨⟨⟨⟨⟨h1, h2⟩, h3⟩, h4⟩, h5⟩, h6⟩, ⟨⟨⟨⟨_, h7⟩, _⟩, h8⟩, _⟩⟩ := h
  exact ⟨h7, h8, h1, h2, h3, h4, h5, h6⟩

/-- Where a loop that draws begins. -/
theorem BI.begin {fq : Fm} {nb : Nat} {wl : World} {f : Nat → Cl} {N : List Wr} (h : FAt wl fq f N) (hc : wl.cell? ⟨nb, 0, none⟩ = some (.int .i64 0)) (hf : wl.frozen? ⟨nb, 0, none⟩ = false) : BI fq nb wl f (N ++ []) 0 fq.v wl :=
  ⟨by rw [List.append_nil]; exact h, Stay.refl _ _, fun j hj => .inl (.inr (.inr hj)), hc, hf⟩

/-- .. and where it ends. -/
theorem BI.ends {fq : Fm} {nb k : Nat} {w wl W : World} {f g : Nat → Cl} {N M : List Wr} {v : Value} {er : Int} {e : Ending} (H : BI fq nb wl g (N ++ M) k v W) (hs : Stay (fun _ => False) w wl) (hnb : w.heap.size ≤ nb) (hg : g = applyW fq.G.w fq.G.h f M) (he : e = .returned (.tuple #[.int .i64 (M.length : Nat), .int .i64 er])) : DrewS fq f N M er w e W := by
  subst hg
  have hs2 : Stay fq.own w wl := hs.mono (fun _ _ h => h.elim)
  refine ⟨v, he, H.fa, hs2.trans2 H.st (fun j hj t => ?_), fun j hj => ?_⟩
  · rcases t with t | t
    · exact t
    · omega
  · rcases hj with h | h | h
    · exact .inl (.inl h)
    · exact .inl (.inr (.inl h))
    · rcases H.vo j h with h1 | h1
      · exact .inl h1
      · exact .inr (Nat.le_trans hs.size h1.1)

end Go.Proofs.Yticccknocjnkpaa
