/-
  Cells of a grid come to another one, or to itself: walked. No conditions.
-/
import Derived.Test.YticccknocjnkpaaD6
import Derived.BigRegion
namespace Go.Proofs.Yticccknocjnkpaa
open Go.RowKit

theorem wpList_copy4 {P : Program} {w : World} {ops : Array Oper} {rest : List Oper} {o : Oper} {a : Act} {Q : Exit → Act → World → Prop} (hgd : o.guard = none) (d s : Operand) (T : TypeId)
    (ho : o.op = .call { callee := .builtin .copy, args := #[d, s], argTypes := #[T, T] }) (elem : TypeId) (hu : P.underlying T = some (.slice elem)) (hsz : (P.info? elem).map (·.size) = some 4)
    (b o1 dLen dCap ab ao sLen sCap : Nat) (hd : a.eval d = .slice (some ⟨b, o1, none⟩) dLen dCap) (hs : a.eval s = .slice (some ⟨ab, ao, none⟩) sLen sCap)
    (cs : List Value) (m : Nat) (hm : m = Nat.min sLen dLen) (hc : cs.length = m * 4) (hsrc : ∀ j v, cs[j]? = some v → w.cell? ⟨ab, ao + j, none⟩ = some v) (ht : w.there b o1 (m * 4)) (h1 : ∀ v ∈ cs, v.oneCell' = true)
    (h : wpList P ops Q rest (a.put o.dst (goInt m)) (w.setCells b o1 cs)) : wpList P ops Q (o :: rest) a w := by
  refine wpList_plain hgd fun K hK => ?_
  have hl := run_loadCells_list (P := P) w ⟨ab, ao, none⟩ cs (fun j v hv => by rw [addr_add]; exact hsrc j v hv)
  have hst := run_storeCells_cells (P := P) b o1 cs 0 w (fun j hj => by simpa using (ht j (by omega)).1) (fun j hj => by simpa using (ht j (by omega)).2) h1
  rw [hc] at hl
  have hrun : (Builtin.copy_ #[T, T] o.type #[.slice (some ⟨b, o1, none⟩) dLen dCap, .slice (some ⟨ab, ao, none⟩) sLen sCap]).run P w = .ok (goInt m) (w.setCells b o1 cs) := by
    cases hq : P.info? elem with
    | none => simp [hq] at hsz
    | some i =>
      have hi : i.size = 4 := by simpa [hq] using hsz
      simp [Builtin.copy_, run_underlying hu, Builtin.lenOf, Builtin.firstCells, sizeOf, typeInfo, hq, hi, ← hm, hl, hst]
  unfold Oper.wp
  simp [execOp, ho, resolve, invoke, builtin, hd, hs, hrun, Result.andThen]
  exact hK _ _ h

theorem Box.put01 {w : World} {b : Nat} {r : R} (h : Box w b r) (p q : Int) : Box ((w.setCell ⟨b, 0, none⟩ (.int .i64 p)).setCell ⟨b, 1, none⟩ (.int .i64 q)) b ⟨p, q, r.w, r.h⟩ := by
  obtain ⟨h0, h1, h2, h3, k0, k1, k2, k3⟩ := h
  constructor <;> simp [go_sem, *]

/-- Of two grids: they are one, or the first one lies elsewhere than the cells of the other one. -/
def OneOff (G O : Gr) (fs ft F f : Nat → Cl) : Prop := (G = O ∧ fs = ft ∧ F = f) ∨ (G.off O.bc ∧ fs = F)

/-- While rows come. -/
structure BIn (w : World) (G O : Gr) (F f : Nat → Cl) (x1 y1 a1 b1 u1 v1 : Nat) (down : Bool) (k : Nat) (wr : World) : Prop where
  stay : Stay (fun b => b = O.bc) w wr
  box : Box wr w.heap.size ⟨x1, y1, a1, b1⟩
  two : ∃ fs ft, GridAt wr G fs ∧ GridAt wr O ft ∧ Blitted G.w O.w O.h x1 y1 a1 b1 u1 v1 down F f ft k ∧ OneOff G O fs ft F f

theorem OneOff.rows {G O : Gr} {fs ft F f : Nat → Cl} {x1 y1 a1 b1 u1 v1 : Nat} {down : Bool} {k s : Nat} (h : OneOff G O fs ft F f) (hb : Blitted G.w O.w O.h x1 y1 a1 b1 u1 v1 down F f ft k) (hs : s < G.h)
    (hn : ¬ ((down = true ∧ y1 + b1 - k ≤ s ∧ s < y1 + b1) ∨ (down = false ∧ y1 ≤ s ∧ s < y1 + k))) : ∀ U, U < G.w → fs (s * G.w + U) = F (s * G.w + U) := fun U hU => by
  rcases h with ⟨rfl, rfl, rfl⟩ | ⟨_, rfl⟩
  · rw [hb U s hU hs, if_neg (fun h => hn h.2.2)]
  · rfl

theorem BIn.next {w wr : World} {G O : Gr} {F f fs ft : Nat → Cl} {x1 y1 a1 b1 u1 v1 : Nat} {down : Bool} {k : Nat} (h1 : Stay (fun b => b = O.bc) w wr) (h2 : Box wr w.heap.size ⟨x1, y1, a1, b1⟩) (hG : GridAt wr G fs) (hO : GridAt wr O ft)
    (hb : Blitted G.w O.w O.h x1 y1 a1 b1 u1 v1 down F f ft k) (ho : OneOff G O fs ft F f) (hbc : O.bc < w.heap.size) (hk : k < b1) (hx : x1 + a1 ≤ O.w) (hy1 : y1 + b1 ≤ O.h) (hu : u1 + a1 ≤ G.w) {y s : Nat} (hy : y = nextRow y1 b1 down k) (hs : s = y - y1 + v1) (hsh : s < G.h)
    (hn : ¬ ((down = true ∧ y1 + b1 - k ≤ s ∧ s < y1 + b1) ∨ (down = false ∧ y1 ≤ s ∧ s < y1 + k))) :
    BIn w G O F f x1 y1 a1 b1 u1 v1 down (k + 1) (wr.setCells O.bc (y * O.w * 4 + x1 * 4) (seg a1 (fun i => fs (s * G.w + u1 + i)))) := by
  have hst : Stay (fun j => j = O.bc) wr (wr.setCells O.bc (y * O.w * 4 + x1 * 4) (seg a1 (fun i => fs (s * G.w + u1 + i)))) := (Stay.refl (fun j => j = O.bc) wr).setCells O.bc _ _ rfl
  have hyh : y < O.h := by
    unfold nextRow at hy
    cases down <;> simp at hy <;> omega
  have hO2 := hO.copy (y * O.w + x1) a1 (fun i => fs (s * G.w + u1 + i)) (by
    have := idx_lt (w := O.w) (h := O.h) (x := x1 + a1 - 1) (y := y)
    by_cases ha : a1 = 0
    · have h3 := Nat.mul_le_mul_right O.w (show y + 1 ≤ O.h by omega)
      rw [Nat.succ_mul] at h3
      rw [Nat.mul_comm O.w O.h]
      omega
    · have := this (by omega) hyh
      omega)
  rw [Nat.add_mul] at hO2
  have hB2 := hb.next hk hx hu hy hs (ho.rows hb hsh hn)
  refine ⟨h1.trans hst, h2.stay hst (by omega), ?_⟩
  rcases ho with ⟨rfl, rfl, rfl⟩ | ⟨hoff, rfl⟩
  · exact ⟨_, _, hO2, hO2, hB2, .inl ⟨rfl, rfl, rfl⟩⟩
  · exact ⟨fs, _, hG.apart hst hoff, hO2, hB2, .inr ⟨hoff, rfl⟩⟩

set_option maxRecDepth 100000 in
set_option maxHeartbeats 4000000 in
theorem blit80 (G O : Gr) (F f : Nat → Cl) (r : R) (x y : Int) (w : World) (hG : GridAt w G F) (hO : GridAt w O f) (hoo : OneOff G O F f F f) (hr : rightB r = true) (hxy : rightB ⟨x, y, 0, 0⟩ = true) :
    Calls Try.prog 80 #[.pointer (some ⟨G.g, 0, none⟩), .pointer (some ⟨O.g, 0, none⟩), .agg #[.int .i64 r.x, .int .i64 r.y, .int .i64 r.w, .int .i64 r.h], .int .i64 x, .int .i64 y] w
      (fun e w' => ∃ f', Turns (.int .i64 (cntAll (comesB G.w G.h r x y) O.w O.h : Nat)) O f' w e w' ∧ Blits G.w G.h O.w O.h r x y F f f') := by
  have hs0 : Stay (fun _ => False) w (w.alloc (.cells #[.int .i64 r.x, .int .i64 r.y, .int .i64 r.w, .int .i64 r.h] 41)) := (Stay.refl _ _).alloc _
  have hgl := hG.lt
  have hol := hO.lt
  obtain ⟨x0, y0, a0, b0, hq, hx, hy, x1, y1, a1, b1, u1, v1, hq1, hx1, hy1, hm, huv⟩ := blit_rect G.w G.h O.w O.h r x y hG.w2 hG.h2 hO.w2 hO.h2 hr hxy
  obtain ⟨N, hN⟩ : ∃ n, n = cntAll (comesB G.w G.h r x y) O.w O.h := ⟨_, rfl⟩
  rw [← hN]
  have hN2 : N = a1 * b1 := by rw [hN]; exact cntAll_rect hx1 hy1 hm
  have HM := hide' hm
  have HR1 := hide' (right67 r)
  rw [hr] at HR1
  have HR2 := hide' (right67 ⟨x, y, 0, 0⟩)
  rw [hxy] at HR2
  have hA : areaI ⟨x1, y1, a1, b1⟩ = (N : Int) := by rw [hN2]; exact area_nat _ _ _ _ (by have := hO.w2; have := hO.h2; omega)
  have HAR := hide' (fun w => area86 ⟨x1, y1, a1, b1⟩ w)
  rw [hA] at HAR
  obtain ⟨⟨p1, p2⟩, ⟨p3, p4⟩, _⟩ := right_bd hr
  obtain ⟨⟨q1, q2⟩, q3, q4⟩ := xy_bd hxy
  have g512 := hG.w2
  have h512 := hG.h2
  have HSZ := hide' (show G.w ≤ 512 ∧ G.h ≤ 512 ∧ O.w ≤ 512 ∧ O.h ≤ 512 from ⟨hG.w2, hG.h2, hO.w2, hO.h2⟩)
  obtain ⟨dx, hdx⟩ : ∃ d, d = x - r.x := ⟨_, rfl⟩
  obtain ⟨dy, hdy⟩ : ∃ d, d = y - r.y := ⟨_, rfl⟩
  rw [← hdx, ← hdy] at hq1 huv
  have HUV := hide' huv
  have HMU : Hid (∀ down ft, Blitted G.w O.w O.h x1 y1 a1 b1 u1 v1 down F f ft b1 → Blits G.w G.h O.w O.h r x y F f ft) := fun down ft h => h.all hm (by rw [← hdx, ← hdy]; exact huv)
  have m1 : IntKind.i64.wrap (x - r.x) = dx := by rw [IntKind.wrap_i64]; omega
  have m2 : IntKind.i64.wrap (y - r.y) = dy := by rw [IntKind.wrap_i64]; omega
  obtain ⟨x2, hx2⟩ : ∃ d, d = (x0 : Int) + dx := ⟨_, rfl⟩
  obtain ⟨y2, hy2⟩ : ∃ d, d = (y0 : Int) + dy := ⟨_, rfl⟩
  rw [← hx2, ← hy2] at hq1
  have m3 : IntKind.i64.wrap ((x0 : Int) + dx) = x2 := by rw [IntKind.wrap_i64]; omega
  have m4 : IntKind.i64.wrap ((y0 : Int) + dy) = y2 := by rw [IntKind.wrap_i64]; omega
  have dbd : -4294967296 ≤ dx ∧ dx ≤ 4294967296 ∧ -4294967296 ≤ dy ∧ dy ≤ 4294967296 := by omega
  obtain ⟨d1, d2, d3, d4⟩ := dbd
  have HBO1 := hide' (fun w => both65 r (⟨0, 0, (G.w : Nat), (G.h : Nat)⟩ : R) w)
  rw [hq] at HBO1
  have HBO2 := hide' (fun w => both65 ⟨x2, y2, a0, b0⟩ (⟨0, 0, (O.w : Nat), (O.h : Nat)⟩ : R) w)
  rw [hq1] at HBO2
  let X : World → Prop := fun W => Stay (fun _ => False) w W ∧ GridAt W G F ∧ GridAt W O f
  have HX : Hid (X (w.alloc (.cells #[.int .i64 r.x, .int .i64 r.y, .int .i64 r.w, .int .i64 r.h] 41))) := ⟨hs0, hG.keep hs0, hO.keep hs0⟩
  have HB := hide' (Box.new (w := w) r rfl)
  have HXK : Hid (∀ W W1, X W → Stay (fun _ => False) W W1 → X W1) := fun W W1 h hs => ⟨h.1.trans hs, h.2.1.keep hs, h.2.2.keep hs⟩
  have HXP : Hid (∀ W v0 v1 v2 v3, X W → X ((((W.setCell ⟨w.heap.size, 0, none⟩ v0).setCell ⟨w.heap.size, 1, none⟩ v1).setCell ⟨w.heap.size, 2, none⟩ v2).setCell ⟨w.heap.size, 3, none⟩ v3)) := fun W v0 v1 v2 v3 h =>
    have hp : Stay (fun k => k = w.heap.size) W _ := ((((Stay.refl (fun k => k = w.heap.size) W).setCell (p := ⟨w.heap.size, 0, none⟩) rfl v0).setCell (p := ⟨w.heap.size, 1, none⟩) rfl v1).setCell (p := ⟨w.heap.size, 2, none⟩) rfl v2).setCell (p := ⟨w.heap.size, 3, none⟩) rfl v3
    ⟨h.1.put (Nat.le_refl _) _ _ _ _, h.2.1.stay hp (by omega) (by omega) (by omega), h.2.2.stay hp (by omega) (by omega) (by omega)⟩
  have HXQ : Hid (∀ W v0 v1, X W → X ((W.setCell ⟨w.heap.size, 0, none⟩ v0).setCell ⟨w.heap.size, 1, none⟩ v1)) := fun W v0 v1 h =>
    have hp : Stay (fun k => k = w.heap.size) W _ := ((Stay.refl (fun k => k = w.heap.size) W).setCell (p := ⟨w.heap.size, 0, none⟩) rfl v0).setCell (p := ⟨w.heap.size, 1, none⟩) rfl v1
    ⟨(h.1.setNew (p := ⟨w.heap.size, 0, none⟩) (Nat.le_refl _) v0).setNew (p := ⟨w.heap.size, 1, none⟩) (Nat.le_refl _) v1, h.2.1.stay hp (by omega) (by omega) (by omega), h.2.2.stay hp (by omega) (by omega) (by omega)⟩
  have HXS : Hid (∀ down W, X W → Box W w.heap.size ⟨x1, y1, a1, b1⟩ → BIn w G O F f x1 y1 a1 b1 u1 v1 down 0 W) := fun down W h hb => ⟨stay_any h.1, hb, F, f, h.2.1, h.2.2, Blitted.none _ _ _ _ _ _ _ _ _ _ _ _, hoo⟩
  have HWH : Hid (∀ W, X W → Calls Try.prog 60 #[.pointer (some ⟨G.g, 0, none⟩)] W (Gives (.agg #[.int .i64 (⟨0, 0, (G.w : Nat), (G.h : Nat)⟩ : R).x, .int .i64 (⟨0, 0, (G.w : Nat), (G.h : Nat)⟩ : R).y, .int .i64 (⟨0, 0, (G.w : Nat), (G.h : Nat)⟩ : R).w, .int .i64 (⟨0, 0, (G.w : Nat), (G.h : Nat)⟩ : R).h]) W)) := fun W h => whole60 G F W h.2.1
  have HWO : Hid (∀ W, X W → Calls Try.prog 60 #[.pointer (some ⟨O.g, 0, none⟩)] W (Gives (.agg #[.int .i64 (⟨0, 0, (O.w : Nat), (O.h : Nat)⟩ : R).x, .int .i64 (⟨0, 0, (O.w : Nat), (O.h : Nat)⟩ : R).y, .int .i64 (⟨0, 0, (O.w : Nat), (O.h : Nat)⟩ : R).w, .int .i64 (⟨0, 0, (O.w : Nat), (O.h : Nat)⟩ : R).h]) W)) := fun W h => whole60 O f W h.2.2
  have HBC := hide' hol.2.2
  have HLE := hide' (show x1 + a1 ≤ O.w ∧ y1 + b1 ≤ O.h from ⟨hx1, hy1⟩)
  have a512 : (a1 : Int) ≤ 512 := by have := hO.w2; omega
  have b512 : (b1 : Int) ≤ 512 := by have := hO.h2; omega
  clear_value X
  clear hs0 hgl hol hq hx hy hq1 hx1 hy1 hm huv hN hN2 hA hG hO hoo hr hxy hdx hdy hx2 hy2 p1 p2 p3 p4 q1 q2 q3 q4 g512 h512
  go_enter Try.func80, Try.ntmps80
  go_upto_region 1 with fail
  obtain ⟨W, hW⟩ : ∃ W, W = (w.alloc (.cells #[.int .i64 r.x, .int .i64 r.y, .int .i64 r.w, .int .i64 r.h] 41)) := ⟨_, rfl⟩
  rw [← hW] at HX HB
  rw [← hW]
  clear hW
  obtain ⟨rc0, rc1, rc2, rc3, rf0, rf1, rf2, rf3⟩ := HB.out
  go_wp2_with fail
  refine (HR1.out _).mono ?_
  rintro e w2 ⟨rfl, hs⟩
  have HX2 := hide' (HXK.out _ _ HX.out hs)
  have HB2 := hide' (HB.out.keep hs)
  clear hs HX HB rc0 rc1 rc2 rc3 rf0 rf1 rf2 rf3
  go_wp2_with fail
  refine (HR2.out _).mono ?_
  rintro e w3 ⟨rfl, hs⟩
  have HX3 := hide' (HXK.out _ _ HX2.out hs)
  have HB3 := hide' (HB2.out.keep hs)
  clear hs HX2 HB2
  obtain ⟨rc0, rc1, rc2, rc3, rf0, rf1, rf2, rf3⟩ := HB3.out
  go_wp2_with fail
  go_quiet (fail)
  clear rc0 rc1 rc2 rc3 rf0 rf1 rf2 rf3
  go_upto_region 4 with fail
  obtain ⟨W4, hW4⟩ : ∃ W, W = (w3.drewN nq) := ⟨_, rfl⟩
  have HX : Hid (X W4) := by rw [hW4]; exact HXK.out _ _ HX3.out ((Stay.refl _ _).drewN _)
  have HB : Hid (Box W4 w.heap.size r) := by rw [hW4]; exact HB3.out.keep ((Stay.refl _ _).drewN _)
  rw [← hW4]
  clear hW4 HX3 HB3
  have HBO := HBO1
  go_cut [] (fun wx => Hid (X wx ∧ Box wx w.heap.size ⟨x0, y0, a0, b0⟩))
  case first =>
    refine any_begin (fun _ => True) (by kernel_rfl) (fun K0 hK0 => ?_)
    have hs : Stay (fun _ => False) W4 W4.drew := (Stay.refl _ _).drew
    have HX' := hide' (HXK.out _ _ HX.out hs)
    have HB' := hide' (HB.out.keep hs)
    clear HX HB hs
    have HX := HX'
    have HB := HB'
    clear HX' HB'
    obtain ⟨Wd, hWd⟩ : ∃ Wd, Wd = W4.drew := ⟨_, rfl⟩
    rw [← hWd] at HX HB
    rw [← hWd]
    clear hWd
    obtain ⟨rc0, rc1, rc2, rc3, rf0, rf1, rf2, rf3⟩ := HB.out
    refine any_take (i := 1) hK0 (some 34) (.move (.tmp 0)) 47 _ (by kernel_rfl) (fun _ d _ _ _ h => by cases d <;> exact h) (by kernel_rfl) (by kernel_rfl) (fun w' hS' => by simp only [opr]; go_simp; try with_reducible rfl) trivial (fun K1 hK1 => ?_)
    clear hK0 K0
    try simp only [Act.put, List.setIfInBounds_toArray, List.set_cons_zero, List.set_cons_succ]
    refine any_pick (rs := [0, 2]) hK1 (by kernel_rfl) (fun K2 hK2 => ?_)
    clear hK1 K1
    intro i hi
    simp only [List.mem_cons, List.not_mem_nil, or_false] at hi
    rcases hi with rfl | rfl
    · refine op_plain (some 33) (.load 41 (.tmp 7)) 41 (by kernel_rfl) (by kernel_rfl) ?_
      go_wp2
      refine hK2 0 (by simp) _ _ trivial (any_more fun K3 hK3 => ?_)
      clear hK2 K2
      refine any_pick (rs := [2]) hK3 (by kernel_rfl) (fun K4 hK4 => ?_)
      clear hK3 K3
      intro i hi
      simp only [List.mem_cons, List.not_mem_nil, or_false] at hi
      rcases hi with rfl
      refine op_plain (some 35) (.call { callee := Callee.value (.func 60), args := #[.tmp 34], argTypes := #[47] }) 41 (by kernel_rfl) (by kernel_rfl) ?_
      go_wp2_with fail
      refine (HWH.out _ HX.out).mono ?_
      rintro e Wr2 ⟨rfl, hs⟩
      have HX' := hide' (HXK.out _ _ HX.out hs)
      have HB' := hide' (HB.out.keep hs)
      clear HX HB hs rc0 rc1 rc2 rc3 rf0 rf1 rf2 rf3
      have HX := HX'
      have HB := HB'
      clear HX' HB'
      obtain ⟨rc0, rc1, rc2, rc3, rf0, rf1, rf2, rf3⟩ := HB.out
      go_wp2
      refine hK4 2 (by simp) _ _ trivial (any_more fun K5 hK5 => ?_)
      clear hK4 K4
      refine any_pick (rs := [3]) hK5 (by kernel_rfl) (fun K6 hK6 => ?_)
      clear hK5 K5
      intro i hi
      simp only [List.mem_cons, List.not_mem_nil, or_false] at hi
      rcases hi with rfl
      refine op_plain (some 36) (.call { callee := Callee.value (.func 65), args := #[.tmp 33, .tmp 35], argTypes := #[41, 41] }) 41 (by kernel_rfl) (by kernel_rfl) ?_
      go_wp2_with fail
      refine (HBO.out _).mono ?_
      rintro e Wr3 ⟨rfl, hs⟩
      have HX' := hide' (HXK.out _ _ HX.out hs)
      have HB' := hide' (HB.out.keep hs)
      clear HX HB hs rc0 rc1 rc2 rc3 rf0 rf1 rf2 rf3
      have HX := HX'
      have HB := HB'
      clear HX' HB'
      obtain ⟨rc0, rc1, rc2, rc3, rf0, rf1, rf2, rf3⟩ := HB.out
      go_wp2
      refine hK6 3 (by simp) _ _ trivial (any_more fun K7 hK7 => ?_)
      clear hK6 K6
      refine any_pick (rs := [4]) hK7 (by kernel_rfl) (fun K8 hK8 => ?_)
      clear hK7 K7
      intro i hi
      simp only [List.mem_cons, List.not_mem_nil, or_false] at hi
      rcases hi with rfl
      refine op_plain none (.store 41 (.tmp 7) (.tmp 36)) 0 (by kernel_rfl) (by kernel_rfl) ?_
      go_wp2
      refine hK8 4 (by simp) _ _ trivial (any_more fun K9 hK9 => ?_)
      clear hK8 K8
      refine any_done hK9 (by kernel_rfl) ?_
      clear hK9 K9
      go_wp2_with fail
      go_meet
      exact ⟨HXP.out _ _ _ _ _ HX.out, HB.out.put ⟨x0, y0, a0, b0⟩⟩
    · refine op_plain (some 35) (.call { callee := Callee.value (.func 60), args := #[.tmp 34], argTypes := #[47] }) 41 (by kernel_rfl) (by kernel_rfl) ?_
      go_wp2_with fail
      refine (HWH.out _ HX.out).mono ?_
      rintro e Wr5 ⟨rfl, hs⟩
      have HX' := hide' (HXK.out _ _ HX.out hs)
      have HB' := hide' (HB.out.keep hs)
      clear HX HB hs rc0 rc1 rc2 rc3 rf0 rf1 rf2 rf3
      have HX := HX'
      have HB := HB'
      clear HX' HB'
      obtain ⟨rc0, rc1, rc2, rc3, rf0, rf1, rf2, rf3⟩ := HB.out
      go_wp2
      refine hK2 2 (by simp) _ _ trivial (any_more fun K3 hK3 => ?_)
      clear hK2 K2
      refine any_pick (rs := [0]) hK3 (by kernel_rfl) (fun K4 hK4 => ?_)
      clear hK3 K3
      intro i hi
      simp only [List.mem_cons, List.not_mem_nil, or_false] at hi
      rcases hi with rfl
      refine op_plain (some 33) (.load 41 (.tmp 7)) 41 (by kernel_rfl) (by kernel_rfl) ?_
      go_wp2
      refine hK4 0 (by simp) _ _ trivial (any_more fun K5 hK5 => ?_)
      clear hK4 K4
      refine any_pick (rs := [3]) hK5 (by kernel_rfl) (fun K6 hK6 => ?_)
      clear hK5 K5
      intro i hi
      simp only [List.mem_cons, List.not_mem_nil, or_false] at hi
      rcases hi with rfl
      refine op_plain (some 36) (.call { callee := Callee.value (.func 65), args := #[.tmp 33, .tmp 35], argTypes := #[41, 41] }) 41 (by kernel_rfl) (by kernel_rfl) ?_
      go_wp2_with fail
      refine (HBO.out _).mono ?_
      rintro e Wr7 ⟨rfl, hs⟩
      have HX' := hide' (HXK.out _ _ HX.out hs)
      have HB' := hide' (HB.out.keep hs)
      clear HX HB hs rc0 rc1 rc2 rc3 rf0 rf1 rf2 rf3
      have HX := HX'
      have HB := HB'
      clear HX' HB'
      obtain ⟨rc0, rc1, rc2, rc3, rf0, rf1, rf2, rf3⟩ := HB.out
      go_wp2
      refine hK6 3 (by simp) _ _ trivial (any_more fun K7 hK7 => ?_)
      clear hK6 K6
      refine any_pick (rs := [4]) hK7 (by kernel_rfl) (fun K8 hK8 => ?_)
      clear hK7 K7
      intro i hi
      simp only [List.mem_cons, List.not_mem_nil, or_false] at hi
      rcases hi with rfl
      refine op_plain none (.store 41 (.tmp 7) (.tmp 36)) 0 (by kernel_rfl) (by kernel_rfl) ?_
      go_wp2
      refine hK8 4 (by simp) _ _ trivial (any_more fun K9 hK9 => ?_)
      clear hK8 K8
      refine any_done hK9 (by kernel_rfl) ?_
      clear hK9 K9
      go_wp2_with fail
      go_meet
      exact ⟨HXP.out _ _ _ _ _ HX.out, HB.out.put ⟨x0, y0, a0, b0⟩⟩
  case rest =>
  clear HX HB HBO HBO1
  obtain ⟨rc0, rc1, rc2, rc3, rf0, rf1, rf2, rf3⟩ := hcut.out.2
  go_upto_region 6 with fail
  clear rc0 rc1 rc2 rc3 rf0 rf1 rf2 rf3
  obtain ⟨W6, hW6⟩ : ∃ W, W = ((wc.setCell ⟨w.heap.size, 0, none⟩ (.int .i64 x2)).setCell ⟨w.heap.size, 1, none⟩ (.int .i64 y2)) := ⟨_, rfl⟩
  have HX : Hid (X W6) := by rw [hW6]; exact HXQ.out _ _ _ hcut.out.1
  have HB : Hid (Box W6 w.heap.size ⟨x2, y2, a0, b0⟩) := by rw [hW6]; exact hcut.out.2.put01 x2 y2
  rw [← hW6]
  clear hW6 hcut
  have HBO := HBO2
  go_cut [] (fun wx => Hid (X wx ∧ Box wx w.heap.size ⟨x1, y1, a1, b1⟩))
  case first =>
    refine any_begin (fun _ => True) (by kernel_rfl) (fun K0 hK0 => ?_)
    have hs : Stay (fun _ => False) W6 W6.drew := (Stay.refl _ _).drew
    have HX' := hide' (HXK.out _ _ HX.out hs)
    have HB' := hide' (HB.out.keep hs)
    clear HX HB hs
    have HX := HX'
    have HB := HB'
    clear HX' HB'
    obtain ⟨Wd, hWd⟩ : ∃ Wd, Wd = W6.drew := ⟨_, rfl⟩
    rw [← hWd] at HX HB
    rw [← hWd]
    clear hWd
    obtain ⟨rc0, rc1, rc2, rc3, rf0, rf1, rf2, rf3⟩ := HB.out
    refine any_take (i := 1) hK0 (some 48) (.move (.tmp 1)) 47 _ (by kernel_rfl) (fun _ d _ _ _ h => by cases d <;> exact h) (by kernel_rfl) (by kernel_rfl) (fun w' hS' => by simp only [opr]; go_simp; try with_reducible rfl) trivial (fun K1 hK1 => ?_)
    clear hK0 K0
    try simp only [Act.put, List.setIfInBounds_toArray, List.set_cons_zero, List.set_cons_succ]
    refine any_pick (rs := [0, 2]) hK1 (by kernel_rfl) (fun K2 hK2 => ?_)
    clear hK1 K1
    intro i hi
    simp only [List.mem_cons, List.not_mem_nil, or_false] at hi
    rcases hi with rfl | rfl
    · refine op_plain (some 47) (.load 41 (.tmp 7)) 41 (by kernel_rfl) (by kernel_rfl) ?_
      go_wp2
      refine hK2 0 (by simp) _ _ trivial (any_more fun K3 hK3 => ?_)
      clear hK2 K2
      refine any_pick (rs := [2]) hK3 (by kernel_rfl) (fun K4 hK4 => ?_)
      clear hK3 K3
      intro i hi
      simp only [List.mem_cons, List.not_mem_nil, or_false] at hi
      rcases hi with rfl
      refine op_plain (some 49) (.call { callee := Callee.value (.func 60), args := #[.tmp 48], argTypes := #[47] }) 41 (by kernel_rfl) (by kernel_rfl) ?_
      go_wp2_with fail
      refine (HWO.out _ HX.out).mono ?_
      rintro e Wr2 ⟨rfl, hs⟩
      have HX' := hide' (HXK.out _ _ HX.out hs)
      have HB' := hide' (HB.out.keep hs)
      clear HX HB hs rc0 rc1 rc2 rc3 rf0 rf1 rf2 rf3
      have HX := HX'
      have HB := HB'
      clear HX' HB'
      obtain ⟨rc0, rc1, rc2, rc3, rf0, rf1, rf2, rf3⟩ := HB.out
      go_wp2
      refine hK4 2 (by simp) _ _ trivial (any_more fun K5 hK5 => ?_)
      clear hK4 K4
      refine any_pick (rs := [3]) hK5 (by kernel_rfl) (fun K6 hK6 => ?_)
      clear hK5 K5
      intro i hi
      simp only [List.mem_cons, List.not_mem_nil, or_false] at hi
      rcases hi with rfl
      refine op_plain (some 50) (.call { callee := Callee.value (.func 65), args := #[.tmp 47, .tmp 49], argTypes := #[41, 41] }) 41 (by kernel_rfl) (by kernel_rfl) ?_
      go_wp2_with fail
      refine (HBO.out _).mono ?_
      rintro e Wr3 ⟨rfl, hs⟩
      have HX' := hide' (HXK.out _ _ HX.out hs)
      have HB' := hide' (HB.out.keep hs)
      clear HX HB hs rc0 rc1 rc2 rc3 rf0 rf1 rf2 rf3
      have HX := HX'
      have HB := HB'
      clear HX' HB'
      obtain ⟨rc0, rc1, rc2, rc3, rf0, rf1, rf2, rf3⟩ := HB.out
      go_wp2
      refine hK6 3 (by simp) _ _ trivial (any_more fun K7 hK7 => ?_)
      clear hK6 K6
      refine any_pick (rs := [4]) hK7 (by kernel_rfl) (fun K8 hK8 => ?_)
      clear hK7 K7
      intro i hi
      simp only [List.mem_cons, List.not_mem_nil, or_false] at hi
      rcases hi with rfl
      refine op_plain none (.store 41 (.tmp 7) (.tmp 50)) 0 (by kernel_rfl) (by kernel_rfl) ?_
      go_wp2
      refine hK8 4 (by simp) _ _ trivial (any_more fun K9 hK9 => ?_)
      clear hK8 K8
      refine any_done hK9 (by kernel_rfl) ?_
      clear hK9 K9
      go_wp2_with fail
      go_meet
      exact ⟨HXP.out _ _ _ _ _ HX.out, HB.out.put ⟨x1, y1, a1, b1⟩⟩
    · refine op_plain (some 49) (.call { callee := Callee.value (.func 60), args := #[.tmp 48], argTypes := #[47] }) 41 (by kernel_rfl) (by kernel_rfl) ?_
      go_wp2_with fail
      refine (HWO.out _ HX.out).mono ?_
      rintro e Wr5 ⟨rfl, hs⟩
      have HX' := hide' (HXK.out _ _ HX.out hs)
      have HB' := hide' (HB.out.keep hs)
      clear HX HB hs rc0 rc1 rc2 rc3 rf0 rf1 rf2 rf3
      have HX := HX'
      have HB := HB'
      clear HX' HB'
      obtain ⟨rc0, rc1, rc2, rc3, rf0, rf1, rf2, rf3⟩ := HB.out
      go_wp2
      refine hK2 2 (by simp) _ _ trivial (any_more fun K3 hK3 => ?_)
      clear hK2 K2
      refine any_pick (rs := [0]) hK3 (by kernel_rfl) (fun K4 hK4 => ?_)
      clear hK3 K3
      intro i hi
      simp only [List.mem_cons, List.not_mem_nil, or_false] at hi
      rcases hi with rfl
      refine op_plain (some 47) (.load 41 (.tmp 7)) 41 (by kernel_rfl) (by kernel_rfl) ?_
      go_wp2
      refine hK4 0 (by simp) _ _ trivial (any_more fun K5 hK5 => ?_)
      clear hK4 K4
      refine any_pick (rs := [3]) hK5 (by kernel_rfl) (fun K6 hK6 => ?_)
      clear hK5 K5
      intro i hi
      simp only [List.mem_cons, List.not_mem_nil, or_false] at hi
      rcases hi with rfl
      refine op_plain (some 50) (.call { callee := Callee.value (.func 65), args := #[.tmp 47, .tmp 49], argTypes := #[41, 41] }) 41 (by kernel_rfl) (by kernel_rfl) ?_
      go_wp2_with fail
      refine (HBO.out _).mono ?_
      rintro e Wr7 ⟨rfl, hs⟩
      have HX' := hide' (HXK.out _ _ HX.out hs)
      have HB' := hide' (HB.out.keep hs)
      clear HX HB hs rc0 rc1 rc2 rc3 rf0 rf1 rf2 rf3
      have HX := HX'
      have HB := HB'
      clear HX' HB'
      obtain ⟨rc0, rc1, rc2, rc3, rf0, rf1, rf2, rf3⟩ := HB.out
      go_wp2
      refine hK6 3 (by simp) _ _ trivial (any_more fun K7 hK7 => ?_)
      clear hK6 K6
      refine any_pick (rs := [4]) hK7 (by kernel_rfl) (fun K8 hK8 => ?_)
      clear hK7 K7
      intro i hi
      simp only [List.mem_cons, List.not_mem_nil, or_false] at hi
      rcases hi with rfl
      refine op_plain none (.store 41 (.tmp 7) (.tmp 50)) 0 (by kernel_rfl) (by kernel_rfl) ?_
      go_wp2
      refine hK8 4 (by simp) _ _ trivial (any_more fun K9 hK9 => ?_)
      clear hK8 K8
      refine any_done hK9 (by kernel_rfl) ?_
      clear hK9 K9
      go_wp2_with fail
      go_meet
      exact ⟨HXP.out _ _ _ _ _ HX.out, HB.out.put ⟨x1, y1, a1, b1⟩⟩
  case rest =>
  have HI := hide' (HXS.out (decide (0 < dy)) _ hcut.out.1 hcut.out.2)
  clear hcut HX HB HXK HXP HXQ HXS HBO HBO2 HWH HWO HR1 HR2 m1 m2 m3 m4
  obtain ⟨rc0, rc1, rc2, rc3, rf0, rf1, rf2, rf3⟩ := HI.out.box
  go_wp2_with fail
  clear rc0 rc1 rc2 rc3 rf0 rf1 rf2 rf3
  go_loopg [53] b1 (fun g v wr => ∃ k : Nat, k ≤ b1 ∧ g = b1 - k ∧ v = .int .i64 (k : Int) ∧ Hid (BIn w G O F f x1 y1 a1 b1 u1 v1 (decide (0 < dy)) k wr))
  case atStart => exact ⟨0, Nat.zero_le _, rfl, rfl, HI⟩
  case round =>
    obtain ⟨k, hk, rfl, rfl, HI⟩ := hrel
    by_cases hk1 : k < b1
    · have k1 : (k : Int) < (b1 : Nat) := by omega
      have hb1 : 0 < b1 := by omega
      by_cases hd : 0 < dy
      · skip
        have hdec : decide (0 < dy) = true := by simp; omega
        rw [hdec] at HI
        obtain ⟨Yi, hYi⟩ : ∃ n, n = y1 + b1 - 1 - k := ⟨_, rfl⟩
        obtain ⟨e1, e2, e3, e4, e5⟩ := HUV.out hb1
        obtain ⟨Vi, hVi⟩ : ∃ n, n = Yi - y1 + v1 := ⟨_, rfl⟩
        have hVd : (Vi : Int) = Yi - dy := by omega
        have hYh : Yi < O.h := by have := HLE.out.2; omega
        have hVh : Vi < G.h := by omega
        have hHB := HBC.out
        have hOH := HSZ.out
        obtain ⟨fs, ft, hG, hO, hbl, hoo⟩ := HI.out.two
        have hGd := hG.keep (Stay.refl _ wr).drew
        have HNX := hide' (BIn.next HI.out.stay.drew (HI.out.box.keep (Stay.refl _ _).drew) hGd (hO.keep (Stay.refl _ _).drew) hbl hoo hHB hk1 HLE.out.1 HLE.out.2 e3 (y := Yi) (s := Vi) (by rw [hYi]; rfl) hVi hVh (by simp; omega))
        have ct := hO.top
        have cr := hO.rows Yi hYh
        have gt := hG.top
        have gr := hG.rows Vi hVh
        have HBX := hide' HI.out.box
        have hidx := idx_lt (w := G.w) (h := G.h) (x := u1 + a1 - 1) (y := Vi) (by omega) hVh
        have HSRC0 := hide' (hGd.pix.src (Vi * G.w + u1) a1 (by omega))
        have hidx2 := idx_lt (w := O.w) (h := O.h) (x := x1 + a1 - 1) (y := Yi) (by have := HLE.out.1; omega) hYh
        have HTH := hide' ((hO.keep (Stay.refl _ wr).drew).pix.there (Yi * O.w + x1) a1 (by omega))
        have hne : G.g ≠ O.bc ∧ G.br ≠ O.bc ∧ O.g ≠ O.bc ∧ O.br ≠ O.bc := by
          rcases hoo with ⟨rfl, _, _⟩ | ⟨hoff, _⟩
          · exact ⟨hG.ne1, hG.ne2, hG.ne1, hG.ne2⟩
          · exact ⟨hoff.1, hoff.2.1, hO.ne1, hO.ne2⟩
        have hcO : O.w ≤ O.w * O.h - Yi * O.w := by
          have h3 := Nat.mul_le_mul_right O.w (show Yi + 1 ≤ O.h by omega)
          rw [Nat.succ_mul] at h3
          rw [Nat.mul_comm O.w O.h]
          omega
        have hcG : G.w ≤ G.w * G.h - Vi * G.w := by
          have h3 := Nat.mul_le_mul_right G.w (show Vi + 1 ≤ G.h by omega)
          rw [Nat.succ_mul] at h3
          rw [Nat.mul_comm G.w G.h]
          omega
        have HLE2 := hide' HLE.out
        have HSZ2 := hide' hOH
        have HBC2 := hide' hHB
        obtain ⟨CS, hCS⟩ : ∃ c, c = seg a1 (fun i => fs (Vi * G.w + u1 + i)) := ⟨_, rfl⟩
        have HCL : Hid (CS.length = a1 * 4) := show _ = _ from by rw [hCS, seg_length]
        have HONE : Hid (∀ v ∈ CS, v.oneCell' = true) := by rw [hCS]; exact seg_one _ _
        rw [← hCS] at HNX HSRC0
        clear hCS hHB hOH hG hO hGd hbl hoo HI hidx hidx2
        obtain ⟨gg, gbr, gbc, gw, gh⟩ := G
        obtain ⟨og, obr, obc, ow, oh⟩ := O
        simp only at ct cr gt gr hYh hVh e3 e4 hcO hcG HLE2 HSZ2 HBC2 HSRC0 HTH
        rw [Nat.add_mul] at HSRC0 HTH
        obtain ⟨oO, hoO⟩ : ∃ o, o = Yi * ow * 4 := ⟨_, rfl⟩
        obtain ⟨cpO, hcp⟩ : ∃ o, o = ow * oh - Yi * ow := ⟨_, rfl⟩
        obtain ⟨oG, hoG⟩ : ∃ o, o = Vi * gw * 4 := ⟨_, rfl⟩
        obtain ⟨cpG, hcp2⟩ : ∃ o, o = gw * gh - Vi * gw := ⟨_, rfl⟩
        rw [← hoO] at cr HTH HNX
        rw [← hcp] at cr hcO
        rw [← hoG] at gr HSRC0
        rw [← hcp2] at gr hcG
        clear hoO hcp hoG hcp2
        obtain ⟨l1, l2⟩ := HLE2.out
        obtain ⟨l3, l4, l5, l6⟩ := HSZ2.out
        obtain ⟨n1, n2, n3, n4⟩ := hne
        simp only at n1 n2 n3 n4
        obtain ⟨xe, hxe⟩ : ∃ n, n = x1 + a1 := ⟨_, rfl⟩
        have HSRC : Hid (∀ (j : Nat) (v : Value), CS[j]? = some v → wr.drew.cell? ⟨gbc, oG + u1 * 4 + j, none⟩ = some v) := HSRC0.out
        have HLEN : Hid (a1 = Nat.min (gw - u1) (xe - x1)) := show a1 = min (gw - u1) (xe - x1) by omega
        have HF : Hid (∀ w3, Stay (fun k => k = obc) wr w3 → w3.cell? ⟨og, 0, none⟩ = some (.slice (some ⟨obr, 0, none⟩) oh oh) ∧ w3.cell? ⟨obr, Yi, none⟩ = some (.slice (some ⟨obc, oO, none⟩) ow cpO) ∧ w3.cell? ⟨gg, 0, none⟩ = some (.slice (some ⟨gbr, 0, none⟩) gh gh) ∧ w3.cell? ⟨gbr, Vi, none⟩ = some (.slice (some ⟨gbc, oG, none⟩) gw cpG) ∧ Box w3 w.heap.size ⟨x1, y1, a1, b1⟩) := fun w3 hs =>
          ⟨(hs.cell (World.block_lt_of_cell? _ _ ct) n3).trans ct, (hs.cell (World.block_lt_of_cell? _ _ cr) n4).trans cr, (hs.cell (World.block_lt_of_cell? _ _ gt) n1).trans gt, (hs.cell (World.block_lt_of_cell? _ _ gr) n2).trans gr, HBX.out.stay hs (by have := HBC2.out; omega)⟩
        obtain ⟨yk, hyk⟩ : ∃ n, n = y1 + k := ⟨_, rfl⟩
        have i1 : IntKind.i64.wrap ((y1 : Int) + (k : Int)) = (yk : Nat) := by rw [IntKind.wrap_i64]; omega
        obtain ⟨ye, hye⟩ : ∃ n, n = y1 + b1 := ⟨_, rfl⟩
        obtain ⟨yf, hyf⟩ : ∃ n, n = y1 + b1 - 1 := ⟨_, rfl⟩
        have i2 : IntKind.i64.wrap ((y1 : Int) + (b1 : Int)) = (ye : Nat) := by rw [IntKind.wrap_i64]; omega
        have i3 : IntKind.i64.wrap ((ye : Int) - 1) = (yf : Nat) := by rw [IntKind.wrap_i64]; omega
        have i4 : IntKind.i64.wrap ((yf : Int) - (k : Int)) = (Yi : Nat) := by rw [IntKind.wrap_i64]; omega
        have i5 : IntKind.i64.wrap ((x1 : Int) + (a1 : Int)) = (xe : Nat) := by rw [IntKind.wrap_i64]; omega
        have i6 : IntKind.i64.wrap ((Yi : Int) - dy) = (Vi : Nat) := by rw [IntKind.wrap_i64]; omega
        have i7 : IntKind.i64.wrap ((x1 : Int) - dx) = (u1 : Nat) := by rw [IntKind.wrap_i64]; omega
        have j1 : (Yi : Int) < (oh : Nat) := by omega
        have j2 : (Vi : Int) < (gh : Nat) := by omega
        have j3 : (x1 : Int) ≤ (xe : Nat) := by omega
        have j4 : (xe : Int) ≤ (cpO : Nat) := by omega
        have j5 : (u1 : Int) ≤ (gw : Nat) := by omega
        have j6 : (gw : Int) ≤ (cpG : Nat) := by omega
        have j7 : ¬ cpO = x1 := by omega
        have j8 : ¬ cpG = u1 := by omega
        clear hVi hVd hVh hYh hYi e1 e2 e3 e4 e5 hcO hcG HSRC0 l1 l2 l3 l4 l5 l6 n1 n2 n3 n4 hxe hyk ct cr gt gr
        clear hye hyf
        obtain ⟨rc0, rc1, rc2, rc3, rf0, rf1, rf2, rf3⟩ := HBX.out
        go_upto_region 13 with fail
        clear rc0 rc1 rc2 rc3 rf0 rf1 rf2 rf3
        have hS0 : Stay (fun k => k = obc) wr wr.drew := (Stay.refl _ _).drew
        have hS : (fun w' => Stay (fun k => k = obc) wr w' ∧ w'.cell? ⟨og, 0, none⟩ = some (.slice (some ⟨obr, 0, none⟩) oh oh) ∧ w'.cell? ⟨obr, Yi, none⟩ = some (.slice (some ⟨obc, oO, none⟩) ow cpO) ∧ w'.cell? ⟨gg, 0, none⟩ = some (.slice (some ⟨gbr, 0, none⟩) gh gh) ∧ w'.cell? ⟨gbr, Vi, none⟩ = some (.slice (some ⟨gbc, oG, none⟩) gw cpG) ∧ Box w' w.heap.size ⟨x1, y1, a1, b1⟩) wr.drew := ⟨hS0, HF.out _ hS0⟩
        refine wp_region_mix (fun w' => Stay (fun k => k = obc) wr w' ∧ w'.cell? ⟨og, 0, none⟩ = some (.slice (some ⟨obr, 0, none⟩) oh oh) ∧ w'.cell? ⟨obr, Yi, none⟩ = some (.slice (some ⟨obc, oO, none⟩) ow cpO) ∧ w'.cell? ⟨gg, 0, none⟩ = some (.slice (some ⟨gbr, 0, none⟩) gh gh) ∧ w'.cell? ⟨gbr, Vi, none⟩ = some (.slice (some ⟨gbc, oG, none⟩) gw cpG) ∧ Box w' w.heap.size ⟨x1, y1, a1, b1⟩) [(0, true), (1, true), (2, true), (3, true), (4, true), (5, true), (6, true), (7, true), (8, true), (9, true), (10, true), (11, true), (12, true), (13, true), (14, true), (15, true), (16, true), (17, true), (18, true), (19, true), (20, true), (21, true), (22, true), (23, true), (24, true), (25, true), (26, true), (27, true), (28, true), (29, false)] (by kernel_rfl) (by kernel_rfl) (fun _ d _ _ _ h => by cases d <;> exact h) hS ?_
        refine mix_begin (fun K0 hK0 => ?_)
        refine mix_take hK0 (some 70) (.move (.tmp 1)) 47 _ (by kernel_rfl) (by kernel_rfl) (fun w' hS' => by (obtain ⟨_, s1, s2, s3, s4, s5⟩ := hS'; obtain ⟨d0, d1, d2, d3, _⟩ := s5; simp only [opr]; go_simp; try with_reducible rfl)) (fun K1 hK1 => ?_)
        clear hK0 K0
        simp only [Act.put, List.setIfInBounds_toArray, List.set_cons_zero, List.set_cons_succ]
        refine mix_take hK1 (some 71) (.nilCheck (.tmp 70)) 0 _ (by kernel_rfl) (by kernel_rfl) (fun w' hS' => by (obtain ⟨_, s1, s2, s3, s4, s5⟩ := hS'; obtain ⟨d0, d1, d2, d3, _⟩ := s5; simp only [opr]; go_simp; try with_reducible rfl)) (fun K2 hK2 => ?_)
        clear hK1 K1
        simp only [Act.put, List.setIfInBounds_toArray, List.set_cons_zero, List.set_cons_succ]
        refine mix_take hK2 (some 72) (.fieldAddr 106 (.tmp 71) 0) 0 _ (by kernel_rfl) (by kernel_rfl) (fun w' hS' => by (obtain ⟨_, s1, s2, s3, s4, s5⟩ := hS'; obtain ⟨d0, d1, d2, d3, _⟩ := s5; simp only [opr]; go_simp; try with_reducible rfl)) (fun K3 hK3 => ?_)
        clear hK2 K2
        simp only [Act.put, List.setIfInBounds_toArray, List.set_cons_zero, List.set_cons_succ]
        refine mix_take hK3 (some 73) (.load 104 (.tmp 72)) 104 _ (by kernel_rfl) (by kernel_rfl) (fun w' hS' => by (obtain ⟨_, s1, s2, s3, s4, s5⟩ := hS'; obtain ⟨d0, d1, d2, d3, _⟩ := s5; simp only [opr]; go_simp; try with_reducible rfl)) (fun K4 hK4 => ?_)
        clear hK3 K3
        simp only [Act.put, List.setIfInBounds_toArray, List.set_cons_zero, List.set_cons_succ]
        refine mix_take hK4 (some 74) (.move (.tmp 14)) 3 _ (by kernel_rfl) (by kernel_rfl) (fun w' hS' => by (obtain ⟨_, s1, s2, s3, s4, s5⟩ := hS'; obtain ⟨d0, d1, d2, d3, _⟩ := s5; simp only [opr]; go_simp; try with_reducible rfl)) (fun K5 hK5 => ?_)
        clear hK4 K4
        simp only [Act.put, List.setIfInBounds_toArray, List.set_cons_zero, List.set_cons_succ]
        refine mix_take hK5 (some 75) (.indexAddr 104 (.tmp 73) (.tmp 74)) 0 _ (by kernel_rfl) (by kernel_rfl) (fun w' hS' => by (obtain ⟨_, s1, s2, s3, s4, s5⟩ := hS'; obtain ⟨d0, d1, d2, d3, _⟩ := s5; simp only [opr]; go_simp; try with_reducible rfl)) (fun K6 hK6 => ?_)
        clear hK5 K5
        simp only [Act.put, List.setIfInBounds_toArray, List.set_cons_zero, List.set_cons_succ]
        refine mix_take hK6 (some 76) (.load 33 (.tmp 75)) 33 _ (by kernel_rfl) (by kernel_rfl) (fun w' hS' => by (obtain ⟨_, s1, s2, s3, s4, s5⟩ := hS'; obtain ⟨d0, d1, d2, d3, _⟩ := s5; simp only [opr]; go_simp; try with_reducible rfl)) (fun K7 hK7 => ?_)
        clear hK6 K6
        simp only [Act.put, List.setIfInBounds_toArray, List.set_cons_zero, List.set_cons_succ]
        refine mix_take hK7 (some 77) (.fieldAddr 41 (.tmp 7) 0) 0 _ (by kernel_rfl) (by kernel_rfl) (fun w' hS' => by (obtain ⟨_, s1, s2, s3, s4, s5⟩ := hS'; obtain ⟨d0, d1, d2, d3, _⟩ := s5; simp only [opr]; go_simp; try with_reducible rfl)) (fun K8 hK8 => ?_)
        clear hK7 K7
        simp only [Act.put, List.setIfInBounds_toArray, List.set_cons_zero, List.set_cons_succ]
        refine mix_take hK8 (some 78) (.load 3 (.tmp 77)) 3 _ (by kernel_rfl) (by kernel_rfl) (fun w' hS' => by (obtain ⟨_, s1, s2, s3, s4, s5⟩ := hS'; obtain ⟨d0, d1, d2, d3, _⟩ := s5; simp only [opr]; go_simp; try with_reducible rfl)) (fun K9 hK9 => ?_)
        clear hK8 K8
        simp only [Act.put, List.setIfInBounds_toArray, List.set_cons_zero, List.set_cons_succ]
        refine mix_take hK9 (some 79) (.fieldAddr 41 (.tmp 7) 0) 0 _ (by kernel_rfl) (by kernel_rfl) (fun w' hS' => by (obtain ⟨_, s1, s2, s3, s4, s5⟩ := hS'; obtain ⟨d0, d1, d2, d3, _⟩ := s5; simp only [opr]; go_simp; try with_reducible rfl)) (fun K10 hK10 => ?_)
        clear hK9 K9
        simp only [Act.put, List.setIfInBounds_toArray, List.set_cons_zero, List.set_cons_succ]
        refine mix_take hK10 (some 80) (.load 3 (.tmp 79)) 3 _ (by kernel_rfl) (by kernel_rfl) (fun w' hS' => by (obtain ⟨_, s1, s2, s3, s4, s5⟩ := hS'; obtain ⟨d0, d1, d2, d3, _⟩ := s5; simp only [opr]; go_simp; try with_reducible rfl)) (fun K11 hK11 => ?_)
        clear hK10 K10
        simp only [Act.put, List.setIfInBounds_toArray, List.set_cons_zero, List.set_cons_succ]
        refine mix_take hK11 (some 81) (.fieldAddr 41 (.tmp 7) 2) 0 _ (by kernel_rfl) (by kernel_rfl) (fun w' hS' => by (obtain ⟨_, s1, s2, s3, s4, s5⟩ := hS'; obtain ⟨d0, d1, d2, d3, _⟩ := s5; simp only [opr]; go_simp; try with_reducible rfl)) (fun K12 hK12 => ?_)
        clear hK11 K11
        simp only [Act.put, List.setIfInBounds_toArray, List.set_cons_zero, List.set_cons_succ]
        refine mix_take hK12 (some 82) (.load 3 (.tmp 81)) 3 _ (by kernel_rfl) (by kernel_rfl) (fun w' hS' => by (obtain ⟨_, s1, s2, s3, s4, s5⟩ := hS'; obtain ⟨d0, d1, d2, d3, _⟩ := s5; simp only [opr]; go_simp; try with_reducible rfl)) (fun K13 hK13 => ?_)
        clear hK12 K12
        simp only [Act.put, List.setIfInBounds_toArray, List.set_cons_zero, List.set_cons_succ]
        refine mix_take hK13 (some 83) (.binOp BinOp.add 3 (.tmp 80) (.tmp 82) 3) 3 _ (by kernel_rfl) (by kernel_rfl) (fun w' hS' => by (obtain ⟨_, s1, s2, s3, s4, s5⟩ := hS'; obtain ⟨d0, d1, d2, d3, _⟩ := s5; simp only [opr]; go_simp; try with_reducible rfl)) (fun K14 hK14 => ?_)
        clear hK13 K13
        simp only [Act.put, List.setIfInBounds_toArray, List.set_cons_zero, List.set_cons_succ]
        refine mix_take hK14 (some 84) (.slice 33 (.tmp 76) (some (.tmp 78)) (some (.tmp 83)) none) 33 _ (by kernel_rfl) (by kernel_rfl) (fun w' hS' => by (obtain ⟨_, s1, s2, s3, s4, s5⟩ := hS'; obtain ⟨d0, d1, d2, d3, _⟩ := s5; simp only [opr]; go_simp; try with_reducible rfl)) (fun K15 hK15 => ?_)
        clear hK14 K14
        simp only [Act.put, List.setIfInBounds_toArray, List.set_cons_zero, List.set_cons_succ]
        refine mix_take hK15 (some 85) (.move (.tmp 0)) 47 _ (by kernel_rfl) (by kernel_rfl) (fun w' hS' => by (obtain ⟨_, s1, s2, s3, s4, s5⟩ := hS'; obtain ⟨d0, d1, d2, d3, _⟩ := s5; simp only [opr]; go_simp; try with_reducible rfl)) (fun K16 hK16 => ?_)
        clear hK15 K15
        simp only [Act.put, List.setIfInBounds_toArray, List.set_cons_zero, List.set_cons_succ]
        refine mix_take hK16 (some 86) (.nilCheck (.tmp 85)) 0 _ (by kernel_rfl) (by kernel_rfl) (fun w' hS' => by (obtain ⟨_, s1, s2, s3, s4, s5⟩ := hS'; obtain ⟨d0, d1, d2, d3, _⟩ := s5; simp only [opr]; go_simp; try with_reducible rfl)) (fun K17 hK17 => ?_)
        clear hK16 K16
        simp only [Act.put, List.setIfInBounds_toArray, List.set_cons_zero, List.set_cons_succ]
        refine mix_take hK17 (some 87) (.fieldAddr 106 (.tmp 86) 0) 0 _ (by kernel_rfl) (by kernel_rfl) (fun w' hS' => by (obtain ⟨_, s1, s2, s3, s4, s5⟩ := hS'; obtain ⟨d0, d1, d2, d3, _⟩ := s5; simp only [opr]; go_simp; try with_reducible rfl)) (fun K18 hK18 => ?_)
        clear hK17 K17
        simp only [Act.put, List.setIfInBounds_toArray, List.set_cons_zero, List.set_cons_succ]
        refine mix_take hK18 (some 88) (.load 104 (.tmp 87)) 104 _ (by kernel_rfl) (by kernel_rfl) (fun w' hS' => by (obtain ⟨_, s1, s2, s3, s4, s5⟩ := hS'; obtain ⟨d0, d1, d2, d3, _⟩ := s5; simp only [opr]; go_simp; try with_reducible rfl)) (fun K19 hK19 => ?_)
        clear hK18 K18
        simp only [Act.put, List.setIfInBounds_toArray, List.set_cons_zero, List.set_cons_succ]
        refine mix_take hK19 (some 89) (.move (.tmp 14)) 3 _ (by kernel_rfl) (by kernel_rfl) (fun w' hS' => by (obtain ⟨_, s1, s2, s3, s4, s5⟩ := hS'; obtain ⟨d0, d1, d2, d3, _⟩ := s5; simp only [opr]; go_simp; try with_reducible rfl)) (fun K20 hK20 => ?_)
        clear hK19 K19
        simp only [Act.put, List.setIfInBounds_toArray, List.set_cons_zero, List.set_cons_succ]
        refine mix_take hK20 (some 90) (.move (.tmp 12)) 3 _ (by kernel_rfl) (by kernel_rfl) (fun w' hS' => by (obtain ⟨_, s1, s2, s3, s4, s5⟩ := hS'; obtain ⟨d0, d1, d2, d3, _⟩ := s5; simp only [opr]; go_simp; try with_reducible rfl)) (fun K21 hK21 => ?_)
        clear hK20 K20
        simp only [Act.put, List.setIfInBounds_toArray, List.set_cons_zero, List.set_cons_succ]
        refine mix_take hK21 (some 91) (.binOp BinOp.sub 3 (.tmp 89) (.tmp 90) 3) 3 _ (by kernel_rfl) (by kernel_rfl) (fun w' hS' => by (obtain ⟨_, s1, s2, s3, s4, s5⟩ := hS'; obtain ⟨d0, d1, d2, d3, _⟩ := s5; simp only [opr]; go_simp; try with_reducible rfl)) (fun K22 hK22 => ?_)
        clear hK21 K21
        simp only [Act.put, List.setIfInBounds_toArray, List.set_cons_zero, List.set_cons_succ]
        refine mix_take hK22 (some 92) (.indexAddr 104 (.tmp 88) (.tmp 91)) 0 _ (by kernel_rfl) (by kernel_rfl) (fun w' hS' => by (obtain ⟨_, s1, s2, s3, s4, s5⟩ := hS'; obtain ⟨d0, d1, d2, d3, _⟩ := s5; simp only [opr]; go_simp; try with_reducible rfl)) (fun K23 hK23 => ?_)
        clear hK22 K22
        simp only [Act.put, List.setIfInBounds_toArray, List.set_cons_zero, List.set_cons_succ]
        refine mix_take hK23 (some 93) (.load 33 (.tmp 92)) 33 _ (by kernel_rfl) (by kernel_rfl) (fun w' hS' => by (obtain ⟨_, s1, s2, s3, s4, s5⟩ := hS'; obtain ⟨d0, d1, d2, d3, _⟩ := s5; simp only [opr]; go_simp; try with_reducible rfl)) (fun K24 hK24 => ?_)
        clear hK23 K23
        simp only [Act.put, List.setIfInBounds_toArray, List.set_cons_zero, List.set_cons_succ]
        refine mix_take hK24 (some 94) (.fieldAddr 41 (.tmp 7) 0) 0 _ (by kernel_rfl) (by kernel_rfl) (fun w' hS' => by (obtain ⟨_, s1, s2, s3, s4, s5⟩ := hS'; obtain ⟨d0, d1, d2, d3, _⟩ := s5; simp only [opr]; go_simp; try with_reducible rfl)) (fun K25 hK25 => ?_)
        clear hK24 K24
        simp only [Act.put, List.setIfInBounds_toArray, List.set_cons_zero, List.set_cons_succ]
        refine mix_take hK25 (some 95) (.load 3 (.tmp 94)) 3 _ (by kernel_rfl) (by kernel_rfl) (fun w' hS' => by (obtain ⟨_, s1, s2, s3, s4, s5⟩ := hS'; obtain ⟨d0, d1, d2, d3, _⟩ := s5; simp only [opr]; go_simp; try with_reducible rfl)) (fun K26 hK26 => ?_)
        clear hK25 K25
        simp only [Act.put, List.setIfInBounds_toArray, List.set_cons_zero, List.set_cons_succ]
        refine mix_take hK26 (some 96) (.move (.tmp 11)) 3 _ (by kernel_rfl) (by kernel_rfl) (fun w' hS' => by (obtain ⟨_, s1, s2, s3, s4, s5⟩ := hS'; obtain ⟨d0, d1, d2, d3, _⟩ := s5; simp only [opr]; go_simp; try with_reducible rfl)) (fun K27 hK27 => ?_)
        clear hK26 K26
        simp only [Act.put, List.setIfInBounds_toArray, List.set_cons_zero, List.set_cons_succ]
        refine mix_take hK27 (some 97) (.binOp BinOp.sub 3 (.tmp 95) (.tmp 96) 3) 3 _ (by kernel_rfl) (by kernel_rfl) (fun w' hS' => by (obtain ⟨_, s1, s2, s3, s4, s5⟩ := hS'; obtain ⟨d0, d1, d2, d3, _⟩ := s5; simp only [opr]; go_simp; try with_reducible rfl)) (fun K28 hK28 => ?_)
        clear hK27 K27
        simp only [Act.put, List.setIfInBounds_toArray, List.set_cons_zero, List.set_cons_succ]
        refine mix_take hK28 (some 98) (.slice 33 (.tmp 93) (some (.tmp 97)) none none) 33 _ (by kernel_rfl) (by kernel_rfl) (fun w' hS' => by (obtain ⟨_, s1, s2, s3, s4, s5⟩ := hS'; obtain ⟨d0, d1, d2, d3, _⟩ := s5; simp only [opr]; go_simp; try with_reducible rfl)) (fun K29 hK29 => ?_)
        clear hK28 K28
        simp only [Act.put, List.setIfInBounds_toArray, List.set_cons_zero, List.set_cons_succ]
        refine mix_chain hK29 (fun K29c hK29c => ?_)
        clear hK29 K29
        refine op_plain (some 99) (.call { callee := Callee.builtin Builtin.copy, args := #[.tmp 84, .tmp 98], argTypes := #[33, 33] }) 3 (by kernel_rfl) (by kernel_rfl) ?_
        refine wpList_copy4 rfl (.tmp 84) (.tmp 98) 33 rfl 53 Try.underlying33 (by kernel_rfl) obc (oO + x1 * 4) _ _ gbc (oG + u1 * 4) _ _ rfl rfl CS a1 HLEN.out HCL.out HSRC.out HTH.out HONE.out ?_
        refine wpList_nil ?_
        have hSf : (fun w' => Stay (fun k => k = obc) wr w' ∧ w'.cell? ⟨og, 0, none⟩ = some (.slice (some ⟨obr, 0, none⟩) oh oh) ∧ w'.cell? ⟨obr, Yi, none⟩ = some (.slice (some ⟨obc, oO, none⟩) ow cpO) ∧ w'.cell? ⟨gg, 0, none⟩ = some (.slice (some ⟨gbr, 0, none⟩) gh gh) ∧ w'.cell? ⟨gbr, Vi, none⟩ = some (.slice (some ⟨gbc, oG, none⟩) gw cpG) ∧ Box w' w.heap.size ⟨x1, y1, a1, b1⟩) (wr.drew.setCells obc (oO + x1 * 4) CS) := ⟨hS.1.setCells obc _ _ rfl, HF.out _ (hS.1.setCells obc _ _ rfl)⟩
        refine hK29c _ _ hSf (mix_begin fun K30 hK30 => ?_)
        clear hK29c K29c
        try simp only [Act.put, List.setIfInBounds_toArray, List.set_cons_zero, List.set_cons_succ]
        refine hK30 _ _ (mix_nil ?_)
        clear hK30 K30
        clear hSf hS hS0
        go_wp2
        go_roundg (b1 - (k + 1))
        case rel => exact ⟨k + 1, by omega, rfl, by go_num, by rw [hdec]; exact HNX⟩
        case measure => omega
      · skip
        have hdec : decide (0 < dy) = false := by simp; omega
        rw [hdec] at HI
        obtain ⟨Yi, hYi⟩ : ∃ n, n = y1 + k := ⟨_, rfl⟩
        obtain ⟨e1, e2, e3, e4, e5⟩ := HUV.out hb1
        obtain ⟨Vi, hVi⟩ : ∃ n, n = Yi - y1 + v1 := ⟨_, rfl⟩
        have hVd : (Vi : Int) = Yi - dy := by omega
        have hYh : Yi < O.h := by have := HLE.out.2; omega
        have hVh : Vi < G.h := by omega
        have hHB := HBC.out
        have hOH := HSZ.out
        obtain ⟨fs, ft, hG, hO, hbl, hoo⟩ := HI.out.two
        have hGd := hG.keep (Stay.refl _ wr).drew
        have HNX := hide' (BIn.next HI.out.stay.drew (HI.out.box.keep (Stay.refl _ _).drew) hGd (hO.keep (Stay.refl _ _).drew) hbl hoo hHB hk1 HLE.out.1 HLE.out.2 e3 (y := Yi) (s := Vi) (by rw [hYi]; rfl) hVi hVh (by simp; omega))
        have ct := hO.top
        have cr := hO.rows Yi hYh
        have gt := hG.top
        have gr := hG.rows Vi hVh
        have HBX := hide' HI.out.box
        have hidx := idx_lt (w := G.w) (h := G.h) (x := u1 + a1 - 1) (y := Vi) (by omega) hVh
        have HSRC0 := hide' (hGd.pix.src (Vi * G.w + u1) a1 (by omega))
        have hidx2 := idx_lt (w := O.w) (h := O.h) (x := x1 + a1 - 1) (y := Yi) (by have := HLE.out.1; omega) hYh
        have HTH := hide' ((hO.keep (Stay.refl _ wr).drew).pix.there (Yi * O.w + x1) a1 (by omega))
        have hne : G.g ≠ O.bc ∧ G.br ≠ O.bc ∧ O.g ≠ O.bc ∧ O.br ≠ O.bc := by
          rcases hoo with ⟨rfl, _, _⟩ | ⟨hoff, _⟩
          · exact ⟨hG.ne1, hG.ne2, hG.ne1, hG.ne2⟩
          · exact ⟨hoff.1, hoff.2.1, hO.ne1, hO.ne2⟩
        have hcO : O.w ≤ O.w * O.h - Yi * O.w := by
          have h3 := Nat.mul_le_mul_right O.w (show Yi + 1 ≤ O.h by omega)
          rw [Nat.succ_mul] at h3
          rw [Nat.mul_comm O.w O.h]
          omega
        have hcG : G.w ≤ G.w * G.h - Vi * G.w := by
          have h3 := Nat.mul_le_mul_right G.w (show Vi + 1 ≤ G.h by omega)
          rw [Nat.succ_mul] at h3
          rw [Nat.mul_comm G.w G.h]
          omega
        have HLE2 := hide' HLE.out
        have HSZ2 := hide' hOH
        have HBC2 := hide' hHB
        obtain ⟨CS, hCS⟩ : ∃ c, c = seg a1 (fun i => fs (Vi * G.w + u1 + i)) := ⟨_, rfl⟩
        have HCL : Hid (CS.length = a1 * 4) := show _ = _ from by rw [hCS, seg_length]
        have HONE : Hid (∀ v ∈ CS, v.oneCell' = true) := by rw [hCS]; exact seg_one _ _
        rw [← hCS] at HNX HSRC0
        clear hCS hHB hOH hG hO hGd hbl hoo HI hidx hidx2
        obtain ⟨gg, gbr, gbc, gw, gh⟩ := G
        obtain ⟨og, obr, obc, ow, oh⟩ := O
        simp only at ct cr gt gr hYh hVh e3 e4 hcO hcG HLE2 HSZ2 HBC2 HSRC0 HTH
        rw [Nat.add_mul] at HSRC0 HTH
        obtain ⟨oO, hoO⟩ : ∃ o, o = Yi * ow * 4 := ⟨_, rfl⟩
        obtain ⟨cpO, hcp⟩ : ∃ o, o = ow * oh - Yi * ow := ⟨_, rfl⟩
        obtain ⟨oG, hoG⟩ : ∃ o, o = Vi * gw * 4 := ⟨_, rfl⟩
        obtain ⟨cpG, hcp2⟩ : ∃ o, o = gw * gh - Vi * gw := ⟨_, rfl⟩
        rw [← hoO] at cr HTH HNX
        rw [← hcp] at cr hcO
        rw [← hoG] at gr HSRC0
        rw [← hcp2] at gr hcG
        clear hoO hcp hoG hcp2
        obtain ⟨l1, l2⟩ := HLE2.out
        obtain ⟨l3, l4, l5, l6⟩ := HSZ2.out
        obtain ⟨n1, n2, n3, n4⟩ := hne
        simp only at n1 n2 n3 n4
        obtain ⟨xe, hxe⟩ : ∃ n, n = x1 + a1 := ⟨_, rfl⟩
        have HSRC : Hid (∀ (j : Nat) (v : Value), CS[j]? = some v → wr.drew.cell? ⟨gbc, oG + u1 * 4 + j, none⟩ = some v) := HSRC0.out
        have HLEN : Hid (a1 = Nat.min (gw - u1) (xe - x1)) := show a1 = min (gw - u1) (xe - x1) by omega
        have HF : Hid (∀ w3, Stay (fun k => k = obc) wr w3 → w3.cell? ⟨og, 0, none⟩ = some (.slice (some ⟨obr, 0, none⟩) oh oh) ∧ w3.cell? ⟨obr, Yi, none⟩ = some (.slice (some ⟨obc, oO, none⟩) ow cpO) ∧ w3.cell? ⟨gg, 0, none⟩ = some (.slice (some ⟨gbr, 0, none⟩) gh gh) ∧ w3.cell? ⟨gbr, Vi, none⟩ = some (.slice (some ⟨gbc, oG, none⟩) gw cpG) ∧ Box w3 w.heap.size ⟨x1, y1, a1, b1⟩) := fun w3 hs =>
          ⟨(hs.cell (World.block_lt_of_cell? _ _ ct) n3).trans ct, (hs.cell (World.block_lt_of_cell? _ _ cr) n4).trans cr, (hs.cell (World.block_lt_of_cell? _ _ gt) n1).trans gt, (hs.cell (World.block_lt_of_cell? _ _ gr) n2).trans gr, HBX.out.stay hs (by have := HBC2.out; omega)⟩
        have i1 : IntKind.i64.wrap ((y1 : Int) + (k : Int)) = (Yi : Nat) := by rw [IntKind.wrap_i64]; omega
        have i5 : IntKind.i64.wrap ((x1 : Int) + (a1 : Int)) = (xe : Nat) := by rw [IntKind.wrap_i64]; omega
        have i6 : IntKind.i64.wrap ((Yi : Int) - dy) = (Vi : Nat) := by rw [IntKind.wrap_i64]; omega
        have i7 : IntKind.i64.wrap ((x1 : Int) - dx) = (u1 : Nat) := by rw [IntKind.wrap_i64]; omega
        have j1 : (Yi : Int) < (oh : Nat) := by omega
        have j2 : (Vi : Int) < (gh : Nat) := by omega
        have j3 : (x1 : Int) ≤ (xe : Nat) := by omega
        have j4 : (xe : Int) ≤ (cpO : Nat) := by omega
        have j5 : (u1 : Int) ≤ (gw : Nat) := by omega
        have j6 : (gw : Int) ≤ (cpG : Nat) := by omega
        have j7 : ¬ cpO = x1 := by omega
        have j8 : ¬ cpG = u1 := by omega
        clear hVi hVd hVh hYh hYi e1 e2 e3 e4 e5 hcO hcG HSRC0 l1 l2 l3 l4 l5 l6 n1 n2 n3 n4 hxe ct cr gt gr
        obtain ⟨rc0, rc1, rc2, rc3, rf0, rf1, rf2, rf3⟩ := HBX.out
        go_upto_region 13 with fail
        clear rc0 rc1 rc2 rc3 rf0 rf1 rf2 rf3
        have hS0 : Stay (fun k => k = obc) wr wr.drew := (Stay.refl _ _).drew
        have hS : (fun w' => Stay (fun k => k = obc) wr w' ∧ w'.cell? ⟨og, 0, none⟩ = some (.slice (some ⟨obr, 0, none⟩) oh oh) ∧ w'.cell? ⟨obr, Yi, none⟩ = some (.slice (some ⟨obc, oO, none⟩) ow cpO) ∧ w'.cell? ⟨gg, 0, none⟩ = some (.slice (some ⟨gbr, 0, none⟩) gh gh) ∧ w'.cell? ⟨gbr, Vi, none⟩ = some (.slice (some ⟨gbc, oG, none⟩) gw cpG) ∧ Box w' w.heap.size ⟨x1, y1, a1, b1⟩) wr.drew := ⟨hS0, HF.out _ hS0⟩
        refine wp_region_mix (fun w' => Stay (fun k => k = obc) wr w' ∧ w'.cell? ⟨og, 0, none⟩ = some (.slice (some ⟨obr, 0, none⟩) oh oh) ∧ w'.cell? ⟨obr, Yi, none⟩ = some (.slice (some ⟨obc, oO, none⟩) ow cpO) ∧ w'.cell? ⟨gg, 0, none⟩ = some (.slice (some ⟨gbr, 0, none⟩) gh gh) ∧ w'.cell? ⟨gbr, Vi, none⟩ = some (.slice (some ⟨gbc, oG, none⟩) gw cpG) ∧ Box w' w.heap.size ⟨x1, y1, a1, b1⟩) [(0, true), (1, true), (2, true), (3, true), (4, true), (5, true), (6, true), (7, true), (8, true), (9, true), (10, true), (11, true), (12, true), (13, true), (14, true), (15, true), (16, true), (17, true), (18, true), (19, true), (20, true), (21, true), (22, true), (23, true), (24, true), (25, true), (26, true), (27, true), (28, true), (29, false)] (by kernel_rfl) (by kernel_rfl) (fun _ d _ _ _ h => by cases d <;> exact h) hS ?_
        refine mix_begin (fun K0 hK0 => ?_)
        refine mix_take hK0 (some 70) (.move (.tmp 1)) 47 _ (by kernel_rfl) (by kernel_rfl) (fun w' hS' => by (obtain ⟨_, s1, s2, s3, s4, s5⟩ := hS'; obtain ⟨d0, d1, d2, d3, _⟩ := s5; simp only [opr]; go_simp; try with_reducible rfl)) (fun K1 hK1 => ?_)
        clear hK0 K0
        simp only [Act.put, List.setIfInBounds_toArray, List.set_cons_zero, List.set_cons_succ]
        refine mix_take hK1 (some 71) (.nilCheck (.tmp 70)) 0 _ (by kernel_rfl) (by kernel_rfl) (fun w' hS' => by (obtain ⟨_, s1, s2, s3, s4, s5⟩ := hS'; obtain ⟨d0, d1, d2, d3, _⟩ := s5; simp only [opr]; go_simp; try with_reducible rfl)) (fun K2 hK2 => ?_)
        clear hK1 K1
        simp only [Act.put, List.setIfInBounds_toArray, List.set_cons_zero, List.set_cons_succ]
        refine mix_take hK2 (some 72) (.fieldAddr 106 (.tmp 71) 0) 0 _ (by kernel_rfl) (by kernel_rfl) (fun w' hS' => by (obtain ⟨_, s1, s2, s3, s4, s5⟩ := hS'; obtain ⟨d0, d1, d2, d3, _⟩ := s5; simp only [opr]; go_simp; try with_reducible rfl)) (fun K3 hK3 => ?_)
        clear hK2 K2
        simp only [Act.put, List.setIfInBounds_toArray, List.set_cons_zero, List.set_cons_succ]
        refine mix_take hK3 (some 73) (.load 104 (.tmp 72)) 104 _ (by kernel_rfl) (by kernel_rfl) (fun w' hS' => by (obtain ⟨_, s1, s2, s3, s4, s5⟩ := hS'; obtain ⟨d0, d1, d2, d3, _⟩ := s5; simp only [opr]; go_simp; try with_reducible rfl)) (fun K4 hK4 => ?_)
        clear hK3 K3
        simp only [Act.put, List.setIfInBounds_toArray, List.set_cons_zero, List.set_cons_succ]
        refine mix_take hK4 (some 74) (.move (.tmp 14)) 3 _ (by kernel_rfl) (by kernel_rfl) (fun w' hS' => by (obtain ⟨_, s1, s2, s3, s4, s5⟩ := hS'; obtain ⟨d0, d1, d2, d3, _⟩ := s5; simp only [opr]; go_simp; try with_reducible rfl)) (fun K5 hK5 => ?_)
        clear hK4 K4
        simp only [Act.put, List.setIfInBounds_toArray, List.set_cons_zero, List.set_cons_succ]
        refine mix_take hK5 (some 75) (.indexAddr 104 (.tmp 73) (.tmp 74)) 0 _ (by kernel_rfl) (by kernel_rfl) (fun w' hS' => by (obtain ⟨_, s1, s2, s3, s4, s5⟩ := hS'; obtain ⟨d0, d1, d2, d3, _⟩ := s5; simp only [opr]; go_simp; try with_reducible rfl)) (fun K6 hK6 => ?_)
        clear hK5 K5
        simp only [Act.put, List.setIfInBounds_toArray, List.set_cons_zero, List.set_cons_succ]
        refine mix_take hK6 (some 76) (.load 33 (.tmp 75)) 33 _ (by kernel_rfl) (by kernel_rfl) (fun w' hS' => by (obtain ⟨_, s1, s2, s3, s4, s5⟩ := hS'; obtain ⟨d0, d1, d2, d3, _⟩ := s5; simp only [opr]; go_simp; try with_reducible rfl)) (fun K7 hK7 => ?_)
        clear hK6 K6
        simp only [Act.put, List.setIfInBounds_toArray, List.set_cons_zero, List.set_cons_succ]
        refine mix_take hK7 (some 77) (.fieldAddr 41 (.tmp 7) 0) 0 _ (by kernel_rfl) (by kernel_rfl) (fun w' hS' => by (obtain ⟨_, s1, s2, s3, s4, s5⟩ := hS'; obtain ⟨d0, d1, d2, d3, _⟩ := s5; simp only [opr]; go_simp; try with_reducible rfl)) (fun K8 hK8 => ?_)
        clear hK7 K7
        simp only [Act.put, List.setIfInBounds_toArray, List.set_cons_zero, List.set_cons_succ]
        refine mix_take hK8 (some 78) (.load 3 (.tmp 77)) 3 _ (by kernel_rfl) (by kernel_rfl) (fun w' hS' => by (obtain ⟨_, s1, s2, s3, s4, s5⟩ := hS'; obtain ⟨d0, d1, d2, d3, _⟩ := s5; simp only [opr]; go_simp; try with_reducible rfl)) (fun K9 hK9 => ?_)
        clear hK8 K8
        simp only [Act.put, List.setIfInBounds_toArray, List.set_cons_zero, List.set_cons_succ]
        refine mix_take hK9 (some 79) (.fieldAddr 41 (.tmp 7) 0) 0 _ (by kernel_rfl) (by kernel_rfl) (fun w' hS' => by (obtain ⟨_, s1, s2, s3, s4, s5⟩ := hS'; obtain ⟨d0, d1, d2, d3, _⟩ := s5; simp only [opr]; go_simp; try with_reducible rfl)) (fun K10 hK10 => ?_)
        clear hK9 K9
        simp only [Act.put, List.setIfInBounds_toArray, List.set_cons_zero, List.set_cons_succ]
        refine mix_take hK10 (some 80) (.load 3 (.tmp 79)) 3 _ (by kernel_rfl) (by kernel_rfl) (fun w' hS' => by (obtain ⟨_, s1, s2, s3, s4, s5⟩ := hS'; obtain ⟨d0, d1, d2, d3, _⟩ := s5; simp only [opr]; go_simp; try with_reducible rfl)) (fun K11 hK11 => ?_)
        clear hK10 K10
        simp only [Act.put, List.setIfInBounds_toArray, List.set_cons_zero, List.set_cons_succ]
        refine mix_take hK11 (some 81) (.fieldAddr 41 (.tmp 7) 2) 0 _ (by kernel_rfl) (by kernel_rfl) (fun w' hS' => by (obtain ⟨_, s1, s2, s3, s4, s5⟩ := hS'; obtain ⟨d0, d1, d2, d3, _⟩ := s5; simp only [opr]; go_simp; try with_reducible rfl)) (fun K12 hK12 => ?_)
        clear hK11 K11
        simp only [Act.put, List.setIfInBounds_toArray, List.set_cons_zero, List.set_cons_succ]
        refine mix_take hK12 (some 82) (.load 3 (.tmp 81)) 3 _ (by kernel_rfl) (by kernel_rfl) (fun w' hS' => by (obtain ⟨_, s1, s2, s3, s4, s5⟩ := hS'; obtain ⟨d0, d1, d2, d3, _⟩ := s5; simp only [opr]; go_simp; try with_reducible rfl)) (fun K13 hK13 => ?_)
        clear hK12 K12
        simp only [Act.put, List.setIfInBounds_toArray, List.set_cons_zero, List.set_cons_succ]
        refine mix_take hK13 (some 83) (.binOp BinOp.add 3 (.tmp 80) (.tmp 82) 3) 3 _ (by kernel_rfl) (by kernel_rfl) (fun w' hS' => by (obtain ⟨_, s1, s2, s3, s4, s5⟩ := hS'; obtain ⟨d0, d1, d2, d3, _⟩ := s5; simp only [opr]; go_simp; try with_reducible rfl)) (fun K14 hK14 => ?_)
        clear hK13 K13
        simp only [Act.put, List.setIfInBounds_toArray, List.set_cons_zero, List.set_cons_succ]
        refine mix_take hK14 (some 84) (.slice 33 (.tmp 76) (some (.tmp 78)) (some (.tmp 83)) none) 33 _ (by kernel_rfl) (by kernel_rfl) (fun w' hS' => by (obtain ⟨_, s1, s2, s3, s4, s5⟩ := hS'; obtain ⟨d0, d1, d2, d3, _⟩ := s5; simp only [opr]; go_simp; try with_reducible rfl)) (fun K15 hK15 => ?_)
        clear hK14 K14
        simp only [Act.put, List.setIfInBounds_toArray, List.set_cons_zero, List.set_cons_succ]
        refine mix_take hK15 (some 85) (.move (.tmp 0)) 47 _ (by kernel_rfl) (by kernel_rfl) (fun w' hS' => by (obtain ⟨_, s1, s2, s3, s4, s5⟩ := hS'; obtain ⟨d0, d1, d2, d3, _⟩ := s5; simp only [opr]; go_simp; try with_reducible rfl)) (fun K16 hK16 => ?_)
        clear hK15 K15
        simp only [Act.put, List.setIfInBounds_toArray, List.set_cons_zero, List.set_cons_succ]
        refine mix_take hK16 (some 86) (.nilCheck (.tmp 85)) 0 _ (by kernel_rfl) (by kernel_rfl) (fun w' hS' => by (obtain ⟨_, s1, s2, s3, s4, s5⟩ := hS'; obtain ⟨d0, d1, d2, d3, _⟩ := s5; simp only [opr]; go_simp; try with_reducible rfl)) (fun K17 hK17 => ?_)
        clear hK16 K16
        simp only [Act.put, List.setIfInBounds_toArray, List.set_cons_zero, List.set_cons_succ]
        refine mix_take hK17 (some 87) (.fieldAddr 106 (.tmp 86) 0) 0 _ (by kernel_rfl) (by kernel_rfl) (fun w' hS' => by (obtain ⟨_, s1, s2, s3, s4, s5⟩ := hS'; obtain ⟨d0, d1, d2, d3, _⟩ := s5; simp only [opr]; go_simp; try with_reducible rfl)) (fun K18 hK18 => ?_)
        clear hK17 K17
        simp only [Act.put, List.setIfInBounds_toArray, List.set_cons_zero, List.set_cons_succ]
        refine mix_take hK18 (some 88) (.load 104 (.tmp 87)) 104 _ (by kernel_rfl) (by kernel_rfl) (fun w' hS' => by (obtain ⟨_, s1, s2, s3, s4, s5⟩ := hS'; obtain ⟨d0, d1, d2, d3, _⟩ := s5; simp only [opr]; go_simp; try with_reducible rfl)) (fun K19 hK19 => ?_)
        clear hK18 K18
        simp only [Act.put, List.setIfInBounds_toArray, List.set_cons_zero, List.set_cons_succ]
        refine mix_take hK19 (some 89) (.move (.tmp 14)) 3 _ (by kernel_rfl) (by kernel_rfl) (fun w' hS' => by (obtain ⟨_, s1, s2, s3, s4, s5⟩ := hS'; obtain ⟨d0, d1, d2, d3, _⟩ := s5; simp only [opr]; go_simp; try with_reducible rfl)) (fun K20 hK20 => ?_)
        clear hK19 K19
        simp only [Act.put, List.setIfInBounds_toArray, List.set_cons_zero, List.set_cons_succ]
        refine mix_take hK20 (some 90) (.move (.tmp 12)) 3 _ (by kernel_rfl) (by kernel_rfl) (fun w' hS' => by (obtain ⟨_, s1, s2, s3, s4, s5⟩ := hS'; obtain ⟨d0, d1, d2, d3, _⟩ := s5; simp only [opr]; go_simp; try with_reducible rfl)) (fun K21 hK21 => ?_)
        clear hK20 K20
        simp only [Act.put, List.setIfInBounds_toArray, List.set_cons_zero, List.set_cons_succ]
        refine mix_take hK21 (some 91) (.binOp BinOp.sub 3 (.tmp 89) (.tmp 90) 3) 3 _ (by kernel_rfl) (by kernel_rfl) (fun w' hS' => by (obtain ⟨_, s1, s2, s3, s4, s5⟩ := hS'; obtain ⟨d0, d1, d2, d3, _⟩ := s5; simp only [opr]; go_simp; try with_reducible rfl)) (fun K22 hK22 => ?_)
        clear hK21 K21
        simp only [Act.put, List.setIfInBounds_toArray, List.set_cons_zero, List.set_cons_succ]
        refine mix_take hK22 (some 92) (.indexAddr 104 (.tmp 88) (.tmp 91)) 0 _ (by kernel_rfl) (by kernel_rfl) (fun w' hS' => by (obtain ⟨_, s1, s2, s3, s4, s5⟩ := hS'; obtain ⟨d0, d1, d2, d3, _⟩ := s5; simp only [opr]; go_simp; try with_reducible rfl)) (fun K23 hK23 => ?_)
        clear hK22 K22
        simp only [Act.put, List.setIfInBounds_toArray, List.set_cons_zero, List.set_cons_succ]
        refine mix_take hK23 (some 93) (.load 33 (.tmp 92)) 33 _ (by kernel_rfl) (by kernel_rfl) (fun w' hS' => by (obtain ⟨_, s1, s2, s3, s4, s5⟩ := hS'; obtain ⟨d0, d1, d2, d3, _⟩ := s5; simp only [opr]; go_simp; try with_reducible rfl)) (fun K24 hK24 => ?_)
        clear hK23 K23
        simp only [Act.put, List.setIfInBounds_toArray, List.set_cons_zero, List.set_cons_succ]
        refine mix_take hK24 (some 94) (.fieldAddr 41 (.tmp 7) 0) 0 _ (by kernel_rfl) (by kernel_rfl) (fun w' hS' => by (obtain ⟨_, s1, s2, s3, s4, s5⟩ := hS'; obtain ⟨d0, d1, d2, d3, _⟩ := s5; simp only [opr]; go_simp; try with_reducible rfl)) (fun K25 hK25 => ?_)
        clear hK24 K24
        simp only [Act.put, List.setIfInBounds_toArray, List.set_cons_zero, List.set_cons_succ]
        refine mix_take hK25 (some 95) (.load 3 (.tmp 94)) 3 _ (by kernel_rfl) (by kernel_rfl) (fun w' hS' => by (obtain ⟨_, s1, s2, s3, s4, s5⟩ := hS'; obtain ⟨d0, d1, d2, d3, _⟩ := s5; simp only [opr]; go_simp; try with_reducible rfl)) (fun K26 hK26 => ?_)
        clear hK25 K25
        simp only [Act.put, List.setIfInBounds_toArray, List.set_cons_zero, List.set_cons_succ]
        refine mix_take hK26 (some 96) (.move (.tmp 11)) 3 _ (by kernel_rfl) (by kernel_rfl) (fun w' hS' => by (obtain ⟨_, s1, s2, s3, s4, s5⟩ := hS'; obtain ⟨d0, d1, d2, d3, _⟩ := s5; simp only [opr]; go_simp; try with_reducible rfl)) (fun K27 hK27 => ?_)
        clear hK26 K26
        simp only [Act.put, List.setIfInBounds_toArray, List.set_cons_zero, List.set_cons_succ]
        refine mix_take hK27 (some 97) (.binOp BinOp.sub 3 (.tmp 95) (.tmp 96) 3) 3 _ (by kernel_rfl) (by kernel_rfl) (fun w' hS' => by (obtain ⟨_, s1, s2, s3, s4, s5⟩ := hS'; obtain ⟨d0, d1, d2, d3, _⟩ := s5; simp only [opr]; go_simp; try with_reducible rfl)) (fun K28 hK28 => ?_)
        clear hK27 K27
        simp only [Act.put, List.setIfInBounds_toArray, List.set_cons_zero, List.set_cons_succ]
        refine mix_take hK28 (some 98) (.slice 33 (.tmp 93) (some (.tmp 97)) none none) 33 _ (by kernel_rfl) (by kernel_rfl) (fun w' hS' => by (obtain ⟨_, s1, s2, s3, s4, s5⟩ := hS'; obtain ⟨d0, d1, d2, d3, _⟩ := s5; simp only [opr]; go_simp; try with_reducible rfl)) (fun K29 hK29 => ?_)
        clear hK28 K28
        simp only [Act.put, List.setIfInBounds_toArray, List.set_cons_zero, List.set_cons_succ]
        refine mix_chain hK29 (fun K29c hK29c => ?_)
        clear hK29 K29
        refine op_plain (some 99) (.call { callee := Callee.builtin Builtin.copy, args := #[.tmp 84, .tmp 98], argTypes := #[33, 33] }) 3 (by kernel_rfl) (by kernel_rfl) ?_
        refine wpList_copy4 rfl (.tmp 84) (.tmp 98) 33 rfl 53 Try.underlying33 (by kernel_rfl) obc (oO + x1 * 4) _ _ gbc (oG + u1 * 4) _ _ rfl rfl CS a1 HLEN.out HCL.out HSRC.out HTH.out HONE.out ?_
        refine wpList_nil ?_
        have hSf : (fun w' => Stay (fun k => k = obc) wr w' ∧ w'.cell? ⟨og, 0, none⟩ = some (.slice (some ⟨obr, 0, none⟩) oh oh) ∧ w'.cell? ⟨obr, Yi, none⟩ = some (.slice (some ⟨obc, oO, none⟩) ow cpO) ∧ w'.cell? ⟨gg, 0, none⟩ = some (.slice (some ⟨gbr, 0, none⟩) gh gh) ∧ w'.cell? ⟨gbr, Vi, none⟩ = some (.slice (some ⟨gbc, oG, none⟩) gw cpG) ∧ Box w' w.heap.size ⟨x1, y1, a1, b1⟩) (wr.drew.setCells obc (oO + x1 * 4) CS) := ⟨hS.1.setCells obc _ _ rfl, HF.out _ (hS.1.setCells obc _ _ rfl)⟩
        refine hK29c _ _ hSf (mix_begin fun K30 hK30 => ?_)
        clear hK29c K29c
        try simp only [Act.put, List.setIfInBounds_toArray, List.set_cons_zero, List.set_cons_succ]
        refine hK30 _ _ (mix_nil ?_)
        clear hK30 K30
        clear hSf hS hS0
        go_wp2
        go_roundg (b1 - (k + 1))
        case rel => exact ⟨k + 1, by omega, rfl, by go_num, by rw [hdec]; exact HNX⟩
        case measure => omega
    · have hkb' : k = b1 := by omega
      subst hkb'
      have k3 : decide ((k : Int) < (k : Nat)) = false := by simp
      obtain ⟨rc0, rc1, rc2, rc3, rf0, rf1, rf2, rf3⟩ := HI.out.box
      go_wp2_with fail
      refine (HAR.out _).mono ?_
      rintro e w9 ⟨rfl, hs⟩
      obtain ⟨fs, ft, _, hF1, hF2, _⟩ := HI.out.two
      have HE : Hid (Stay (fun b => b = O.bc) w w9 ∧ GridAt w9 O ft ∧ Blits G.w G.h O.w O.h r x y F f ft) := ⟨HI.out.stay.trans (stay_any hs), hF1.keep hs, HMU.out _ _ hF2⟩
      clear hs hF1 hF2
      go_wp2
      go_ret
      exact ⟨ft, ⟨rfl, HE.out.1, HE.out.2.1⟩, HE.out.2.2⟩

end Go.Proofs.Yticccknocjnkpaa
