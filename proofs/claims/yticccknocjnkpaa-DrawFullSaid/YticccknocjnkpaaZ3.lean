/-
  What the document wants of a drawing: walked. No conditions.
-/
import Derived.Test.YticccknocjnkpaaGB
namespace Go.Proofs.Yticccknocjnkpaa
open Go.RowKit

theorem results_gii {fn : Func} {p t u : Tmp} (h : fn.results = #[.cell p 35, .tmp t, .tmp u]) (tmps : Array Value) (w : World) (g : Nat) (r : G3) (x y : Value) (hp : tmps.getD p undef = .pointer (some ⟨g, 0, none⟩)) (ht : tmps.getD t undef = x) (hu : tmps.getD u undef = y) (hb : BoxG w g r) :
    (results fn tmps).run Try.prog w = .ok (.tuple #[.agg #[.int .i64 r.w, .int .i64 r.h, r.l], x, y]) w := by
  have hp' : tmps[p]?.getD undef = .pointer (some ⟨g, 0, none⟩) := by simpa using hp
  have ht' : tmps[t]?.getD undef = x := by simpa using ht
  have hu' : tmps[u]?.getD undef = y := by simpa using hu
  simp [results, h, hp', ht', hu', asAddr, run_loadVar_cells w g 0 35 _ _ hb.cells Try.underlying35 rfl (by kernel_rfl)]

/-- What the document wants: its grid, how many cells, what is wrong. -/
def WantO (q : Rf) (f : Nat → Cl) (M : List Wr) (er : Int) (w : World) (e : Ending) (w' : World) : Prop :=
  ∃ q2 : Rf, e = .returned (.tuple #[.agg #[.int .i64 q2.g3.w, .int .i64 q2.g3.h, q2.g3.l], .int .i64 (M.length : Nat), .int .i64 er]) ∧ Stay (fun _ => False) w w' ∧ RefAt w' q2 (applyW q.w q.h f M) ∧ q2.w = q.w ∧ q2.h = q.h ∧ (q2.b = q.b ∨ w.heap.size ≤ q2.b)

/-- The two boxes of a grid, while one is looked for. -/
structure WIn (w0 : World) (A bd B : Nat) (q : Rf) (f : Nat → Cl) (D : Dr) (wr : World) : Prop where
  stay : Stay (fun _ => False) w0 wr
  box : BoxG wr A q.g3
  res : BoxG wr B ⟨0, 0, .slice none 0 0⟩
  ref : RefAt wr q f
  db : DBox wr bd D
  new : w0.heap.size ≤ A ∧ w0.heap.size ≤ B ∧ A ≠ B ∧ q.b ≠ A ∧ q.b ≠ B

variable {w0 w1 wr : World} {A bd B : Nat} {q q2 : Rf} {f g : Nat → Cl} {D : Dr}

theorem WIn.keep (H : WIn w0 A bd B q f D wr) (hs : Stay (fun _ => False) wr w1) : WIn w0 A bd B q f D w1 := ⟨H.stay.trans hs, H.box.keep hs, H.res.keep hs, H.ref.keep hs, H.db.keep hs, H.new⟩

/-- Nothing is drawn. -/
theorem WIn.miss (H : WIn w0 A bd B q f D wr) {fn : Func} {tmps : Array Value} {pt tt ut : Tmp} (hres : fn.results = #[.cell pt 35, .tmp tt, .tmp ut]) (hp : tmps.getD pt undef = .pointer (some ⟨B, 0, none⟩)) (ht : tmps.getD tt undef = .int .i64 0) (hu : tmps.getD ut undef = .int .i64 5) {M : List Wr} (hM : M = []) {E : Int} (hE : E = 5)
    {d : List Deferred} (hd : d = []) : bodyPost Try.prog fn (WantO q f M E w0) Exit.ret { tmps := tmps, defers := d } (((wr.setCell ⟨B, 0, none⟩ (.int .i64 q.g3.w)).setCell ⟨B, 1, none⟩ (.int .i64 q.g3.h)).setCell ⟨B, 2, none⟩ q.g3.l) := by
  subst hd hM hE
  refine bodyPost_ret (results_gii hres _ _ B q.g3 _ _ hp ht hu (H.res.put q.g3)) rfl ⟨q, rfl, BoxG.stay_put H.stay H.new.2.1 _ _ _, ?_, rfl, rfl, .inl rfl⟩
  exact H.ref.stay ((((Stay.refl (fun j => j = B) wr).setCell (p := ⟨B, 0, none⟩) rfl _).setCell (p := ⟨B, 1, none⟩) rfl _).setCell (p := ⟨B, 2, none⟩) rfl _) H.new.2.2.2.2

/-- A drawing is handed on. -/
theorem WIn.hit (H : WIn w0 A bd B q f D wr) {q2 : Rf} {M N : List Wr} {E : Int} (hE : E = 0) (hM : M = N) {n : Int} (hn : n = (N.length : Nat)) (hr : RefAt wr q2 (applyW q.w q.h f N)) (hw : q2.w = q.w) (hh : q2.h = q.h) (ho : q2.b = q.b ∨ (A < q2.b ∧ B < q2.b)) {fn : Func} {tmps : Array Value} {pt tt ut : Tmp} (hres : fn.results = #[.cell pt 35, .tmp tt, .tmp ut]) (hp : tmps.getD pt undef = .pointer (some ⟨B, 0, none⟩)) (ht : tmps.getD tt undef = .int .i64 n) (hu : tmps.getD ut undef = .int .i64 0)
    {d : List Deferred} (hd : d = []) : bodyPost Try.prog fn (WantO q f M E w0) Exit.ret { tmps := tmps, defers := d } ((((((wr.setCell ⟨A, 0, none⟩ (.int .i64 q2.g3.w)).setCell ⟨A, 1, none⟩ (.int .i64 q2.g3.h)).setCell ⟨A, 2, none⟩ q2.g3.l).setCell ⟨B, 0, none⟩ (.int .i64 q2.g3.w)).setCell ⟨B, 1, none⟩ (.int .i64 q2.g3.h)).setCell ⟨B, 2, none⟩ q2.g3.l) := by
  subst hd hn hE hM
  have hA : Stay (fun j => j = A) wr (((wr.setCell ⟨A, 0, none⟩ (.int .i64 q2.g3.w)).setCell ⟨A, 1, none⟩ (.int .i64 q2.g3.h)).setCell ⟨A, 2, none⟩ q2.g3.l) := (((Stay.refl (fun j => j = A) wr).setCell (p := ⟨A, 0, none⟩) rfl _).setCell (p := ⟨A, 1, none⟩) rfl _).setCell (p := ⟨A, 2, none⟩) rfl _
  have hne : q2.b ≠ A ∧ q2.b ≠ B := by
    have := H.new
    rcases ho with e | e
    · rw [e]; exact ⟨this.2.2.2.1, this.2.2.2.2⟩
    · exact ⟨by omega, by omega⟩
  refine bodyPost_ret (results_gii hres _ _ B q2.g3 _ _ hp ht hu ((H.res.stay hA (fun e => H.new.2.2.1 e.symm)).put q2.g3)) rfl ⟨q2, rfl, BoxG.stay_put (BoxG.stay_put H.stay H.new.1 _ _ _) H.new.2.1 _ _ _, ?_, hw, hh, ?_⟩
  · exact (hr.stay hA hne.1).stay ((((Stay.refl (fun j => j = B) _).setCell (p := ⟨B, 0, none⟩) rfl _).setCell (p := ⟨B, 1, none⟩) rfl _).setCell (p := ⟨B, 2, none⟩) rfl _) hne.2
  · rcases ho with e | e
    · exact .inl e
    · exact .inr (by have := H.new; omega)

set_option maxHeartbeats 4000000 in
theorem want12 (q : Rf) (f : Nat → Cl) (sa : Option Addr) (sn sc : Nat) (L : List Wn) (d id x y rx ry rw rh : Int) (la : Option Addr) (n lc : Nat) (l : Nat → Cl) (w : World) (hq : RefAt w q f) (hr : Rds w sa L) (hsn : L.length = sn) (hsm : sn ≤ 256) (hok : ∀ p ∈ L, OkP p) (hl : CRd w la n l) (hn : n ≤ 100)
    (hx : I64 x) (hy : I64 y) :
    Calls Try.prog 12 #[.agg #[.int .i64 q.g3.w, .int .i64 q.g3.h, q.g3.l], .slice sa sn sc, .agg #[.int .i64 d, .int .i64 id, .int .i64 x, .int .i64 y, .int .i64 rx, .int .i64 ry, .int .i64 rw, .int .i64 rh, .slice la n lc]] w (WantO q f (drawn L id fun p => drawW L q.w q.h f d x y ⟨rx, ry, rw, rh⟩ l n p) (errW L id) w) := by
  obtain ⟨W0, hW0⟩ : ∃ W, W = ((w.alloc (.cells #[.int .i64 q.g3.w, .int .i64 q.g3.h, q.g3.l] 35)).alloc (.cells #[.int .i64 d, .int .i64 id, .int .i64 x, .int .i64 y, .int .i64 rx, .int .i64 ry, .int .i64 rw, .int .i64 rh, .slice la n lc] 43)).alloc (.cells #[.int .i64 0, .int .i64 0, .slice none 0 0] 35) := ⟨_, rfl⟩
  obtain ⟨A, hA⟩ : ∃ b, b = w.heap.size := ⟨_, rfl⟩
  obtain ⟨bd, hbd⟩ : ∃ b, b = A + 1 := ⟨_, rfl⟩
  obtain ⟨B, hB⟩ : ∃ b, b = bd + 1 := ⟨_, rfl⟩
  have hst : Stay (fun _ => False) w W0 := by rw [hW0]; exact (((Stay.refl _ _).alloc _).alloc _).alloc _
  have hqlt := hq.lt
  have HWA : Hid (WIn w A bd B q f ⟨d, id, x, y, rx, ry, rw, rh, .slice la n lc⟩ W0) := hide' ⟨hst, by rw [hW0]; exact (((BoxG.new q.g3 hA.symm).alloc _).alloc _), by rw [hW0]; exact BoxG.new ⟨0, 0, .slice none 0 0⟩ (by rw [hB, hbd, hA]; simp), hq.keep hst, by rw [hW0]; exact ((DBox.new ⟨d, id, x, y, rx, ry, rw, rh, .slice la n lc⟩ (by rw [hbd, hA]; simp)).alloc _), by omega, by omega, by omega, by omega, by omega⟩
  have HRD := hide' (fun W (hs : Stay (fun _ => False) W0 W) => hr.keep (hst.trans hs))
  have HCR := hide' (fun W (hs : Stay (fun _ => False) W0 W) => hl.keep (hst.trans hs))
  have HAT := hide' (at26 sa sn sc L id W0 (hr.keep hst) hsn (by omega))
  have HSN := hide' (show L.length = sn ∧ sn ≤ 256 ∧ n ≤ 100 from ⟨hsn, hsm, hn⟩)
  have HOK := hide' hok
  have HXY := hide' (show I64 x ∧ I64 y from ⟨hx, hy⟩)
  have hnz : (n : Int) ≤ 100 := by omega
  have hsz : (sn : Int) ≤ 256 := by omega
  obtain ⟨i, hi⟩ : ∃ i, plN L id = i := ⟨_, rfl⟩
  have HII := hide' hi
  obtain ⟨pl, hpl⟩ : ∃ x, x = plI L id := ⟨_, rfl⟩
  have HPI : Hid (pl = if i < sn then ((i : Nat) : Int) else -1) := hide' (by rw [hpl]; unfold plI; rw [hi, hsn])
  rw [← hpl] at HAT
  obtain ⟨M, hM⟩ : ∃ M, M = drawn L id (fun p => drawW L q.w q.h f d x y ⟨rx, ry, rw, rh⟩ l n p) := ⟨_, rfl⟩
  obtain ⟨E, hE⟩ : ∃ E, E = errW L id := ⟨_, rfl⟩
  rw [← hM, ← hE]
  have HM := hide' hM
  have HE := hide' hE
  clear hM hE
  clear hst hq hr hsn hsm hok hl hn hx hy hqlt hi hpl
  go_enter Try.func12, Try.ntmps12
  go_upto_region 1 with fail
  rw [← hW0, ← hA]
  rw [← hbd]
  rw [← hB]
  clear hW0 hA hbd hB
  obtain ⟨_, b1, _⟩ := HWA.out.db
  simp only at b1
  go_wp2_with fail
  refine HAT.out.mono ?_
  rintro _ w1 ⟨rfl, hs⟩
  have HS1 := hide' hs
  have HWB := hide' (HWA.out.keep hs)
  clear hs HWA HAT b1
  by_cases hlt : i < sn
  · obtain ⟨p, hp⟩ : ∃ p, L[i]? = some p := ⟨_, List.getElem?_eq_getElem (by have := HSN.out.1; omega)⟩
    have hxp : pl = (i : Nat) := by rw [HPI.out, if_pos hlt]
    subst hxp
    have HPP := hide' hp
    have HER : Hid (E = 0) := hide' (by rw [HE.out]; unfold errW; rw [HII.out, HPP.out])
    have HOP := hide' (HOK.out p (List.mem_of_getElem? hp))
    obtain ⟨g, e, hb⟩ := HRD.out w1 HS1.out i p hp
    subst e
    have hst2 : Stay (fun _ => False) w1 (w1.alloc (.cells #[.int .i64 p.id, .int .i64 p.env, .int .i64 p.x, .int .i64 p.y, .int .i64 p.w, .int .i64 p.h, .bool p.hid] 78)) := (Stay.refl _ _).alloc _
    obtain ⟨r0, r1, r2, r3, r4, r5, r6⟩ := hb
    have hiz : (0 : Int) ≤ (i : Nat) := by omega
    have hiz2 : (i : Int) < (sn : Nat) := by omega
    obtain ⟨w2, hw2⟩ : ∃ W, W = w1.alloc (.cells #[.int .i64 p.id, .int .i64 p.env, .int .i64 p.x, .int .i64 p.y, .int .i64 p.w, .int .i64 p.h, .bool p.hid] 78) := ⟨_, rfl⟩
    obtain ⟨bp, hbp⟩ : ∃ b, b = w1.heap.size := ⟨_, rfl⟩
    have HNB := hide' (show NBox w2 bp p by rw [hw2]; exact NBox.new p hbp.symm)
    rw [← hw2] at hst2
    have HS2 := hide' (HS1.out.trans hst2)
    have HWB2 := hide' (HWB.out.keep hst2)
    clear hp hst2 HWB HS1
    go_upto_region 6 with fail
    rw [← hw2, ← hbp]
    clear hw2 hbp r0 r1 r2 r3 r4 r5 r6
    have HWB := HWB2
    clear HWB2
    obtain ⟨b0, b1, b2, b3, b4, b5, b6, b7, b8, _⟩ := HWB.out.db
    simp only at b0 b1 b2 b3 b4 b5 b6 b7 b8
    obtain ⟨m0, m1, m2, m3, m4, m5, m6, _⟩ := HNB.out
    obtain ⟨z0, z1, z2, _⟩ := HWB.out.box
    by_cases h0 : d = 0
    · subst h0
      have HDW : Hid (drawW L q.w q.h f 0 x y ⟨rx, ry, rw, rh⟩ l n p = cellsA L p x y l n) := hide' (by unfold drawW; rw [if_pos rfl])
      have HCC := hide' (cells33 q f (some ⟨g, 0, none⟩) sn sc L p x y la n lc l w2 HWB.out.ref (HRD.out w2 HS2.out) HSN.out.1 HSN.out.2.1 HOK.out HOP.out (HCR.out w2 HS2.out) (by have := HSN.out.2.2; omega) HXY.out.1 HXY.out.2)
      go_wp2_with fail
      refine HCC.out.mono ?_
      rintro _ w3 ⟨q2, rfl, hs, hr, hw, hh, ho⟩
      have HW3 := hide' (HWB.out.keep hs)
      have HR3 := hide' hr
      have HWH := hide' (show q2.w = q.w ∧ q2.h = q.h from ⟨hw, hh⟩)
      have HO3 : Hid (q2.b = q.b ∨ (A < q2.b ∧ B < q2.b)) := hide' (by
        rcases ho with e | e
        · exact .inl e
        · have h1 := World.block_lt_of_cell? _ _ HWB.out.box.1
          have h2 := World.block_lt_of_cell? _ _ HWB.out.res.1
          simp only at h1 h2
          exact .inr ⟨by omega, by omega⟩)
      clear hs hr hw hh ho HWB HCC z0 z1 z2 b0 b1 b2 b3 b4 b5 b6 b7 b8 m0 m1 m2 m3 m4 m5 m6
      obtain ⟨z0, z1, z2, z3, z4, z5⟩ := HW3.out.box
      obtain ⟨_, _, _, y0, y1, y2⟩ := HW3.out.res
      have hgl : q2.g3.l = .slice (some ⟨q2.b, 0, none⟩) q2.n q2.cap := rfl
      have HNE : Hid (¬ A = B ∧ ¬ B = A) := hide' ⟨HW3.out.new.2.2.1, fun e => HW3.out.new.2.2.1 e.symm⟩
      have nab := HNE.out.1
      have nba := HNE.out.2
      have HMM : Hid (M = cellsA L p x y l n) := hide' (by rw [HM.out]; unfold drawn; rw [HII.out, HPP.out]; exact HDW.out)
      go_wp2
      exact HW3.out.hit HER.out HMM.out rfl HR3.out HWH.out.1 HWH.out.2 HO3.out rfl rfl rfl rfl rfl
    · by_cases h1 : d = 1
      · subst h1
        by_cases hn0 : 0 < n
        · obtain ⟨c, hc⟩ : ∃ c, c = l 0 := ⟨_, rfl⟩
          have HDW : Hid (drawW L q.w q.h f 1 x y ⟨rx, ry, rw, rh⟩ l n p = fillA L p ⟨rx, ry, rw, rh⟩ c) := hide' (by unfold drawW; rw [if_neg (by decide), if_pos rfl, if_pos hn0, hc])
          obtain ⟨lg, lo, e, hb⟩ := HCR.out w2 HS2.out 0 hn0
          subst e
          rw [← hc] at hb
          simp only [Nat.zero_mul, Nat.add_zero] at hb
          have hnp : (0 : Int) < (n : Nat) := by omega
          have hdn : decide ((0 : Int) < (n : Nat)) = true := decide_eq_true hnp
          have d4 : ∀ o : Obj, (w2.alloc o).cell? ⟨bd, 4, none⟩ = some (.int .i64 rx) := fun o => keep_cell ((Stay.refl _ _).alloc o) b4
          have d5 : ∀ o : Obj, (w2.alloc o).cell? ⟨bd, 5, none⟩ = some (.int .i64 ry) := fun o => keep_cell ((Stay.refl _ _).alloc o) b5
          have d6 : ∀ o : Obj, (w2.alloc o).cell? ⟨bd, 6, none⟩ = some (.int .i64 rw) := fun o => keep_cell ((Stay.refl _ _).alloc o) b6
          have d7 : ∀ o : Obj, (w2.alloc o).cell? ⟨bd, 7, none⟩ = some (.int .i64 rh) := fun o => keep_cell ((Stay.refl _ _).alloc o) b7
          have d8 : ∀ o : Obj, (w2.alloc o).cell? ⟨bd, 8, none⟩ = some (.slice (some ⟨lg, lo, none⟩) n lc) := fun o => keep_cell ((Stay.refl _ _).alloc o) b8
          have n0 : ∀ o : Obj, (w2.alloc o).cell? ⟨bp, 0, none⟩ = some (.int .i64 p.id) := fun o => keep_cell ((Stay.refl _ _).alloc o) m0
          have n1 : ∀ o : Obj, (w2.alloc o).cell? ⟨bp, 1, none⟩ = some (.int .i64 p.env) := fun o => keep_cell ((Stay.refl _ _).alloc o) m1
          have n2 : ∀ o : Obj, (w2.alloc o).cell? ⟨bp, 2, none⟩ = some (.int .i64 p.x) := fun o => keep_cell ((Stay.refl _ _).alloc o) m2
          have n3 : ∀ o : Obj, (w2.alloc o).cell? ⟨bp, 3, none⟩ = some (.int .i64 p.y) := fun o => keep_cell ((Stay.refl _ _).alloc o) m3
          have n4 : ∀ o : Obj, (w2.alloc o).cell? ⟨bp, 4, none⟩ = some (.int .i64 p.w) := fun o => keep_cell ((Stay.refl _ _).alloc o) m4
          have n5 : ∀ o : Obj, (w2.alloc o).cell? ⟨bp, 5, none⟩ = some (.int .i64 p.h) := fun o => keep_cell ((Stay.refl _ _).alloc o) m5
          have n6 : ∀ o : Obj, (w2.alloc o).cell? ⟨bp, 6, none⟩ = some (.bool p.hid) := fun o => keep_cell ((Stay.refl _ _).alloc o) m6
          have x0 : ∀ o : Obj, (w2.alloc o).cell? ⟨A, 0, none⟩ = some (.int .i64 q.g3.w) := fun o => keep_cell ((Stay.refl _ _).alloc o) z0
          have x1 : ∀ o : Obj, (w2.alloc o).cell? ⟨A, 1, none⟩ = some (.int .i64 q.g3.h) := fun o => keep_cell ((Stay.refl _ _).alloc o) z1
          have x2 : ∀ o : Obj, (w2.alloc o).cell? ⟨A, 2, none⟩ = some (q.g3.l) := fun o => keep_cell ((Stay.refl _ _).alloc o) z2
          have c0 : ∀ o : Obj, (w2.alloc o).cell? ⟨lg, lo, none⟩ = some (.int .i32 c.r) := fun o => keep_cell ((Stay.refl _ _).alloc o) hb.c0
          have c1 : ∀ o : Obj, (w2.alloc o).cell? ⟨lg, lo + 1, none⟩ = some (.int .i64 c.fg) := fun o => keep_cell ((Stay.refl _ _).alloc o) hb.c1
          have c2 : ∀ o : Obj, (w2.alloc o).cell? ⟨lg, lo + 2, none⟩ = some (.int .i64 c.bg) := fun o => keep_cell ((Stay.refl _ _).alloc o) hb.c2
          have c3 : ∀ o : Obj, (w2.alloc o).cell? ⟨lg, lo + 3, none⟩ = some (.int .i64 c.fl) := fun o => keep_cell ((Stay.refl _ _).alloc o) hb.c3
          clear hb hc
          have HFF := hide' (fun W (hs : Stay (fun _ => False) w2 W) => fill34 q f (some ⟨g, 0, none⟩) sn sc L p ⟨rx, ry, rw, rh⟩ c W (HWB.out.keep hs).ref (HRD.out W (HS2.out.trans hs)) HSN.out.1 HSN.out.2.1 HOK.out HOP.out)
          simp only at HFF
          go_wp2_with fail
          have HWB2 := hide' (HWB.out.keep ((Stay.refl (fun _ => False) w2).alloc (.cells #[.int .i32 c.r, .int .i64 c.fg, .int .i64 c.bg, .int .i64 c.fl] 53)))
          clear HWB
          have HWB := HWB2
          clear HWB2
          refine (HFF.out _ ((Stay.refl _ _).alloc _)).mono ?_
          rintro _ w3 ⟨q2, rfl, hs, hr, hw, hh, ho⟩
          have HW3 := hide' (HWB.out.keep hs)
          have HR3 := hide' hr
          have HWH := hide' (show q2.w = q.w ∧ q2.h = q.h from ⟨hw, hh⟩)
          have HO3 : Hid (q2.b = q.b ∨ (A < q2.b ∧ B < q2.b)) := hide' (by
            rcases ho with e | e
            · exact .inl e
            · have h1 := World.block_lt_of_cell? _ _ HWB.out.box.1
              have h2 := World.block_lt_of_cell? _ _ HWB.out.res.1
              simp only at h1 h2
              exact .inr ⟨by omega, by omega⟩)
          clear hs hr hw hh ho HWB HFF z0 z1 z2 b0 b1 b2 b3 b4 b5 b6 b7 b8 m0 m1 m2 m3 m4 m5 m6 d4 d5 d6 d7 d8 n0 n1 n2 n3 n4 n5 n6 x0 x1 x2 c0 c1 c2 c3
          obtain ⟨z0, z1, z2, z3, z4, z5⟩ := HW3.out.box
          obtain ⟨_, _, _, y0, y1, y2⟩ := HW3.out.res
          have hgl : q2.g3.l = .slice (some ⟨q2.b, 0, none⟩) q2.n q2.cap := rfl
          have HNE : Hid (¬ A = B ∧ ¬ B = A) := hide' ⟨HW3.out.new.2.2.1, fun e => HW3.out.new.2.2.1 e.symm⟩
          have nab := HNE.out.1
          have nba := HNE.out.2
          have HMM : Hid (M = fillA L p ⟨rx, ry, rw, rh⟩ c) := hide' (by rw [HM.out]; unfold drawn; rw [HII.out, HPP.out]; exact HDW.out)
          go_wp2
          exact HW3.out.hit HER.out HMM.out rfl HR3.out HWH.out.1 HWH.out.2 HO3.out rfl rfl rfl rfl rfl
        · have hnn : n = 0 := by omega
          subst hnn
          have HDW : Hid (drawW L q.w q.h f 1 x y ⟨rx, ry, rw, rh⟩ l 0 p = fillA L p ⟨rx, ry, rw, rh⟩ Cl.zero) := hide' (by unfold drawW; rw [if_neg (by decide), if_pos rfl, if_neg hn0])
          have d4 : ∀ o : Obj, (w2.alloc o).cell? ⟨bd, 4, none⟩ = some (.int .i64 rx) := fun o => keep_cell ((Stay.refl _ _).alloc o) b4
          have d5 : ∀ o : Obj, (w2.alloc o).cell? ⟨bd, 5, none⟩ = some (.int .i64 ry) := fun o => keep_cell ((Stay.refl _ _).alloc o) b5
          have d6 : ∀ o : Obj, (w2.alloc o).cell? ⟨bd, 6, none⟩ = some (.int .i64 rw) := fun o => keep_cell ((Stay.refl _ _).alloc o) b6
          have d7 : ∀ o : Obj, (w2.alloc o).cell? ⟨bd, 7, none⟩ = some (.int .i64 rh) := fun o => keep_cell ((Stay.refl _ _).alloc o) b7
          have d8 : ∀ o : Obj, (w2.alloc o).cell? ⟨bd, 8, none⟩ = some (.slice la 0 lc) := fun o => keep_cell ((Stay.refl _ _).alloc o) b8
          have n0 : ∀ o : Obj, (w2.alloc o).cell? ⟨bp, 0, none⟩ = some (.int .i64 p.id) := fun o => keep_cell ((Stay.refl _ _).alloc o) m0
          have n1 : ∀ o : Obj, (w2.alloc o).cell? ⟨bp, 1, none⟩ = some (.int .i64 p.env) := fun o => keep_cell ((Stay.refl _ _).alloc o) m1
          have n2 : ∀ o : Obj, (w2.alloc o).cell? ⟨bp, 2, none⟩ = some (.int .i64 p.x) := fun o => keep_cell ((Stay.refl _ _).alloc o) m2
          have n3 : ∀ o : Obj, (w2.alloc o).cell? ⟨bp, 3, none⟩ = some (.int .i64 p.y) := fun o => keep_cell ((Stay.refl _ _).alloc o) m3
          have n4 : ∀ o : Obj, (w2.alloc o).cell? ⟨bp, 4, none⟩ = some (.int .i64 p.w) := fun o => keep_cell ((Stay.refl _ _).alloc o) m4
          have n5 : ∀ o : Obj, (w2.alloc o).cell? ⟨bp, 5, none⟩ = some (.int .i64 p.h) := fun o => keep_cell ((Stay.refl _ _).alloc o) m5
          have n6 : ∀ o : Obj, (w2.alloc o).cell? ⟨bp, 6, none⟩ = some (.bool p.hid) := fun o => keep_cell ((Stay.refl _ _).alloc o) m6
          have x0 : ∀ o : Obj, (w2.alloc o).cell? ⟨A, 0, none⟩ = some (.int .i64 q.g3.w) := fun o => keep_cell ((Stay.refl _ _).alloc o) z0
          have x1 : ∀ o : Obj, (w2.alloc o).cell? ⟨A, 1, none⟩ = some (.int .i64 q.g3.h) := fun o => keep_cell ((Stay.refl _ _).alloc o) z1
          have x2 : ∀ o : Obj, (w2.alloc o).cell? ⟨A, 2, none⟩ = some (q.g3.l) := fun o => keep_cell ((Stay.refl _ _).alloc o) z2
          have HFF := hide' (fun W (hs : Stay (fun _ => False) w2 W) => fill34 q f (some ⟨g, 0, none⟩) sn sc L p ⟨rx, ry, rw, rh⟩ Cl.zero W (HWB.out.keep hs).ref (HRD.out W (HS2.out.trans hs)) HSN.out.1 HSN.out.2.1 HOK.out HOP.out)
          have HFG := HFF
          unfold Cl.zero at HFG
          simp only at HFG
          clear hn0
          go_wp2_with fail
          have HWB2 := hide' (HWB.out.keep ((Stay.refl (fun _ => False) w2).alloc (.cells #[.int .i32 0, .int .i64 0, .int .i64 0, .int .i64 0] 53)))
          clear HWB
          have HWB := HWB2
          clear HWB2
          refine (HFG.out _ ((Stay.refl _ _).alloc _)).mono ?_
          rintro _ w3 ⟨q2, rfl, hs, hr, hw, hh, ho⟩
          have HW3 := hide' (HWB.out.keep hs)
          have HR3 := hide' hr
          have HWH := hide' (show q2.w = q.w ∧ q2.h = q.h from ⟨hw, hh⟩)
          have HO3 : Hid (q2.b = q.b ∨ (A < q2.b ∧ B < q2.b)) := hide' (by
            rcases ho with e | e
            · exact .inl e
            · have h1 := World.block_lt_of_cell? _ _ HWB.out.box.1
              have h2 := World.block_lt_of_cell? _ _ HWB.out.res.1
              simp only at h1 h2
              exact .inr ⟨by omega, by omega⟩)
          clear hs hr hw hh ho HWB HFF HFG z0 z1 z2 b0 b1 b2 b3 b4 b5 b6 b7 b8 m0 m1 m2 m3 m4 m5 m6 d4 d5 d6 d7 d8 n0 n1 n2 n3 n4 n5 n6 x0 x1 x2
          obtain ⟨z0, z1, z2, z3, z4, z5⟩ := HW3.out.box
          obtain ⟨_, _, _, y0, y1, y2⟩ := HW3.out.res
          have hgl : q2.g3.l = .slice (some ⟨q2.b, 0, none⟩) q2.n q2.cap := rfl
          have HNE : Hid (¬ A = B ∧ ¬ B = A) := hide' ⟨HW3.out.new.2.2.1, fun e => HW3.out.new.2.2.1 e.symm⟩
          have nab := HNE.out.1
          have nba := HNE.out.2
          have HMM : Hid (M = fillA L p ⟨rx, ry, rw, rh⟩ Cl.zero) := hide' (by rw [HM.out]; unfold drawn; rw [HII.out, HPP.out]; exact HDW.out)
          go_wp2
          exact HW3.out.hit HER.out HMM.out rfl HR3.out HWH.out.1 HWH.out.2 HO3.out rfl rfl rfl rfl rfl
      · have HDW : Hid (drawW L q.w q.h f d x y ⟨rx, ry, rw, rh⟩ l n p = copyA L p ⟨rx, ry, rw, rh⟩ x y q.w q.h f) := hide' (by unfold drawW; rw [if_neg h0, if_neg h1])
        have e0 := beq_f h0
        have e1 := beq_f h1
        have HCC := hide' (copy35 q f (some ⟨g, 0, none⟩) sn sc L p ⟨rx, ry, rw, rh⟩ x y w2 HWB.out.ref (HRD.out w2 HS2.out) HSN.out.1 HSN.out.2.1 HOK.out HOP.out)
        simp only at HCC
        go_wp2_with fail
        refine HCC.out.mono ?_
        rintro _ w3 ⟨q2, rfl, hs, hr, hw, hh, ho⟩
        have HW3 := hide' (HWB.out.keep hs)
        have HR3 := hide' hr
        have HWH := hide' (show q2.w = q.w ∧ q2.h = q.h from ⟨hw, hh⟩)
        have HO3 : Hid (q2.b = q.b ∨ (A < q2.b ∧ B < q2.b)) := hide' (by
          rcases ho with e | e
          · exact .inl e
          · have h1 := World.block_lt_of_cell? _ _ HWB.out.box.1
            have h2 := World.block_lt_of_cell? _ _ HWB.out.res.1
            simp only at h1 h2
            exact .inr ⟨by omega, by omega⟩)
        clear hs hr hw hh ho HWB HCC z0 z1 z2 b0 b1 b2 b3 b4 b5 b6 b7 b8 m0 m1 m2 m3 m4 m5 m6
        obtain ⟨z0, z1, z2, z3, z4, z5⟩ := HW3.out.box
        obtain ⟨_, _, _, y0, y1, y2⟩ := HW3.out.res
        have hgl : q2.g3.l = .slice (some ⟨q2.b, 0, none⟩) q2.n q2.cap := rfl
        have HNE : Hid (¬ A = B ∧ ¬ B = A) := hide' ⟨HW3.out.new.2.2.1, fun e => HW3.out.new.2.2.1 e.symm⟩
        have nab := HNE.out.1
        have nba := HNE.out.2
        have HMM : Hid (M = copyA L p ⟨rx, ry, rw, rh⟩ x y q.w q.h f) := hide' (by rw [HM.out]; unfold drawn; rw [HII.out, HPP.out]; exact HDW.out)
        go_wp2
        exact HW3.out.hit HER.out HMM.out rfl HR3.out HWH.out.1 HWH.out.2 HO3.out rfl rfl rfl rfl rfl
  · have hxp : pl = -1 := by rw [HPI.out, if_neg hlt]
    subst hxp
    have HPP : Hid (L[i]? = none) := hide' (List.getElem?_eq_none (by have := HSN.out.1; omega))
    have HER : Hid (E = 5) := hide' (by rw [HE.out]; unfold errW; rw [HII.out, HPP.out])
    have HMM : Hid (M = []) := hide' (by rw [HM.out]; unfold drawn; rw [HII.out, HPP.out])
    obtain ⟨z0, z1, z2, _⟩ := HWB.out.box
    obtain ⟨_, _, _, y0, y1, y2⟩ := HWB.out.res
    have hgl : q.g3.l = .slice (some ⟨q.b, 0, none⟩) q.n q.cap := rfl
    go_wp2
    exact HWB.out.miss rfl rfl rfl rfl HMM.out HER.out rfl

end Go.Proofs.Yticccknocjnkpaa
