/-
  Rows of a grid, the same cells, what is shown: walked. No conditions.
-/
import Derived.Test.YticccknocjnkpaaE1
import Derived.Test.YticccknocjnkpaaD8
namespace Go.Proofs.Yticccknocjnkpaa
open Go.RowKit

/-- A row that is new. -/
def NewRow (m : Nat) (f : Nat → Cl) (w : World) (e : Ending) (w' : World) : Prop := ∃ g cap, e = .returned (.slice (some ⟨g, 0, none⟩) m cap) ∧ Stay (fun _ => False) w w' ∧ Pix w' g m f ∧ w.heap.size ≤ g

theorem eql26_nil (a : Addr) (m c : Nat) (w : World) : (binOp .eql 33 (.slice (some a) m c) (.slice none 0 0)).run Try.prog w = .ok (.bool false) w := by
  simp only [binOp]
  simp [run_equal_slice_nil w 33 53 (some a) m c Try.underlying33]

attribute [local go_sem] eql26_nil

theorem clone61 (b o m c : Nat) (f : Nat → Cl) (w : World) (hs : IsRowS w 4 (.slice (some ⟨b, o, none⟩) m c) m (seg m f)) (h0 : 0 < m) (hm : m ≤ 1000) : Calls Try.prog 61 #[.slice (some ⟨b, o, none⟩) m c] w (NewRow m f w) := by
  have HO := hide' (owns_newS w #[] 53 4 0 rfl (by decide))
  have HSRC := hide' (hs.stay ((Stay.refl (fun _ => False) w).alloc (.cells #[] 53)) (fun _ _ h => h))
  have HS := hide' ((Stay.refl (fun _ => False) w).alloc (.cells #[] 53))
  clear hs
  go_enter Try.func61, Try.ntmps61
  go_wp2_with (at_builtin; refine appS rfl _ _ 33 rfl Try.underlying33 cell_info rfl (by decide) (by decide) HO.out rfl HSRC.out rfl (seg_one _ _) (by omega) (by simp) ?_; intro v W1 ho hst hb; have HO2 := hide' ho; have HT2 := hide' hst; clear ho hst hb)
  go_wp2
  go_ret
  obtain ⟨g, cp, rfl⟩ := own_shape HO2.out h0
  have h2 := HO2.out
  simp only [Nat.zero_add, List.nil_append] at h2
  exact ⟨g, cp, rfl, HS.out.trans' (b := w.heap.size) (HT2.out.mono fun k _ hk => by cases hk; rfl) (Nat.le_refl _), Pix.of_owns h2, (h2.lt g rfl).1⟩

theorem row38_in (G : Gr) (f : Nat → Cl) (Y : Nat) (w : World) (hG : GridAt w G f) (hY : Y < G.h) : Calls Try.prog 38 #[.pointer (some ⟨G.g, 0, none⟩), .int .i64 (Y : Nat)] w (NewRow G.w (fun X => f (Y * G.w + X)) w) := by
  have HG := hide' hG
  have HW := hide' (whole60 G f w hG)
  have HI := hide' (fun w => in47 (⟨0, 0, (G.w : Nat), (G.h : Nat)⟩ : R) 0 Y w i64_zero i64_zero (i64_nat hG.w2) (i64_nat hG.h2) i64_zero (i64_nat (by have := hG.h2; omega)))
  have hi : inB (⟨0, 0, (G.w : Nat), (G.h : Nat)⟩ : R) 0 Y = true := ins_nat (X := 0) (Y := Y) (w := G.w) (h := G.h) (by have := hG.w1; omega) hY
  rw [hi] at HI
  have h1 := hG.w1
  have h2 := hG.w2
  have hidx := idx_lt (w := G.w) (h := G.h) (x := G.w - 1) (y := Y) (by omega) hY
  have HR : Hid (∀ W, Stay (fun _ => False) w W → W.cell? ⟨G.g, 0, none⟩ = some (.slice (some ⟨G.br, 0, none⟩) G.h G.h) ∧ W.cell? ⟨G.br, Y, none⟩ = some (.slice (some ⟨G.bc, Y * G.w * 4, none⟩) G.w (G.w * G.h - Y * G.w)) ∧ Calls Try.prog 61 #[.slice (some ⟨G.bc, Y * G.w * 4, none⟩) G.w (G.w * G.h - Y * G.w)] W (NewRow G.w (fun X => f (Y * G.w + X)) W)) := fun W hs =>
    ⟨(hG.keep hs).top, (hG.keep hs).rows Y hY, clone61 _ _ _ _ _ W ((hG.keep hs).pix.row (Y * G.w) G.w _ (by omega)) (by omega) (by omega)⟩
  have i2 : (Y : Int) < (G.h : Nat) := by omega
  obtain ⟨o, ho⟩ : ∃ o, o = Y * G.w * 4 := ⟨_, rfl⟩
  obtain ⟨cp, hcp⟩ : ∃ o, o = G.w * G.h - Y * G.w := ⟨_, rfl⟩
  rw [← ho, ← hcp] at HR
  clear hG hi h1 h2 hidx ho hcp
  go_enter Try.func38, Try.ntmps38
  go_wp2_with fail
  refine HW.out.mono ?_
  rintro e w1 ⟨rfl, hs⟩
  have HS1 := hide' hs
  clear hs
  go_wp2_with fail
  refine (HI.out _).mono ?_
  rintro e w2 ⟨rfl, hs⟩
  have HS2 := hide' (HS1.out.trans hs)
  clear hs HS1
  obtain ⟨r1, r2, r3⟩ := HR.out _ HS2.out
  have HR3 := hide' r3
  clear r3 HR
  go_wp2_with fail
  refine HR3.out.mono ?_
  rintro e w3 ⟨g, cap, rfl, h1, h2, h3⟩
  have HE : Hid (Stay (fun _ => False) w w3 ∧ Pix w3 g G.w (fun X => f (Y * G.w + X)) ∧ w.heap.size ≤ g) := ⟨HS2.out.trans h1, h2, Nat.le_trans HS2.out.size h3⟩
  clear h1 h2 h3
  go_wp2
  go_ret
  exact ⟨g, cap, rfl, HE.out⟩

theorem row38_out (G : Gr) (f : Nat → Cl) (y : Int) (w : World) (hG : GridAt w G f) (hy : I64 y) (hn : inB (⟨0, 0, (G.w : Nat), (G.h : Nat)⟩ : R) 0 y = false) : Calls Try.prog 38 #[.pointer (some ⟨G.g, 0, none⟩), .int .i64 y] w (Gives (.slice none 0 0) w) := by
  have HW := hide' (whole60 G f w hG)
  have HI := hide' (fun w => in47 (⟨0, 0, (G.w : Nat), (G.h : Nat)⟩ : R) 0 y w i64_zero i64_zero (i64_nat hG.w2) (i64_nat hG.h2) i64_zero hy)
  rw [hn] at HI
  clear hG hy hn
  go_enter Try.func38, Try.ntmps38
  go_wp2_with fail
  refine HW.out.mono ?_
  rintro e w1 ⟨rfl, hs⟩
  have HS1 := hide' hs
  clear hs
  go_wp2_with fail
  refine (HI.out _).mono ?_
  rintro e w2 ⟨rfl, hs⟩
  have HS2 := hide' (HS1.out.trans hs)
  clear hs HS1
  go_wp2
  go_ret
  exact ⟨rfl, HS2.out⟩

theorem neqC_op {a : Act} {x y : Operand} {w : World} {d : Option Tmp} {ty : TypeId} (b : Bool) (p q : Cl) (hx : a.eval x = .agg #[.int .i32 p.r, .int .i64 p.fg, .int .i64 p.bg, .int .i64 p.fl]) (hy : a.eval y = .agg #[.int .i32 q.r, .int .i64 q.fg, .int .i64 q.bg, .int .i64 q.fl]) (hb : (!decide (p = q)) = b) :
    (execOp a.eval (opr d (.binOp .neq 53 x y 53) ty)).run Try.prog w = .ok (.value (.bool b)) w := by
  subst hb
  obtain ⟨p0, p1, p2, p3⟩ := p
  obtain ⟨q0, q1, q2, q3⟩ := q
  simp only [opr, execOp, hx, hy]
  by_cases h0 : p0 = q0 <;> by_cases h1 : p1 = q1 <;> by_cases h2 : p2 = q2 <;> by_cases h3 : p3 = q3 <;> (go_simp; try simp [h0, h1, h2, h3])

theorem eqlC_op {a : Act} {x y : Operand} {w : World} {d : Option Tmp} {ty : TypeId} (b : Bool) (p q : Cl) (hx : a.eval x = .agg #[.int .i32 p.r, .int .i64 p.fg, .int .i64 p.bg, .int .i64 p.fl]) (hy : a.eval y = .agg #[.int .i32 q.r, .int .i64 q.fg, .int .i64 q.bg, .int .i64 q.fl]) (hb : decide (p = q) = b) :
    (execOp a.eval (opr d (.binOp .eql 53 x y 53) ty)).run Try.prog w = .ok (.value (.bool b)) w := by
  subst hb
  obtain ⟨p0, p1, p2, p3⟩ := p
  obtain ⟨q0, q1, q2, q3⟩ := q
  simp only [opr, execOp, hx, hy]
  by_cases h0 : p0 = q0 <;> by_cases h1 : p1 = q1 <;> by_cases h2 : p2 = q2 <;> by_cases h3 : p3 = q3 <;> (go_simp; try simp [h0, h1, h2, h3])

theorem CAt.box {w : World} {b o : Nat} {c : Cl} (h : CAt w b o c) : BoxCAt w b o c := ⟨h.four.1, h.four.2.1, h.four.2.2.1, h.four.2.2.2⟩

theorem same37 (b1 o1 c1 b2 o2 c2 m m2 : Nat) (f : Nat → Cl) (w : World) (h1 : ∀ i, i < m → CAt w b1 (o1 + i * 4) (f i)) (h2 : ∀ i, i < m → CAt w b2 (o2 + i * 4) (f i)) (hm2 : m2 = m) (hm : m ≤ 1000) :
    Calls Try.prog 37 #[.slice (some ⟨b1, o1, none⟩) m c1, .slice (some ⟨b2, o2, none⟩) m2 c2] w (Gives (.bool true) w) := by
  subst hm2
  have HB : Hid (∀ k, k < m2 → ∀ W, Stay (fun _ => False) w W → BoxCAt W b1 (o1 + k * 4) (f k) ∧ BoxCAt W b2 (o2 + k * 4) (f k)) := fun k hk W hs => ⟨((h1 k hk).stay hs (fun h => h)).box, ((h2 k hk).stay hs (fun h => h)).box⟩
  have HS := hide' (Stay.refl (fun _ => False) w)
  have hmi : (m2 : Int) ≤ 1000 := by omega
  clear h1 h2
  go_enter Try.func37, Try.ntmps37
  go_wp2
  go_loopg [5] m2 (fun g i wr => ∃ k : Nat, k ≤ m2 ∧ g = m2 - k ∧ i = .int .i64 (k : Int) ∧ Hid (Stay (fun _ => False) w wr))
  case atStart => exact ⟨0, Nat.zero_le _, rfl, rfl, HS⟩
  case round =>
    obtain ⟨k, hk, rfl, rfl, HSr⟩ := hrel
    by_cases hlt : k < m2
    · have kn : (k : Int) < m2 := by omega
      have hB2 := HB.out k hlt wr.drew HSr.out.drew
      go_upto_region 6 with fail
      have hS : (fun w' => Stay (fun _ => False) w w' ∧ BoxCAt w' b1 (o1 + k * 4) (f k) ∧ BoxCAt w' b2 (o2 + k * 4) (f k)) wr.drew := ⟨HSr.out.drew, hB2.1, hB2.2⟩
      refine wp_region_mix (fun w' => Stay (fun _ => False) w w' ∧ BoxCAt w' b1 (o1 + k * 4) (f k) ∧ BoxCAt w' b2 (o2 + k * 4) (f k)) [(0, true), (1, true), (2, true), (3, true), (4, true), (5, true), (6, true), (7, true), (8, true)] (by kernel_rfl) (by kernel_rfl) (fun _ d _ _ _ h => by cases d <;> exact h) hS ?_
      refine mix_begin (fun K0 hK0 => ?_)
      refine mix_take hK0 (some 17) (.move (.tmp 0)) 33 _ (by kernel_rfl) (by kernel_rfl) (fun w' hS' => by simp only [opr]; go_simp; try with_reducible rfl) (fun K1 hK1 => ?_)
      clear hK0 K0
      simp only [Act.put, List.setIfInBounds_toArray, List.set_cons_zero, List.set_cons_succ]
      refine mix_take hK1 (some 18) (.move (.tmp 5)) 3 _ (by kernel_rfl) (by kernel_rfl) (fun w' hS' => by simp only [opr]; go_simp; try with_reducible rfl) (fun K2 hK2 => ?_)
      clear hK1 K1
      simp only [Act.put, List.setIfInBounds_toArray, List.set_cons_zero, List.set_cons_succ]
      refine mix_take hK2 (some 19) (.indexAddr 33 (.tmp 17) (.tmp 18)) 0 _ (by kernel_rfl) (by kernel_rfl) (fun w' hS' => by simp only [opr]; go_simp; try with_reducible rfl) (fun K3 hK3 => ?_)
      clear hK2 K2
      simp only [Act.put, List.setIfInBounds_toArray, List.set_cons_zero, List.set_cons_succ]
      refine mix_take hK3 (some 20) (.load 53 (.tmp 19)) 53 _ (by kernel_rfl) (by kernel_rfl) (fun w' hS' => by first | exact run_load_BoxCAt rfl rfl hS'.2.1 | exact run_load_BoxCAt rfl rfl hS'.2.2) (fun K4 hK4 => ?_)
      clear hK3 K3
      simp only [Act.put, List.setIfInBounds_toArray, List.set_cons_zero, List.set_cons_succ]
      refine mix_take hK4 (some 21) (.move (.tmp 1)) 33 _ (by kernel_rfl) (by kernel_rfl) (fun w' hS' => by simp only [opr]; go_simp; try with_reducible rfl) (fun K5 hK5 => ?_)
      clear hK4 K4
      simp only [Act.put, List.setIfInBounds_toArray, List.set_cons_zero, List.set_cons_succ]
      refine mix_take hK5 (some 22) (.move (.tmp 5)) 3 _ (by kernel_rfl) (by kernel_rfl) (fun w' hS' => by simp only [opr]; go_simp; try with_reducible rfl) (fun K6 hK6 => ?_)
      clear hK5 K5
      simp only [Act.put, List.setIfInBounds_toArray, List.set_cons_zero, List.set_cons_succ]
      refine mix_take hK6 (some 23) (.indexAddr 33 (.tmp 21) (.tmp 22)) 0 _ (by kernel_rfl) (by kernel_rfl) (fun w' hS' => by simp only [opr]; go_simp; try with_reducible rfl) (fun K7 hK7 => ?_)
      clear hK6 K6
      simp only [Act.put, List.setIfInBounds_toArray, List.set_cons_zero, List.set_cons_succ]
      refine mix_take hK7 (some 24) (.load 53 (.tmp 23)) 53 _ (by kernel_rfl) (by kernel_rfl) (fun w' hS' => by first | exact run_load_BoxCAt rfl rfl hS'.2.1 | exact run_load_BoxCAt rfl rfl hS'.2.2) (fun K8 hK8 => ?_)
      clear hK7 K7
      simp only [Act.put, List.setIfInBounds_toArray, List.set_cons_zero, List.set_cons_succ]
      refine mix_take hK8 (some 25) (.binOp BinOp.neq 53 (.tmp 20) (.tmp 24) 53) 4 _ (by kernel_rfl) (by kernel_rfl) (fun w' hS' => by exact neqC_op false _ _ rfl rfl (by simp)) (fun K9 hK9 => ?_)
      clear hK8 K8
      simp only [Act.put, List.setIfInBounds_toArray, List.set_cons_zero, List.set_cons_succ]
      refine hK9 _ _ (mix_nil ?_)
      clear hK9 K9
      have HS2 := hide' hS.1
      clear hS hB2 HSr
      go_wp2
      go_roundg (m2 - (k + 1))
      case rel => exact ⟨k + 1, by omega, rfl, by go_num, HS2⟩
      case measure => omega
    · have d1 : decide ((k : Int) < m2) = false := by simp; omega
      go_wp2
      go_ret
      exact ⟨rfl, HSr.out⟩

/-- What a grid and the document's grid are, while one looks whether they show the same. -/
def Shown (w : World) (G : Gr) (f : Nat → Cl) (q : Rf) (g : Nat → Cl) (w' : World) : Prop := Stay (fun _ => False) w w' ∧ BoxG w' w.heap.size q.g3 ∧ GridAt w' G f ∧ RefAt w' q g

theorem Shown.keep {w W w1 : World} {G : Gr} {f : Nat → Cl} {q : Rf} {g : Nat → Cl} (h : Shown w G f q g W) (hs : Stay (fun _ => False) W w1) : Shown w G f q g w1 := ⟨h.1.trans hs, h.2.1.keep hs, h.2.2.1.keep hs, h.2.2.2.keep hs⟩

set_option maxRecDepth 100000 in
theorem shows14 (G : Gr) (f : Nat → Cl) (q : Rf) (g : Nat → Cl) (w : World) (hG : GridAt w G f) (hq : RefAt w q g) (hw : q.w = G.w) (hh : q.h = G.h) (he : ∀ X Y : Nat, X < G.w → Y < G.h → f (Y * G.w + X) = g (Y * G.w + X)) :
    Calls Try.prog 14 #[.pointer (some ⟨G.g, 0, none⟩), .agg #[.int .i64 q.g3.w, .int .i64 q.g3.h, q.g3.l]] w (Gives (.int .i64 0) w) := by
  have hs0 : Stay (fun _ => False) w (w.alloc (.cells #[.int .i64 q.g3.w, .int .i64 q.g3.h, q.g3.l] 35)) := (Stay.refl _ _).alloc _
  have HX : Hid (Shown w G f q g (w.alloc (.cells #[.int .i64 q.g3.w, .int .i64 q.g3.h, q.g3.l] 35))) := ⟨hs0, BoxG.new q.g3 rfl, hG.keep hs0, hq.keep hs0⟩
  have HZ : Hid (∀ W, Shown w G f q g W → Calls Try.prog 36 #[.pointer (some ⟨G.g, 0, none⟩)] W (Gives (.tuple #[.int .i64 (G.w : Nat), .int .i64 (G.h : Nat)]) W)) := fun W h => size36 G f W h.2.2.1
  have HSZ := hide' (show 1 ≤ G.w ∧ G.w ≤ 512 ∧ G.h ≤ 512 ∧ q.n = G.w * G.h ∧ q.n ≤ q.cap ∧ q.n ≤ 262144 from ⟨hG.w1, hG.w2, hG.h2, by rw [hq.n1, hw, hh], hq.n2, hq.big⟩)
  have HROW0 : Hid (∀ Y W, Y < G.h → Shown w G f q g W → Calls Try.prog 38 #[.pointer (some ⟨G.g, 0, none⟩), .int .i64 (Y : Nat)] W (NewRow G.w (fun X => f (Y * G.w + X)) W)) := fun Y W hY h => row38_in G f Y W h.2.2.1 hY
  have HSAME0 : Hid (∀ Y W gr capr m2 c2, Y < G.h → Shown w G f q g W → Pix W gr G.w (fun X => f (Y * G.w + X)) → m2 = G.w → Calls Try.prog 37 #[.slice (some ⟨gr, 0, none⟩) G.w capr, .slice (some ⟨q.b, Y * G.w * 4, none⟩) m2 c2] W (Gives (.bool true) W)) := fun Y W gr capr m2 c2 hY h hp hm =>
    same37 gr 0 capr q.b (Y * G.w * 4) c2 G.w m2 (fun X => f (Y * G.w + X)) W (fun i hi => by rw [Nat.zero_add]; exact hp i hi) (fun i hi => by
      have := h.2.2.2.pix (Y * G.w + i) (by rw [HSZ.out.2.2.2.1]; exact idx_lt hi hY)
      rw [← Nat.add_mul]
      rw [he i Y hi hY]
      exact this) hm (by have := HSZ.out; omega)
  have ew : (q.w : Int) = (G.w : Nat) := by omega
  have eh : (q.h : Int) = (G.h : Nat) := by omega
  have hw2 : (G.w : Int) ≤ 512 := by have := hG.w2; omega
  have hh2 : (G.h : Int) ≤ 512 := by have := hG.h2; omega
  clear hs0 hG hq hw hh he
  go_enter Try.func14, Try.ntmps14
  go_upto_region 1 with fail
  obtain ⟨W, hW⟩ : ∃ W, W = (w.alloc (.cells #[.int .i64 q.g3.w, .int .i64 q.g3.h, q.g3.l] 35)) := ⟨_, rfl⟩
  rw [← hW] at HX
  rw [← hW]
  clear hW
  go_wp2_with fail
  refine (HZ.out _ HX.out).mono ?_
  rintro e w1 ⟨rfl, hs⟩
  have HX1 := hide' (HX.out.keep hs)
  clear hs HX HZ
  obtain ⟨a0, a1, a2, a3, a4, a5⟩ := HX1.out.2.1
  simp only [Rf.g3] at a0 a1 a2
  go_wp2_with fail
  clear a0 a1 a2 a3 a4 a5
  go_loopg [7] G.h (fun g' v wr => ∃ k : Nat, k ≤ G.h ∧ g' = G.h - k ∧ v = .int .i64 (k : Int) ∧ Hid (Shown w G f q g wr))
  case atStart => exact ⟨0, Nat.zero_le _, rfl, rfl, HX1⟩
  case round =>
    obtain ⟨k, hk, rfl, rfl, HXr⟩ := hrel
    by_cases hlt : k < G.h
    · have kn : (k : Int) < (G.h : Nat) := by omega
      have HROW := hide' (fun W h => HROW0.out k W hlt h)
      obtain ⟨lo, hlo⟩ : ∃ lo, lo = k * G.w := ⟨_, rfl⟩
      obtain ⟨hi, hhi⟩ : ∃ hi, hi = lo + G.w := ⟨_, rfl⟩
      obtain ⟨z1, z2, z3, z4, z5, z6⟩ := HSZ.out
      have hi2 : hi ≤ q.n := by
        rw [hhi, hlo, z4, ← Nat.succ_mul, Nat.mul_comm G.w G.h]
        exact Nat.mul_le_mul_right G.w hlt
      have HSAME : Hid (∀ gr capr c2 W, Shown w G f q g W → Pix W gr G.w (fun X => f (k * G.w + X)) → Calls Try.prog 37 #[.slice (some ⟨gr, 0, none⟩) G.w capr, .slice (some ⟨q.b, lo * 4, none⟩) (hi - lo) c2] W (Gives (.bool true) W)) := fun gr capr c2 W h hp => by
        rw [hlo]
        exact HSAME0.out k W gr capr _ c2 hlt h hp (by omega)
      have m0 : IntKind.i64.wrap ((k : Int) + 1) = (k : Int) + 1 := by rw [IntKind.wrap_i64]; omega
      have m2 : IntKind.i64.wrap ((k : Int) * (G.w : Int)) = (lo : Nat) := by rw [hlo, Int.natCast_mul, IntKind.wrap_i64, ← Int.natCast_mul, ← hlo]; omega
      have m3 : IntKind.i64.wrap (((k : Int) + 1) * (G.w : Int)) = (hi : Nat) := by
        rw [show ((k : Int) + 1) * (G.w : Int) = (hi : Nat) by rw [hhi, hlo]; push_cast; rw [Int.add_mul, Int.one_mul], IntKind.wrap_i64]; omega
      have l1 : (lo : Int) ≤ (hi : Nat) := by omega
      have l2 : (hi : Int) ≤ (q.cap : Nat) := by omega
      have l3 : ¬ q.cap = lo := by omega
      have l4 : lo < q.cap := by omega
      clear hlo hhi z1 z2 z3 z4 z5 z6 hi2
      go_upto_region 7 with fail
      have hS : (Shown w G f q g) wr.drew := HXr.out.keep (Stay.refl _ _).drew
      refine wp_region_mix (Shown w G f q g) [(0, true), (1, true), (3, true), (4, true), (5, true), (6, true), (7, true), (8, true), (9, true), (10, true), (11, true), (12, true), (2, false), (13, false), (14, true)] (by kernel_rfl) (by kernel_rfl) (fun _ d _ _ _ h => by cases d <;> exact h) hS ?_
      refine mix_begin (fun K0 hK0 => ?_)
      refine mix_take hK0 (some 28) (.move (.tmp 0)) 47 _ (by kernel_rfl) (by kernel_rfl) (fun w' hS' => by (obtain ⟨_, s1, _, _⟩ := hS'; obtain ⟨a0, a1, a2, a3, a4, a5⟩ := s1; simp only [Rf.g3] at a0 a1 a2; simp only [opr]; go_simp; try with_reducible rfl)) (fun K1 hK1 => ?_)
      clear hK0 K0
      simp only [Act.put, List.setIfInBounds_toArray, List.set_cons_zero, List.set_cons_succ]
      refine mix_take hK1 (some 29) (.move (.tmp 7)) 3 _ (by kernel_rfl) (by kernel_rfl) (fun w' hS' => by (obtain ⟨_, s1, _, _⟩ := hS'; obtain ⟨a0, a1, a2, a3, a4, a5⟩ := s1; simp only [Rf.g3] at a0 a1 a2; simp only [opr]; go_simp; try with_reducible rfl)) (fun K2 hK2 => ?_)
      clear hK1 K1
      simp only [Act.put, List.setIfInBounds_toArray, List.set_cons_zero, List.set_cons_succ]
      refine mix_take hK2 (some 31) (.fieldAddr 35 (.tmp 3) 2) 0 _ (by kernel_rfl) (by kernel_rfl) (fun w' hS' => by (obtain ⟨_, s1, _, _⟩ := hS'; obtain ⟨a0, a1, a2, a3, a4, a5⟩ := s1; simp only [Rf.g3] at a0 a1 a2; simp only [opr]; go_simp; try with_reducible rfl)) (fun K3 hK3 => ?_)
      clear hK2 K2
      simp only [Act.put, List.setIfInBounds_toArray, List.set_cons_zero, List.set_cons_succ]
      refine mix_take hK3 (some 32) (.load 33 (.tmp 31)) 33 _ (by kernel_rfl) (by kernel_rfl) (fun w' hS' => by (obtain ⟨_, s1, _, _⟩ := hS'; obtain ⟨a0, a1, a2, a3, a4, a5⟩ := s1; simp only [Rf.g3] at a0 a1 a2; simp only [opr]; go_simp; try with_reducible rfl)) (fun K4 hK4 => ?_)
      clear hK3 K3
      simp only [Act.put, List.setIfInBounds_toArray, List.set_cons_zero, List.set_cons_succ]
      refine mix_take hK4 (some 33) (.move (.tmp 7)) 3 _ (by kernel_rfl) (by kernel_rfl) (fun w' hS' => by (obtain ⟨_, s1, _, _⟩ := hS'; obtain ⟨a0, a1, a2, a3, a4, a5⟩ := s1; simp only [Rf.g3] at a0 a1 a2; simp only [opr]; go_simp; try with_reducible rfl)) (fun K5 hK5 => ?_)
      clear hK4 K4
      simp only [Act.put, List.setIfInBounds_toArray, List.set_cons_zero, List.set_cons_succ]
      refine mix_take hK5 (some 34) (.move (.tmp 5)) 3 _ (by kernel_rfl) (by kernel_rfl) (fun w' hS' => by (obtain ⟨_, s1, _, _⟩ := hS'; obtain ⟨a0, a1, a2, a3, a4, a5⟩ := s1; simp only [Rf.g3] at a0 a1 a2; simp only [opr]; go_simp; try with_reducible rfl)) (fun K6 hK6 => ?_)
      clear hK5 K5
      simp only [Act.put, List.setIfInBounds_toArray, List.set_cons_zero, List.set_cons_succ]
      refine mix_take hK6 (some 35) (.binOp BinOp.mul 3 (.tmp 33) (.tmp 34) 3) 3 _ (by kernel_rfl) (by kernel_rfl) (fun w' hS' => by (obtain ⟨_, s1, _, _⟩ := hS'; obtain ⟨a0, a1, a2, a3, a4, a5⟩ := s1; simp only [Rf.g3] at a0 a1 a2; simp only [opr]; go_simp; try with_reducible rfl)) (fun K7 hK7 => ?_)
      clear hK6 K6
      simp only [Act.put, List.setIfInBounds_toArray, List.set_cons_zero, List.set_cons_succ]
      refine mix_take hK7 (some 36) (.move (.tmp 7)) 3 _ (by kernel_rfl) (by kernel_rfl) (fun w' hS' => by (obtain ⟨_, s1, _, _⟩ := hS'; obtain ⟨a0, a1, a2, a3, a4, a5⟩ := s1; simp only [Rf.g3] at a0 a1 a2; simp only [opr]; go_simp; try with_reducible rfl)) (fun K8 hK8 => ?_)
      clear hK7 K7
      simp only [Act.put, List.setIfInBounds_toArray, List.set_cons_zero, List.set_cons_succ]
      refine mix_take hK8 (some 37) (.binOp BinOp.add 3 (.tmp 36) (.const (Value.int IntKind.i64 1)) 3) 3 _ (by kernel_rfl) (by kernel_rfl) (fun w' hS' => by (obtain ⟨_, s1, _, _⟩ := hS'; obtain ⟨a0, a1, a2, a3, a4, a5⟩ := s1; simp only [Rf.g3] at a0 a1 a2; simp only [opr]; go_simp; try with_reducible rfl)) (fun K9 hK9 => ?_)
      clear hK8 K8
      simp only [Act.put, List.setIfInBounds_toArray, List.set_cons_zero, List.set_cons_succ]
      refine mix_take hK9 (some 38) (.move (.tmp 5)) 3 _ (by kernel_rfl) (by kernel_rfl) (fun w' hS' => by (obtain ⟨_, s1, _, _⟩ := hS'; obtain ⟨a0, a1, a2, a3, a4, a5⟩ := s1; simp only [Rf.g3] at a0 a1 a2; simp only [opr]; go_simp; try with_reducible rfl)) (fun K10 hK10 => ?_)
      clear hK9 K9
      simp only [Act.put, List.setIfInBounds_toArray, List.set_cons_zero, List.set_cons_succ]
      refine mix_take hK10 (some 39) (.binOp BinOp.mul 3 (.tmp 37) (.tmp 38) 3) 3 _ (by kernel_rfl) (by kernel_rfl) (fun w' hS' => by (obtain ⟨_, s1, _, _⟩ := hS'; obtain ⟨a0, a1, a2, a3, a4, a5⟩ := s1; simp only [Rf.g3] at a0 a1 a2; simp only [opr]; go_simp; try with_reducible rfl)) (fun K11 hK11 => ?_)
      clear hK10 K10
      simp only [Act.put, List.setIfInBounds_toArray, List.set_cons_zero, List.set_cons_succ]
      refine mix_take hK11 (some 40) (.slice 33 (.tmp 32) (some (.tmp 35)) (some (.tmp 39)) none) 33 _ (by kernel_rfl) (by kernel_rfl) (fun w' hS' => by (obtain ⟨_, s1, _, _⟩ := hS'; obtain ⟨a0, a1, a2, a3, a4, a5⟩ := s1; simp only [Rf.g3] at a0 a1 a2; simp only [opr]; go_simp; try with_reducible rfl)) (fun K12 hK12 => ?_)
      clear hK11 K11
      simp only [Act.put, List.setIfInBounds_toArray, List.set_cons_zero, List.set_cons_succ]
      refine mix_call hK12 (some 30) 38 #[.tmp 28, .tmp 29] #[47, 3] 33 _ (by kernel_rfl) (by kernel_rfl) (enters Try.func38 (by kernel_rfl) (by kernel_rfl)) (by go_simp; try with_reducible rfl) (fun K13 hK13 => ?_)
      clear hK12 K12
      refine (HROW.out _ hS).mono ?_
      rintro e wm1 ⟨gr, capr, rfl, hs1, hp1, hg1⟩
      have hS1 : _ := hS.keep hs1
      refine ⟨_, rfl, hS1, ?_⟩
      have HPX := hide' hp1
      clear hp1 hg1
      clear hs1
      simp only [Act.put, List.setIfInBounds_toArray, List.set_cons_zero, List.set_cons_succ]
      refine mix_call hK13 (some 41) 37 #[.tmp 30, .tmp 40] #[33, 33] 4 _ (by kernel_rfl) (by kernel_rfl) (enters Try.func37 (by kernel_rfl) (by kernel_rfl)) (by go_simp; try with_reducible rfl) (fun K14 hK14 => ?_)
      clear hK13 K13
      refine (HSAME.out _ _ _ _ hS1 HPX.out).mono ?_
      rintro e wm2 ⟨rfl, hs2⟩
      have hS2 : _ := hS1.keep hs2
      refine ⟨_, rfl, hS2, ?_⟩
      clear hs2
      simp only [Act.put, List.setIfInBounds_toArray, List.set_cons_zero, List.set_cons_succ]
      refine mix_take hK14 (some 42) (.unOp UnOp.not 4 (.tmp 41)) 4 _ (by kernel_rfl) (by kernel_rfl) (fun w' hS' => by (obtain ⟨_, s1, _, _⟩ := hS'; obtain ⟨a0, a1, a2, a3, a4, a5⟩ := s1; simp only [Rf.g3] at a0 a1 a2; simp only [opr]; go_simp; try with_reducible rfl)) (fun K15 hK15 => ?_)
      clear hK14 K14
      simp only [Act.put, List.setIfInBounds_toArray, List.set_cons_zero, List.set_cons_succ]
      refine hK15 _ _ (mix_nil ?_)
      clear hK15 K15
      have HX2 := hide' hS2
      clear hS hS2 HXr HPX
      go_wp2
      go_roundg (G.h - (k + 1))
      case rel => exact ⟨k + 1, by omega, rfl, by go_num, HX2⟩
      case measure => omega
    · have d1 : decide ((k : Int) < (G.h : Nat)) = false := by simp; omega
      go_wp2
      go_ret
      exact ⟨rfl, HXr.out.1⟩

end Go.Proofs.Yticccknocjnkpaa
