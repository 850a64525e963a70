/-
  New, kinds, rights, whose a slot is: walked. No conditions.
-/
import Derived.Test.YtlhfpnfiamgmlaaP2
import Derived.Deep.DeepCutAuto
namespace Go.Proofs.Ytlhfpnfiamgmlaa
open Go.RowKit

/-- A new table. -/
def TNew (n : Nat) (q : Int) (w : World) (e : Ending) (w' : World) : Prop := ∃ T B, e = .returned (.pointer (some ⟨T, 0, none⟩)) ∧ Stay (fun _ => False) w w' ∧ TAt w' T B n q (fun _ => Sl.fresh) ∧ w.heap.size ≤ T ∧ w.heap.size ≤ B

theorem kind29 (k : Int) (w : World) : Calls Try.prog 29 #[.int .i64 k] w (Gives (.bool (decide (1 ≤ k ∧ k ≤ 3))) w) := by
  have HS := hide' (Stay.refl (fun _ => False) w)
  by_cases h1 : k = 1
  · subst h1
    go_enter Try.func29, Try.ntmps29
    go_wp2
    go_ret
    exact ⟨rfl, HS.out⟩
  · by_cases h2 : k = 2
    · subst h2
      go_enter Try.func29, Try.ntmps29
      go_wp2
      go_ret
      exact ⟨rfl, HS.out⟩
    · by_cases h3 : k = 3
      · subst h3
        go_enter Try.func29, Try.ntmps29
        go_wp2
        go_ret
        exact ⟨rfl, HS.out⟩
      · have e1 : (k == 1) = false := beq_eq_false_iff_ne.2 h1
        have e2 : (k == 2) = false := beq_eq_false_iff_ne.2 h2
        have e3 : (k == 3) = false := beq_eq_false_iff_ne.2 h3
        have HE : Hid (decide (1 ≤ k ∧ k ≤ 3) = false) := decide_eq_false (by omega)
        go_enter Try.func29, Try.ntmps29
        go_wp2
        go_ret
        exact ⟨by first | rfl | (rw [HE.out]; rfl), HS.out⟩

theorem rights30 (k : Int) (w : World) : Calls Try.prog 30 #[.int .i64 k] w (Gives (.bool (decide (1 ≤ k ∧ k ≤ 7))) w) := by
  have HS := hide' (Stay.refl (fun _ => False) w)
  by_cases h1 : 1 ≤ k
  · by_cases h2 : k ≤ 7
    · have HE : Hid (decide (1 ≤ k ∧ k ≤ 7) = true) := decide_eq_true ⟨h1, h2⟩
      have e1 : decide (1 ≤ k) = true := decide_eq_true h1
      have e2 : decide (k ≤ 7) = true := decide_eq_true h2
      go_enter Try.func30, Try.ntmps30
      go_wp2
      go_ret
      exact ⟨by first | rfl | (rw [HE.out]; rfl), HS.out⟩
    · have HE : Hid (decide (1 ≤ k ∧ k ≤ 7) = false) := decide_eq_false (by omega)
      have e1 : decide (1 ≤ k) = true := decide_eq_true h1
      have e2 : decide (k ≤ 7) = false := decide_eq_false h2
      go_enter Try.func30, Try.ntmps30
      go_wp2
      go_ret
      exact ⟨by first | rfl | (rw [HE.out]; rfl), HS.out⟩
  · have HE : Hid (decide (1 ≤ k ∧ k ≤ 7) = false) := decide_eq_false (by omega)
    have e1 : decide (1 ≤ k) = false := decide_eq_false h1
    go_enter Try.func30, Try.ntmps30
    go_wp2
    go_ret
    exact ⟨by first | rfl | (rw [HE.out]; rfl), HS.out⟩

/-- Is a slot somebody's: by the program's slot. -/
def isPl (p : Pl) (env : Int) : Bool := !(p.kind == 0) && (p.env == env)

theorem isof40 (b o : Nat) (p : Pl) (env : Int) (w : World) (hp : PBoxAt w b o p) : Calls Try.prog 40 #[.pointer (some ⟨b, o, none⟩), .int .i64 env] w (Gives (.bool (isPl p env)) w) := by
  have HS := hide' (Stay.refl (fun _ => False) w)
  obtain ⟨_, r1, r2, _, _, _⟩ := hp
  obtain ⟨x, hx⟩ : ∃ x, x = p.kind := ⟨_, rfl⟩
  obtain ⟨y, hy⟩ : ∃ y, y = p.env := ⟨_, rfl⟩
  obtain ⟨e, he⟩ : ∃ b, b = (y == env) := ⟨_, rfl⟩
  have he' := he.symm
  have HX : Hid (isPl p env = (!(x == 0) && e)) := by show isPl p env = (!(x == 0) && e); rw [hx, he, hy]; rfl
  rw [← hx] at r2
  rw [← hy] at r1
  clear hx hy he
  by_cases h0 : x = 0
  · subst h0
    go_enter Try.func40, Try.ntmps40
    go_wp2
    go_ret
    exact ⟨by rw [HX.out]; rfl, HS.out⟩
  · have hb : (x == 0) = false := beq_eq_false_iff_ne.2 h0
    have HX2 : Hid (isPl p env = e) := by show isPl p env = e; rw [HX.out, hb]; rfl
    clear HX
    go_enter Try.func40, Try.ntmps40
    go_wp2
    go_ret
    exact ⟨by rw [HX2.out]; show Ending.returned (Value.bool (x != 0 && e)) = _; rw [show (x != 0) = true from bne_iff_ne.2 h0]; rfl, HS.out⟩

theorem isPl_of {n : Nat} {s : Sl} (B : Nat) (h : OkS n s) (env : Int) : isPl (pl B s) env = (decide (0 ≤ env) && (s.env == env)) := by
  show (!(s.kind == 0) && ((if s.env < 0 then 0 else s.env) == env)) = _
  rcases h with e | e
  · rw [e.1, e.2.1]
    by_cases h0 : 0 ≤ env
    · have : ((-1 : Int) == env) = false := beq_eq_false_iff_ne.2 (by omega)
      rw [this]; simp
    · rw [decide_eq_false h0]; simp
  · have h1 : (s.kind == 0) = false := beq_eq_false_iff_ne.2 (by omega)
    rw [h1, if_neg (by omega)]
    by_cases h0 : 0 ≤ env
    · rw [decide_eq_true h0]; rfl
    · have : (s.env == env) = false := beq_eq_false_iff_ne.2 (by omega)
      rw [this, decide_eq_false h0]; rfl

theorem new8_nil (n q : Int) (w : World) (h : n < 1 ∨ 4096 < n ∨ q < 1) : Calls Try.prog 8 #[.int .i64 n, .int .i64 q] w (Gives (.pointer none) w) := by
  have HS := hide' (Stay.refl (fun _ => False) w)
  by_cases h1 : n < 1
  · clear h
    go_enter Try.func8, Try.ntmps8
    go_wp2
    go_ret
    exact ⟨rfl, HS.out⟩
  · have d1 : decide (n < 1) = false := decide_eq_false h1
    by_cases h2 : 4096 < n
    · have d2 : decide (4096 < n) = true := decide_eq_true h2
      clear h
      go_enter Try.func8, Try.ntmps8
      go_wp2
      go_ret
      exact ⟨rfl, HS.out⟩
    · have d2 : decide (4096 < n) = false := decide_eq_false h2
      have h3 : q < 1 := by omega
      have d3 : decide (q < 1) = true := decide_eq_true h3
      clear h
      go_enter Try.func8, Try.ntmps8
      go_wp2
      go_ret
      exact ⟨rfl, HS.out⟩

theorem list_take {P : Program} {ops : Array Oper} {Q : Exit → Act → World → Prop} {o : Oper} {rest : List Oper} {a : Act} {w : World} {v : Value} (hg : o.guard = none) (hv : (execOp a.eval (opr o.dst o.op o.type)).run P w = .ok (.value v) w)
    (h : wpList P ops Q rest (a.put o.dst v) w) : wpList P ops Q (o :: rest) a w :=
  wpList_plain hg fun K hK => by
    unfold Oper.wp
    rw [execOp_opr, hv]
    exact hK _ _ h

/-- A slot's generation is set. -/
theorem PTab.put0 {w : World} {B n k : Nat} {f : Nat → Pl} (h : PTab w B n f) (hk : k < n) (x : Int) : PTab (w.setCell ⟨B, k * 6, none⟩ (.int .i64 x)) B n (fun i => if i = k then ⟨x, (f k).env, (f k).kind, (f k).obj, (f k).rights, (f k).of⟩ else f i) := by
  intro i hi
  by_cases e : i = k
  · subst e
    simp only [if_pos]
    refine ⟨fun j v hv => ?_, World.there_setCells (h i hi).2 B (i * 6) [.int .i64 x]⟩
    have out : ∀ j, (w.setCell ⟨B, i * 6, none⟩ (.int .i64 x)).cell? ⟨B, i * 6 + (j + 1), none⟩ = w.cell? ⟨B, i * 6 + (j + 1), none⟩ := fun j => World.cell?_setCells_out B [.int .i64 x] (i * 6) w ⟨B, i * 6 + (j + 1), none⟩ (fun _ _ => by show i * 6 + (j + 1) < i * 6 ∨ i * 6 + 1 ≤ i * 6 + (j + 1); omega)
    match j, hv with
    | 0, hv => cases hv; exact World.cell?_setCell_same _ _ _ ((h i hi).1 0 _ rfl)
    | 1, hv => exact (out 0).trans ((h i hi).1 1 v hv)
    | 2, hv => exact (out 1).trans ((h i hi).1 2 v hv)
    | 3, hv => exact (out 2).trans ((h i hi).1 3 v hv)
    | 4, hv => exact (out 3).trans ((h i hi).1 4 v hv)
    | 5, hv => exact (out 4).trans ((h i hi).1 5 v hv)
  · simp only [if_neg e]
    have hl : (f i).parts.length = 6 := rfl
    exact ⟨World.rangeAt_setCells_apart (h i hi).1 B (k * 6) [.int .i64 x] (.inr (by show i * 6 + (f i).parts.length ≤ k * 6 ∨ k * 6 + 1 ≤ i * 6; omega)), World.there_setCells (h i hi).2 B (k * 6) [.int .i64 x]⟩

theorem slice65 (B n : Nat) (w : World) (h : n ≤ 4096) : (Instr.sliceAt 65 (.pointer (some ⟨B, 0, none⟩)) none (some (.int .i64 (n : Nat))) none).run Try.prog w = .ok (.slice (some ⟨B, 0, none⟩) n 4096) w := by
  have h2 : ((n : Nat) : Int) ≤ 4096 := by omega
  unfold Instr.sliceAt
  simp [go_sem, Instr.sliceBounds, Instr.sliceBound, asIntOf]
  exact fun h' => absurd h' (by omega)

theorem new8 (n : Nat) (q : Int) (w : World) (h1 : 1 ≤ n) (h2 : n ≤ 20) (hq : 1 ≤ q) : Calls Try.prog 8 #[.int .i64 (n : Nat), .int .i64 q] w (TNew n q w) := by
  obtain ⟨Z, hz, hz2⟩ := zero65
  obtain ⟨W1, hW1⟩ : ∃ W, W = w.alloc (.cells Z.toArray 65) := ⟨_, rfl⟩
  have hst1 : Stay (fun _ => False) w W1 := by rw [hW1]; exact (Stay.refl _ _).alloc _
  have hT1 : PTab W1 w.heap.size n (fun _ => Pl.zero) := by rw [hW1]; exact PTab.zeros hz2 w n h2
  obtain ⟨B, hB⟩ : ∃ b, b = w.heap.size := ⟨_, rfl⟩
  rw [← hB] at hT1
  have HNN := hide' (show 1 ≤ n ∧ n ≤ 20 ∧ 1 ≤ q ∧ B < W1.heap.size ∧ w.heap.size ≤ B from ⟨h1, h2, hq, hT1.lt h1, by omega⟩)
  have HT1 := hide' hT1
  have HST1 := hide' hst1
  have HZ := hide' hz
  have hn1 : (1 : Int) ≤ (n : Nat) := by omega
  have hn2 : (n : Int) ≤ 20 := by omega
  have d1 : decide (((n : Nat) : Int) < 1) = false := decide_eq_false (by omega)
  have d2 : decide (4096 < ((n : Nat) : Int)) = false := decide_eq_false (by omega)
  have d3 : decide (q < 1) = false := decide_eq_false (by omega)
  clear hst1 hT1 hz hz2 h1 h2
  go_enter Try.func8, Try.ntmps8
  go_upto_region 3 with fail
  refine wp_region_lit ?_
  refine wpList_alloc w rfl 65 rfl _ HZ.out ?_
  rw [← hB, show (Value.agg Z.toArray).cells = Z.toArray from rfl, ← hW1]
  clear hW1 hB
  have hsl := slice65 B n W1 (by omega)
  go_upto_region 4 with fail
  go_must (refine wp_region_lit ?_)
  refine list_take (v := .pointer (some ⟨B, 0, none⟩)) rfl (by simp only [opr]; go_simp) ?_
  refine list_take (v := .pointer (some ⟨B, 0, none⟩)) rfl (by simp only [opr]; go_simp) ?_
  refine list_take (v := .int .i64 (n : Nat)) rfl (by simp only [opr]; go_simp) ?_
  refine list_take (v := .slice (some ⟨B, 0, none⟩) n 4096) rfl (by simp only [opr]; go_simp) ?_
  clear hsl
  go_upto_region 5 with fail
  obtain ⟨T, hT⟩ : ∃ b, b = W1.heap.size := ⟨_, rfl⟩
  obtain ⟨W2, hW2⟩ : ∃ W, W = W1.alloc (.cells #[.slice (some ⟨B, 0, none⟩) n 4096, .int .i64 q] 68) := ⟨_, rfl⟩
  rw [← hW2, ← hT]
  have hst2 : Stay (fun _ => False) W1 W2 := by rw [hW2]; exact (Stay.refl _ _).alloc _
  have HL0 : Hid (Stay (fun _ => False) w W2 ∧ W2.cell? ⟨T, 0, none⟩ = some (.slice (some ⟨B, 0, none⟩) n 4096) ∧ W2.cell? ⟨T, 1, none⟩ = some (.int .i64 q) ∧ PTab W2 B n (fun i => if i < 0 then pl B Sl.fresh else Pl.zero)) :=
    ⟨HST1.out.trans hst2, by rw [hW2, hT]; simp, by rw [hW2, hT]; simp, (HT1.out.keep hst2).congr (fun i _ => by rw [if_neg (Nat.not_lt_zero _)])⟩
  have HTB : Hid (T ≠ B ∧ w.heap.size ≤ T) := ⟨by have := HNN.out; omega, by have := HST1.out.size; omega⟩
  have t0 := HL0.out.2.1
  clear hT hW2 hst2 HT1 HST1 HZ
  go_wp2
  clear t0
  go_loopg [31] n (fun gg v31 wr => ∃ k : Nat, k ≤ n ∧ gg = n - k ∧ v31 = .int .i64 (k : Int) ∧ Hid (Stay (fun _ => False) w wr ∧ wr.cell? ⟨T, 0, none⟩ = some (.slice (some ⟨B, 0, none⟩) n 4096) ∧ wr.cell? ⟨T, 1, none⟩ = some (.int .i64 q) ∧ PTab wr B n (fun i => if i < k then pl B Sl.fresh else Pl.zero)))
  case atStart => exact ⟨0, Nat.zero_le _, rfl, rfl, HL0⟩
  case round =>
    clear HL0
    obtain ⟨k, hk, rfl, rfl, HL⟩ := hrel
    by_cases hlt : k < n
    · have kn : (k : Int) < (n : Nat) := by omega
      have t0 := HL.out.2.1
      have hp := HL.out.2.2.2 k hlt
      simp only [if_neg (Nat.lt_irrefl k)] at hp
      have p0 : wr.cell? ⟨B, k * 6, none⟩ = some (.int .i64 0) := hp.1 0 _ rfl
      have p1 : wr.frozen? ⟨B, k * 6, none⟩ = false := (hp.2 0 (by decide)).2
      clear hp
      go_wp2
      generalize hW3 : World.setCell _ _ _ = W3
      clear t0 p0 p1
      have hst3 : Stay (fun j => j = B) wr W3 := by rw [← hW3]; exact (Stay.refl (fun j => j = B) _).setCell (p := ⟨B, k * 6, none⟩) rfl _
      have HL3 : Hid (Stay (fun _ => False) w W3 ∧ W3.cell? ⟨T, 0, none⟩ = some (.slice (some ⟨B, 0, none⟩) n 4096) ∧ W3.cell? ⟨T, 1, none⟩ = some (.int .i64 q) ∧ PTab W3 B n (fun i => if i < k + 1 then pl B Sl.fresh else Pl.zero)) := by
        have hB := HNN.out
        refine ⟨by rw [← hW3]; exact HL.out.1.setNew (p := ⟨B, k * 6, none⟩) hB.2.2.2.2 _, (hst3.cell (p := ⟨T, 0, none⟩) (World.block_lt_of_cell? _ _ HL.out.2.1) HTB.out.1).trans HL.out.2.1, (hst3.cell (p := ⟨T, 1, none⟩) (World.block_lt_of_cell? _ _ HL.out.2.2.1) HTB.out.1).trans HL.out.2.2.1, ?_⟩
        rw [← hW3]
        refine (HL.out.2.2.2.put0 hlt 1).congr (fun i _ => ?_)
        by_cases e : i = k
        · subst e
          rw [if_pos rfl, if_neg (Nat.lt_irrefl i), if_pos (Nat.lt_succ_self i)]
          rfl
        · rw [if_neg e]
          by_cases h2 : i < k
          · rw [if_pos h2, if_pos (by omega)]
          · rw [if_neg h2, if_neg (by omega)]
      clear hW3 hst3 HL
      go_roundg (n - (k + 1))
      case measure => omega
      case rel => exact ⟨k + 1, by omega, rfl, by go_num, HL3⟩
    · have hkn : k = n := by omega
      subst hkn
      go_wp2
      go_ret
      refine ⟨T, B, rfl, HL.out.1, ⟨HL.out.2.1, HL.out.2.2.1, HL.out.2.2.2.congr (fun i hi => by rw [if_pos hi]), HTB.out.1, by have := HNN.out; omega, by have := HNN.out; omega, Okf.fresh _⟩, HTB.out.2, by have := HNN.out; omega⟩

end Go.Proofs.Ytlhfpnfiamgmlaa
