/-
  A grid is made: walked. No conditions.
  Which cells come, and how many; rows that have come. No conditions.
-/
import Derived.Test.YticccknocjnkpaaDoorG4
import Derived.Laws.MakeOwn
namespace Go.Proofs.YticccknocjnkpaaDoor
open Go.RowKit

/-- Rows that are made, of elements of any size. -/
theorem wpList_makeS {P : Program} (w : World) {ops : Array Oper} {rest : List Oper} {o : Oper} {a : Act} {Q : Exit → Act → World → Prop}
    (hg : o.guard = none) (x : Operand) (t : TypeId) (hop : o.op = Op.makeSlice t x x)
    (e : TypeId) (z : Value) (size bytes : Nat) (ht : P.underlying t = some (.slice e)) (hinfo : (P.info? e).map (fun i => (i.zero, i.size, i.bytes)) = some (some z, size, bytes)) (cells : Array Value) (hz1 : z.cells = cells)
    (n : Nat) (N : Int) (hx : a.eval x = .int .i64 N) (hN : N = (n : Int)) (hbytes : bytes * n ≤ 281474976710656) (h63 : n ≤ 9223372036854775807)
    (hK : wpList P ops Q rest (a.put o.dst (.slice (some ⟨w.heap.size, 0, none⟩) n n)) (w.alloc (.cells (madeCells cells (n * size)) e))) :
    wpList P ops Q (o :: rest) a w := by
  subst hN hz1
  obtain ⟨i, hi, hzz⟩ := Option.map_eq_some_iff.1 hinfo
  simp only [Prod.mk.injEq] at hzz
  obtain ⟨hz, hs, hb⟩ := hzz
  refine wpList_plain hg fun K hK' => ?_
  have hrun := run_make (P := P) w t e i z ht hi hz .i64 .i64 n n (by omega) (Int.le_refl _) (by rw [hb, ← Int.natCast_mul]; omega) (by omega)
  simp only [Int.toNat_natCast, hs] at hrun
  unfold Oper.wp
  simp [execOp, hop, hx, hrun, Result.andThen]
  exact hK' _ _ hK

/-- While a grid is made: so many rows are there. -/
structure RIn (w : World) (bc br a b k : Nat) (wr : World) : Prop where
  stay : Stay (fun _ => False) w wr
  pix : Pix wr bc (a * b) (fun _ => Cl.zero)
  rows : ∀ y, y < k → wr.cell? ⟨br, y, none⟩ = some (.slice (some ⟨bc, y * a * 4, none⟩) a (a * b - y * a))
  more : ∀ y, y < b → (wr.cell? ⟨br, y, none⟩).isSome = true ∧ wr.frozen? ⟨br, y, none⟩ = false
  ne : br ≠ bc
  new : w.heap.size ≤ bc ∧ w.heap.size ≤ br

theorem RIn.next {w wr : World} {bc br a b k : Nat} (h : RIn w bc br a b k wr) {lo m c : Nat} (hlo : lo = k * a) (hm : m = a) (hc : c = a * b - lo) (hk : k < b) :
    RIn w bc br a b (k + 1) (wr.setCell ⟨br, k, none⟩ (.slice (some ⟨bc, lo * 4, none⟩) m c)) := by
  subst hlo hm hc
  have hs : Stay (fun j => j = br) wr (wr.setCell ⟨br, k, none⟩ (.slice (some ⟨bc, k * m * 4, none⟩) m (m * b - k * m))) := (Stay.refl (fun j => j = br) wr).setCell (p := ⟨br, k, none⟩) rfl _
  refine ⟨h.stay.setNew (p := ⟨br, k, none⟩) h.new.2 _, h.pix.stay hs (fun e => h.ne e.symm), fun y hy => ?_, fun y hy => ?_, h.ne, h.new⟩
  · by_cases hyk : y = k
    · subst hyk
      obtain ⟨u, hu⟩ := Option.isSome_iff_exists.1 (h.more y hk).1
      exact World.cell?_setCell_same _ _ _ hu
    · exact (World.cell?_setCells_out br [_] k wr ⟨br, y, none⟩ (fun _ _ => by show y < k ∨ k + 1 ≤ y; omega)).trans (h.rows y (by omega))
  · have := h.more y hy
    exact ⟨World.isSome_setCells br [_] k wr ⟨br, y, none⟩ this.1, (World.frozen?_setCells br [_] k wr _).trans this.2⟩

/-- Rows' places that may be written. -/
def RowsThere (w : World) (br b : Nat) : Prop := ∀ y, y < b → (w.cell? ⟨br, y, none⟩).isSome = true ∧ w.frozen? ⟨br, y, none⟩ = false

theorem RowsThere.made (w : World) (b : Nat) : RowsThere (w.alloc (.cells (madeCells #[.slice none 0 0] (b * 1)) 26)) w.heap.size b := fun y hy => by
  have h := World.rowIs_made w (.slice none 0 0) (b * 1) 26
  exact ⟨by rw [h.cell (by omega)]; rfl, h.frozen y⟩

theorem RowsThere.keep {w w1 : World} {br b : Nat} (h : RowsThere w br b) (hs : Stay (fun _ => False) w w1) : RowsThere w1 br b := fun y hy => by
  obtain ⟨h1, h2⟩ := h y hy
  obtain ⟨u, hu⟩ := Option.isSome_iff_exists.1 h1
  have hb : br < w.heap.size := World.block_lt_of_cell? _ _ hu
  rw [hs.cell (p := ⟨br, y, none⟩) hb (fun h => h), hs.frozen (p := ⟨br, y, none⟩) hb (fun h => h)]
  exact ⟨h1, h2⟩

/-- A new grid: it is blank. -/
def NewGrid (a b : Nat) (f : Nat → Cl) (w : World) (e : Ending) (w' : World) : Prop := ∃ G : Gr, e = .returned (.pointer (some ⟨G.g, 0, none⟩)) ∧ Stay (fun _ => False) w w' ∧ GridAt w' G f ∧ G.w = a ∧ G.h = b ∧ G.above w.heap.size

set_option maxHeartbeats 2000000 in
theorem new17 (a b : Nat) (w : World) (a1 : 1 ≤ a) (a2 : a ≤ 512) (b1 : 1 ≤ b) (b2 : b ≤ 512) : Calls Tryd.prog 17 #[.int .i64 (a : Nat), .int .i64 (b : Nat)] w (NewGrid a b (fun _ => Cl.zero) w) := by
  have HA := hide' (isSize32 a)
  have HB := hide' (isSize32 b)
  rw [show sizeB a = true by unfold sizeB; simp; omega] at HA
  rw [show sizeB b = true by unfold sizeB; simp; omega] at HB
  have hm : a * b ≤ 512 * 512 := Nat.mul_le_mul a2 b2
  have m1 : IntKind.i64.wrap ((a : Int) * (b : Int)) = (a : Int) * b := by rw [IntKind.wrap_i64, ← Int.natCast_mul]; omega
  obtain ⟨n, hn⟩ : ∃ n, n = a * b := ⟨_, rfl⟩
  have HN : Hid ((a : Int) * (b : Int) = (n : Nat) ∧ 32 * n ≤ 281474976710656 ∧ n ≤ 9223372036854775807) := ⟨by rw [hn]; simp, by omega, by omega⟩
  have HNN := hide' hn
  have a3 : (a : Int) ≤ 512 := by omega
  have b3 : (b : Int) ≤ 512 := by omega
  have HST := hide' (Stay.refl (fun _ => False) w)
  clear hn hm
  go_enter Tryd.func17, Tryd.ntmps17
  go_wp2_with fail
  refine (HA.out _).mono ?_
  rintro e w' ⟨rfl, rfl⟩
  go_wp2_with fail
  refine (HB.out _).mono ?_
  rintro e w' ⟨rfl, rfl⟩
  go_upto_region 3 with fail
  go_cut [5, 6] (fun s5 s6 wx => ∃ bc br, s5 = .slice (some ⟨bc, 0, none⟩) n n ∧ s6 = .slice (some ⟨br, 0, none⟩) b b ∧ Hid (Stay (fun _ => False) w wx ∧ Pix wx bc n (fun _ => Cl.zero) ∧ RowsThere wx br b ∧ br ≠ bc ∧ w.heap.size ≤ bc ∧ w.heap.size ≤ br))
  case first =>
    refine any_begin (fun _ => True) (by kernel_rfl) (fun K0 hK0 => ?_)
    have HST' := hide' HST.out.drew
    clear HST
    have HST := HST'
    clear HST'
    obtain ⟨Wd, hWd⟩ : ∃ Wd, Wd = w.drew := ⟨_, rfl⟩
    rw [← hWd] at HST
    rw [← hWd]
    clear hWd
    refine any_take (i := 0) hK0 (some 16) (.move (.tmp 0)) 3 _ (by kernel_rfl) (fun _ d _ _ _ h => by cases d <;> exact h) (by kernel_rfl) (by kernel_rfl) (fun w' hS' => by simp only [opr]; go_simp; try with_reducible rfl) trivial (fun K1 hK1 => ?_)
    clear hK0 K0
    try simp only [Act.put, List.setIfInBounds_toArray, List.set_cons_zero, List.set_cons_succ]
    refine any_take (i := 1) hK1 (some 17) (.move (.tmp 1)) 3 _ (by kernel_rfl) (fun _ d _ _ _ h => by cases d <;> exact h) (by kernel_rfl) (by kernel_rfl) (fun w' hS' => by simp only [opr]; go_simp; try with_reducible rfl) trivial (fun K2 hK2 => ?_)
    clear hK1 K1
    try simp only [Act.put, List.setIfInBounds_toArray, List.set_cons_zero, List.set_cons_succ]
    refine any_take (i := 2) hK2 (some 18) (.binOp BinOp.mul 3 (.tmp 16) (.tmp 17) 3) 3 _ (by kernel_rfl) (fun _ d _ _ _ h => by cases d <;> exact h) (by kernel_rfl) (by kernel_rfl) (fun w' hS' => by simp only [opr]; go_simp; try with_reducible rfl) trivial (fun K3 hK3 => ?_)
    clear hK2 K2
    try simp only [Act.put, List.setIfInBounds_toArray, List.set_cons_zero, List.set_cons_succ]
    refine any_take (i := 4) hK3 (some 20) (.move (.tmp 1)) 3 _ (by kernel_rfl) (fun _ d _ _ _ h => by cases d <;> exact h) (by kernel_rfl) (by kernel_rfl) (fun w' hS' => by simp only [opr]; go_simp; try with_reducible rfl) trivial (fun K4 hK4 => ?_)
    clear hK3 K3
    try simp only [Act.put, List.setIfInBounds_toArray, List.set_cons_zero, List.set_cons_succ]
    refine any_pick (rs := [3, 5]) hK4 (by kernel_rfl) (fun K5 hK5 => ?_)
    clear hK4 K4
    intro i hi
    simp only [List.mem_cons, List.not_mem_nil, or_false] at hi
    rcases hi with rfl | rfl
    · refine op_plain (some 19) (.makeSlice 26 (.tmp 18) (.tmp 18)) 26 (by kernel_rfl) (by kernel_rfl) ?_
      refine wpList_makeS Wd rfl (.tmp 18) 26 rfl 40 (.agg #[.int .i32 0, .int .i64 0, .int .i64 0, .int .i64 0]) 4 32 Tryd.underlying26 (by kernel_rfl) (Cl.zero.parts.toArray) rfl n _ rfl HN.out.1 HN.out.2.1 HN.out.2.2 ?_
      refine wpList_nil ?_
      have st : Stay (fun _ => False) Wd (Wd.alloc (.cells (madeCells (Cl.zero.parts.toArray) (n * 4)) 40)) := (Stay.refl _ _).alloc _
      have HPX : Hid (Pix (Wd.alloc (.cells (madeCells (Cl.zero.parts.toArray) (n * 4)) 40)) Wd.heap.size n (fun _ => Cl.zero)) := Pix.made Wd n HN.out.2.2
      have HPB : Hid (w.heap.size ≤ Wd.heap.size) := HST.out.size
      have HPL : Hid (Wd.heap.size < (Wd.alloc (.cells (madeCells (Cl.zero.parts.toArray) (n * 4)) 40)).heap.size) := show _ < _ from by simp
      have HST' := hide' (HST.out.trans st)
      clear HST st
      have HST := HST'
      clear HST'
      obtain ⟨B1, hB⟩ : ∃ B, B = Wd.heap.size := ⟨_, rfl⟩
      rw [← hB] at HPX HPB HPL
      rw [← hB]
      clear hB
      obtain ⟨Wm1, hW⟩ : ∃ W, W = (Wd.alloc (.cells (madeCells (Cl.zero.parts.toArray) (n * 4)) 40)) := ⟨_, rfl⟩
      rw [← hW] at HST HPX HPL
      rw [← hW]
      clear hW
      refine hK5 3 (by simp) _ _ trivial (any_more fun K6 hK6 => ?_)
      clear hK5 K5
      refine any_take (i := 6) hK6 (some 5) (.assign (.tmp 19)) 26 _ (by kernel_rfl) (fun _ d _ _ _ h => by cases d <;> exact h) (by kernel_rfl) (by kernel_rfl) (fun w' hS' => by simp only [opr]; go_simp; try with_reducible rfl) trivial (fun K7 hK7 => ?_)
      clear hK6 K6
      try simp only [Act.put, List.setIfInBounds_toArray, List.set_cons_zero, List.set_cons_succ]
      refine any_pick (rs := [5]) hK7 (by kernel_rfl) (fun K8 hK8 => ?_)
      clear hK7 K7
      intro i hi
      simp only [List.mem_cons, List.not_mem_nil, or_false] at hi
      rcases hi with rfl
      refine op_plain (some 21) (.makeSlice 84 (.tmp 20) (.tmp 20)) 84 (by kernel_rfl) (by kernel_rfl) ?_
      refine wpList_makeS Wm1 rfl (.tmp 20) 84 rfl 26 (.slice none 0 0) 1 24 Tryd.underlying84 (by kernel_rfl) #[.slice none 0 0] rfl b _ rfl rfl (by omega) (by omega) ?_
      refine wpList_nil ?_
      have st : Stay (fun _ => False) Wm1 (Wm1.alloc (.cells (madeCells #[.slice none 0 0] (b * 1)) 26)) := (Stay.refl _ _).alloc _
      have HRR : Hid (RowsThere (Wm1.alloc (.cells (madeCells #[.slice none 0 0] (b * 1)) 26)) Wm1.heap.size b) := RowsThere.made Wm1 b
      have HRB : Hid (w.heap.size ≤ Wm1.heap.size) := HST.out.size
      have HPX' : Hid (Pix (Wm1.alloc (.cells (madeCells #[.slice none 0 0] (b * 1)) 26)) B1 n (fun _ => Cl.zero)) := HPX.out.keep st
      clear HPX
      have HPX := HPX'
      clear HPX'
      have HNE : Hid (Wm1.heap.size ≠ B1) := fun h => by have := HPL.out; omega
      have HST' := hide' (HST.out.trans st)
      clear HST st
      have HST := HST'
      clear HST'
      obtain ⟨B2, hB⟩ : ∃ B, B = Wm1.heap.size := ⟨_, rfl⟩
      rw [← hB] at HRR HRB HNE
      rw [← hB]
      clear hB
      obtain ⟨Wm2, hW⟩ : ∃ W, W = (Wm1.alloc (.cells (madeCells #[.slice none 0 0] (b * 1)) 26)) := ⟨_, rfl⟩
      rw [← hW] at HST HPX HRR
      rw [← hW]
      clear hW
      refine hK8 5 (by simp) _ _ trivial (any_more fun K9 hK9 => ?_)
      clear hK8 K8
      refine any_take (i := 7) hK9 (some 6) (.assign (.tmp 21)) 84 _ (by kernel_rfl) (fun _ d _ _ _ h => by cases d <;> exact h) (by kernel_rfl) (by kernel_rfl) (fun w' hS' => by simp only [opr]; go_simp; try with_reducible rfl) trivial (fun K10 hK10 => ?_)
      clear hK9 K9
      try simp only [Act.put, List.setIfInBounds_toArray, List.set_cons_zero, List.set_cons_succ]
      refine any_done hK10 (by kernel_rfl) ?_
      clear hK10 K10
      go_wp2_with fail
      go_meet
      exact ⟨B1, B2, rfl, rfl, ⟨HST.out, HPX.out, HRR.out, HNE.out, HPB.out, HRB.out⟩⟩
    · refine op_plain (some 21) (.makeSlice 84 (.tmp 20) (.tmp 20)) 84 (by kernel_rfl) (by kernel_rfl) ?_
      refine wpList_makeS Wd rfl (.tmp 20) 84 rfl 26 (.slice none 0 0) 1 24 Tryd.underlying84 (by kernel_rfl) #[.slice none 0 0] rfl b _ rfl rfl (by omega) (by omega) ?_
      refine wpList_nil ?_
      have st : Stay (fun _ => False) Wd (Wd.alloc (.cells (madeCells #[.slice none 0 0] (b * 1)) 26)) := (Stay.refl _ _).alloc _
      have HRR : Hid (RowsThere (Wd.alloc (.cells (madeCells #[.slice none 0 0] (b * 1)) 26)) Wd.heap.size b) := RowsThere.made Wd b
      have HRB : Hid (w.heap.size ≤ Wd.heap.size) := HST.out.size
      have HRL : Hid (Wd.heap.size < (Wd.alloc (.cells (madeCells #[.slice none 0 0] (b * 1)) 26)).heap.size) := show _ < _ from by simp
      have HST' := hide' (HST.out.trans st)
      clear HST st
      have HST := HST'
      clear HST'
      obtain ⟨B3, hB⟩ : ∃ B, B = Wd.heap.size := ⟨_, rfl⟩
      rw [← hB] at HRR HRB HRL
      rw [← hB]
      clear hB
      obtain ⟨Wm3, hW⟩ : ∃ W, W = (Wd.alloc (.cells (madeCells #[.slice none 0 0] (b * 1)) 26)) := ⟨_, rfl⟩
      rw [← hW] at HST HRR HRL
      rw [← hW]
      clear hW
      refine hK5 5 (by simp) _ _ trivial (any_more fun K6 hK6 => ?_)
      clear hK5 K5
      refine any_pick (rs := [3]) hK6 (by kernel_rfl) (fun K7 hK7 => ?_)
      clear hK6 K6
      intro i hi
      simp only [List.mem_cons, List.not_mem_nil, or_false] at hi
      rcases hi with rfl
      refine op_plain (some 19) (.makeSlice 26 (.tmp 18) (.tmp 18)) 26 (by kernel_rfl) (by kernel_rfl) ?_
      refine wpList_makeS Wm3 rfl (.tmp 18) 26 rfl 40 (.agg #[.int .i32 0, .int .i64 0, .int .i64 0, .int .i64 0]) 4 32 Tryd.underlying26 (by kernel_rfl) (Cl.zero.parts.toArray) rfl n _ rfl HN.out.1 HN.out.2.1 HN.out.2.2 ?_
      refine wpList_nil ?_
      have st : Stay (fun _ => False) Wm3 (Wm3.alloc (.cells (madeCells (Cl.zero.parts.toArray) (n * 4)) 40)) := (Stay.refl _ _).alloc _
      have HPX : Hid (Pix (Wm3.alloc (.cells (madeCells (Cl.zero.parts.toArray) (n * 4)) 40)) Wm3.heap.size n (fun _ => Cl.zero)) := Pix.made Wm3 n HN.out.2.2
      have HPB : Hid (w.heap.size ≤ Wm3.heap.size) := HST.out.size
      have HRR' : Hid (RowsThere (Wm3.alloc (.cells (madeCells (Cl.zero.parts.toArray) (n * 4)) 40)) B3 b) := HRR.out.keep st
      clear HRR
      have HRR := HRR'
      clear HRR'
      have HNE : Hid (B3 ≠ Wm3.heap.size) := fun h => by have := HRL.out; omega
      have HST' := hide' (HST.out.trans st)
      clear HST st
      have HST := HST'
      clear HST'
      obtain ⟨B4, hB⟩ : ∃ B, B = Wm3.heap.size := ⟨_, rfl⟩
      rw [← hB] at HPX HPB HNE
      rw [← hB]
      clear hB
      obtain ⟨Wm4, hW⟩ : ∃ W, W = (Wm3.alloc (.cells (madeCells (Cl.zero.parts.toArray) (n * 4)) 40)) := ⟨_, rfl⟩
      rw [← hW] at HST HPX HRR
      rw [← hW]
      clear hW
      refine hK7 3 (by simp) _ _ trivial (any_more fun K8 hK8 => ?_)
      clear hK7 K7
      refine any_take (i := 6) hK8 (some 5) (.assign (.tmp 19)) 26 _ (by kernel_rfl) (fun _ d _ _ _ h => by cases d <;> exact h) (by kernel_rfl) (by kernel_rfl) (fun w' hS' => by simp only [opr]; go_simp; try with_reducible rfl) trivial (fun K9 hK9 => ?_)
      clear hK8 K8
      try simp only [Act.put, List.setIfInBounds_toArray, List.set_cons_zero, List.set_cons_succ]
      refine any_take (i := 7) hK9 (some 6) (.assign (.tmp 21)) 84 _ (by kernel_rfl) (fun _ d _ _ _ h => by cases d <;> exact h) (by kernel_rfl) (by kernel_rfl) (fun w' hS' => by simp only [opr]; go_simp; try with_reducible rfl) trivial (fun K10 hK10 => ?_)
      clear hK9 K9
      try simp only [Act.put, List.setIfInBounds_toArray, List.set_cons_zero, List.set_cons_succ]
      refine any_done hK10 (by kernel_rfl) ?_
      clear hK10 K10
      go_wp2_with fail
      go_meet
      exact ⟨B4, B3, rfl, rfl, ⟨HST.out, HPX.out, HRR.out, HNE.out, HPB.out, HRB.out⟩⟩
  case rest =>
  obtain ⟨bc, br, rfl, rfl, HC⟩ := hcut
  have HI : Hid (RIn w bc br a b 0 wc) := by
    obtain ⟨h1, h2, h3, h4, h5, h6⟩ := HC.out
    exact ⟨h1, by rw [← HNN.out]; exact h2, fun y hy => absurd hy (Nat.not_lt_zero _), h3, h4, h5, h6⟩
  clear HC HST
  go_wp2_with fail
  go_loopg [24] b (fun g v wr => ∃ k : Nat, k ≤ b ∧ g = b - k ∧ v = .int .i64 (k : Int) ∧ Hid (RIn w bc br a b k wr))
  case atStart => exact ⟨0, Nat.zero_le _, rfl, rfl, HI⟩
  case round =>
    obtain ⟨k, hk, rfl, rfl, HI⟩ := hrel
    by_cases hkb : k < b
    · obtain ⟨lo, hlo⟩ : ∃ lo, lo = k * a := ⟨_, rfl⟩
      obtain ⟨hi, hhi⟩ : ∃ hi, hi = lo + a := ⟨_, rfl⟩
      have hi2 : hi ≤ n := by
        rw [hhi, hlo, HNN.out, ← Nat.succ_mul, Nat.mul_comm a b]
        exact Nat.mul_le_mul_right a hkb
      have hn3 : n ≤ 262144 := by
        rw [HNN.out]; exact Nat.mul_le_mul a2 b2
      have m2 : IntKind.i64.wrap ((k : Int) * (a : Int)) = (lo : Nat) := by rw [hlo, Int.natCast_mul, IntKind.wrap_i64, ← Int.natCast_mul, ← hlo]; omega
      have m3 : IntKind.i64.wrap (((k : Int) + 1) * (a : Int)) = (hi : Nat) := by
        rw [show ((k : Int) + 1) * (a : Int) = (hi : Nat) by rw [hhi, hlo]; push_cast; rw [Int.add_mul, Int.one_mul], IntKind.wrap_i64]; omega
      have HLO := hide' hlo
      have HHI := hide' hhi
      have l1 : (lo : Int) ≤ (hi : Nat) := by omega
      have l2 : (hi : Int) ≤ (n : Nat) := by omega
      have l3 : ¬ n = lo := by omega
      have l4 : lo < n := by omega
      obtain ⟨q1, q2⟩ := HI.out.more k hkb
      obtain ⟨u, q3⟩ := Option.isSome_iff_exists.1 q1
      have k1 : (k : Int) < (b : Nat) := by omega
      clear hlo hhi hi2 hn3 q1
      go_wp2
      go_roundg (b - (k + 1))
      case measure => omega
      case rel => exact ⟨k + 1, by omega, rfl, by go_num, HI.out.next HLO.out (by have := HHI.out; omega) (by rw [HNN.out]) hkb⟩
    · have hkb' : k = b := by omega
      subst hkb'
      have HE := HI
      clear HI
      go_wp2
      go_ret
      exact ⟨⟨wr.heap.size, br, bc, a, k⟩, rfl, HE.out.stay.alloc _, ⟨by simp, fun y hy => (keep_cell ((Stay.refl _ _).alloc _) (HE.out.rows y hy)), HE.out.pix.keep ((Stay.refl _ _).alloc _), a1, a2, b1, b2, fun h => by
        have h' : wr.heap.size = bc := h
        have := HE.out.pix.lt (Nat.mul_pos a1 b1)
        omega, HE.out.ne⟩, rfl, rfl, HE.out.stay.size, HE.out.new.2, HE.out.new.1⟩

theorem new17_nil (x y : Int) (w : World) (h : (sizeB x && sizeB y) = false) : Calls Tryd.prog 17 #[.int .i64 x, .int .i64 y] w (Gives (.pointer none) w) := by
  have HA := hide' (isSize32 x)
  have HB := hide' (isSize32 y)
  obtain ⟨p, hp⟩ : ∃ p, p = sizeB x := ⟨_, rfl⟩
  obtain ⟨q, hq⟩ : ∃ p, p = sizeB y := ⟨_, rfl⟩
  rw [← hp] at HA h
  rw [← hq] at HB h
  clear hp hq
  cases p
  · go_enter Tryd.func17, Tryd.ntmps17
    go_wp2_with fail
    refine (HA.out _).mono ?_
    rintro e w' ⟨rfl, rfl⟩
    go_wp2
    go_ret
    exact ⟨rfl, Stay.refl _ _⟩
  · have hq : q = false := by simpa using h
    subst hq
    go_enter Tryd.func17, Tryd.ntmps17
    go_wp2_with fail
    refine (HA.out _).mono ?_
    rintro e w' ⟨rfl, rfl⟩
    go_wp2_with fail
    refine (HB.out _).mono ?_
    rintro e w' ⟨rfl, rfl⟩
    go_wp2
    go_ret
    exact ⟨rfl, Stay.refl _ _⟩

end Go.Proofs.YticccknocjnkpaaDoor

namespace Go.Proofs.YticccknocjnkpaaDoor
open Go.RowKit

def cntRow (p : Nat → Bool) : Nat → Nat
  | 0 => 0
  | n + 1 => cntRow p n + if p n then 1 else 0

/-- How many cells of the first rows are such. -/
def cntAll (p : Nat → Nat → Bool) (w : Nat) : Nat → Nat
  | 0 => 0
  | n + 1 => cntAll p w n + cntRow (fun X => p X n) w

theorem cntRow_span {p : Nat → Bool} {w x a : Nat} (h : ∀ X, X < w → (p X = true ↔ (x ≤ X ∧ X < x + a))) : ∀ n, n ≤ w → cntRow p n = min n (x + a) - min n x
  | 0, _ => by simp [cntRow]
  | n + 1, hn => by
    unfold cntRow
    rw [cntRow_span h n (by omega)]
    by_cases hp : p n = true
    · have := (h n (by omega)).1 hp
      rw [if_pos hp]
      omega
    · have := mt (h n (by omega)).2 hp
      rw [if_neg hp]
      omega

theorem cntRow_none {p : Nat → Bool} {w : Nat} (h : ∀ X, X < w → p X = false) : ∀ n, n ≤ w → cntRow p n = 0
  | 0, _ => rfl
  | n + 1, hn => by
    unfold cntRow
    rw [cntRow_none h n (by omega), h n (by omega)]
    rfl

theorem cntAll_rows {p : Nat → Nat → Bool} {w h x y a b : Nat} (hx : x + a ≤ w) (hp : ∀ X Y, X < w → Y < h → (p X Y = true ↔ (x ≤ X ∧ X < x + a ∧ y ≤ Y ∧ Y < y + b))) : ∀ n, n ≤ h → cntAll p w n = (min n (y + b) - min n y) * a
  | 0, _ => by simp [cntAll]
  | n + 1, hn => by
    unfold cntAll
    rw [cntAll_rows hx hp n (by omega)]
    by_cases hy : y ≤ n ∧ n < y + b
    · rw [cntRow_span (x := x) (a := a) (fun X hX => ⟨fun h => by have := (hp X n hX (by omega)).1 h; omega, fun h => (hp X n hX (by omega)).2 (by omega)⟩) w (Nat.le_refl _)]
      rw [show min (n + 1) (y + b) - min (n + 1) y = (min n (y + b) - min n y) + 1 by omega, Nat.add_mul]
      omega
    · rw [cntRow_none (fun X hX => by
        cases hq : p X n
        · rfl
        · have := (hp X n hX (by omega)).1 hq
          omega) w (Nat.le_refl _)]
      rw [show min (n + 1) (y + b) - min (n + 1) y = (min n (y + b) - min n y) by omega]
      rfl

theorem cntAll_rect {p : Nat → Nat → Bool} {w h x y a b : Nat} (hx : x + a ≤ w) (hy : y + b ≤ h) (hp : ∀ X Y, X < w → Y < h → (p X Y = true ↔ (x ≤ X ∧ X < x + a ∧ y ≤ Y ∧ Y < y + b))) : cntAll p w h = a * b := by
  rw [cntAll_rows hx hp h (Nat.le_refl _), Nat.mul_comm]
  congr 1
  omega

theorem cntAll_none {p : Nat → Nat → Bool} {w h : Nat} (hp : ∀ X Y, X < w → Y < h → p X Y = false) : cntAll p w h = 0 := by
  rw [cntAll_rect (x := 0) (y := 0) (a := 0) (b := 0) (Nat.zero_le _) (Nat.zero_le _) (fun X Y hX hY => by rw [hp X Y hX hY]; simp)]

/-- Does a cell come to X and Y? -/
def comesB (gw gh : Nat) (r : R) (x y : Int) (X Y : Nat) : Bool := (rightB r && rightB ⟨x, y, 0, 0⟩) && (inB r (X - x + r.x) (Y - y + r.y) && insB gw gh (X - x + r.x) (Y - y + r.y))

theorem both_pos {r q : R} {x0 y0 a0 b0 : Nat} (h : bothR r q = ⟨x0, y0, a0, b0⟩) (hb : 0 < b0) : 0 < a0 := by
  unfold bothR at h
  split at h
  · unfold orNoneR at h
    split at h
    · simp only [R.mk.injEq] at h
      omega
    · rename_i he
      rw [h] at he
      unfold emptyB at he
      simp at he
      omega
  · simp only [R.mk.injEq] at h
    omega

theorem xy_bd {x y : Int} (h : rightB ⟨x, y, 0, 0⟩ = true) : (-1073741824 ≤ x ∧ x ≤ 1073741824) ∧ -1073741824 ≤ y ∧ y ≤ 1073741824 := by
  obtain ⟨h1, h2, _⟩ := right_bd h
  exact ⟨h1, h2⟩

/-- Where cells come to, and from. -/
theorem blit_rect (gw gh ow oh : Nat) (r : R) (x y : Int) (g1 : gw ≤ 512) (g2 : gh ≤ 512) (o1 : ow ≤ 512) (o2 : oh ≤ 512) (hr : rightB r = true) (hxy : rightB ⟨x, y, 0, 0⟩ = true) :
    ∃ x0 y0 a0 b0 : Nat, bothR r ⟨0, 0, gw, gh⟩ = ⟨x0, y0, a0, b0⟩ ∧ x0 + a0 ≤ gw ∧ y0 + b0 ≤ gh ∧
    ∃ x1 y1 a1 b1 u1 v1 : Nat, bothR ⟨(x0 : Int) + (x - r.x), (y0 : Int) + (y - r.y), a0, b0⟩ ⟨0, 0, ow, oh⟩ = ⟨x1, y1, a1, b1⟩ ∧ x1 + a1 ≤ ow ∧ y1 + b1 ≤ oh ∧
    (∀ X Y : Nat, X < ow → Y < oh → (comesB gw gh r x y X Y = true ↔ (x1 ≤ X ∧ X < x1 + a1 ∧ y1 ≤ Y ∧ Y < y1 + b1))) ∧
    (0 < b1 → (u1 : Int) = x1 - (x - r.x) ∧ (v1 : Int) = y1 - (y - r.y) ∧ u1 + a1 ≤ gw ∧ v1 + b1 ≤ gh ∧ 0 < a1) := by
  obtain ⟨x0, y0, a0, b0, hq, hx, hy, hm⟩ := both_whole r gw gh g1 g2
  refine ⟨x0, y0, a0, b0, hq, hx, hy, ?_⟩
  obtain ⟨x1, y1, a1, b1, hq1, hx1, hy1, hm1⟩ := both_whole ⟨(x0 : Int) + (x - r.x), (y0 : Int) + (y - r.y), a0, b0⟩ ow oh o1 o2
  obtain ⟨⟨p1, p2⟩, ⟨p3, p4⟩, _⟩ := right_bd hr
  obtain ⟨⟨q1, q2⟩, q3, q4⟩ := xy_bd hxy
  have key : ∀ X Y : Nat, X < ow → Y < oh → (comesB gw gh r x y X Y = true ↔ ((x0 : Int) ≤ X - x + r.x ∧ X - x + r.x < x0 + a0 ∧ (y0 : Int) ≤ Y - y + r.y ∧ Y - y + r.y < y0 + b0)) := fun X Y hX hY => by
    unfold comesB
    rw [hr, hxy]
    simp only [Bool.and_self, Bool.true_and, Bool.and_eq_true]
    constructor
    · rintro ⟨h1, h2⟩
      obtain ⟨U, V, hU, hV, h3, h4⟩ := ins_true h2
      rw [hU, hV] at h1 ⊢
      have := (hm U V h3 h4).1 ⟨hr, h1⟩
      omega
    · rintro ⟨h1, h2, h3, h4⟩
      obtain ⟨U, hU⟩ : ∃ U : Nat, (X : Int) - x + r.x = U := ⟨((X : Int) - x + r.x).toNat, by omega⟩
      obtain ⟨V, hV⟩ : ∃ V : Nat, (Y : Int) - y + r.y = V := ⟨((Y : Int) - y + r.y).toNat, by omega⟩
      rw [hU] at h1 h2 ⊢
      rw [hV] at h3 h4 ⊢
      exact ⟨((hm U V (by omega) (by omega)).2 (by omega)).2, ins_nat (by omega) (by omega)⟩
  have key1 : ∀ X Y : Nat, X < ow → Y < oh → (((x0 : Int) ≤ X - x + r.x ∧ X - x + r.x < x0 + a0 ∧ (y0 : Int) ≤ Y - y + r.y ∧ Y - y + r.y < y0 + b0) ↔ (x1 ≤ X ∧ X < x1 + a1 ∧ y1 ≤ Y ∧ Y < y1 + b1)) := fun X Y hX hY => by
    rw [← hm1 X Y hX hY]
    constructor
    · rintro ⟨h1, h2, h3, h4⟩
      refine ⟨right_of (by omega), ?_⟩
      unfold inB
      simp only [Bool.and_eq_true, decide_eq_true_eq]
      omega
    · rintro ⟨_, h⟩
      unfold inB at h
      simp only [Bool.and_eq_true, decide_eq_true_eq] at h
      omega
  by_cases hb : 0 < b1
  · have ha := both_pos hq1 hb
    have e1 := (key1 x1 y1 (by omega) (by omega)).2 (by omega)
    have e2 := (key1 (x1 + a1 - 1) (y1 + b1 - 1) (by omega) (by omega)).2 (by omega)
    exact ⟨x1, y1, a1, b1, ((x1 : Int) - (x - r.x)).toNat, ((y1 : Int) - (y - r.y)).toNat, hq1, hx1, hy1, fun X Y hX hY => (key X Y hX hY).trans (key1 X Y hX hY), fun _ => by omega⟩
  · exact ⟨x1, y1, a1, b1, 0, 0, hq1, hx1, hy1, fun X Y hX hY => (key X Y hX hY).trans (key1 X Y hX hY), fun h => absurd h hb⟩

theorem idx_span {w x a X y Y : Nat} (hX : X < w) (hx : x + a ≤ w) : (y * w + x ≤ Y * w + X ∧ Y * w + X < y * w + x + a) ↔ (Y = y ∧ x ≤ X ∧ X < x + a) := by
  rcases Nat.lt_trichotomy Y y with h | h | h
  · have := Nat.mul_le_mul_right w (show Y + 1 ≤ y by omega)
    rw [Nat.succ_mul] at this
    omega
  · subst h
    omega
  · have := Nat.mul_le_mul_right w (show y + 1 ≤ Y by omega)
    rw [Nat.succ_mul] at this
    omega

/-- Rows have come: so many of them, from the first one on, or from the last one. -/
def Blitted (gw ow oh x1 y1 a1 b1 u1 v1 : Nat) (down : Bool) (F f g : Nat → Cl) (k : Nat) : Prop := ∀ X Y : Nat, X < ow → Y < oh →
  g (Y * ow + X) = if (x1 ≤ X ∧ X < x1 + a1 ∧ ((down = true ∧ y1 + b1 - k ≤ Y ∧ Y < y1 + b1) ∨ (down = false ∧ y1 ≤ Y ∧ Y < y1 + k))) then F ((Y - y1 + v1) * gw + (X - x1 + u1)) else f (Y * ow + X)

theorem Blitted.none (gw ow oh x1 y1 a1 b1 u1 v1 : Nat) (down : Bool) (F f : Nat → Cl) : Blitted gw ow oh x1 y1 a1 b1 u1 v1 down F f f 0 := fun X Y _ _ => by
  rw [if_neg (by omega)]

/-- The row that comes next. -/
def nextRow (y1 b1 : Nat) (down : Bool) (k : Nat) : Nat := if down = true then y1 + b1 - 1 - k else y1 + k

theorem Blitted.next {gw ow oh x1 y1 a1 b1 u1 v1 : Nat} {down : Bool} {F f g : Nat → Cl} {k : Nat} (h : Blitted gw ow oh x1 y1 a1 b1 u1 v1 down F f g k) (hk : k < b1) (hx : x1 + a1 ≤ ow) (hu : u1 + a1 ≤ gw) {y s : Nat} (hy : y = nextRow y1 b1 down k) (hs : s = y - y1 + v1) {S : Nat → Cl}
    (hS : ∀ U, U < gw → S (s * gw + U) = F (s * gw + U)) : Blitted gw ow oh x1 y1 a1 b1 u1 v1 down F f (fun i => if y * ow + x1 ≤ i ∧ i < y * ow + x1 + a1 then S (s * gw + u1 + (i - (y * ow + x1))) else g i) (k + 1) := fun X Y hX hY => by
  subst hs
  have e := idx_span (y := y) (Y := Y) hX hx
  simp only
  rw [h X Y hX hY]
  by_cases h1 : y * ow + x1 ≤ Y * ow + X ∧ Y * ow + X < y * ow + x1 + a1
  · obtain ⟨rfl, h2, h3⟩ := e.1 h1
    rw [if_pos h1, show (Y - y1 + v1) * gw + u1 + (Y * ow + X - (Y * ow + x1)) = (Y - y1 + v1) * gw + (X - x1 + u1) by omega, hS _ (by omega), if_pos]
    unfold nextRow at hy
    cases down <;> simp at hy ⊢ <;> omega
  · rw [if_neg h1]
    have h2 := mt e.2 h1
    unfold nextRow at hy
    by_cases h3 : (x1 ≤ X ∧ X < x1 + a1 ∧ ((down = true ∧ y1 + b1 - k ≤ Y ∧ Y < y1 + b1) ∨ (down = false ∧ y1 ≤ Y ∧ Y < y1 + k)))
    · rw [if_pos h3, if_pos]
      cases down <;> simp at hy h3 ⊢ <;> omega
    · rw [if_neg h3, if_neg]
      cases down <;> simp at hy h3 ⊢ <;> omega

/-- Cells have come. -/
def Blits (gw gh ow oh : Nat) (r : R) (x y : Int) (F f g : Nat → Cl) : Prop := ∀ X Y : Nat, X < ow → Y < oh → g (Y * ow + X) = if comesB gw gh r x y X Y = true then atF gw gh F (X - x + r.x) (Y - y + r.y) else f (Y * ow + X)

theorem Blitted.all {gw gh ow oh x1 y1 a1 b1 u1 v1 : Nat} {down : Bool} {F f g : Nat → Cl} {r : R} {x y : Int} (h : Blitted gw ow oh x1 y1 a1 b1 u1 v1 down F f g b1)
    (hm : ∀ X Y : Nat, X < ow → Y < oh → (comesB gw gh r x y X Y = true ↔ (x1 ≤ X ∧ X < x1 + a1 ∧ y1 ≤ Y ∧ Y < y1 + b1)))
    (hu : 0 < b1 → (u1 : Int) = x1 - (x - r.x) ∧ (v1 : Int) = y1 - (y - r.y) ∧ u1 + a1 ≤ gw ∧ v1 + b1 ≤ gh ∧ 0 < a1) : Blits gw gh ow oh r x y F f g := fun X Y hX hY => by
  rw [h X Y hX hY]
  by_cases hc : comesB gw gh r x y X Y = true
  · have h1 := (hm X Y hX hY).1 hc
    obtain ⟨e1, e2, e3, e4, _⟩ := hu (by omega)
    rw [if_pos hc, if_pos (by cases down <;> simp <;> omega)]
    rw [show (X : Int) - x + r.x = ((X - x1 + u1 : Nat) : Int) by omega, show (Y : Int) - y + r.y = ((Y - y1 + v1 : Nat) : Int) by omega, atF_nat F (by omega) (by omega)]
  · have h1 := mt (hm X Y hX hY).2 hc
    rw [if_neg hc, if_neg (by cases down <;> simp <;> omega)]

theorem Blits.wrong {gw gh ow oh : Nat} {r : R} {x y : Int} (F f : Nat → Cl) (h : (rightB r && rightB ⟨x, y, 0, 0⟩) = false) : Blits gw gh ow oh r x y F f f ∧ cntAll (comesB gw gh r x y) ow oh = 0 := by
  have hc : ∀ X Y, comesB gw gh r x y X Y = false := fun X Y => by unfold comesB; rw [h]; rfl
  exact ⟨fun X Y _ _ => by rw [hc X Y]; simp, cntAll_none (fun X Y _ _ => hc X Y)⟩

end Go.Proofs.YticccknocjnkpaaDoor
