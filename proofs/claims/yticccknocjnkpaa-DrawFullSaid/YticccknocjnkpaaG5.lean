/-
  A rectangle of a grid is filled: walked. No conditions.
  A grid is made: walked. No conditions.
-/
import Derived.Test.YticccknocjnkpaaG4
import Derived.Deep.DeepCutAuto
import Derived.Laws.MakeOwn
namespace Go.Proofs.Yticccknocjnkpaa
open Go.RowKit

theorem Box.stay {T : Nat → Prop} {W w1 : World} {b : Nat} {r : R} (h : Box W b r) (hs : Stay T W w1) (hn : ¬ T b) : Box w1 b r := by
  have hb : b < W.heap.size := World.block_lt_of_cell? _ _ h.c0
  have c : ∀ o, w1.cell? ⟨b, o, none⟩ = W.cell? ⟨b, o, none⟩ := fun o => hs.cell (p := ⟨b, o, none⟩) hb hn
  have f : ∀ o, w1.frozen? ⟨b, o, none⟩ = W.frozen? ⟨b, o, none⟩ := fun o => hs.frozen (p := ⟨b, o, none⟩) hb hn
  exact ⟨(c 0).trans h.c0, (c 1).trans h.c1, (c 2).trans h.c2, (c 3).trans h.c3, (f 0).trans h.f0, (f 1).trans h.f1, (f 2).trans h.f2, (f 3).trans h.f3⟩

end Go.Proofs.Yticccknocjnkpaa

namespace Go.Proofs.Yticccknocjnkpaa
open Go.RowKit

/-- Rows that are made, of elements of any size. -/
theorem wpList_makeS {P : Program} (w : World) {ops : Array Oper} {rest : List Oper} {o : Oper} {a : Act} {Q : Exit → Act → World → Prop}
    (hg : o.guard = none) (x : Operand) (t : TypeId) (hop : o.op = Op.makeSlice t x x)
    (e : TypeId) (z : Value) (size bytes : Nat) (ht : P.underlying t = some (.slice e)) (hinfo : (P.info? e).map (fun i => (i.zero, i.size, i.bytes)) = some (some z, size, bytes)) (cells : Array Value) (hz1 : z.cells = cells)
    (n : Nat) (N : Int) (hx : a.eval x = .int .i64 N) (hN : N = (n : Int)) (hbytes : bytes * n ≤ 281474976710656) (h63 : n ≤ 9223372036854775807)
    (hK : wpList P ops Q rest (a.put o.dst (.slice (some ⟨w.heap.size, 0, none⟩) n n)) (w.alloc (.cells (madeCells cells (n * size)) e))) :
    wpList P ops Q (o :: rest) a w := by
  subst hN hz1
  obtain ⟨i, hi, hzz⟩ := Option.map_eq_some_iff.1 hinfo
  simp only [Prod.mk.injEq] at hzz
  obtain ⟨hz, hs, hb⟩ := hzz
  refine wpList_plain hg fun K hK' => ?_
  have hrun := run_make (P := P) w t e i z ht hi hz .i64 .i64 n n (by omega) (Int.le_refl _) (by rw [hb, ← Int.natCast_mul]; omega) (by omega)
  simp only [Int.toNat_natCast, hs] at hrun
  unfold Oper.wp
  simp [execOp, hop, hx, hrun, Result.andThen]
  exact hK' _ _ hK

/-- While a grid is made: so many rows are there. -/
structure RIn (w : World) (bc br a b k : Nat) (wr : World) : Prop where
  stay : Stay (fun _ => False) w wr
  pix : Pix wr bc (a * b) (fun _ => Cl.zero)
  rows : ∀ y, y < k → wr.cell? ⟨br, y, none⟩ = some (.slice (some ⟨bc, y * a * 4, none⟩) a (a * b - y * a))
  more : ∀ y, y < b → (wr.cell? ⟨br, y, none⟩).isSome = true ∧ wr.frozen? ⟨br, y, none⟩ = false
  ne : br ≠ bc
  new : w.heap.size ≤ bc ∧ w.heap.size ≤ br

theorem RIn.next {w wr : World} {bc br a b k : Nat} (h : RIn w bc br a b k wr) {lo m c : Nat} (hlo : lo = k * a) (hm : m = a) (hc : c = a * b - lo) (hk : k < b) :
    RIn w bc br a b (k + 1) (wr.setCell ⟨br, k, none⟩ (.slice (some ⟨bc, lo * 4, none⟩) m c)) := by
  subst hlo hm hc
  have hs : Stay (fun j => j = br) wr (wr.setCell ⟨br, k, none⟩ (.slice (some ⟨bc, k * m * 4, none⟩) m (m * b - k * m))) := (Stay.refl (fun j => j = br) wr).setCell (p := ⟨br, k, none⟩) rfl _
  refine ⟨h.stay.setNew (p := ⟨br, k, none⟩) h.new.2 _, h.pix.stay hs (fun e => h.ne e.symm), fun y hy => ?_, fun y hy => ?_, h.ne, h.new⟩
  · by_cases hyk : y = k
    · subst hyk
      obtain ⟨u, hu⟩ := Option.isSome_iff_exists.1 (h.more y hk).1
      exact World.cell?_setCell_same _ _ _ hu
    · exact (World.cell?_setCells_out br [_] k wr ⟨br, y, none⟩ (fun _ _ => by show y < k ∨ k + 1 ≤ y; omega)).trans (h.rows y (by omega))
  · have := h.more y hy
    exact ⟨World.isSome_setCells br [_] k wr ⟨br, y, none⟩ this.1, (World.frozen?_setCells br [_] k wr _).trans this.2⟩

/-- Rows' places that may be written. -/
def RowsThere (w : World) (br b : Nat) : Prop := ∀ y, y < b → (w.cell? ⟨br, y, none⟩).isSome = true ∧ w.frozen? ⟨br, y, none⟩ = false

theorem RowsThere.made (w : World) (b : Nat) : RowsThere (w.alloc (.cells (madeCells #[.slice none 0 0] (b * 1)) 33)) w.heap.size b := fun y hy => by
  have h := World.rowIs_made w (.slice none 0 0) (b * 1) 33
  exact ⟨by rw [h.cell (by omega)]; rfl, h.frozen y⟩

theorem RowsThere.keep {w w1 : World} {br b : Nat} (h : RowsThere w br b) (hs : Stay (fun _ => False) w w1) : RowsThere w1 br b := fun y hy => by
  obtain ⟨h1, h2⟩ := h y hy
  obtain ⟨u, hu⟩ := Option.isSome_iff_exists.1 h1
  have hb : br < w.heap.size := World.block_lt_of_cell? _ _ hu
  rw [hs.cell (p := ⟨br, y, none⟩) hb (fun h => h), hs.frozen (p := ⟨br, y, none⟩) hb (fun h => h)]
  exact ⟨h1, h2⟩

/-- A new grid: it is blank. -/
def NewGrid (a b : Nat) (f : Nat → Cl) (w : World) (e : Ending) (w' : World) : Prop := ∃ G : Gr, e = .returned (.pointer (some ⟨G.g, 0, none⟩)) ∧ Stay (fun _ => False) w w' ∧ GridAt w' G f ∧ G.w = a ∧ G.h = b ∧ G.above w.heap.size

set_option maxHeartbeats 2000000 in
theorem new24 (a b : Nat) (w : World) (a1 : 1 ≤ a) (a2 : a ≤ 512) (b1 : 1 ≤ b) (b2 : b ≤ 512) : Calls Try.prog 24 #[.int .i64 (a : Nat), .int .i64 (b : Nat)] w (NewGrid a b (fun _ => Cl.zero) w) := by
  have HA := hide' (isSize52 a)
  have HB := hide' (isSize52 b)
  rw [show sizeB a = true by unfold sizeB; simp; omega] at HA
  rw [show sizeB b = true by unfold sizeB; simp; omega] at HB
  have hm : a * b ≤ 512 * 512 := Nat.mul_le_mul a2 b2
  have m1 : IntKind.i64.wrap ((a : Int) * (b : Int)) = (a : Int) * b := by rw [IntKind.wrap_i64, ← Int.natCast_mul]; omega
  obtain ⟨n, hn⟩ : ∃ n, n = a * b := ⟨_, rfl⟩
  have HN : Hid ((a : Int) * (b : Int) = (n : Nat) ∧ 32 * n ≤ 281474976710656 ∧ n ≤ 9223372036854775807) := ⟨by rw [hn]; simp, by omega, by omega⟩
  have HNN := hide' hn
  have a3 : (a : Int) ≤ 512 := by omega
  have b3 : (b : Int) ≤ 512 := by omega
  have HST := hide' (Stay.refl (fun _ => False) w)
  clear hn hm
  go_enter Try.func24, Try.ntmps24
  go_wp2_with fail
  refine (HA.out _).mono ?_
  rintro e w' ⟨rfl, rfl⟩
  go_wp2_with fail
  refine (HB.out _).mono ?_
  rintro e w' ⟨rfl, rfl⟩
  go_upto_region 3 with fail
  go_cut [5, 6] (fun s5 s6 wx => ∃ bc br, s5 = .slice (some ⟨bc, 0, none⟩) n n ∧ s6 = .slice (some ⟨br, 0, none⟩) b b ∧ Hid (Stay (fun _ => False) w wx ∧ Pix wx bc n (fun _ => Cl.zero) ∧ RowsThere wx br b ∧ br ≠ bc ∧ w.heap.size ≤ bc ∧ w.heap.size ≤ br))
  case first =>
    refine any_begin (fun _ => True) (by kernel_rfl) (fun K0 hK0 => ?_)
    have HST' := hide' HST.out.drew
    clear HST
    have HST := HST'
    clear HST'
    obtain ⟨Wd, hWd⟩ : ∃ Wd, Wd = w.drew := ⟨_, rfl⟩
    rw [← hWd] at HST
    rw [← hWd]
    clear hWd
    refine any_take (i := 0) hK0 (some 16) (.move (.tmp 0)) 3 _ (by kernel_rfl) (fun _ d _ _ _ h => by cases d <;> exact h) (by kernel_rfl) (by kernel_rfl) (fun w' hS' => by simp only [opr]; go_simp; try with_reducible rfl) trivial (fun K1 hK1 => ?_)
    clear hK0 K0
    try simp only [Act.put, List.setIfInBounds_toArray, List.set_cons_zero, List.set_cons_succ]
    refine any_take (i := 1) hK1 (some 17) (.move (.tmp 1)) 3 _ (by kernel_rfl) (fun _ d _ _ _ h => by cases d <;> exact h) (by kernel_rfl) (by kernel_rfl) (fun w' hS' => by simp only [opr]; go_simp; try with_reducible rfl) trivial (fun K2 hK2 => ?_)
    clear hK1 K1
    try simp only [Act.put, List.setIfInBounds_toArray, List.set_cons_zero, List.set_cons_succ]
    refine any_take (i := 2) hK2 (some 18) (.binOp BinOp.mul 3 (.tmp 16) (.tmp 17) 3) 3 _ (by kernel_rfl) (fun _ d _ _ _ h => by cases d <;> exact h) (by kernel_rfl) (by kernel_rfl) (fun w' hS' => by simp only [opr]; go_simp; try with_reducible rfl) trivial (fun K3 hK3 => ?_)
    clear hK2 K2
    try simp only [Act.put, List.setIfInBounds_toArray, List.set_cons_zero, List.set_cons_succ]
    refine any_take (i := 4) hK3 (some 20) (.move (.tmp 1)) 3 _ (by kernel_rfl) (fun _ d _ _ _ h => by cases d <;> exact h) (by kernel_rfl) (by kernel_rfl) (fun w' hS' => by simp only [opr]; go_simp; try with_reducible rfl) trivial (fun K4 hK4 => ?_)
    clear hK3 K3
    try simp only [Act.put, List.setIfInBounds_toArray, List.set_cons_zero, List.set_cons_succ]
    refine any_pick (rs := [3, 5]) hK4 (by kernel_rfl) (fun K5 hK5 => ?_)
    clear hK4 K4
    intro i hi
    simp only [List.mem_cons, List.not_mem_nil, or_false] at hi
    rcases hi with rfl | rfl
    · refine op_plain (some 19) (.makeSlice 33 (.tmp 18) (.tmp 18)) 33 (by kernel_rfl) (by kernel_rfl) ?_
      refine wpList_makeS Wd rfl (.tmp 18) 33 rfl 53 (.agg #[.int .i32 0, .int .i64 0, .int .i64 0, .int .i64 0]) 4 32 Try.underlying33 (by kernel_rfl) (Cl.zero.parts.toArray) rfl n _ rfl HN.out.1 HN.out.2.1 HN.out.2.2 ?_
      refine wpList_nil ?_
      have st : Stay (fun _ => False) Wd (Wd.alloc (.cells (madeCells (Cl.zero.parts.toArray) (n * 4)) 53)) := (Stay.refl _ _).alloc _
      have HPX : Hid (Pix (Wd.alloc (.cells (madeCells (Cl.zero.parts.toArray) (n * 4)) 53)) Wd.heap.size n (fun _ => Cl.zero)) := Pix.made Wd n HN.out.2.2
      have HPB : Hid (w.heap.size ≤ Wd.heap.size) := HST.out.size
      have HPL : Hid (Wd.heap.size < (Wd.alloc (.cells (madeCells (Cl.zero.parts.toArray) (n * 4)) 53)).heap.size) := show _ < _ from by simp
      have HST' := hide' (HST.out.trans st)
      clear HST st
      have HST := HST'
      clear HST'
      obtain ⟨B1, hB⟩ : ∃ B, B = Wd.heap.size := ⟨_, rfl⟩
      rw [← hB] at HPX HPB HPL
      rw [← hB]
      clear hB
      obtain ⟨Wm1, hW⟩ : ∃ W, W = (Wd.alloc (.cells (madeCells (Cl.zero.parts.toArray) (n * 4)) 53)) := ⟨_, rfl⟩
      rw [← hW] at HST HPX HPL
      rw [← hW]
      clear hW
      refine hK5 3 (by simp) _ _ trivial (any_more fun K6 hK6 => ?_)
      clear hK5 K5
      refine any_take (i := 6) hK6 (some 5) (.assign (.tmp 19)) 33 _ (by kernel_rfl) (fun _ d _ _ _ h => by cases d <;> exact h) (by kernel_rfl) (by kernel_rfl) (fun w' hS' => by simp only [opr]; go_simp; try with_reducible rfl) trivial (fun K7 hK7 => ?_)
      clear hK6 K6
      try simp only [Act.put, List.setIfInBounds_toArray, List.set_cons_zero, List.set_cons_succ]
      refine any_pick (rs := [5]) hK7 (by kernel_rfl) (fun K8 hK8 => ?_)
      clear hK7 K7
      intro i hi
      simp only [List.mem_cons, List.not_mem_nil, or_false] at hi
      rcases hi with rfl
      refine op_plain (some 21) (.makeSlice 104 (.tmp 20) (.tmp 20)) 104 (by kernel_rfl) (by kernel_rfl) ?_
      refine wpList_makeS Wm1 rfl (.tmp 20) 104 rfl 33 (.slice none 0 0) 1 24 Try.underlying104 (by kernel_rfl) #[.slice none 0 0] rfl b _ rfl rfl (by omega) (by omega) ?_
      refine wpList_nil ?_
      have st : Stay (fun _ => False) Wm1 (Wm1.alloc (.cells (madeCells #[.slice none 0 0] (b * 1)) 33)) := (Stay.refl _ _).alloc _
      have HRR : Hid (RowsThere (Wm1.alloc (.cells (madeCells #[.slice none 0 0] (b * 1)) 33)) Wm1.heap.size b) := RowsThere.made Wm1 b
      have HRB : Hid (w.heap.size ≤ Wm1.heap.size) := HST.out.size
      have HPX' : Hid (Pix (Wm1.alloc (.cells (madeCells #[.slice none 0 0] (b * 1)) 33)) B1 n (fun _ => Cl.zero)) := HPX.out.keep st
      clear HPX
      have HPX := HPX'
      clear HPX'
      have HNE : Hid (Wm1.heap.size ≠ B1) := fun h => by have := HPL.out; omega
      have HST' := hide' (HST.out.trans st)
      clear HST st
      have HST := HST'
      clear HST'
      obtain ⟨B2, hB⟩ : ∃ B, B = Wm1.heap.size := ⟨_, rfl⟩
      rw [← hB] at HRR HRB HNE
      rw [← hB]
      clear hB
      obtain ⟨Wm2, hW⟩ : ∃ W, W = (Wm1.alloc (.cells (madeCells #[.slice none 0 0] (b * 1)) 33)) := ⟨_, rfl⟩
      rw [← hW] at HST HPX HRR
      rw [← hW]
      clear hW
      refine hK8 5 (by simp) _ _ trivial (any_more fun K9 hK9 => ?_)
      clear hK8 K8
      refine any_take (i := 7) hK9 (some 6) (.assign (.tmp 21)) 104 _ (by kernel_rfl) (fun _ d _ _ _ h => by cases d <;> exact h) (by kernel_rfl) (by kernel_rfl) (fun w' hS' => by simp only [opr]; go_simp; try with_reducible rfl) trivial (fun K10 hK10 => ?_)
      clear hK9 K9
      try simp only [Act.put, List.setIfInBounds_toArray, List.set_cons_zero, List.set_cons_succ]
      refine any_done hK10 (by kernel_rfl) ?_
      clear hK10 K10
      go_wp2_with fail
      go_meet
      exact ⟨B1, B2, rfl, rfl, ⟨HST.out, HPX.out, HRR.out, HNE.out, HPB.out, HRB.out⟩⟩
    · refine op_plain (some 21) (.makeSlice 104 (.tmp 20) (.tmp 20)) 104 (by kernel_rfl) (by kernel_rfl) ?_
      refine wpList_makeS Wd rfl (.tmp 20) 104 rfl 33 (.slice none 0 0) 1 24 Try.underlying104 (by kernel_rfl) #[.slice none 0 0] rfl b _ rfl rfl (by omega) (by omega) ?_
      refine wpList_nil ?_
      have st : Stay (fun _ => False) Wd (Wd.alloc (.cells (madeCells #[.slice none 0 0] (b * 1)) 33)) := (Stay.refl _ _).alloc _
      have HRR : Hid (RowsThere (Wd.alloc (.cells (madeCells #[.slice none 0 0] (b * 1)) 33)) Wd.heap.size b) := RowsThere.made Wd b
      have HRB : Hid (w.heap.size ≤ Wd.heap.size) := HST.out.size
      have HRL : Hid (Wd.heap.size < (Wd.alloc (.cells (madeCells #[.slice none 0 0] (b * 1)) 33)).heap.size) := show _ < _ from by simp
      have HST' := hide' (HST.out.trans st)
      clear HST st
      have HST := HST'
      clear HST'
      obtain ⟨B3, hB⟩ : ∃ B, B = Wd.heap.size := ⟨_, rfl⟩
      rw [← hB] at HRR HRB HRL
      rw [← hB]
      clear hB
      obtain ⟨Wm3, hW⟩ : ∃ W, W = (Wd.alloc (.cells (madeCells #[.slice none 0 0] (b * 1)) 33)) := ⟨_, rfl⟩
      rw [← hW] at HST HRR HRL
      rw [← hW]
      clear hW
      refine hK5 5 (by simp) _ _ trivial (any_more fun K6 hK6 => ?_)
      clear hK5 K5
      refine any_pick (rs := [3]) hK6 (by kernel_rfl) (fun K7 hK7 => ?_)
      clear hK6 K6
      intro i hi
      simp only [List.mem_cons, List.not_mem_nil, or_false] at hi
      rcases hi with rfl
      refine op_plain (some 19) (.makeSlice 33 (.tmp 18) (.tmp 18)) 33 (by kernel_rfl) (by kernel_rfl) ?_
      refine wpList_makeS Wm3 rfl (.tmp 18) 33 rfl 53 (.agg #[.int .i32 0, .int .i64 0, .int .i64 0, .int .i64 0]) 4 32 Try.underlying33 (by kernel_rfl) (Cl.zero.parts.toArray) rfl n _ rfl HN.out.1 HN.out.2.1 HN.out.2.2 ?_
      refine wpList_nil ?_
      have st : Stay (fun _ => False) Wm3 (Wm3.alloc (.cells (madeCells (Cl.zero.parts.toArray) (n * 4)) 53)) := (Stay.refl _ _).alloc _
      have HPX : Hid (Pix (Wm3.alloc (.cells (madeCells (Cl.zero.parts.toArray) (n * 4)) 53)) Wm3.heap.size n (fun _ => Cl.zero)) := Pix.made Wm3 n HN.out.2.2
      have HPB : Hid (w.heap.size ≤ Wm3.heap.size) := HST.out.size
      have HRR' : Hid (RowsThere (Wm3.alloc (.cells (madeCells (Cl.zero.parts.toArray) (n * 4)) 53)) B3 b) := HRR.out.keep st
      clear HRR
      have HRR := HRR'
      clear HRR'
      have HNE : Hid (B3 ≠ Wm3.heap.size) := fun h => by have := HRL.out; omega
      have HST' := hide' (HST.out.trans st)
      clear HST st
      have HST := HST'
      clear HST'
      obtain ⟨B4, hB⟩ : ∃ B, B = Wm3.heap.size := ⟨_, rfl⟩
      rw [← hB] at HPX HPB HNE
      rw [← hB]
      clear hB
      obtain ⟨Wm4, hW⟩ : ∃ W, W = (Wm3.alloc (.cells (madeCells (Cl.zero.parts.toArray) (n * 4)) 53)) := ⟨_, rfl⟩
      rw [← hW] at HST HPX HRR
      rw [← hW]
      clear hW
      refine hK7 3 (by simp) _ _ trivial (any_more fun K8 hK8 => ?_)
      clear hK7 K7
      refine any_take (i := 6) hK8 (some 5) (.assign (.tmp 19)) 33 _ (by kernel_rfl) (fun _ d _ _ _ h => by cases d <;> exact h) (by kernel_rfl) (by kernel_rfl) (fun w' hS' => by simp only [opr]; go_simp; try with_reducible rfl) trivial (fun K9 hK9 => ?_)
      clear hK8 K8
      try simp only [Act.put, List.setIfInBounds_toArray, List.set_cons_zero, List.set_cons_succ]
      refine any_take (i := 7) hK9 (some 6) (.assign (.tmp 21)) 104 _ (by kernel_rfl) (fun _ d _ _ _ h => by cases d <;> exact h) (by kernel_rfl) (by kernel_rfl) (fun w' hS' => by simp only [opr]; go_simp; try with_reducible rfl) trivial (fun K10 hK10 => ?_)
      clear hK9 K9
      try simp only [Act.put, List.setIfInBounds_toArray, List.set_cons_zero, List.set_cons_succ]
      refine any_done hK10 (by kernel_rfl) ?_
      clear hK10 K10
      go_wp2_with fail
      go_meet
      exact ⟨B4, B3, rfl, rfl, ⟨HST.out, HPX.out, HRR.out, HNE.out, HPB.out, HRB.out⟩⟩
  case rest =>
  obtain ⟨bc, br, rfl, rfl, HC⟩ := hcut
  have HI : Hid (RIn w bc br a b 0 wc) := by
    obtain ⟨h1, h2, h3, h4, h5, h6⟩ := HC.out
    exact ⟨h1, by rw [← HNN.out]; exact h2, fun y hy => absurd hy (Nat.not_lt_zero _), h3, h4, h5, h6⟩
  clear HC HST
  go_wp2_with fail
  go_loopg [24] b (fun g v wr => ∃ k : Nat, k ≤ b ∧ g = b - k ∧ v = .int .i64 (k : Int) ∧ Hid (RIn w bc br a b k wr))
  case atStart => exact ⟨0, Nat.zero_le _, rfl, rfl, HI⟩
  case round =>
    obtain ⟨k, hk, rfl, rfl, HI⟩ := hrel
    by_cases hkb : k < b
    · obtain ⟨lo, hlo⟩ : ∃ lo, lo = k * a := ⟨_, rfl⟩
      obtain ⟨hi, hhi⟩ : ∃ hi, hi = lo + a := ⟨_, rfl⟩
      have hi2 : hi ≤ n := by
        rw [hhi, hlo, HNN.out, ← Nat.succ_mul, Nat.mul_comm a b]
        exact Nat.mul_le_mul_right a hkb
      have hn3 : n ≤ 262144 := by
        rw [HNN.out]; exact Nat.mul_le_mul a2 b2
      have m2 : IntKind.i64.wrap ((k : Int) * (a : Int)) = (lo : Nat) := by rw [hlo, Int.natCast_mul, IntKind.wrap_i64, ← Int.natCast_mul, ← hlo]; omega
      have m3 : IntKind.i64.wrap (((k : Int) + 1) * (a : Int)) = (hi : Nat) := by
        rw [show ((k : Int) + 1) * (a : Int) = (hi : Nat) by rw [hhi, hlo]; push_cast; rw [Int.add_mul, Int.one_mul], IntKind.wrap_i64]; omega
      have HLO := hide' hlo
      have HHI := hide' hhi
      have l1 : (lo : Int) ≤ (hi : Nat) := by omega
      have l2 : (hi : Int) ≤ (n : Nat) := by omega
      have l3 : ¬ n = lo := by omega
      have l4 : lo < n := by omega
      obtain ⟨q1, q2⟩ := HI.out.more k hkb
      obtain ⟨u, q3⟩ := Option.isSome_iff_exists.1 q1
      have k1 : (k : Int) < (b : Nat) := by omega
      clear hlo hhi hi2 hn3 q1
      go_wp2
      go_roundg (b - (k + 1))
      case measure => omega
      case rel => exact ⟨k + 1, by omega, rfl, by go_num, HI.out.next HLO.out (by have := HHI.out; omega) (by rw [HNN.out]) hkb⟩
    · have hkb' : k = b := by omega
      subst hkb'
      have HE := HI
      clear HI
      go_wp2
      go_ret
      exact ⟨⟨wr.heap.size, br, bc, a, k⟩, rfl, HE.out.stay.alloc _, ⟨by simp, fun y hy => (keep_cell ((Stay.refl _ _).alloc _) (HE.out.rows y hy)), HE.out.pix.keep ((Stay.refl _ _).alloc _), a1, a2, b1, b2, fun h => by
        have h' : wr.heap.size = bc := h
        have := HE.out.pix.lt (Nat.mul_pos a1 b1)
        omega, HE.out.ne⟩, rfl, rfl, HE.out.stay.size, HE.out.new.2, HE.out.new.1⟩

theorem new24_nil (x y : Int) (w : World) (h : (sizeB x && sizeB y) = false) : Calls Try.prog 24 #[.int .i64 x, .int .i64 y] w (Gives (.pointer none) w) := by
  have HA := hide' (isSize52 x)
  have HB := hide' (isSize52 y)
  obtain ⟨p, hp⟩ : ∃ p, p = sizeB x := ⟨_, rfl⟩
  obtain ⟨q, hq⟩ : ∃ p, p = sizeB y := ⟨_, rfl⟩
  rw [← hp] at HA h
  rw [← hq] at HB h
  clear hp hq
  cases p
  · go_enter Try.func24, Try.ntmps24
    go_wp2_with fail
    refine (HA.out _).mono ?_
    rintro e w' ⟨rfl, rfl⟩
    go_wp2
    go_ret
    exact ⟨rfl, Stay.refl _ _⟩
  · have hq : q = false := by simpa using h
    subst hq
    go_enter Try.func24, Try.ntmps24
    go_wp2_with fail
    refine (HA.out _).mono ?_
    rintro e w' ⟨rfl, rfl⟩
    go_wp2_with fail
    refine (HB.out _).mono ?_
    rintro e w' ⟨rfl, rfl⟩
    go_wp2
    go_ret
    exact ⟨rfl, Stay.refl _ _⟩

end Go.Proofs.Yticccknocjnkpaa
