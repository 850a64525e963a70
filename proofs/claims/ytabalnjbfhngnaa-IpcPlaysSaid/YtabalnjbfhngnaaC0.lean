/-
  How many messages a ring has, where one stands; a ring is made; bytes are copied: walked. No conditions.
-/
import Derived.Test.YtabalnjbfhngnaaB1
import Derived.Laws.MakeOwn
namespace Go.Proofs.Ytabalnjbfhngnaa
open Go.RowKit

theorem len13 (q : Rg) (w : World) (hB : RBox w q.b q.bx) : Calls Try.prog 13 #[.pointer (some ⟨q.b, 0, none⟩)] w (Gives (.int .i64 (q.n : Nat)) w) := by
  obtain ⟨b0, b1, b2, f0, f1, f2⟩ := hB
  simp only [Rg.bx] at b0 b1 b2
  go_enter Try.func13, Try.ntmps13
  go_wp2
  go_ret
  exact ⟨rfl, Stay.refl _ _⟩

theorem at14 (q : Rg) (i s : Nat) (w : World) (hB : RBox w q.b q.bx) (hc : 0 < q.c) (hcm : q.c ≤ 4096) (hf : q.f ≤ 4096) (hi : i ≤ 4096) (hs : s = (q.f + i) % q.c) : Calls Try.prog 14 #[.pointer (some ⟨q.b, 0, none⟩), .int .i64 (i : Nat)] w (Gives (.int .i64 (s : Nat)) w) := by
  obtain ⟨b0, b1, b2, f0, f1, f2⟩ := hB
  simp only [Rg.bx] at b0 b1 b2
  have e1 : IntKind.i64.wrap ((q.f : Int) + (i : Int)) = ((q.f + i : Nat) : Int) := by rw [IntKind.wrap_i64]; omega
  have e2 : ((q.f + i : Nat) : Int) % ((q.c : Nat) : Int) = (s : Nat) := by rw [hs]; rfl
  obtain ⟨t, ht⟩ : ∃ t, t = q.f + i := ⟨_, rfl⟩
  rw [← ht] at e1 e2
  have c0 : ¬ ((q.c : Nat) : Int) = 0 := by omega
  have HE := hide' e2
  clear hs ht e2
  go_enter Try.func14, Try.ntmps14
  go_wp2
  go_quiet (fail)
  go_wp2
  go_ret
  refine ⟨?_, (Stay.refl _ _).drewN _⟩
  show Ending.returned (.int .i64 ((t : Nat) % (q.c : Nat))) = _
  rw [HE.out]

/-- Rows that are made, of elements of any size. -/
theorem wpList_makeS {P : Program} (w : World) {ops : Array Oper} {rest : List Oper} {o : Oper} {a : Act} {Q : Exit → Act → World → Prop}
    (hg : o.guard = none) (x : Operand) (t : TypeId) (hop : o.op = Op.makeSlice t x x)
    (e : TypeId) (z : Value) (size bytes : Nat) (ht : P.underlying t = some (.slice e)) (hinfo : (P.info? e).map (fun i => (i.zero, i.size, i.bytes)) = some (some z, size, bytes)) (cells : Array Value) (hz1 : z.cells = cells)
    (n : Nat) (N : Int) (hx : a.eval x = .int .i64 N) (hN : N = (n : Int)) (hbytes : bytes * n ≤ 281474976710656) (h63 : n ≤ 9223372036854775807)
    (hK : wpList P ops Q rest (a.put o.dst (.slice (some ⟨w.heap.size, 0, none⟩) n n)) (w.alloc (.cells (madeCells cells (n * size)) e))) :
    wpList P ops Q (o :: rest) a w := by
  subst hN hz1
  obtain ⟨i, hi, hzz⟩ := Option.map_eq_some_iff.1 hinfo
  simp only [Prod.mk.injEq] at hzz
  obtain ⟨hz, hs, hb⟩ := hzz
  refine wpList_plain hg fun K hK' => ?_
  have hrun := run_make (P := P) w t e i z ht hi hz .i64 .i64 n n (by omega) (Int.le_refl _) (by rw [hb, ← Int.natCast_mul]; omega) (by omega)
  simp only [Int.toNat_natCast, hs] at hrun
  unfold Oper.wp
  simp [execOp, hop, hx, hrun, Result.andThen]
  exact hK' _ _ hK

theorem info28 : (Try.prog.info? 28).map (fun i => (i.zero, i.size, i.bytes)) = some (some (.agg #[.int .i64 0, .slice none 0 0]), 2, 32) := by kernel_rfl

theorem info5 : (Try.prog.info? 5).map (fun i => (i.zero, i.size, i.bytes)) = some (some (.int .u8 0), 1, 1) := by kernel_rfl

theorem made_at (n i : Nat) (hi : i < n) (w : World) : (w.alloc (.cells (madeCells #[.int .i64 0, .slice none 0 0] (n * 2)) 28)).cell? ⟨w.heap.size, i * 2, none⟩ = some (.int .i64 0) ∧ (w.alloc (.cells (madeCells #[.int .i64 0, .slice none 0 0] (n * 2)) 28)).cell? ⟨w.heap.size, i * 2 + 1, none⟩ = some (.slice none 0 0) := by
  have h1 : i * 2 < n * 2 := by omega
  have h2 : i * 2 + 1 < n * 2 := by omega
  have m1 : i * 2 % 2 = 0 := by omega
  have m2 : (i * 2 + 1) % 2 = 1 := by omega
  constructor
  · simp [madeCells, h1, m1]
  · simp [madeCells, h2, m2]

theorem places_made (w : World) (n : Nat) : Places (w.alloc (.cells (madeCells #[.int .i64 0, .slice none 0 0] (n * 2)) 28)) w.heap.size n (fun _ => (0, .slice none 0 0)) := by
  refine ⟨fun i hi j u hu => ?_, fun j hj => ?_⟩
  · match j, hu with
    | 0, hu => cases hu; exact (made_at n i hi w).1
    | 1, hu => cases hu; exact (made_at n i hi w).2
  · constructor
    · rw [Nat.zero_add]
      have h := made_at n (j / 2) (by omega) w
      rcases Nat.mod_two_eq_zero_or_one j with e | e
      · rw [show j = j / 2 * 2 by omega, h.1]; rfl
      · rw [show j = j / 2 * 2 + 1 by omega, h.2]; rfl
    · simp

/-- A ring that was made. -/
def Made (r : Nat) (w : World) (e : Ending) (w' : World) : Prop := ∃ q : Rg, e = .returned (.pointer (some ⟨q.b, 0, none⟩)) ∧ Stay (fun _ => False) w w' ∧ RAt w' q [] ∧ w.heap.size ≤ q.b ∧ w.heap.size ≤ q.rb ∧ q.c = r ∧ q.n = 0

set_option maxRecDepth 100000 in
theorem new8 (r : Nat) (w : World) (h1 : 1 ≤ r) (h2 : r ≤ 4096) : Calls Try.prog 8 #[.int .i64 (r : Nat)] w (Made r w) := by
  have i1 : ¬ ((r : Nat) : Int) < 1 := by omega
  have i2 : ¬ (4096 : Int) < (r : Nat) := by omega
  obtain ⟨W, hW⟩ : ∃ W, W = w.alloc (.cells (madeCells #[.int .i64 0, .slice none 0 0] (r * 2)) 28) := ⟨_, rfl⟩
  have HN : Hid (((r : Nat) : Int) = (r : Nat) ∧ 32 * r ≤ 281474976710656 ∧ r ≤ 9223372036854775807 ∧ 1 ≤ r ∧ r ≤ 4096) := ⟨rfl, by omega, by omega, h1, h2⟩
  have HSZ : Hid (W.heap.size = w.heap.size + 1) := by rw [hW]; show _ = _; simp
  have HP : Hid (Places W w.heap.size r (fun _ => (0, .slice none 0 0))) := by rw [hW]; exact places_made w r
  have HW := hide' hW
  clear hW h1 h2
  go_enter Try.func8, Try.ntmps8
  go_wp2_with (refine wpList_makeS _ rfl (.tmp 9) 22 rfl 28 (.agg #[.int .i64 0, .slice none 0 0]) 2 32 Try.underlying22 info28 #[.int .i64 0, .slice none 0 0] rfl r _ rfl HN.out.1 HN.out.2.1 HN.out.2.2.1 ?_; rw [← HW.out])
  go_returns
  obtain ⟨_, _, _, h1, h2⟩ := HN.out
  have hsz := HSZ.out
  have hst : Stay (fun _ => False) w W := by rw [HW.out]; exact (Stay.refl _ _).alloc _
  exact ⟨⟨W.heap.size, w.heap.size, r, 0, 0, fun _ => (0, .slice none 0 0)⟩, rfl, hst.alloc _,
    ⟨RBox.new ⟨.slice (some ⟨w.heap.size, 0, none⟩) r r, 0, 0⟩ rfl, HP.out.stay ((Stay.refl (fun _ => False) W).alloc _) (fun h => h), rfl, h1, Nat.zero_le _, h2, (by show ¬ w.heap.size = W.heap.size; omega), fun k hk => absurd hk (Nat.not_lt_zero k), fun k hk => absurd hk (Nat.not_lt_zero k), fun k hk => absurd hk (Nat.not_lt_zero k), fun k _ hk => absurd hk (Nat.not_lt_zero k)⟩, (by show w.heap.size ≤ W.heap.size; omega), Nat.le_refl _, rfl, rfl⟩

theorem new8_low (r : Int) (w : World) (h : r < 1) : Calls Try.prog 8 #[.int .i64 r] w (Gives (.pointer none) w) := by
  go_enter Try.func8, Try.ntmps8
  go_wp2
  go_ret
  exact ⟨rfl, Stay.refl _ _⟩

theorem new8_high (r : Int) (w : World) (h : 4096 < r) : Calls Try.prog 8 #[.int .i64 r] w (Gives (.pointer none) w) := by
  have i1 : ¬ r < 1 := by omega
  go_enter Try.func8, Try.ntmps8
  go_wp2
  go_ret
  exact ⟨rfl, Stay.refl _ _⟩

theorem eql26_nil (a : Addr) (m c : Nat) (w : World) : (binOp .eql 26 (.slice (some a) m c) (.slice none 0 0)).run Try.prog w = .ok (.bool false) w := by
  simp only [binOp]
  simp [run_equal_slice_nil w 26 5 (some a) m c Try.underlying26]

theorem eql26_none (w : World) : (binOp .eql 26 (.slice none 0 0) (.slice none 0 0)).run Try.prog w = .ok (.bool true) w := by
  simp only [binOp]
  simp [run_equal_slice_nil w 26 5 none 0 0 Try.underlying26]

attribute [local go_sem] eql26_nil eql26_none

/-- Bytes in a new row. -/
def Cloned (l : List Int) (w : World) (e : Ending) (w' : World) : Prop := ∃ a k c, e = .returned (.slice a k c) ∧ Holds w' (.slice a k c) l ∧ Stay (fun _ => False) w w' ∧ ∀ j, (Value.slice a k c).ownBlock = some j → w.heap.size ≤ j

theorem clone16 (v : Value) (l : List Int) (w : World) (hr : IsRow w v (bys l)) (hl : l.length ≤ 4096) : Calls Try.prog 16 #[v] w (Cloned l w) := by
  rcases hr with ⟨rfl, hn⟩ | ⟨ad, m, c, rfl, hm, hc⟩
  · have h0 : l = [] := List.eq_nil_of_length_eq_zero (by rw [← bys_len, hn]; rfl)
    subst h0
    clear hn hl
    go_enter Try.func16, Try.ntmps16
    go_wp2
    go_ret
    exact ⟨none, 0, 0, rfl, World.ownsRow_nil w 0 5 1, Stay.refl _ _, fun j hj => by cases hj⟩
  · have HO : Hid ((w.alloc (.cells #[] 5)).ownsRow w.heap.size 5 1 (.slice (some ⟨w.heap.size, 0, none⟩) 0 0) 0 []) := owns_newS w #[] 5 1 0 rfl (by decide)
    have HSRC : Hid (IsRow (w.alloc (.cells #[] 5)) (.slice (some ad) m c) (bys l)) := isRow_keep (.inr ⟨ad, m, c, rfl, hm, hc⟩) ((Stay.refl _ _).alloc _)
    have HLN : Hid (0 + (bys l).length ≤ 1000000) := by rw [bys_len]; show 0 + l.length ≤ 1000000; omega
    have HBS : Hid (w.heap.size ≤ (w.alloc (.cells #[] 5)).heap.size) := ((Stay.refl (fun _ => False) w).alloc _).size
    clear hm hc hl
    go_enter Try.func16, Try.ntmps16
    go_wp2_with (at_builtin; refine appL (fun j => w.heap.size ≤ j) rfl _ _ 26 rfl Try.underlying26 info5 rfl (by decide) HO.out rfl HSRC.out rfl (bys_one _) HLN.out HBS.out (fun k hk => (HO.out.lt k hk).1) ?_; intro v1 w1 ho hs; have HO1 := hide' ho; have HS1 := hide' hs; clear ho hs)
    go_returns
    have ho := HO1.out
    rw [Nat.zero_add, List.nil_append, bys_len] at ho
    have hs : Stay (fun _ => False) w w1 := ((Stay.refl (fun _ => False) w).alloc (.cells #[] 5)).trans2 HS1.out (fun j hj h => by omega)
    obtain ⟨a, c1, rfl, _⟩ := ownsRow_shape ho
    exact ⟨a, _, c1, rfl, ownsRow_base ho (Nat.zero_le _), hs, fun j hj => (ho.lt j hj).1⟩

end Go.Proofs.Ytabalnjbfhngnaa
