/-
  The decoder takes a byte, walked. No conditions.
-/
import Derived.Test.YtofecgjlghfnlaaDoorC1
namespace Go.Proofs.YtofecgjlghfnlaaDoor
open Go.RowKit

theorem Tbl.size {w : World} (hT : Tbl w) {f s : Nat} (hf : f < 9) (hs : tabN.getD (9 * f) 0 = s) : w.cell? ⟨0, f * 9, none⟩ = some (.int .i64 (s : Nat)) := by
  rw [Nat.mul_comm, hT (9 * f) (by omega)]
  unfold tabV
  rw [if_pos (by omega), hs]

/-- Two stores into a decoder, as a taken byte makes them. -/
theorem Dec.set2 {w : World} {D f k v : Nat} (h : Dec w D f k v) {y : Nat} {X K : Int} (hX : X = (y : Nat)) (hK : K = (k + 1 : Nat)) :
    Dec ((w.setCell ⟨D, 2, none⟩ (.int .i32 X)).setCell ⟨D, 1, none⟩ (.int .i64 K)) D f (k + 1) y := by
  subst hX hK
  exact ((h.set 2 _).set 1 _).congr fun i hi => by
    have : i = 0 ∨ i = 1 ∨ i = 2 := by omega
    rcases this with rfl | rfl | rfl <;> rfl

theorem stay2 {w : World} {D : Nat} (a b : Value) {S : Nat → Prop} (h : S D) : Stay S w ((w.setCell ⟨D, 2, none⟩ a).setCell ⟨D, 1, none⟩ b) :=
  ((Stay.refl S w).setCell (p := ⟨D, 2, none⟩) h _).setCell (p := ⟨D, 1, none⟩) h _

set_option maxHeartbeats 400000 in
theorem take_more (D f k v x y s : Nat) (t : Value) (w : World) (hT : Tbl w) (hD : Dec w D f k v) (h0 : 0 < D)
    (hf : f < 9) (hs : tabN.getD (9 * f) 0 = s) (hk : k + 1 < s) (hk4 : k < 4) (hv : v < 65536) (hx : x < 256) (hy : bits .or .i32 ((v : Int) * 64) (x : Int) = (y : Nat)) :
    Calls Tryd.prog 27 #[.pointer (some ⟨D, 0, none⟩), t, .int .u8 (x : Nat)] w fun e w' => e = .returned t ∧ Dec w' D f (k + 1) y ∧ Stay (fun k => k = D) w w' := by
  have c1 : w.cell? ⟨D, 1, none⟩ = some (.int .i64 (k : Nat)) := hD.cell (i := 1) (by decide)
  have c0 : w.cell? ⟨D, 0, none⟩ = some (.int .i64 (f : Nat)) := hD.cell (i := 0) (by decide)
  have c2 : w.cell? ⟨D, 2, none⟩ = some (.int .i32 (v : Nat)) := hD.cell (i := 2) (by decide)
  have f0 := hD.frozen 0
  have f1 := hD.frozen 1
  have f2 := hD.frozen 2
  have ct := hT.size hf hs
  have n1 : ¬ D = 0 := by omega
  have n2 : ¬ 0 = D := by omega
  have z1 : (0 : Int) ≤ f := by omega
  have z2 : (f : Int) < 9 := by omega
  have hlt : decide ((k : Int) + 1 < s) = true := by simp; omega
  have HS := hide' hs
  have HY := hide' hy
  have H0 := hide' h0
  have HTB := hide' hT
  have HD := hide' hD
  clear hT hs hy h0 hD hk
  go_enter Tryd.func27, Tryd.ntmps27
  go_wp2
  go_quiet (fail)
  go_wp2
  go_ret
  exact ⟨rfl, HD.out.set2 HY.out rfl, (stay2 (S := fun k => k = D) _ _ rfl).drewN _⟩

set_option maxHeartbeats 400000 in
theorem take_full (D f k v base n x y s : Nat) (t : Value) (xs : List Value) (w : World) (hT : Tbl w) (hD : Dec w D f k v) (h0 : 0 < D) (hb : D < base) (hbw : base ≤ w.heap.size) (ht : w.ownsRow base 21 1 t n xs) (hn : n < 1000000)
    (hf : f < 9) (hs : tabN.getD (9 * f) 0 = s) (hk : s = k + 1) (hk4 : k < 4) (hv : v < 65536) (hx : x < 256) (hy : bits .or .i32 ((v : Int) * 64) (x : Int) = (y : Nat)) :
    Calls Tryd.prog 27 #[.pointer (some ⟨D, 0, none⟩), t, .int .u8 (x : Nat)] w fun e w' => ∃ t', e = .returned t' ∧ w'.ownsRow base 21 1 t' (n + 1) (xs ++ [.int .i32 (y : Nat)]) ∧ Dec w' D 0 0 0 ∧ Stay (fun k => k = D ∨ base ≤ k) w w' := by
  have c1 : w.cell? ⟨D, 1, none⟩ = some (.int .i64 (k : Nat)) := hD.cell (i := 1) (by decide)
  have c0 : w.cell? ⟨D, 0, none⟩ = some (.int .i64 (f : Nat)) := hD.cell (i := 0) (by decide)
  have c2 : w.cell? ⟨D, 2, none⟩ = some (.int .i32 (v : Nat)) := hD.cell (i := 2) (by decide)
  have f0 := hD.frozen 0
  have f1 := hD.frozen 1
  have f2 := hD.frozen 2
  have ct := hT.size hf hs
  have n1 : ¬ D = 0 := by omega
  have n2 : ¬ 0 = D := by omega
  have z1 : (0 : Int) ≤ f := by omega
  have z2 : (f : Int) < 9 := by omega
  have hlt : decide ((k : Int) + 1 < s) = false := by simp; omega
  have HS := hide' hs
  have HY := hide' hy
  have H0 := hide' h0
  have HTB := hide' hT
  have HD := hide' hD
  have HT := hide' ht
  clear hT hs hy h0 hD hk ht
  go_enter Tryd.func27, Tryd.ntmps27
  go_wp2
  go_quiet (fail)
  generalize hW : World.drewN _ nq = W
  have hDW : Dec W D f (k + 1) y := by rw [← hW]; exact HD.out.set2 HY.out rfl
  have hSW : Stay (fun k => k = D) w W := by rw [← hW]; exact (stay2 (S := fun k => k = D) _ _ rfl).drewN _
  have HDW := hide' hDW
  have HSW := hide' hSW
  have HTW := hide' (hSW.owns HT.out (own_ne HT.out hb))
  have d0 : W.cell? ⟨D, 0, none⟩ = some (.int .i64 (f : Nat)) := hDW.cell (i := 0) (by decide)
  have d1 : W.cell? ⟨D, 1, none⟩ = some (.int .i64 (k + 1 : Nat)) := hDW.cell (i := 1) (by decide)
  have d2 : W.cell? ⟨D, 2, none⟩ = some (.int .i32 (y : Nat)) := hDW.cell (i := 2) (by decide)
  have g0 := hDW.frozen 0
  have g1 := hDW.frozen 1
  have g2 := hDW.frozen 2
  have hs2 := stay3 (w := W) (D := D) (.int .i64 0) (.int .i64 0) (.int .i32 0) (S := fun k => k = D) rfl
  have HS2 := hide' hs2
  have HO2 := hide' (hs2.owns HTW.out (own_ne HT.out hb))
  have hsz := hSW.size
  clear hW hDW hSW hs2 c0 c1 c2 f0 f1 f2
  go_wp2_with (at_builtin; refine app1 rfl _ _ rfl (y : Nat) rfl HO2.out rfl (by simp) hn (by simp; omega) ?_; intro t' w1 ho1 hs1)
  go_ret
  exact ⟨t', rfl, ho1, hs1.row HDW.out.clear (by simp; omega), ((HSW.out.trans HS2.out).mono fun k _ h => Or.inl h).trans (hs1.mono fun k _ h => Or.inr h)⟩

end Go.Proofs.YtofecgjlghfnlaaDoor
