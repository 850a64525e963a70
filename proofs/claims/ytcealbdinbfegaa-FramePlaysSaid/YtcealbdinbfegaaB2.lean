/-
  Grids in memory. No conditions.
-/
import Derived.Test.YtcealbdinbfegaaB1
namespace Go.Proofs.Ytcealbdinbfegaa
open Go.RowKit

/-- Where a grid lies, and its size. -/
structure Gr where
  g : Nat
  br : Nat
  bc : Nat
  w : Nat
  h : Nat

/-- A grid that lies in memory, and its cells, row by row. -/
structure GridAt (W : World) (G : Gr) (f : Nat → Cl) : Prop where
  top : W.cell? ⟨G.g, 0, none⟩ = some (.slice (some ⟨G.br, 0, none⟩) G.h G.h)
  rows : ∀ y, y < G.h → W.cell? ⟨G.br, y, none⟩ = some (.slice (some ⟨G.bc, y * G.w * 4, none⟩) G.w (G.w * G.h - y * G.w))
  pix : Pix W G.bc (G.w * G.h) f
  w1 : 1 ≤ G.w
  w2 : G.w ≤ 512
  h1 : 1 ≤ G.h
  h2 : G.h ≤ 512
  ne1 : G.g ≠ G.bc
  ne2 : G.br ≠ G.bc

/-- A block that a grid does not lie in. -/
def Gr.off (G : Gr) (b : Nat) : Prop := G.g ≠ b ∧ G.br ≠ b ∧ G.bc ≠ b

/-- A grid that lies behind a block. -/
def Gr.above (G : Gr) (B : Nat) : Prop := B ≤ G.g ∧ B ≤ G.br ∧ B ≤ G.bc

theorem GridAt.size {W : World} {G : Gr} {f : Nat → Cl} (h : GridAt W G f) : 0 < G.w * G.h := Nat.mul_pos h.w1 h.h1

theorem GridAt.lt {W : World} {G : Gr} {f : Nat → Cl} (h : GridAt W G f) : G.g < W.heap.size ∧ G.br < W.heap.size ∧ G.bc < W.heap.size :=
  ⟨World.block_lt_of_cell? _ _ h.top, World.block_lt_of_cell? _ _ (h.rows 0 h.h1), h.pix.lt h.size⟩

theorem GridAt.stay {T : Nat → Prop} {W W1 : World} {G : Gr} {f : Nat → Cl} (h : GridAt W G f) (hs : Stay T W W1) (n1 : ¬ T G.g) (n2 : ¬ T G.br) (n3 : ¬ T G.bc) : GridAt W1 G f :=
  ⟨(hs.cell (p := ⟨G.g, 0, none⟩) h.lt.1 n1).trans h.top, fun y hy => (hs.cell (p := ⟨G.br, y, none⟩) h.lt.2.1 n2).trans (h.rows y hy), h.pix.stay hs n3, h.w1, h.w2, h.h1, h.h2, h.ne1, h.ne2⟩

theorem GridAt.keep {W W1 : World} {G : Gr} {f : Nat → Cl} (h : GridAt W G f) (hs : Stay (fun _ => False) W W1) : GridAt W1 G f := h.stay hs (fun h => h) (fun h => h) (fun h => h)

theorem GridAt.apart {W W1 : World} {G : Gr} {f : Nat → Cl} {b : Nat} (h : GridAt W G f) (hs : Stay (fun k => k = b) W W1) (ho : G.off b) : GridAt W1 G f := h.stay hs ho.1 ho.2.1 ho.2.2

theorem GridAt.congr {W : World} {G : Gr} {f g : Nat → Cl} (h : GridAt W G f) (e : ∀ i, i < G.w * G.h → f i = g i) : GridAt W G g :=
  ⟨h.top, h.rows, h.pix.congr e, h.w1, h.w2, h.h1, h.h2, h.ne1, h.ne2⟩

theorem GridAt.off_new {W : World} {G : Gr} {f : Nat → Cl} (h : GridAt W G f) {b : Nat} (hb : W.heap.size ≤ b) : G.off b := by
  have := h.lt
  unfold Gr.off
  omega

/-- One cell is set. -/
theorem GridAt.put {W : World} {G : Gr} {f : Nat → Cl} (h : GridAt W G f) (k : Nat) (c : Cl) : GridAt (W.setCells G.bc (k * 4) c.parts) G (fun i => if i = k then c else f i) := by
  have hs : Stay (fun k => k = G.bc) W (W.setCells G.bc (k * 4) c.parts) := (Stay.refl (fun k => k = G.bc) W).setCells G.bc _ _ rfl
  exact ⟨(hs.cell (p := ⟨G.g, 0, none⟩) h.lt.1 h.ne1).trans h.top, fun y hy => (hs.cell (p := ⟨G.br, y, none⟩) h.lt.2.1 h.ne2).trans (h.rows y hy), h.pix.set k c, h.w1, h.w2, h.h1, h.h2, h.ne1, h.ne2⟩

/-- Cells are written, one behind the other. -/
theorem GridAt.copy {W : World} {G : Gr} {f : Nat → Cl} (h : GridAt W G f) (k m : Nat) (g : Nat → Cl) (hm : k + m ≤ G.w * G.h) : GridAt (W.setCells G.bc (k * 4) (seg m g)) G (fun i => if k ≤ i ∧ i < k + m then g (i - k) else f i) := by
  have hs : Stay (fun k => k = G.bc) W (W.setCells G.bc (k * 4) (seg m g)) := (Stay.refl (fun k => k = G.bc) W).setCells G.bc _ _ rfl
  exact ⟨(hs.cell (p := ⟨G.g, 0, none⟩) h.lt.1 h.ne1).trans h.top, fun y hy => (hs.cell (p := ⟨G.br, y, none⟩) h.lt.2.1 h.ne2).trans (h.rows y hy), h.pix.copy k m g hm, h.w1, h.w2, h.h1, h.h2, h.ne1, h.ne2⟩

/-- A cell's place lies in its grid. -/
theorem idx_lt {w h x y : Nat} (hx : x < w) (hy : y < h) : y * w + x < w * h := by
  have := Nat.mul_le_mul_right w (show y + 1 ≤ h by omega)
  rw [Nat.succ_mul] at this
  rw [Nat.mul_comm w h]
  omega

/-- A place tells its row and its column. -/
theorem idx_inj {w x y x' y' : Nat} (hx : x < w) (hx' : x' < w) (h : y * w + x = y' * w + x') : x = x' ∧ y = y' := by
  have e1 : (y * w + x) / w = y := by rw [Nat.mul_comm, Nat.mul_add_div (by omega), Nat.div_eq_of_lt hx, Nat.add_zero]
  have e2 : (y' * w + x') / w = y' := by rw [Nat.mul_comm, Nat.mul_add_div (by omega), Nat.div_eq_of_lt hx', Nat.add_zero]
  have hy : y = y' := by rw [← e1, h, e2]
  subst hy
  exact ⟨by omega, rfl⟩

theorem idx_iff {w x y x' y' : Nat} (hx : x < w) (hx' : x' < w) : y * w + x = y' * w + x' ↔ x = x' ∧ y = y' :=
  ⟨idx_inj hx hx', fun ⟨h1, h2⟩ => by rw [h1, h2]⟩

end Go.Proofs.Ytcealbdinbfegaa
