/-
  The raw and the plain setting: walked. No conditions.
-/
import Derived.Test.YtdihjodcbpjabaaC4
namespace Go.Proofs.Ytdihjodcbpjabaa
open Go.RowKit

def zeroT : Tm := ⟨0, 0, 0, 0, 0, 0, 0, 0, 0, 0, 0, 0, 0, 0, 0, 0, 0⟩

set_option maxRecDepth 100000 in
theorem raw13 (r : Tm) (w : World) : Calls Try.prog 13 #[.agg #[.int .i64 r.fi, .int .i64 r.fo, .int .i64 r.fl, .int .i64 r.k0, .int .i64 r.k1, .int .i64 r.k2, .int .i64 r.k3, .int .i64 r.k4, .int .i64 r.k5, .int .i64 r.k6, .int .i64 r.k7, .int .i64 r.k8, .int .i64 r.k9, .int .i64 r.k10, .int .i64 r.k11, .int .i64 r.mn, .int .i64 r.ti]] w (Gives (.agg #[.int .i64 (raw r).fi, .int .i64 (raw r).fo, .int .i64 (raw r).fl, .int .i64 (raw r).k0, .int .i64 (raw r).k1, .int .i64 (raw r).k2, .int .i64 (raw r).k3, .int .i64 (raw r).k4, .int .i64 (raw r).k5, .int .i64 (raw r).k6, .int .i64 (raw r).k7, .int .i64 (raw r).k8, .int .i64 (raw r).k9, .int .i64 (raw r).k10, .int .i64 (raw r).k11, .int .i64 (raw r).mn, .int .i64 (raw r).ti]) w) := by
  have HX := hide' (TBox.new (w := w) r rfl)
  have HS := hide' ((Stay.refl (fun _ => False) w).alloc (.cells #[.int .i64 r.fi, .int .i64 r.fo, .int .i64 r.fl, .int .i64 r.k0, .int .i64 r.k1, .int .i64 r.k2, .int .i64 r.k3, .int .i64 r.k4, .int .i64 r.k5, .int .i64 r.k6, .int .i64 r.k7, .int .i64 r.k8, .int .i64 r.k9, .int .i64 r.k10, .int .i64 r.k11, .int .i64 r.mn, .int .i64 r.ti] 24))
  have HZ := hide' (fun (w : World) => TBox.new (w := w) zeroT rfl)
  go_enter Try.func13, Try.ntmps13
  go_upto_region 1 with fail
  obtain ⟨W, hW⟩ : ∃ W, W = w.alloc (.cells #[.int .i64 r.fi, .int .i64 r.fo, .int .i64 r.fl, .int .i64 r.k0, .int .i64 r.k1, .int .i64 r.k2, .int .i64 r.k3, .int .i64 r.k4, .int .i64 r.k5, .int .i64 r.k6, .int .i64 r.k7, .int .i64 r.k8, .int .i64 r.k9, .int .i64 r.k10, .int .i64 r.k11, .int .i64 r.mn, .int .i64 r.ti] 24) := ⟨_, rfl⟩
  obtain ⟨b, hb⟩ : ∃ b, b = w.heap.size := ⟨_, rfl⟩
  have hz : b + 1 = W.heap.size := by rw [hW, hb]; simp
  rw [← hW] at HX HS ⊢
  rw [← hb] at HX ⊢
  clear hW hb
  have HXW := hide' (HX.out.alloc (.cells #[.int .i64 0, .int .i64 0, .int .i64 0, .int .i64 0, .int .i64 0, .int .i64 0, .int .i64 0, .int .i64 0, .int .i64 0, .int .i64 0, .int .i64 0, .int .i64 0, .int .i64 0, .int .i64 0, .int .i64 0, .int .i64 0, .int .i64 0] 24))
  have HZW : Hid (TBox (W.alloc (.cells #[.int .i64 0, .int .i64 0, .int .i64 0, .int .i64 0, .int .i64 0, .int .i64 0, .int .i64 0, .int .i64 0, .int .i64 0, .int .i64 0, .int .i64 0, .int .i64 0, .int .i64 0, .int .i64 0, .int .i64 0, .int .i64 0, .int .i64 0] 24)) (b + 1) zeroT) := by rw [hz]; exact HZ.out W
  have HSW := hide' (HS.out.alloc (.cells #[.int .i64 0, .int .i64 0, .int .i64 0, .int .i64 0, .int .i64 0, .int .i64 0, .int .i64 0, .int .i64 0, .int .i64 0, .int .i64 0, .int .i64 0, .int .i64 0, .int .i64 0, .int .i64 0, .int .i64 0, .int .i64 0, .int .i64 0] 24))
  obtain ⟨W2, hW2⟩ : ∃ W2, W2 = W.alloc (.cells #[.int .i64 0, .int .i64 0, .int .i64 0, .int .i64 0, .int .i64 0, .int .i64 0, .int .i64 0, .int .i64 0, .int .i64 0, .int .i64 0, .int .i64 0, .int .i64 0, .int .i64 0, .int .i64 0, .int .i64 0, .int .i64 0, .int .i64 0] 24) := ⟨_, rfl⟩
  have HB : Hid (w.heap.size ≤ b + 1) := by show w.heap.size ≤ b + 1; rw [hz]; exact HS.out.size
  rw [← hW2] at HXW HZW HSW ⊢
  clear hW2 hz HX HS HZ
  obtain ⟨c0, c1, c2, c3, c4, c5, c6, c7, c8, c9, c10, c11, c12, c13, c14, c15, c16, _⟩ := HXW.out
  obtain ⟨_, _, _, _, _, _, _, _, _, _, _, _, _, _, _, _, _, z0, z1, z2, z3, z4, z5, z6, z7, z8, z9, z10, z11, z12, z13, z14, z15, z16⟩ := HZW.out
  go_wp2
  exact TBox.ends (r := raw r) rfl rfl (HZW.out.put (raw r)) rfl (TBox.stay_put HSW.out HB.out _ _ _ _ _ _ _ _ _ _ _ _ _ _ _ _ _) rfl

set_option maxRecDepth 100000 in
theorem plain17 (w : World) : Calls Try.prog 17 #[] w (Gives (.agg #[.int .i64 plainT.fi, .int .i64 plainT.fo, .int .i64 plainT.fl, .int .i64 plainT.k0, .int .i64 plainT.k1, .int .i64 plainT.k2, .int .i64 plainT.k3, .int .i64 plainT.k4, .int .i64 plainT.k5, .int .i64 plainT.k6, .int .i64 plainT.k7, .int .i64 plainT.k8, .int .i64 plainT.k9, .int .i64 plainT.k10, .int .i64 plainT.k11, .int .i64 plainT.mn, .int .i64 plainT.ti]) w) := by
  have HX := hide' (TBox.new (w := w) zeroT rfl)
  have HS := hide' ((Stay.refl (fun _ => False) w).alloc (.cells #[.int .i64 zeroT.fi, .int .i64 zeroT.fo, .int .i64 zeroT.fl, .int .i64 zeroT.k0, .int .i64 zeroT.k1, .int .i64 zeroT.k2, .int .i64 zeroT.k3, .int .i64 zeroT.k4, .int .i64 zeroT.k5, .int .i64 zeroT.k6, .int .i64 zeroT.k7, .int .i64 zeroT.k8, .int .i64 zeroT.k9, .int .i64 zeroT.k10, .int .i64 zeroT.k11, .int .i64 zeroT.mn, .int .i64 zeroT.ti] 24))
  go_enter Try.func17, Try.ntmps17
  go_upto_region 1 with fail
  obtain ⟨W, hW⟩ : ∃ W, W = w.alloc (.cells #[.int .i64 0, .int .i64 0, .int .i64 0, .int .i64 0, .int .i64 0, .int .i64 0, .int .i64 0, .int .i64 0, .int .i64 0, .int .i64 0, .int .i64 0, .int .i64 0, .int .i64 0, .int .i64 0, .int .i64 0, .int .i64 0, .int .i64 0] 24) := ⟨_, rfl⟩
  have HX2 : Hid (TBox W w.heap.size zeroT) := by rw [hW]; exact HX.out
  have HS2 : Hid (Stay (fun _ => False) w W) := by rw [hW]; exact HS.out
  obtain ⟨b, hb⟩ : ∃ b, b = w.heap.size := ⟨_, rfl⟩
  rw [← hW]
  rw [← hb] at HX2 ⊢
  have HB : Hid (w.heap.size ≤ b) := by show w.heap.size ≤ b; omega
  clear hW hb HX HS
  obtain ⟨c0, c1, c2, c3, c4, c5, c6, c7, c8, c9, c10, c11, c12, c13, c14, c15, c16, z0, z1, z2, z3, z4, z5, z6, z7, z8, z9, z10, z11, z12, z13, z14, z15, z16⟩ := HX2.out
  go_wp2
  exact TBox.ends (r := plainT) rfl rfl (HX2.out.put plainT) rfl (TBox.stay_put HS2.out HB.out _ _ _ _ _ _ _ _ _ _ _ _ _ _ _ _ _) rfl

end Go.Proofs.Ytdihjodcbpjabaa
