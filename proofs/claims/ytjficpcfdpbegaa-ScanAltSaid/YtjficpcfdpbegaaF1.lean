/-
  The document's examples: walked. No conditions.
-/
import Derived.Test.YtjficpcfdpbegaaF0
namespace Go.Proofs.Ytjficpcfdpbegaa
open Go.RowKit

/-- All that has turned is new. -/
def Newer (w W : World) : Prop := Stay (fun j => w.heap.size ≤ j) w W

theorem Newer.refl (w : World) : Newer w w := Stay.refl _ _

theorem Newer.alloc {w W : World} (h : Newer w W) (o : Obj) : Newer w (W.alloc o) := Stay.alloc h o

theorem Newer.keep {w W W1 : World} (h : Newer w W) (hs : Stay (fun _ => False) W W1) : Newer w W1 := h.trans (hs.mono (fun _ _ h => h.elim))

theorem Newer.at {w W W1 : World} {b : Nat} (h : Newer w W) (hb : w.heap.size ≤ b) (hs : Stay (fun j => j = b) W W1) : Newer w W1 := h.trans (hs.mono (fun _ _ e => e ▸ hb))

theorem Newer.out {w W : World} (h : Newer w W) : Stay (fun _ => False) w W := Stay.mono h (fun k hk (hs : w.heap.size ≤ k) => absurd hk (by omega))

set_option maxHeartbeats 1000000 in
theorem awake8 (w : World) : Calls Try.prog 8 #[] w (LawTrue w) := by
  have HS := hide' ((Newer.refl w).alloc (.cells #[.int .i64 0] 25))
  have HD := hide' (DBox.new (w := w) ⟨0⟩ rfl)
  have HF1 := hide' (fun W (h : DBox W w.heap.size ⟨0⟩) => feed_to (x := 96) (m' := 1) (kc := 0) (km := 0) (is := false) h (by decide) (by decide) (by decide) rfl (by decide))
  have HF2 := hide' (fun W (h : DBox W w.heap.size ⟨1⟩) => feed_to (x := 1) (m' := 1) (kc := 1) (km := 1) (is := true) h (by decide) (by decide) (by decide) rfl (by decide))
  have HB1 := hide' (bytes13 1 1 false)
  rw [show kbL 1 1 false = [65] by decide] at HB1
  have HB2 := hide' (bytes13 3 2 false)
  rw [show kbL 3 2 false = [3] by decide] at HB2
  go_enter Try.func8, Try.ntmps8
  go_wp2_with fail
  refine (HF1.out _ HD.out).mono ?_
  rintro e w1 ⟨rfl, hs, hd⟩
  have HS1 := hide' ((HS.out.at (Nat.le_refl _) hs).alloc (.cells #[.int .i64 0, .int .i64 0] 27))
  have HD1 := hide' (hd.alloc (.cells #[.int .i64 0, .int .i64 0] 27))
  clear hs hd HS HD HF1
  go_wp2_with fail
  refine (HF2.out _ HD1.out).mono ?_
  rintro e w2 ⟨rfl, hs, hd⟩
  have HS2 := hide' ((HS1.out.at (Nat.le_refl _) hs).alloc (.cells #[.int .i64 1, .int .i64 1] 27))
  have HK2 := hide' (KBox.new (w := w2) ⟨1, 1⟩ rfl)
  clear hs hd HS1 HD1 HF2
  obtain ⟨c0, c1, _⟩ := HK2.out
  go_wp2_with fail
  refine (HB1.out _).mono ?_
  rintro e w3 ⟨v3, rfl, hb, hs⟩
  have HS3 := hide' ((HS2.out.keep hs).alloc (.cells #[.int .u8 65] 5))
  have HSM := hide' (same12 _ _ _ _ (hb.keep ((Stay.refl _ _).alloc (.cells #[.int .u8 65] 5))) (bs_new w3 #[.int .u8 65] [65] 1 rfl rfl) (by decide))
  clear hs hb HS2 HK2 HB1 c0 c1
  go_wp2_with fail
  refine HSM.out.mono ?_
  rintro e w4 ⟨rfl, hs⟩
  have HS4 := hide' (HS3.out.keep hs)
  clear hs HS3 HSM
  go_wp2_with fail
  refine (HB2.out _).mono ?_
  rintro e w5 ⟨v5, rfl, hb, hs⟩
  have HS5 := hide' ((HS4.out.keep hs).alloc (.cells #[.int .u8 3] 5))
  have HSM := hide' (same12 _ _ _ _ (hb.keep ((Stay.refl _ _).alloc (.cells #[.int .u8 3] 5))) (bs_new w5 #[.int .u8 3] [3] 1 rfl rfl) (by decide))
  clear hs hb HS4 HB2
  go_wp2_with fail
  refine HSM.out.mono ?_
  rintro e w6 ⟨rfl, hs⟩
  have HS6 := hide' (HS5.out.keep hs)
  clear hs HS5 HSM
  go_wp2
  go_ret
  exact ⟨by simp, HS6.out.out⟩

end Go.Proofs.Ytjficpcfdpbegaa
