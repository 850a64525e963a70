/-
  The document's bytes of a key, whatever the key: walked. No conditions.
-/
import Derived.Test.YtjficpcfdpbegaaE1
import Derived.Test.YtjficpcfdpbegaaE2
import Derived.Test.YtjficpcfdpbegaaE3
import Derived.Test.YtjficpcfdpbegaaE4
namespace Go.Proofs.Ytjficpcfdpbegaa
open Go.RowKit

theorem kb_t {c m : Int} {app : Bool} {l : List Int} (h : waL c (bitB m 1) (bitB m 2) app = l) (hl : l.isEmpty = false) (h4 : bitB m 4 = true) : kbL c m app = 27 :: l := by
  unfold kbL
  rw [h, h4, hl]
  rfl

theorem kb_f {c m : Int} {app : Bool} {l : List Int} (h : waL c (bitB m 1) (bitB m 2) app = l) (h4 : bitB m 4 = false) : kbL c m app = l := by
  unfold kbL
  rw [h, h4]
  rfl

theorem kb_e {c m : Int} {app : Bool} (h : waL c (bitB m 1) (bitB m 2) app = []) : kbL c m app = [] := by
  unfold kbL
  rw [h]
  simp

theorem rk_A2 (c : Int) (m : Int) (app : Bool) (w : World) (g1 : 1 ≤ c) (g2 : c ≤ 26) (h2 : bitB m 2 = true) : Calls Try.prog 14 #[.agg #[.int .i64 c, .int .i64 m], .bool app] w (GivesBs (kbL c m app) w) := by
  have h : waL c (bitB m 1) (bitB m 2) app = [c] := by
    unfold waL
    rw [if_pos (by omega), h2]
    rfl
  cases h4 : bitB m 4
  · rw [kb_f h h4]
    exact rb_A2n c m app w g1 g2 h2 h4
  · rw [kb_t h rfl h4]
    exact rb_A2a c m app w g1 g2 h2 h4

theorem rk_A1 (c : Int) (m : Int) (app : Bool) (w : World) (g1 : 1 ≤ c) (g2 : c ≤ 26) (h2 : bitB m 2 = false) (h1 : bitB m 1 = true) : Calls Try.prog 14 #[.agg #[.int .i64 c, .int .i64 m], .bool app] w (GivesBs (kbL c m app) w) := by
  have h : waL c (bitB m 1) (bitB m 2) app = [64 + c] := by
    unfold waL
    rw [if_pos (by omega), h2, h1]
    rfl
  cases h4 : bitB m 4
  · rw [kb_f h h4]
    exact rb_A1n c m app w g1 g2 h2 h1 h4
  · rw [kb_t h rfl h4]
    exact rb_A1a c m app w g1 g2 h2 h1 h4

theorem rk_A0 (c : Int) (m : Int) (app : Bool) (w : World) (g1 : 1 ≤ c) (g2 : c ≤ 26) (h2 : bitB m 2 = false) (h1 : bitB m 1 = false) : Calls Try.prog 14 #[.agg #[.int .i64 c, .int .i64 m], .bool app] w (GivesBs (kbL c m app) w) := by
  have h : waL c (bitB m 1) (bitB m 2) app = [96 + c] := by
    unfold waL
    rw [if_pos (by omega), h2, h1]
    rfl
  cases h4 : bitB m 4
  · rw [kb_f h h4]
    exact rb_A0n c m app w g1 g2 h2 h1 h4
  · rw [kb_t h rfl h4]
    exact rb_A0a c m app w g1 g2 h2 h1 h4

theorem rk_B1 (c : Int) (m : Int) (app : Bool) (w : World) (g1 : 27 ≤ c) (g2 : c ≤ 36) (h1 : bitB m 1 = true) : Calls Try.prog 14 #[.agg #[.int .i64 c, .int .i64 m], .bool app] w (GivesBs (kbL c m app) w) := by
  have h : waL c (bitB m 1) (bitB m 2) app = [shiftT.getD (c - 1).toNat 0] := by
    unfold waL
    rw [if_neg (by omega), if_neg (by omega), if_neg (by omega), if_pos (by omega), h1]
    rfl
  cases h4 : bitB m 4
  · rw [kb_f h h4]
    exact rb_B1n c m app w g1 g2 h1 h4
  · rw [kb_t h rfl h4]
    exact rb_B1a c m app w g1 g2 h1 h4

theorem rk_B0 (c : Int) (m : Int) (app : Bool) (w : World) (g1 : 27 ≤ c) (g2 : c ≤ 35) (h1 : bitB m 1 = false) : Calls Try.prog 14 #[.agg #[.int .i64 c, .int .i64 m], .bool app] w (GivesBs (kbL c m app) w) := by
  have h : waL c (bitB m 1) (bitB m 2) app = [typedT.getD (c - 1).toNat 0] := by
    unfold waL
    rw [if_neg (by omega), if_neg (by omega), if_neg (by omega), if_pos (by omega), h1]
    rfl
  cases h4 : bitB m 4
  · rw [kb_f h h4]
    exact rb_B0n c m app w g1 g2 h1 h4
  · rw [kb_t h rfl h4]
    exact rb_B0a c m app w g1 g2 h1 h4

theorem rk_Z0 (m : Int) (app : Bool) (w : World) (h1 : bitB m 1 = false) : Calls Try.prog 14 #[.agg #[.int .i64 36, .int .i64 m], .bool app] w (GivesBs (kbL 36 m app) w) := by
  have h : waL 36 (bitB m 1) (bitB m 2) app = [48] := by
    rw [h1]
    (first | (generalize bitB m 2 = y; cases y <;> first | rfl | (cases app <;> rfl)) | (cases app <;> rfl) | rfl)
  cases h4 : bitB m 4
  · rw [kb_f h h4]
    exact rb_Z0n m app w  h1 h4
  · rw [kb_t h rfl h4]
    exact rb_Z0a m app w  h1 h4

theorem rk_K1 (m : Int) (app : Bool) (w : World) (h2 : bitB m 2 = true) : Calls Try.prog 14 #[.agg #[.int .i64 37, .int .i64 m], .bool app] w (GivesBs (kbL 37 m app) w) := by
  have h : waL 37 (bitB m 1) (bitB m 2) app = [0] := by
    rw [h2]
    generalize bitB m 1 = x; cases x <;> (first | (generalize bitB m 2 = y; cases y <;> first | rfl | (cases app <;> rfl)) | (cases app <;> rfl) | rfl)
  cases h4 : bitB m 4
  · rw [kb_f h h4]
    exact rb_K1n m app w  h2 h4
  · rw [kb_t h rfl h4]
    exact rb_K1a m app w  h2 h4

theorem rk_K0 (m : Int) (app : Bool) (w : World) (h2 : bitB m 2 = false) : Calls Try.prog 14 #[.agg #[.int .i64 37, .int .i64 m], .bool app] w (GivesBs (kbL 37 m app) w) := by
  have h : waL 37 (bitB m 1) (bitB m 2) app = [32] := by
    rw [h2]
    generalize bitB m 1 = x; cases x <;> (first | (generalize bitB m 2 = y; cases y <;> first | rfl | (cases app <;> rfl)) | (cases app <;> rfl) | rfl)
  cases h4 : bitB m 4
  · rw [kb_f h h4]
    exact rb_K0n m app w  h2 h4
  · rw [kb_t h rfl h4]
    exact rb_K0a m app w  h2 h4

theorem rk_T1 (m : Int) (app : Bool) (w : World) (h1 : bitB m 1 = true) : Calls Try.prog 14 #[.agg #[.int .i64 40, .int .i64 m], .bool app] w (GivesBs (kbL 40 m app) w) := by
  have h : waL 40 (bitB m 1) (bitB m 2) app = [27, 91, 90] := by
    rw [h1]
    (first | (generalize bitB m 2 = y; cases y <;> first | rfl | (cases app <;> rfl)) | (cases app <;> rfl) | rfl)
  cases h4 : bitB m 4
  · rw [kb_f h h4]
    exact rb_T1n m app w  h1 h4
  · rw [kb_t h rfl h4]
    exact rb_T1a m app w  h1 h4

theorem rk_T0 (m : Int) (app : Bool) (w : World) (h1 : bitB m 1 = false) : Calls Try.prog 14 #[.agg #[.int .i64 40, .int .i64 m], .bool app] w (GivesBs (kbL 40 m app) w) := by
  have h : waL 40 (bitB m 1) (bitB m 2) app = [9] := by
    rw [h1]
    (first | (generalize bitB m 2 = y; cases y <;> first | rfl | (cases app <;> rfl)) | (cases app <;> rfl) | rfl)
  cases h4 : bitB m 4
  · rw [kb_f h h4]
    exact rb_T0n m app w  h1 h4
  · rw [kb_t h rfl h4]
    exact rb_T0a m app w  h1 h4

theorem rk_E (c : Int) (m : Int) (app : Bool) (w : World) (g1 : 38 ≤ c) (g2 : c ≤ 41) (g3 : c ≠ 40) : Calls Try.prog 14 #[.agg #[.int .i64 c, .int .i64 m], .bool app] w (GivesBs (kbL c m app) w) := by
  have h : waL c (bitB m 1) (bitB m 2) app = [typedT.getD (c - 1).toNat 0] := by
    unfold waL
    rw [if_neg (by omega), if_neg (by omega), if_neg (by omega), if_pos (by omega)]
    rcases (show c = 38 ∨ c = 39 ∨ c = 41 by omega) with rfl | rfl | rfl <;> cases bitB m 1 <;> rfl
  cases h4 : bitB m 4
  · rw [kb_f h h4]
    exact rb_En c m app w g1 g2 g3  h4
  · rw [kb_t h rfl h4]
    exact rb_Ea c m app w g1 g2 g3  h4

theorem rk_S1 (c : Int) (m : Int) (app : Bool) (w : World) (g1 : 42 ≤ c) (g2 : c ≤ 52) (h1 : bitB m 1 = true) : Calls Try.prog 14 #[.agg #[.int .i64 c, .int .i64 m], .bool app] w (GivesBs (kbL c m app) w) := by
  have h : waL c (bitB m 1) (bitB m 2) app = [shiftT.getD (c - 1).toNat 0] := by
    unfold waL
    rw [if_neg (by omega), if_neg (by omega), if_neg (by omega), if_pos (by omega), h1]
    rfl
  cases h4 : bitB m 4
  · rw [kb_f h h4]
    exact rb_S1n c m app w g1 g2 h1 h4
  · rw [kb_t h rfl h4]
    exact rb_S1a c m app w g1 g2 h1 h4

theorem rk_S0 (c : Int) (m : Int) (app : Bool) (w : World) (g1 : 42 ≤ c) (g2 : c ≤ 52) (h1 : bitB m 1 = false) : Calls Try.prog 14 #[.agg #[.int .i64 c, .int .i64 m], .bool app] w (GivesBs (kbL c m app) w) := by
  have h : waL c (bitB m 1) (bitB m 2) app = [typedT.getD (c - 1).toNat 0] := by
    unfold waL
    rw [if_neg (by omega), if_neg (by omega), if_neg (by omega), if_pos (by omega), h1]
    rfl
  cases h4 : bitB m 4
  · rw [kb_f h h4]
    exact rb_S0n c m app w g1 g2 h1 h4
  · rw [kb_t h rfl h4]
    exact rb_S0a c m app w g1 g2 h1 h4

theorem rk_M0n (m : Int) (w : World) : Calls Try.prog 14 #[.agg #[.int .i64 64, .int .i64 m], .bool false] w (GivesBs (kbL 64 m false) w) := by
  have h : waL 64 (bitB m 1) (bitB m 2) false = [27, 91, 65] := by
    skip
    generalize bitB m 1 = x; cases x <;> (first | (generalize bitB m 2 = y; cases y <;> first | rfl | (cases app <;> rfl)) | (cases app <;> rfl) | rfl)
  cases h4 : bitB m 4
  · rw [kb_f h h4]
    exact rb_M0nn m w   h4
  · rw [kb_t h rfl h4]
    exact rb_M0na m w   h4

theorem rk_M0a (m : Int) (w : World) : Calls Try.prog 14 #[.agg #[.int .i64 64, .int .i64 m], .bool true] w (GivesBs (kbL 64 m true) w) := by
  have h : waL 64 (bitB m 1) (bitB m 2) true = [27, 79, 65] := by
    skip
    generalize bitB m 1 = x; cases x <;> (first | (generalize bitB m 2 = y; cases y <;> first | rfl | (cases app <;> rfl)) | (cases app <;> rfl) | rfl)
  cases h4 : bitB m 4
  · rw [kb_f h h4]
    exact rb_M0an m w   h4
  · rw [kb_t h rfl h4]
    exact rb_M0aa m w   h4

theorem rk_M1n (m : Int) (w : World) : Calls Try.prog 14 #[.agg #[.int .i64 65, .int .i64 m], .bool false] w (GivesBs (kbL 65 m false) w) := by
  have h : waL 65 (bitB m 1) (bitB m 2) false = [27, 91, 66] := by
    skip
    generalize bitB m 1 = x; cases x <;> (first | (generalize bitB m 2 = y; cases y <;> first | rfl | (cases app <;> rfl)) | (cases app <;> rfl) | rfl)
  cases h4 : bitB m 4
  · rw [kb_f h h4]
    exact rb_M1nn m w   h4
  · rw [kb_t h rfl h4]
    exact rb_M1na m w   h4

theorem rk_M1a (m : Int) (w : World) : Calls Try.prog 14 #[.agg #[.int .i64 65, .int .i64 m], .bool true] w (GivesBs (kbL 65 m true) w) := by
  have h : waL 65 (bitB m 1) (bitB m 2) true = [27, 79, 66] := by
    skip
    generalize bitB m 1 = x; cases x <;> (first | (generalize bitB m 2 = y; cases y <;> first | rfl | (cases app <;> rfl)) | (cases app <;> rfl) | rfl)
  cases h4 : bitB m 4
  · rw [kb_f h h4]
    exact rb_M1an m w   h4
  · rw [kb_t h rfl h4]
    exact rb_M1aa m w   h4

theorem rk_M2n (m : Int) (w : World) : Calls Try.prog 14 #[.agg #[.int .i64 66, .int .i64 m], .bool false] w (GivesBs (kbL 66 m false) w) := by
  have h : waL 66 (bitB m 1) (bitB m 2) false = [27, 91, 67] := by
    skip
    generalize bitB m 1 = x; cases x <;> (first | (generalize bitB m 2 = y; cases y <;> first | rfl | (cases app <;> rfl)) | (cases app <;> rfl) | rfl)
  cases h4 : bitB m 4
  · rw [kb_f h h4]
    exact rb_M2nn m w   h4
  · rw [kb_t h rfl h4]
    exact rb_M2na m w   h4

theorem rk_M2a (m : Int) (w : World) : Calls Try.prog 14 #[.agg #[.int .i64 66, .int .i64 m], .bool true] w (GivesBs (kbL 66 m true) w) := by
  have h : waL 66 (bitB m 1) (bitB m 2) true = [27, 79, 67] := by
    skip
    generalize bitB m 1 = x; cases x <;> (first | (generalize bitB m 2 = y; cases y <;> first | rfl | (cases app <;> rfl)) | (cases app <;> rfl) | rfl)
  cases h4 : bitB m 4
  · rw [kb_f h h4]
    exact rb_M2an m w   h4
  · rw [kb_t h rfl h4]
    exact rb_M2aa m w   h4

theorem rk_M3n (m : Int) (w : World) : Calls Try.prog 14 #[.agg #[.int .i64 67, .int .i64 m], .bool false] w (GivesBs (kbL 67 m false) w) := by
  have h : waL 67 (bitB m 1) (bitB m 2) false = [27, 91, 68] := by
    skip
    generalize bitB m 1 = x; cases x <;> (first | (generalize bitB m 2 = y; cases y <;> first | rfl | (cases app <;> rfl)) | (cases app <;> rfl) | rfl)
  cases h4 : bitB m 4
  · rw [kb_f h h4]
    exact rb_M3nn m w   h4
  · rw [kb_t h rfl h4]
    exact rb_M3na m w   h4

theorem rk_M3a (m : Int) (w : World) : Calls Try.prog 14 #[.agg #[.int .i64 67, .int .i64 m], .bool true] w (GivesBs (kbL 67 m true) w) := by
  have h : waL 67 (bitB m 1) (bitB m 2) true = [27, 79, 68] := by
    skip
    generalize bitB m 1 = x; cases x <;> (first | (generalize bitB m 2 = y; cases y <;> first | rfl | (cases app <;> rfl)) | (cases app <;> rfl) | rfl)
  cases h4 : bitB m 4
  · rw [kb_f h h4]
    exact rb_M3an m w   h4
  · rw [kb_t h rfl h4]
    exact rb_M3aa m w   h4

theorem rk_M4n (m : Int) (w : World) : Calls Try.prog 14 #[.agg #[.int .i64 68, .int .i64 m], .bool false] w (GivesBs (kbL 68 m false) w) := by
  have h : waL 68 (bitB m 1) (bitB m 2) false = [27, 91, 72] := by
    skip
    generalize bitB m 1 = x; cases x <;> (first | (generalize bitB m 2 = y; cases y <;> first | rfl | (cases app <;> rfl)) | (cases app <;> rfl) | rfl)
  cases h4 : bitB m 4
  · rw [kb_f h h4]
    exact rb_M4nn m w   h4
  · rw [kb_t h rfl h4]
    exact rb_M4na m w   h4

theorem rk_M4a (m : Int) (w : World) : Calls Try.prog 14 #[.agg #[.int .i64 68, .int .i64 m], .bool true] w (GivesBs (kbL 68 m true) w) := by
  have h : waL 68 (bitB m 1) (bitB m 2) true = [27, 79, 72] := by
    skip
    generalize bitB m 1 = x; cases x <;> (first | (generalize bitB m 2 = y; cases y <;> first | rfl | (cases app <;> rfl)) | (cases app <;> rfl) | rfl)
  cases h4 : bitB m 4
  · rw [kb_f h h4]
    exact rb_M4an m w   h4
  · rw [kb_t h rfl h4]
    exact rb_M4aa m w   h4

theorem rk_M5n (m : Int) (w : World) : Calls Try.prog 14 #[.agg #[.int .i64 69, .int .i64 m], .bool false] w (GivesBs (kbL 69 m false) w) := by
  have h : waL 69 (bitB m 1) (bitB m 2) false = [27, 91, 70] := by
    skip
    generalize bitB m 1 = x; cases x <;> (first | (generalize bitB m 2 = y; cases y <;> first | rfl | (cases app <;> rfl)) | (cases app <;> rfl) | rfl)
  cases h4 : bitB m 4
  · rw [kb_f h h4]
    exact rb_M5nn m w   h4
  · rw [kb_t h rfl h4]
    exact rb_M5na m w   h4

theorem rk_M5a (m : Int) (w : World) : Calls Try.prog 14 #[.agg #[.int .i64 69, .int .i64 m], .bool true] w (GivesBs (kbL 69 m true) w) := by
  have h : waL 69 (bitB m 1) (bitB m 2) true = [27, 79, 70] := by
    skip
    generalize bitB m 1 = x; cases x <;> (first | (generalize bitB m 2 = y; cases y <;> first | rfl | (cases app <;> rfl)) | (cases app <;> rfl) | rfl)
  cases h4 : bitB m 4
  · rw [kb_f h h4]
    exact rb_M5an m w   h4
  · rw [kb_t h rfl h4]
    exact rb_M5aa m w   h4

theorem rk_P0 (m : Int) (app : Bool) (w : World) : Calls Try.prog 14 #[.agg #[.int .i64 70, .int .i64 m], .bool app] w (GivesBs (kbL 70 m app) w) := by
  have h : waL 70 (bitB m 1) (bitB m 2) app = [27, 91, 53, 126] := by
    skip
    generalize bitB m 1 = x; cases x <;> (first | (generalize bitB m 2 = y; cases y <;> first | rfl | (cases app <;> rfl)) | (cases app <;> rfl) | rfl)
  cases h4 : bitB m 4
  · rw [kb_f h h4]
    exact rb_P0n m app w   h4
  · rw [kb_t h rfl h4]
    exact rb_P0a m app w   h4

theorem rk_P1 (m : Int) (app : Bool) (w : World) : Calls Try.prog 14 #[.agg #[.int .i64 71, .int .i64 m], .bool app] w (GivesBs (kbL 71 m app) w) := by
  have h : waL 71 (bitB m 1) (bitB m 2) app = [27, 91, 54, 126] := by
    skip
    generalize bitB m 1 = x; cases x <;> (first | (generalize bitB m 2 = y; cases y <;> first | rfl | (cases app <;> rfl)) | (cases app <;> rfl) | rfl)
  cases h4 : bitB m 4
  · rw [kb_f h h4]
    exact rb_P1n m app w   h4
  · rw [kb_t h rfl h4]
    exact rb_P1a m app w   h4

theorem rk_P2 (m : Int) (app : Bool) (w : World) : Calls Try.prog 14 #[.agg #[.int .i64 72, .int .i64 m], .bool app] w (GivesBs (kbL 72 m app) w) := by
  have h : waL 72 (bitB m 1) (bitB m 2) app = [27, 91, 50, 126] := by
    skip
    generalize bitB m 1 = x; cases x <;> (first | (generalize bitB m 2 = y; cases y <;> first | rfl | (cases app <;> rfl)) | (cases app <;> rfl) | rfl)
  cases h4 : bitB m 4
  · rw [kb_f h h4]
    exact rb_P2n m app w   h4
  · rw [kb_t h rfl h4]
    exact rb_P2a m app w   h4

theorem rk_P3 (m : Int) (app : Bool) (w : World) : Calls Try.prog 14 #[.agg #[.int .i64 73, .int .i64 m], .bool app] w (GivesBs (kbL 73 m app) w) := by
  have h : waL 73 (bitB m 1) (bitB m 2) app = [27, 91, 51, 126] := by
    skip
    generalize bitB m 1 = x; cases x <;> (first | (generalize bitB m 2 = y; cases y <;> first | rfl | (cases app <;> rfl)) | (cases app <;> rfl) | rfl)
  cases h4 : bitB m 4
  · rw [kb_f h h4]
    exact rb_P3n m app w   h4
  · rw [kb_t h rfl h4]
    exact rb_P3a m app w   h4

theorem rk_G (c : Int) (m : Int) (app : Bool) (w : World) (g1 : 80 ≤ c) (g2 : c ≤ 83) : Calls Try.prog 14 #[.agg #[.int .i64 c, .int .i64 m], .bool app] w (GivesBs (kbL c m app) w) := by
  have h : waL c (bitB m 1) (bitB m 2) app = [27, 79, c] := by
    unfold waL
    rw [if_neg (by omega), if_neg (by omega), if_neg (by omega), if_neg (by omega), if_neg (by omega), if_neg (by omega), if_pos (by omega)]
  cases h4 : bitB m 4
  · rw [kb_f h h4]
    exact rb_Gn c m app w g1 g2  h4
  · rw [kb_t h rfl h4]
    exact rb_Ga c m app w g1 g2  h4

theorem rk_H0 (c : Int) (m : Int) (app : Bool) (w : World) (g2 : c ≤ 0) : Calls Try.prog 14 #[.agg #[.int .i64 c, .int .i64 m], .bool app] w (GivesBs (kbL c m app) w) := by
  have h : waL c (bitB m 1) (bitB m 2) app = [] := by
    unfold waL
    rw [if_neg (by omega), if_neg (by omega), if_neg (by omega), if_neg (by omega), if_neg (by omega), if_neg (by omega), if_neg (by omega)]
  rw [kb_e h]
  exact rb_H0 c m app w g2 

theorem rk_H1 (c : Int) (m : Int) (app : Bool) (w : World) (g1 : 53 ≤ c) (g2 : c ≤ 63) : Calls Try.prog 14 #[.agg #[.int .i64 c, .int .i64 m], .bool app] w (GivesBs (kbL c m app) w) := by
  have h : waL c (bitB m 1) (bitB m 2) app = [] := by
    unfold waL
    rw [if_neg (by omega), if_neg (by omega), if_neg (by omega), if_neg (by omega), if_neg (by omega), if_neg (by omega), if_neg (by omega)]
  rw [kb_e h]
  exact rb_H1 c m app w g1 g2 

theorem rk_H2 (c : Int) (m : Int) (app : Bool) (w : World) (g1 : 74 ≤ c) (g2 : c ≤ 79) : Calls Try.prog 14 #[.agg #[.int .i64 c, .int .i64 m], .bool app] w (GivesBs (kbL c m app) w) := by
  have h : waL c (bitB m 1) (bitB m 2) app = [] := by
    unfold waL
    rw [if_neg (by omega), if_neg (by omega), if_neg (by omega), if_neg (by omega), if_neg (by omega), if_neg (by omega), if_neg (by omega)]
  rw [kb_e h]
  exact rb_H2 c m app w g1 g2 

theorem rk_H3 (c : Int) (m : Int) (app : Bool) (w : World) (g1 : 84 ≤ c) : Calls Try.prog 14 #[.agg #[.int .i64 c, .int .i64 m], .bool app] w (GivesBs (kbL c m app) w) := by
  have h : waL c (bitB m 1) (bitB m 2) app = [] := by
    unfold waL
    rw [if_neg (by omega), if_neg (by omega), if_neg (by omega), if_neg (by omega), if_neg (by omega), if_neg (by omega), if_neg (by omega)]
  rw [kb_e h]
  exact rb_H3 c m app w g1 

theorem rbytes14 (c m : Int) (app : Bool) (w : World) : Calls Try.prog 14 #[.agg #[.int .i64 c, .int .i64 m], .bool app] w (GivesBs (kbL c m app) w) := by
  have hc : (1 ≤ c ∧ c ≤ 26) ∨ (27 ≤ c ∧ c ≤ 35) ∨ c = 36 ∨ c = 37 ∨ c = 40 ∨ (38 ≤ c ∧ c ≤ 41 ∧ c ≠ 40) ∨ (42 ≤ c ∧ c ≤ 52) ∨ c = 64 ∨ c = 65 ∨ c = 66 ∨ c = 67 ∨ c = 68 ∨ c = 69 ∨ c = 70 ∨ c = 71 ∨ c = 72 ∨ c = 73 ∨ (80 ≤ c ∧ c ≤ 83) ∨ c ≤ 0 ∨ (53 ≤ c ∧ c ≤ 63) ∨ (74 ≤ c ∧ c ≤ 79) ∨ 84 ≤ c := by omega
  rcases hc with g | g | rfl | rfl | rfl | g | g | rfl | rfl | rfl | rfl | rfl | rfl | rfl | rfl | rfl | rfl | g | g | g | g | g
  · cases h2 : bitB m 2
    · cases h1 : bitB m 1
      · exact rk_A0 c m app w g.1 g.2 h2 h1
      · exact rk_A1 c m app w g.1 g.2 h2 h1
    · exact rk_A2 c m app w g.1 g.2 h2
  · cases h1 : bitB m 1
    · exact rk_B0 c m app w g.1 g.2 h1
    · exact rk_B1 c m app w g.1 (by omega) h1
  · cases h1 : bitB m 1
    · exact rk_Z0 m app w h1
    · exact rk_B1 36 m app w (by omega) (by omega) h1
  · cases h2 : bitB m 2
    · exact rk_K0 m app w h2
    · exact rk_K1 m app w h2
  · cases h1 : bitB m 1
    · exact rk_T0 m app w h1
    · exact rk_T1 m app w h1
  · exact rk_E c m app w g.1 g.2.1 g.2.2
  · cases h1 : bitB m 1
    · exact rk_S0 c m app w g.1 g.2 h1
    · exact rk_S1 c m app w g.1 g.2 h1
  · cases app
    · exact rk_M0n m w
    · exact rk_M0a m w
  · cases app
    · exact rk_M1n m w
    · exact rk_M1a m w
  · cases app
    · exact rk_M2n m w
    · exact rk_M2a m w
  · cases app
    · exact rk_M3n m w
    · exact rk_M3a m w
  · cases app
    · exact rk_M4n m w
    · exact rk_M4a m w
  · cases app
    · exact rk_M5n m w
    · exact rk_M5a m w
  · exact rk_P0 m app w
  · exact rk_P1 m app w
  · exact rk_P2 m app w
  · exact rk_P3 m app w
  · exact rk_G c m app w g.1 g.2
  · exact rk_H0 c m app w g
  · exact rk_H1 c m app w g.1 g.2
  · exact rk_H2 c m app w g.1 g.2
  · exact rk_H3 c m app w g

end Go.Proofs.Ytjficpcfdpbegaa
