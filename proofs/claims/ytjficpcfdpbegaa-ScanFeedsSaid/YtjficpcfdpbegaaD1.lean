/-
  A sign of a string. No conditions.
-/
import Derived.Test.YtjficpcfdpbegaaD0
namespace Go.Proofs.Ytjficpcfdpbegaa
open Go.RowKit

theorem sign_at (s : ByteArray) (i : Int) (h0 : 0 ≤ i) (hi : i < s.size) (hs : s.size ≤ 1000) (w : World) : Calls Try.prog 20 #[.string s, .int .i64 i] w fun e w' => e = .returned (.string (s.extract i.toNat (i.toNat + 1))) ∧ w = w' := by
  obtain ⟨n, rfl⟩ := Int.eq_ofNat_of_zero_le h0
  exact sign20 s n (by omega) hs w

end Go.Proofs.Ytjficpcfdpbegaa
