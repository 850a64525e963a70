/-
  What parameters make of a pen, in the document, walked: one step. No conditions.
-/
import Derived.Test.YtinikpadbocfaaaC6
namespace Go.Proofs.Ytinikpadbocfaaa
open Go.RowKit

/-- The rest of the parameters, as the document takes them. -/
def Rec (w : World) (b off n : Nat) (l : List Int) : Prop :=
  ∀ (j : Nat), 0 < j → j < n → ∀ o, o = off + j → ∀ m, m = n - j → ∀ cc, n - j ≤ cc → ∀ q : Pn, W64 q.fl → ∀ Q, Q = runL q (l.drop j) → ∀ W', Stay (fun _ => False) w W' → Calls Try.prog 12 #[.agg #[.int .i64 q.fg, .int .i64 q.bg, .int .i64 q.fl], .slice (some ⟨b, o, none⟩) m cc] W' (Gives (.agg #[.int .i64 Q.fg, .int .i64 Q.bg, .int .i64 Q.fl]) W')

end Go.Proofs.Ytinikpadbocfaaa
