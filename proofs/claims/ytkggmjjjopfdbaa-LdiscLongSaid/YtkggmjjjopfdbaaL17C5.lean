/-
  The raw and the plain setting: walked. No conditions.
-/
import Derived.Test.YtkggmjjjopfdbaaL17C4
namespace Go.Proofs.Ytkggmjjjopfdbaa.L17
open Go.RowKit

def zeroT : Tm := ⟨0, 0, 0, 0, 0, 0, 0, 0, 0, 0, 0, 0, 0, 0, 0, 0, 0⟩

end Go.Proofs.Ytkggmjjjopfdbaa.L17
