/-
  Bits that are set and let go; rows without their first byte. No conditions.
-/
import Derived.Test.YtjficpcfdpbegaaF1
namespace Go.Proofs.Ytjficpcfdpbegaa
open Go.RowKit

theorem of_wrap (X : BitVec 64) : BitVec.ofInt 64 (IntKind.i64.wrap (X.toNat : Int)) = X := by
  apply BitVec.eq_of_toNat_eq
  rw [BitVec.toNat_ofInt, IntKind.wrap_i64]
  have := X.isLt
  omega

theorem and_or4 (m b : Int) (h : BitVec.ofInt 64 4 &&& BitVec.ofInt 64 b = 0#64) : bits .and .i64 (bits .or .i64 m 4) b = bits .and .i64 m b := by
  show IntKind.i64.wrap ((BitVec.ofInt 64 (IntKind.i64.wrap ((BitVec.ofInt 64 m ||| BitVec.ofInt 64 4).toNat : Nat)) &&& BitVec.ofInt 64 b).toNat : Nat) = IntKind.i64.wrap ((BitVec.ofInt 64 m &&& BitVec.ofInt 64 b).toNat : Nat)
  rw [of_wrap, show (BitVec.ofInt 64 m ||| BitVec.ofInt 64 4) &&& BitVec.ofInt 64 b = (BitVec.ofInt 64 m &&& BitVec.ofInt 64 b) ||| (BitVec.ofInt 64 4 &&& BitVec.ofInt 64 b) from by
    apply BitVec.eq_of_getLsbD_eq
    intro i hi
    rw [BitVec.getLsbD_and, BitVec.getLsbD_or, BitVec.getLsbD_or, BitVec.getLsbD_and, BitVec.getLsbD_and]
    cases (BitVec.ofInt 64 m).getLsbD i <;> cases (BitVec.ofInt 64 4).getLsbD i <;> cases (BitVec.ofInt 64 b).getLsbD i <;> rfl, h]
  simp

theorem and_gone4 (m b : Int) (h : ~~~(BitVec.ofInt 64 4) &&& BitVec.ofInt 64 b = BitVec.ofInt 64 b) : bits .and .i64 (bits .andNot .i64 m 4) b = bits .and .i64 m b := by
  show IntKind.i64.wrap ((BitVec.ofInt 64 (IntKind.i64.wrap ((BitVec.ofInt 64 m &&& ~~~(BitVec.ofInt 64 4)).toNat : Nat)) &&& BitVec.ofInt 64 b).toNat : Nat) = IntKind.i64.wrap ((BitVec.ofInt 64 m &&& BitVec.ofInt 64 b).toNat : Nat)
  rw [of_wrap, BitVec.and_assoc, h]

theorem or4_4 (m : Int) : bitB (bits .or .i64 m 4) 4 = true := by
  have e : bits .and .i64 (bits .or .i64 m 4) 4 = 4 := by
    show IntKind.i64.wrap ((BitVec.ofInt 64 (IntKind.i64.wrap ((BitVec.ofInt 64 m ||| BitVec.ofInt 64 4).toNat : Nat)) &&& BitVec.ofInt 64 4).toNat : Nat) = 4
    rw [of_wrap, show (BitVec.ofInt 64 m ||| BitVec.ofInt 64 4) &&& BitVec.ofInt 64 4 = BitVec.ofInt 64 4 from by
      apply BitVec.eq_of_getLsbD_eq
      intro i hi
      rw [BitVec.getLsbD_and, BitVec.getLsbD_or]
      cases (BitVec.ofInt 64 m).getLsbD i <;> cases (BitVec.ofInt 64 4).getLsbD i <;> rfl]
    decide
  unfold bitB
  rw [e]
  rfl

theorem gone4_4 (m : Int) : bitB (bits .andNot .i64 m 4) 4 = false := by
  have e : bits .and .i64 (bits .andNot .i64 m 4) 4 = 0 := by
    show IntKind.i64.wrap ((BitVec.ofInt 64 (IntKind.i64.wrap ((BitVec.ofInt 64 m &&& ~~~(BitVec.ofInt 64 4)).toNat : Nat)) &&& BitVec.ofInt 64 4).toNat : Nat) = 0
    rw [of_wrap, BitVec.and_assoc, show ~~~(BitVec.ofInt 64 4) &&& BitVec.ofInt 64 4 = 0#64 by decide]
    simp
    decide
  unfold bitB
  rw [e]
  rfl

theorem bit_or (m b : Int) (h : BitVec.ofInt 64 4 &&& BitVec.ofInt 64 b = 0#64) : bitB (bits .or .i64 m 4) b = bitB m b := by unfold bitB; rw [and_or4 m b h]

theorem bit_gone (m b : Int) (h : ~~~(BitVec.ofInt 64 4) &&& BitVec.ofInt 64 b = BitVec.ofInt 64 b) : bitB (bits .andNot .i64 m 4) b = bitB m b := by unfold bitB; rw [and_gone4 m b h]

/-- Without Alt, and with it. -/
theorem kb_gone (c m : Int) (app : Bool) : kbL c (bits .andNot .i64 m 4) app = waL c (bitB m 1) (bitB m 2) app := by
  unfold kbL
  rw [gone4_4, bit_gone m 1 (by decide), bit_gone m 2 (by decide)]
  simp

theorem kb_set (c m : Int) (app : Bool) : kbL c (bits .or .i64 m 4) app = if (waL c (bitB m 1) (bitB m 2) app).isEmpty then [] else 27 :: waL c (bitB m 1) (bitB m 2) app := by
  unfold kbL
  rw [or4_4, bit_or m 1 (by decide), bit_or m 2 (by decide)]
  cases h : waL c (bitB m 1) (bitB m 2) app <;> simp

theorem kb_attention (m : Int) (app : Bool) : kbL 118 m app = [] := by
  have h : waL 118 (bitB m 1) (bitB m 2) app = [] := by
    generalize bitB m 1 = x
    generalize bitB m 2 = y
    cases x <;> cases y <;> cases app <;> rfl
  unfold kbL
  rw [h]
  simp

theorem bs_tail {w : World} {b off cp n : Nat} {x : Int} {l : List Int} (h : Ints .u8 w b off (x :: l)) (hc : l.length ≤ cp) (hn : n = l.length) : Bs w (.slice (some ⟨b, off + 1, none⟩) n cp) l := by
  subst hn
  refine ⟨_, cp, rfl, hc, fun _ => ⟨b, off + 1, rfl, fun j hj => ?_⟩⟩
  have := h (j + 1) (by simpa using hj)
  rw [show off + 1 + j = off + (j + 1) by omega, this]
  simp

end Go.Proofs.Ytjficpcfdpbegaa
