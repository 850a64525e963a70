/-
  The bytes of a key, as lists; strings of bytes. No conditions.
-/
import Derived.Test.YtjficpcfdpbegaaC0
namespace Go.Proofs.Ytjficpcfdpbegaa
open Go.RowKit

/-- What keys type without and with Shift. -/
def typedT : List Int := [97, 98, 99, 100, 101, 102, 103, 104, 105, 106, 107, 108, 109, 110, 111, 112, 113, 114, 115, 116, 117, 118, 119, 120, 121, 122, 49, 50, 51, 52, 53, 54, 55, 56, 57, 48, 32, 13, 127, 9, 27, 45, 61, 91, 93, 92, 59, 39, 44, 46, 47, 96]
def shiftT : List Int := [65, 66, 67, 68, 69, 70, 71, 72, 73, 74, 75, 76, 77, 78, 79, 80, 81, 82, 83, 84, 85, 86, 87, 88, 89, 90, 33, 64, 35, 36, 37, 94, 38, 42, 40, 41, 32, 13, 127, 9, 27, 95, 43, 123, 125, 124, 58, 34, 60, 62, 63, 126]

/-- A string of bytes. -/
def bsOf (l : List Int) : ByteArray := ⟨(l.map fun x => UInt8.ofNat x.toNat).toArray⟩

/-- A key's bytes, if Alt isn't down. -/
def waL (c : Int) (sh ct app : Bool) : List Int :=
  if 1 ≤ c ∧ c ≤ 26 then (if ct then [c] else if sh then [64 + c] else [96 + c])
  else if c = 37 then (if ct then [0] else [32])
  else if c = 40 then (if sh then [27, 91, 90] else [9])
  else if 27 ≤ c ∧ c ≤ 52 then (if sh then [shiftT.getD (c - 1).toNat 0] else [typedT.getD (c - 1).toNat 0])
  else if 64 ≤ c ∧ c ≤ 69 then [27, if app then 79 else 91, [65, 66, 67, 68, 72, 70].getD (c - 64).toNat 0]
  else if 70 ≤ c ∧ c ≤ 73 then [27, 91, [53, 54, 50, 51].getD (c - 70).toNat 0, 126]
  else if 80 ≤ c ∧ c ≤ 83 then [27, 79, c]
  else []

/-- A key's bytes. -/
def kbL (c m : Int) (app : Bool) : List Int :=
  if bitB m 4 && !(waL c (bitB m 1) (bitB m 2) app).isEmpty then 27 :: waL c (bitB m 1) (bitB m 2) app else waL c (bitB m 1) (bitB m 2) app

/-- In every class of keys. -/
theorem all_keys (P : Int → Prop) (hlo hhi : Nat) (h : ∀ n : Nat, n < hhi → hlo ≤ n → P (n : Int)) (c : Int) (h1 : (hlo : Int) ≤ c) (h2 : c < (hhi : Int)) : P c := by
  obtain ⟨n, rfl⟩ := Int.eq_ofNat_of_zero_le (show 0 ≤ c by omega)
  exact h n (by omega) (by omega)

theorem s_ct (c : Int) (h1 : 1 ≤ c) (h2 : c < 27) : Utf8.encode c = bsOf [c] := by
  revert h1 h2
  exact fun h1 h2 => all_keys (fun c => Utf8.encode c = bsOf [c]) 1 27 (by decide +kernel) c h1 h2

theorem s_sh1 (c : Int) (h1 : 1 ≤ c) (h2 : c < 27) : (⟨#[65, 66, 67, 68, 69, 70, 71, 72, 73, 74, 75, 76, 77, 78, 79, 80, 81, 82, 83, 84, 85, 86, 87, 88, 89, 90, 33, 64, 35, 36, 37, 94, 38, 42, 40, 41, 32, 13, 127, 9, 27, 95, 43, 123, 125, 124, 58, 34, 60, 62, 63, 126]⟩ : ByteArray).extract (c - 1).toNat ((c - 1).toNat + 1) = bsOf [64 + c] := by
  revert h1 h2
  exact fun h1 h2 => all_keys (fun c => (⟨#[65, 66, 67, 68, 69, 70, 71, 72, 73, 74, 75, 76, 77, 78, 79, 80, 81, 82, 83, 84, 85, 86, 87, 88, 89, 90, 33, 64, 35, 36, 37, 94, 38, 42, 40, 41, 32, 13, 127, 9, 27, 95, 43, 123, 125, 124, 58, 34, 60, 62, 63, 126]⟩ : ByteArray).extract (c - 1).toNat ((c - 1).toNat + 1) = bsOf [64 + c]) 1 27 (by decide +kernel) c h1 h2

theorem s_ty1 (c : Int) (h1 : 1 ≤ c) (h2 : c < 27) : (⟨#[97, 98, 99, 100, 101, 102, 103, 104, 105, 106, 107, 108, 109, 110, 111, 112, 113, 114, 115, 116, 117, 118, 119, 120, 121, 122, 49, 50, 51, 52, 53, 54, 55, 56, 57, 48, 32, 13, 127, 9, 27, 45, 61, 91, 93, 92, 59, 39, 44, 46, 47, 96]⟩ : ByteArray).extract (c - 1).toNat ((c - 1).toNat + 1) = bsOf [96 + c] := by
  revert h1 h2
  exact fun h1 h2 => all_keys (fun c => (⟨#[97, 98, 99, 100, 101, 102, 103, 104, 105, 106, 107, 108, 109, 110, 111, 112, 113, 114, 115, 116, 117, 118, 119, 120, 121, 122, 49, 50, 51, 52, 53, 54, 55, 56, 57, 48, 32, 13, 127, 9, 27, 45, 61, 91, 93, 92, 59, 39, 44, 46, 47, 96]⟩ : ByteArray).extract (c - 1).toNat ((c - 1).toNat + 1) = bsOf [96 + c]) 1 27 (by decide +kernel) c h1 h2

theorem s_sh2 (c : Int) (h1 : 1 ≤ c) (h2 : c < 53) : (⟨#[65, 66, 67, 68, 69, 70, 71, 72, 73, 74, 75, 76, 77, 78, 79, 80, 81, 82, 83, 84, 85, 86, 87, 88, 89, 90, 33, 64, 35, 36, 37, 94, 38, 42, 40, 41, 32, 13, 127, 9, 27, 95, 43, 123, 125, 124, 58, 34, 60, 62, 63, 126]⟩ : ByteArray).extract (c - 1).toNat ((c - 1).toNat + 1) = bsOf [shiftT.getD (c - 1).toNat 0] := by
  revert h1 h2
  exact fun h1 h2 => all_keys (fun c => (⟨#[65, 66, 67, 68, 69, 70, 71, 72, 73, 74, 75, 76, 77, 78, 79, 80, 81, 82, 83, 84, 85, 86, 87, 88, 89, 90, 33, 64, 35, 36, 37, 94, 38, 42, 40, 41, 32, 13, 127, 9, 27, 95, 43, 123, 125, 124, 58, 34, 60, 62, 63, 126]⟩ : ByteArray).extract (c - 1).toNat ((c - 1).toNat + 1) = bsOf [shiftT.getD (c - 1).toNat 0]) 1 53 (by decide +kernel) c h1 h2

theorem s_ty2 (c : Int) (h1 : 1 ≤ c) (h2 : c < 53) : (⟨#[97, 98, 99, 100, 101, 102, 103, 104, 105, 106, 107, 108, 109, 110, 111, 112, 113, 114, 115, 116, 117, 118, 119, 120, 121, 122, 49, 50, 51, 52, 53, 54, 55, 56, 57, 48, 32, 13, 127, 9, 27, 45, 61, 91, 93, 92, 59, 39, 44, 46, 47, 96]⟩ : ByteArray).extract (c - 1).toNat ((c - 1).toNat + 1) = bsOf [typedT.getD (c - 1).toNat 0] := by
  revert h1 h2
  exact fun h1 h2 => all_keys (fun c => (⟨#[97, 98, 99, 100, 101, 102, 103, 104, 105, 106, 107, 108, 109, 110, 111, 112, 113, 114, 115, 116, 117, 118, 119, 120, 121, 122, 49, 50, 51, 52, 53, 54, 55, 56, 57, 48, 32, 13, 127, 9, 27, 45, 61, 91, 93, 92, 59, 39, 44, 46, 47, 96]⟩ : ByteArray).extract (c - 1).toNat ((c - 1).toNat + 1) = bsOf [typedT.getD (c - 1).toNat 0]) 1 53 (by decide +kernel) c h1 h2

theorem s_mva (c : Int) (h1 : 64 ≤ c) (h2 : c < 70) : (⟨#[27, 79]⟩ : ByteArray) ++ (⟨#[65, 66, 67, 68, 72, 70]⟩ : ByteArray).extract (c - 64).toNat ((c - 64).toNat + 1) = bsOf [27, 79, [65, 66, 67, 68, 72, 70].getD (c - 64).toNat 0] := by
  revert h1 h2
  exact fun h1 h2 => all_keys (fun c => (⟨#[27, 79]⟩ : ByteArray) ++ (⟨#[65, 66, 67, 68, 72, 70]⟩ : ByteArray).extract (c - 64).toNat ((c - 64).toNat + 1) = bsOf [27, 79, [65, 66, 67, 68, 72, 70].getD (c - 64).toNat 0]) 64 70 (by decide +kernel) c h1 h2

theorem s_mvn (c : Int) (h1 : 64 ≤ c) (h2 : c < 70) : (⟨#[27, 91]⟩ : ByteArray) ++ (⟨#[65, 66, 67, 68, 72, 70]⟩ : ByteArray).extract (c - 64).toNat ((c - 64).toNat + 1) = bsOf [27, 91, [65, 66, 67, 68, 72, 70].getD (c - 64).toNat 0] := by
  revert h1 h2
  exact fun h1 h2 => all_keys (fun c => (⟨#[27, 91]⟩ : ByteArray) ++ (⟨#[65, 66, 67, 68, 72, 70]⟩ : ByteArray).extract (c - 64).toNat ((c - 64).toNat + 1) = bsOf [27, 91, [65, 66, 67, 68, 72, 70].getD (c - 64).toNat 0]) 64 70 (by decide +kernel) c h1 h2

theorem s_ed (c : Int) (h1 : 70 ≤ c) (h2 : c < 74) : (⟨#[27, 91]⟩ : ByteArray) ++ (⟨#[53, 54, 50, 51]⟩ : ByteArray).extract (c - 70).toNat ((c - 70).toNat + 1) ++ (⟨#[126]⟩ : ByteArray) = bsOf [27, 91, [53, 54, 50, 51].getD (c - 70).toNat 0, 126] := by
  revert h1 h2
  exact fun h1 h2 => all_keys (fun c => (⟨#[27, 91]⟩ : ByteArray) ++ (⟨#[53, 54, 50, 51]⟩ : ByteArray).extract (c - 70).toNat ((c - 70).toNat + 1) ++ (⟨#[126]⟩ : ByteArray) = bsOf [27, 91, [53, 54, 50, 51].getD (c - 70).toNat 0, 126]) 70 74 (by decide +kernel) c h1 h2

theorem s_fn (c : Int) (h1 : 80 ≤ c) (h2 : c < 84) : (⟨#[27, 79]⟩ : ByteArray) ++ (⟨#[80, 81, 82, 83]⟩ : ByteArray).extract (c - 80).toNat ((c - 80).toNat + 1) = bsOf [27, 79, c] := by
  revert h1 h2
  exact fun h1 h2 => all_keys (fun c => (⟨#[27, 79]⟩ : ByteArray) ++ (⟨#[80, 81, 82, 83]⟩ : ByteArray).extract (c - 80).toNat ((c - 80).toNat + 1) = bsOf [27, 79, c]) 80 84 (by decide +kernel) c h1 h2

end Go.Proofs.Ytjficpcfdpbegaa
