/-
  Who goes: the closures: walked. No conditions.
-/
import Derived.Test.YtlhfpnfiamgmlaaP9
import Derived.Deep.DeepCutAuto
import Derived.BigQuiet
namespace Go.Proofs.Ytlhfpnfiamgmlaa
open Go.RowKit

theorem ixs_rise (p : Nat → Bool) : ∀ n, (ixs p n).Pairwise (· < ·)
  | 0 => List.Pairwise.nil
  | n + 1 => by
    show (ixs p n ++ _).Pairwise _
    rw [List.pairwise_append]
    refine ⟨ixs_rise p n, ?_, fun a ha b hb => ?_⟩
    · split
      · exact List.pairwise_singleton _ _
      · exact List.Pairwise.nil
    · have h1 := ((ixs_mem p n a).1 ha).1
      split at hb
      · rw [List.mem_singleton] at hb; omega
      · cases hb

theorem ixs_fresh (p : Nat → Bool) (n t i : Nat) (h : (ixs p n)[t]? = some i) : i ∉ (ixs p n).take t := by
  intro hm
  have hp := ixs_rise p n
  rw [← List.take_append_drop t (ixs p n), List.pairwise_append] at hp
  have hd : i ∈ (ixs p n).drop t := by
    apply List.mem_of_getElem? (i := 0)
    rw [List.getElem?_drop, Nat.add_zero]
    exact h
  exact Nat.lt_irrefl _ (hp.2.2 i hm i hd)

theorem equalIn_ptr (d : Nat) (B i k : Nat) (w : World) : (Op.equalIn (d + 1) 62 (.pointer (some ⟨B, i * 6, none⟩)) (.pointer (some ⟨B, k * 6, none⟩))).run Try.prog w = .ok (i == k) w := by
  have e : ((⟨B, i * 6, none⟩ : Addr) == ⟨B, k * 6, none⟩) = (i == k) := by
    by_cases h : i = k
    · subst h; simp
    · rw [beq_eq_false_iff_ne.2 h, beq_eq_false_iff_ne.2 (fun e => by injection e; omega)]
  simp [Op.equalIn, run_underlying Try.underlying62, sizeOf, Try.typeInfo64, Try.t64, sameAddr, go_sem, e]

theorem eql62_ptr (B i k : Nat) (w : World) : (binOp .eql 62 (.pointer (some ⟨B, i * 6, none⟩)) (.pointer (some ⟨B, k * 6, none⟩))).run Try.prog w = .ok (.bool (i == k)) w := by
  simp only [binOp]
  have h : (Op.equal 62 (.pointer (some ⟨B, i * 6, none⟩)) (.pointer (some ⟨B, k * 6, none⟩))).run Try.prog w = .ok (i == k) w := equalIn_ptr 9999 B i k w
  simp [h]

theorem equalIn_nil (d : Nat) (a : Addr) (w : World) : (Op.equalIn (d + 1) 62 (.pointer none) (.pointer (some a))).run Try.prog w = .ok false w := by
  simp [Op.equalIn, run_underlying Try.underlying62]

theorem eql62_nil (a : Addr) (w : World) : (binOp .eql 62 (.pointer none) (.pointer (some a))).run Try.prog w = .ok (.bool false) w := by
  simp only [binOp]
  have h : (Op.equal 62 (.pointer none) (.pointer (some a))).run Try.prog w = .ok false w := equalIn_nil 9999 a w
  simp [h]

attribute [local go_sem] eql62_ptr eql62_nil

theorem drop38 (B i k bx : Nat) (w : World) (hb : w.cell? ⟨bx, 0, none⟩ = some (.pointer (some ⟨B, k * 6, none⟩))) : Calls Try.prog 38 #[.pointer (some ⟨B, i * 6, none⟩), .pointer (some ⟨bx, 0, none⟩)] w (Gives (.bool (i == k)) w) := by
  have HS := hide' (Stay.refl (fun _ => False) w)
  go_enter Try.func38, Try.ntmps38
  go_wp2
  go_ret
  exact ⟨rfl, HS.out⟩

theorem kill39 (B i bx : Nat) (p : Pl) (env : Int) (w : World) (hp : PBoxAt w B (i * 6) p) (hb : w.cell? ⟨bx, 0, none⟩ = some (.int .i64 env)) : Calls Try.prog 39 #[.pointer (some ⟨B, i * 6, none⟩), .pointer (some ⟨bx, 0, none⟩)] w (Gives (.bool (isPl p env)) w) := by
  have HP := hide' hp
  clear hp
  go_enter Try.func39, Try.ntmps39
  go_wp2_with fail
  refine (isof40 B (i * 6) p env _ HP.out).mono ?_
  rintro _ w1 ⟨rfl, hs⟩
  have HS := hide' hs
  clear hs
  go_wp2
  go_ret
  exact ⟨rfl, HS.out⟩

theorem revoke37_nil (B i k bx : Nat) (w : World) (hp : w.cell? ⟨B, i * 6 + 5, none⟩ = some (.pointer none)) (hb : w.cell? ⟨bx, 0, none⟩ = some (.pointer (some ⟨B, k * 6, none⟩))) : Calls Try.prog 37 #[.pointer (some ⟨B, i * 6, none⟩), .pointer (some ⟨bx, 0, none⟩)] w (Gives (.bool false) w) := by
  have HS := hide' (Stay.refl (fun _ => False) w)
  go_enter Try.func37, Try.ntmps37
  go_upto_region 1 with fail
  go_quiet (fail)
  go_wp2
  go_ret
  exact ⟨rfl, HS.out.through _⟩

theorem revoke37_some (B i j k bx : Nat) (w : World) (hp : w.cell? ⟨B, i * 6 + 5, none⟩ = some (.pointer (some ⟨B, j * 6, none⟩))) (hb : w.cell? ⟨bx, 0, none⟩ = some (.pointer (some ⟨B, k * 6, none⟩))) : Calls Try.prog 37 #[.pointer (some ⟨B, i * 6, none⟩), .pointer (some ⟨bx, 0, none⟩)] w (Gives (.bool (j == k)) w) := by
  have HS := hide' (Stay.refl (fun _ => False) w)
  go_enter Try.func37, Try.ntmps37
  go_upto_region 1 with fail
  go_quiet (fail)
  go_wp2
  go_ret
  exact ⟨rfl, HS.out.through _⟩

end Go.Proofs.Ytlhfpnfiamgmlaa
