/-
  New: walked. No conditions.
-/
import Derived.Test.YtlhfpnfiamgmlaaP1
import Derived.Deep.DeepCutAuto
namespace Go.Proofs.Ytlhfpnfiamgmlaa
open Go.RowKit

/-- The empty array's cells: the first of them. -/
theorem zero65 : ∃ Z : List Value, (Try.prog.info? 65).map (fun i => i.zero) = some (some (.agg Z.toArray)) ∧ Z.take 120 = (List.replicate 20 Pl.zero.parts).flatten :=
  ⟨match Try.t65.zero with | some (.agg cs) => cs.toList | _ => [], by kernel_rfl, by kernel_rfl⟩

theorem Z65_get {Z65 : List Value} (Z65_at : Z65.take 120 = (List.replicate 20 Pl.zero.parts).flatten) (i : Nat) (hi : i < 20) (j : Nat) (hj : j < 6) : Z65[i * 6 + j]? = Pl.zero.parts[j]? := by
  have e : (Z65.take 120)[i * 6 + j]? = Z65[i * 6 + j]? := List.getElem?_take_of_lt (by omega)
  rw [← e, Z65_at]
  have all : ∀ i, i < 20 → ∀ j, j < 6 → ((List.replicate 20 Pl.zero.parts).flatten[i * 6 + j]?).map (fun v => match v with | .pointer none => 1 | .int .i64 0 => 0 | _ => (2 : Nat)) = some (if j = 5 then 1 else 0) := by decide +kernel
  have h := all i hi j hj
  obtain ⟨v, hv, hm⟩ := Option.map_eq_some_iff.1 h
  rw [hv]
  have hmem : v ∈ Pl.zero.parts := by
    have := List.mem_of_getElem? hv
    obtain ⟨l, hl, hv'⟩ := List.mem_flatten.1 this
    rw [List.eq_of_mem_replicate hl] at hv'
    exact hv'
  simp only [Pl.parts, Pl.zero, List.mem_cons, List.not_mem_nil, or_false] at hmem
  match j, hj with
  | 0, _ => rcases hmem with rfl | rfl | rfl | rfl | rfl | rfl <;> first | rfl | (exact absurd hm (by decide))
  | 1, _ => rcases hmem with rfl | rfl | rfl | rfl | rfl | rfl <;> first | rfl | (exact absurd hm (by decide))
  | 2, _ => rcases hmem with rfl | rfl | rfl | rfl | rfl | rfl <;> first | rfl | (exact absurd hm (by decide))
  | 3, _ => rcases hmem with rfl | rfl | rfl | rfl | rfl | rfl <;> first | rfl | (exact absurd hm (by decide))
  | 4, _ => rcases hmem with rfl | rfl | rfl | rfl | rfl | rfl <;> first | rfl | (exact absurd hm (by decide))
  | 5, _ => rcases hmem with rfl | rfl | rfl | rfl | rfl | rfl <;> first | rfl | (exact absurd hm (by decide))

theorem run_alloc {P : Program} {t : TypeId} {z : Value} (hi : (P.info? t).map (fun i => i.zero) = some (some z)) (old : Value) (w : World) : (Instr.alloc t true old).run P w = .ok (.pointer (some ⟨w.heap.size, 0, none⟩)) (w.alloc (.cells z.cells t)) := by
  obtain ⟨i, hi, hz⟩ := Option.map_eq_some_iff.1 hi
  simp [Instr.alloc, zeroValue, typeInfo, hi, hz, newVar, newRow, go_sem]

/-- A zero value is allocated. -/
theorem wpList_alloc {P : Program} (w : World) {ops : Array Oper} {rest : List Oper} {o : Oper} {a : Act} {Q : Exit → Act → World → Prop} (hg : o.guard = none) (t : TypeId) (hop : o.op = Op.alloc t) (z : Value) (hi : (P.info? t).map (fun i => i.zero) = some (some z))
    (hK : wpList P ops Q rest (a.put o.dst (.pointer (some ⟨w.heap.size, 0, none⟩))) (w.alloc (.cells z.cells t))) : wpList P ops Q (o :: rest) a w := by
  refine wpList_plain hg fun K hK' => ?_
  have hrun := run_alloc (P := P) hi (.tuple #[]) w
  unfold Oper.wp
  simp [execOp, hop, hrun, Result.andThen]
  exact hK' _ _ hK

theorem PTab.zeros {Z65 : List Value} (hz : Z65.take 120 = (List.replicate 20 Pl.zero.parts).flatten) (w : World) (n : Nat) (hn : n ≤ 20) : PTab (w.alloc (.cells Z65.toArray 65)) w.heap.size n (fun _ => Pl.zero) := by
  intro i hi
  have c : ∀ j, j < 6 → (w.alloc (.cells Z65.toArray 65)).cell? ⟨w.heap.size, i * 6 + j, none⟩ = Pl.zero.parts[j]? := fun j hj => by
    rw [← Z65_get hz i (by omega) j hj]
    simp
  refine ⟨fun j v hv => ?_, fun j hj => ⟨?_, by simp⟩⟩
  · rw [c j (List.getElem?_eq_some_iff.1 hv).1, hv]
  · rw [c j hj]
    match j, hj with
    | 0, _ => rfl
    | 1, _ => rfl
    | 2, _ => rfl
    | 3, _ => rfl
    | 4, _ => rfl
    | 5, _ => rfl

end Go.Proofs.Ytlhfpnfiamgmlaa
