/-
  A name that is stale stays so: plain. No conditions.
-/
import Derived.Test.YtlhfpnfiamgmlaaR1
namespace Go.Proofs.Ytlhfpnfiamgmlaa
open Go.RowKit

theorem eqlN_op {a : Act} {x y : Operand} {w : World} {d : Option Tmp} {ty : TypeId} (b : Bool) (p q : Nm) (hx : a.eval x = .agg #[.int .i64 p.slot, .int .i64 p.gen]) (hy : a.eval y = .agg #[.int .i64 q.slot, .int .i64 q.gen]) (hb : (p.slot == q.slot && p.gen == q.gen) = b) :
    (execOp a.eval (opr d (.binOp .eql 30 x y 30) ty)).run Try.prog w = .ok (.value (.bool b)) w := by
  subst hb
  obtain ⟨p0, p1⟩ := p
  obtain ⟨q0, q1⟩ := q
  simp only [opr, execOp, hx, hy]
  by_cases h0 : p0 = q0 <;> by_cases h1 : p1 = q1 <;> (go_simp; try simp [h0, h1])

theorem neqN_op {a : Act} {x y : Operand} {w : World} {d : Option Tmp} {ty : TypeId} (b : Bool) (p q : Nm) (hx : a.eval x = .agg #[.int .i64 p.slot, .int .i64 p.gen]) (hy : a.eval y = .agg #[.int .i64 q.slot, .int .i64 q.gen]) (hb : (!(p.slot == q.slot && p.gen == q.gen)) = b) :
    (execOp a.eval (opr d (.binOp .neq 30 x y 30) ty)).run Try.prog w = .ok (.value (.bool b)) w := by
  subst hb
  obtain ⟨p0, p1⟩ := p
  obtain ⟨q0, q1⟩ := q
  simp only [opr, execOp, hx, hy]
  by_cases h0 : p0 = q0 <;> by_cases h1 : p1 = q1 <;> (go_simp; try simp [h0, h1])

/-- A table of which the first slot was let go so often; the same with one in that slot. -/
def fS (i : Nat) : Nat → Sl := fun j => if j = 0 then ⟨(i : Nat) + 1, -1, 0, 0, 0, -1⟩ else Sl.fresh
def gS (i : Nat) : Nat → Sl := fun j => if j = 0 then ⟨(i : Nat) + 1, 1, 3, (i : Nat), 7, -1⟩ else Sl.fresh

theorem fS_zero : fS 0 = fun _ => Sl.fresh := by
  funext j
  unfold fS
  split <;> rfl

theorem fS_env (i j : Nat) : (fS i j).env = -1 := by
  unfold fS
  split <;> rfl

theorem fS_cnt (i n : Nat) : cnt (isOf (fS i) 1) n = 0 := by
  have h : cnt (isOf (fS i) 1) n = cnt (fun _ => false) n := cnt_congr (fun j _ => by unfold isOf; rw [fS_env]; rfl)
  rw [h]
  clear h
  induction n with
  | zero => rfl
  | succ n ih => rw [cnt_succ, ih]; rfl

theorem fS_free (i n : Nat) (_hn : 1 ≤ n) : freeIx (fS i) n = 0 := by
  obtain ⟨_, h, _⟩ := freeIx_spec (fS i) n
  by_cases e : freeIx (fS i) n = 0
  · exact e
  · have := h 0 (by omega)
    rw [fS_env] at this
    omega

theorem mint_S (i n : Nat) (hn : 1 ≤ n) : mintS n 10 (fS i) 1 3 (i : Nat) 7 = (gS i, 0, ((i : Nat) : Int) + 1, 0) := by
  unfold mintS
  rw [if_neg (by unfold badArgs; omega)]
  unfold addS
  show (if (10 : Int) ≤ (cnt (isOf (fS i) 1) n : Nat) then _ else _) = _
  rw [fS_cnt, if_neg (by decide), fS_free i n hn, if_pos (by omega)]
  have e : putF (fS i) 0 ⟨(fS i 0).gen, 1, 3, (i : Nat), 7, -1⟩ = gS i := by
    funext j
    unfold putF fS gS
    by_cases h : j = 0
    · rw [if_pos h, if_pos h, if_pos rfl]
    · rw [if_neg h, if_neg h, if_neg h]
  show (putF (fS i) 0 ⟨(fS i 0).gen, 1, 3, (i : Nat), 7, -1⟩, _, _, _) = _
  rw [e]
  rfl

theorem check_S (i k n : Nat) (hk : k < i) : checkR n (gS i) 1 0 ((k : Nat) + 1) 3 0 = (0, 9) := by
  have h9 : ownE n (gS i) 1 0 ((k : Nat) + 1) 0 = 9 := by
    unfold ownE
    rw [if_neg (fun h => by
      have h1 : ((i : Nat) : Int) + 1 = (k : Nat) + 1 := h.2.2.2
      omega)]
  unfold checkR
  rw [h9, if_neg (by decide)]

theorem own_S (i n : Nat) (hn : 1 ≤ n) : ownE n (gS i) 1 0 ((i : Nat) + 1) 4 = 0 := by
  unfold ownE
  rw [if_pos ⟨by omega, by omega, by show (0 : Int) ≤ 1; decide, rfl⟩, if_pos ⟨rfl, by show hasB 7 4 = true; decide +kernel⟩]

theorem drop_S {i n : Nat} {M : Nat → Bool} (hn : 1 ≤ n) (hM : ∀ j, M j = true ↔ Bel n (gS i) (fun j => (j : Int) == 0) j) : goneF M (gS i) = fS (i + 1) ∧ cnt (goneB M (gS i)) n = 1 := by
  have m0 : M 0 = true := (hM 0).2 (.base rfl)
  constructor
  · funext j
    unfold goneF gS fS
    by_cases h : j = 0
    · subst h
      rw [if_pos rfl, if_pos rfl, if_pos ⟨m0, by show (0 : Int) ≤ 1; decide⟩]
      simp
    · rw [if_neg h, if_neg h, if_neg (fun x => absurd x.2 (by decide))]
  · have h : ∀ m, 1 ≤ m → cnt (goneB M (gS i)) m = 1 := by
      intro m hm
      induction m with
      | zero => omega
      | succ m ih =>
        rw [cnt_succ]
        by_cases e : m = 0
        · subst e
          have : goneB M (gS i) 0 = true := by unfold goneB gS; rw [m0]; rfl
          rw [this]; rfl
        · rw [ih (by omega)]
          have : goneB M (gS i) m = false := by
            unfold goneB gS
            rw [if_neg e]
            exact Bool.and_false _
          rw [this]; rfl
    exact h n hn

/-- The names that are stale. -/
def oldL (i : Nat) : List Nm := (List.range i).map (fun k => ⟨0, (k : Nat) + 1⟩)

theorem oldL_len (i : Nat) : (oldL i).length = i := by unfold oldL; rw [List.length_map, List.length_range]

theorem oldL_get (i k : Nat) (hk : k < i) : (oldL i)[k]? = some ⟨0, (k : Nat) + 1⟩ := by
  unfold oldL
  rw [List.getElem?_map, List.getElem?_range hk]
  rfl

theorem oldL_succ (i : Nat) : oldL (i + 1) = oldL i ++ [⟨0, (i : Nat) + 1⟩] := by
  unfold oldL
  rw [List.range_succ, List.map_append]
  rfl

theorem owns_isRowS {w : World} {base e n k : Nat} {v : Value} {xs : List Value} (h : w.ownsRow base e k v n xs) (hx : xs.length = n * k) : IsRowS w k v n xs := by
  rcases h.2 with ⟨rfl, h0⟩ | ⟨g, cap, cur, rfl, _⟩
  · exact .inl ⟨rfl, h0, List.eq_nil_of_length_eq_zero (by rw [hx, h0, Nat.zero_mul])⟩
  · exact .inr ⟨_, cap, rfl, hx, h.cells (g := g) rfl⟩

theorem owns_sliceS {w : World} {base e n k : Nat} {v : Value} {xs : List Value} (h : w.ownsRow base e k v n xs) : ∃ ad cp, v = .slice ad n cp := by
  rcases h.2 with ⟨rfl, h0⟩ | ⟨g, cap, cur, rfl, _⟩
  · exact ⟨none, 0, by rw [h0]⟩
  · exact ⟨_, cap, rfl⟩

theorem names_at {w : World} {base n cp : Nat} {ad : Option Addr} {L : List Nm} (h : w.ownsRow base 30 2 (.slice ad n cp) n (nms L)) (hl : L.length = n) (k : Nat) (p : Nm) (hp : L[k]? = some p) : ∃ g, ad = some ⟨g, 0, none⟩ ∧ base ≤ g ∧ NBoxAt w g (k * 2) p := by
  have hr := owns_isRowS h (by rw [nms_len, hl])
  rw [← hl] at hr
  rcases h.2 with ⟨_, h0⟩ | ⟨g, cap, cur, hv, hb, _⟩
  · rw [List.eq_nil_of_length_eq_zero (hl.trans h0)] at hp
    simp at hp
  · injection hv with e1 _ _
    subst e1
    refine ⟨g, rfl, hb, ?_⟩
    have h2 := nm_at hr k p hp
    rwa [Nat.zero_add] at h2

end Go.Proofs.Ytlhfpnfiamgmlaa
