/-
  What is written of a byte, and of bytes; the column behind. No conditions.
  Rows that are laid on; whether bytes are the same; flags, places, which bytes take no column: walked. No conditions.
  What is laid behind a row for a return, a line, a tab: walked. No conditions.
  The program adds a byte: walked. No conditions.
  What the program writes of a byte, and of bytes: walked. No conditions.
-/
import Derived.Test.YtjfhmpjpdcckhaaG0
namespace Go.Proofs.Ytjfhmpjpdcckhaa.L19
open Go.RowKit

/-- Has a number a flag? -/
def has (o f : Int) : Bool := bits .and .i64 o f != 0

/-- The column that a number stands for. -/
def plc (col : Int) : Int := if col < 0 ∨ 1073741824 < col then 0 else col

/-- The flags that count. -/
def cnt (o : Int) : Int := if has o 1 then o else 0

/-- What is written of one byte, and the column behind it. -/
def addM (o col c : Int) : List Int × Int :=
  if c = 13 ∧ has o 4 = false then (if col = 0 ∧ has o 8 = true then ([], 0) else ([13], 0))
  else if c = 13 ∨ c = 10 then (if has o 2 then ([13, 10], 0) else if has o 16 then ([10], 0) else ([10], col))
  else if c = 9 then (if has o 32 then (List.replicate (8 - col % 8).toNat 32, col + 8 - col % 8) else ([9], col + 8 - col % 8))
  else if c = 8 then ([8], if col = 0 then 0 else col - 1)
  else if c < 32 ∨ (127 ≤ c ∧ c ≤ 191) then ([c], col)
  else ([c], col + 1)

/-- Of bytes, one behind the other. -/
def bytesM (o : Int) : Int → List Int → List Int × Int
  | col, [] => ([], col)
  | col, c :: l => ((addM o (plc col) c).1 ++ (bytesM o (addM o (plc col) c).2 l).1, (bytesM o (addM o (plc col) c).2 l).2)

theorem plc_range (col : Int) : 0 ≤ plc col ∧ plc col ≤ 1073741824 := by unfold plc; split <;> omega

theorem plc_id {col : Int} (h0 : 0 ≤ col) (h1 : col ≤ 1073741824) : plc col = col := by unfold plc; rw [if_neg (by omega)]

theorem plc_plc (col : Int) : plc (plc col) = plc col := plc_id (plc_range col).1 (plc_range col).2

theorem has_zero (f : Int) : has 0 f = false := by
  unfold has
  have h : bits .and .i64 0 f = 0 := by
    show IntKind.i64.wrap ((BitVec.ofInt 64 0 &&& BitVec.ofInt 64 f).toNat : Nat) = 0
    rw [show BitVec.ofInt 64 0 = 0#64 by decide]
    simp
    decide
  rw [h]
  rfl

theorem cnt_zero {o : Int} (h : has o 1 = false) : cnt o = 0 := by unfold cnt; rw [h]; rfl

theorem cnt_same {o : Int} (h : has o 1 = true) : cnt o = o := by unfold cnt; rw [h]; rfl

/-- The column behind a byte. -/
theorem addM_range (o col c : Int) (h0 : 0 ≤ col) (h1 : col ≤ 1073741824) : 0 ≤ (addM o col c).2 ∧ (addM o col c).2 ≤ 1073741832 := by
  unfold addM
  repeat' split
  all_goals (simp only []; omega)

theorem addM_len (o col c : Int) : (addM o col c).1.length ≤ 8 := by
  unfold addM
  repeat' split
  all_goals simp
  omega

theorem wf_u8_of {c : Int} (h0 : 0 ≤ c) (h1 : c < 256) : (Lit.int .u8 c).wf = true := by
  have z1 : IntKind.u8.min = 0 := by decide
  have z2 : IntKind.u8.max = 255 := by decide
  simp only [Lit.wf, decide_eq_true_eq, Bool.and_eq_true]
  omega

/-- Without flags each byte is itself. -/
theorem addM_zero (col c : Int) : (addM 0 col c).1 = [c] := by
  unfold addM
  simp only [has_zero]
  repeat' split
  all_goals simp_all

/-- The column without flags is the one with Opost alone. -/
theorem addM_one (col c : Int) : addM 1 col c = addM 0 col c := by
  unfold addM
  rw [show has 1 4 = false by decide, show has 1 8 = false by decide, show has 1 2 = false by decide, show has 1 16 = false by decide, show has 1 32 = false by decide]
  simp only [has_zero]

theorem bytesM_cons (o col c : Int) (l : List Int) : bytesM o col (c :: l) = ((addM o (plc col) c).1 ++ (bytesM o (addM o (plc col) c).2 l).1, (bytesM o (addM o (plc col) c).2 l).2) := rfl

theorem bytesM_nil (o col : Int) : bytesM o col [] = ([], col) := rfl

theorem bytesM_append (o : Int) : ∀ (a b : List Int) (col : Int), bytesM o col (a ++ b) = ((bytesM o col a).1 ++ (bytesM o (bytesM o col a).2 b).1, (bytesM o (bytesM o col a).2 b).2)
  | [], b, col => by simp [bytesM_nil]
  | c :: a, b, col => by
    have h := bytesM_append o a b (addM o (plc col) c).2
    simp only [List.cons_append, bytesM_cons, h, List.append_assoc]

theorem bytesM_range (o : Int) : ∀ (l : List Int) (col : Int), 0 ≤ col → 0 ≤ (bytesM o col l).2
  | [], _col, h => h
  | c :: l, col, _h => bytesM_range o l _ (addM_range o (plc col) c (plc_range col).1 (plc_range col).2).1

theorem bytesM_top (o : Int) : ∀ (l : List Int) (col : Int), col ≤ 1073741832 → (bytesM o col l).2 ≤ 1073741832
  | [], _col, h => h
  | c :: l, col, _h => bytesM_top o l _ (addM_range o (plc col) c (plc_range col).1 (plc_range col).2).2

theorem bytesM_len (o : Int) : ∀ (l : List Int) (col : Int), (bytesM o col l).1.length ≤ 8 * l.length
  | [], col => by simp [bytesM_nil]
  | c :: l, col => by
    have h := bytesM_len o l (addM o (plc col) c).2
    have h2 := addM_len o (plc col) c
    rw [bytesM_cons, List.length_append, List.length_cons]
    omega

theorem bytesM_plc_bytes (o col : Int) (l : List Int) : (bytesM o (plc col) l).1 = (bytesM o col l).1 := by
  cases l with
  | nil => rfl
  | cons c l => simp only [bytesM_cons, plc_plc]

theorem bytesM_plc_col (o col : Int) (l : List Int) (h : l ≠ []) : (bytesM o (plc col) l).2 = (bytesM o col l).2 := by
  cases l with
  | nil => exact absurd rfl h
  | cons c l => simp only [bytesM_cons, plc_plc]

/-- Without the flag the bytes stay. -/
theorem bytesM_zero : ∀ (l : List Int) (col : Int), (bytesM 0 col l).1 = l
  | [], _ => rfl
  | c :: l, col => by rw [bytesM_cons]; simp only [addM_zero, bytesM_zero l, List.singleton_append]

theorem addM_plain (o col c : Int) (h0 : 32 ≤ c) (h1 : c ≤ 126) : addM o col c = ([c], col + 1) := by
  unfold addM
  rw [if_neg (by omega), if_neg (by omega), if_neg (by omega), if_neg (by omega), if_neg (by omega)]

/-- Plain bytes stay, and the column goes with them. -/
theorem bytesM_plain (o : Int) : ∀ (l : List Int) (col : Int), (∀ c ∈ l, 32 ≤ c ∧ c ≤ 126) → 0 ≤ col → col + l.length ≤ 1073741824 → bytesM o col l = (l, col + l.length)
  | [], col, _, _, _ => by simp [bytesM_nil]
  | c :: l, col, h, h0, h1 => by
    obtain ⟨a1, a2⟩ := h c List.mem_cons_self
    rw [List.length_cons] at h1
    have ih := bytesM_plain o l (col + 1) (fun x hx => h x (List.mem_cons_of_mem _ hx)) (by omega) (by omega)
    rw [bytesM_cons, plc_id h0 (by omega), addM_plain o col c a1 a2, ih]
    simp only [List.singleton_append, List.length_cons, Prod.mk.injEq, true_and]
    omega

/-- A line behind a new line begins at column 0. -/
theorem bytesM_lines (a b : List Int) (col : Int) (hb : ∀ c ∈ b, 32 ≤ c ∧ c ≤ 126) (hl : b.length ≤ 1000) :
    bytesM 3 col (a ++ 10 :: b) = ((bytesM 3 col a).1 ++ [13, 10] ++ b, ((b.length : Nat) : Int)) := by
  rw [bytesM_append, bytesM_cons]
  have h : ∀ x, addM 3 x 10 = ([13, 10], 0) := fun x => by
    unfold addM
    rw [if_neg (by omega), if_pos (by omega), show has 3 2 = true by decide]
    rfl
  rw [h, bytesM_plain 3 b 0 hb (by omega) (by omega)]
  simp

/-- The next byte. -/
theorem bytesM_snoc (o col : Int) (l : List Int) (c : Int) : bytesM o col (l ++ [c]) = ((bytesM o col l).1 ++ (addM o (plc (bytesM o col l).2) c).1, (addM o (plc (bytesM o col l).2) c).2) := by
  rw [bytesM_append, bytesM_cons, bytesM_nil]
  simp

theorem wf_replicate (n : Nat) : ∀ y ∈ List.replicate n (32 : Int), (Lit.int .u8 y).wf = true := by
  intro y hy
  rw [List.eq_of_mem_replicate hy]
  decide

theorem addM_wf (o col c : Int) (h0 : 0 ≤ c) (h1 : c < 256) : ∀ y ∈ (addM o col c).1, (Lit.int .u8 y).wf = true := by
  have hc := wf_u8_of h0 h1
  unfold addM
  repeat' split
  all_goals (intro y hy; simp only [List.mem_cons, List.not_mem_nil, or_false] at hy)
  all_goals first
    | exact wf_replicate _ y hy
    | (rcases hy with rfl | rfl <;> decide)
    | (subst hy; first | decide | exact hc)
    | exact hy.elim

theorem bytesM_wf (o : Int) : ∀ (l : List Int) (col : Int), (∀ c ∈ l, (Lit.int .u8 c).wf = true) → ∀ y ∈ (bytesM o col l).1, (Lit.int .u8 y).wf = true
  | [], col, _, y, hy => by simp [bytesM_nil] at hy
  | c :: l, col, h, y, hy => by
    have hc := wf_u8 (h c List.mem_cons_self)
    rw [bytesM_cons] at hy
    rcases List.mem_append.1 hy with hy | hy
    · exact addM_wf o _ c hc.1 hc.2 y hy
    · exact bytesM_wf o l _ (fun x hx => h x (List.mem_cons_of_mem _ hx)) y hy

end Go.Proofs.Ytjfhmpjpdcckhaa.L19

namespace Go.Proofs.Ytjfhmpjpdcckhaa.L19
open Go.RowKit

theorem infoB : (Try.prog.info? 5).map (fun i => (i.zero, i.size, i.bytes)) = some (some (.int .u8 0), 1, 1) := by kernel_rfl

/-- Bytes that can be read. -/
def Bs (w : World) (v : Value) (l : List Int) : Prop := ∃ a cap, v = .slice a l.length cap ∧ l.length ≤ cap ∧ (l ≠ [] → ∃ b off, a = some ⟨b, off, none⟩ ∧ Ints .u8 w b off l)

theorem Bs.keep {w w' : World} {v : Value} {l : List Int} (h : Bs w v l) (hs : Stay (fun _ => False) w w') : Bs w' v l := by
  obtain ⟨a, cap, h1, h2, h3⟩ := h
  exact ⟨a, cap, h1, h2, fun hn => by obtain ⟨b, o, e, hi⟩ := h3 hn; exact ⟨b, o, e, fun j hj => keep_cell hs (hi j hj)⟩⟩

theorem sameB_nil (a1 a2 : Option Addr) (k1 k2 : Nat) (w : World) : Calls Try.prog 12 #[.slice a1 0 k1, .slice a2 0 k2] w (Gives (.bool true) w) := by
  go_enter Try.func12, Try.ntmps12
  go_wp2_with fail
  go_loopg [5] 0 (fun g i wr => g = 0 ∧ i = .int .i64 0 ∧ wr = w)
  case atStart => exact ⟨rfl, rfl, rfl⟩
  case round =>
    obtain ⟨rfl, rfl, rfl⟩ := hrel
    go_wp2
    go_ret
    exact ⟨rfl, Stay.refl _ _⟩

set_option maxHeartbeats 1000000 in
theorem sameB_some (l : List Int) (b1 o1 k1 b2 o2 k2 n : Nat) (w : World) (hn : n ≤ 100000) (hl : l.length = n) (h1 : Ints .u8 w b1 o1 l) (h2 : Ints .u8 w b2 o2 l) :
    Calls Try.prog 12 #[.slice (some ⟨b1, o1, none⟩) n k1, .slice (some ⟨b2, o2, none⟩) n k2] w (Gives (.bool true) w) := by
  have H1 := hide' h1
  have H2 := hide' h2
  have HL := hide' hl
  have hnz : (n : Int) ≤ 100000 := by omega
  clear h1 h2 hn hl
  go_enter Try.func12, Try.ntmps12
  go_wp2_with fail
  go_loopg [5] n (fun g i wr => ∃ j : Nat, j ≤ n ∧ g = n - j ∧ i = .int .i64 (j : Int) ∧ ∃ q, wr = w.drewN q)
  case atStart => exact ⟨0, Nat.zero_le _, rfl, rfl, 0, rfl⟩
  case round =>
    obtain ⟨j, hj, rfl, rfl, q, rfl⟩ := hrel
    by_cases hlt : j < n
    · have a1 : w.cell? ⟨b1, o1 + j, none⟩ = some (.int .u8 (l.getD j 0)) := H1.out j (by have := HL.out; omega)
      have a2 : w.cell? ⟨b2, o2 + j, none⟩ = some (.int .u8 (l.getD j 0)) := H2.out j (by have := HL.out; omega)
      obtain ⟨x, hx⟩ : ∃ x, x = l.getD j 0 := ⟨_, rfl⟩
      rw [← hx] at a1 a2
      clear hx
      have jz : (j : Int) < n := by omega
      have j0 : (0 : Int) ≤ j := by omega
      go_wp2_with fail
      go_quiet (fail)
      go_wp2
      go_roundg (n - (j + 1))
      case measure => omega
      case rel => exact ⟨j + 1, by omega, rfl, by go_num, _, rfl⟩
    · have : j = n := by omega
      subst this
      go_wp2
      go_ret
      exact ⟨rfl, (Stay.refl _ _).drewN _⟩

theorem sameB (v1 v2 : Value) (l : List Int) (w : World) (h1 : Bs w v1 l) (h2 : Bs w v2 l) (hn : l.length ≤ 100000) : Calls Try.prog 12 #[v1, v2] w (Gives (.bool true) w) := by
  obtain ⟨a1, k1, rfl, _, c1⟩ := h1
  obtain ⟨a2, k2, rfl, _, c2⟩ := h2
  by_cases h : l = []
  · subst h
    exact sameB_nil a1 a2 k1 k2 w
  · obtain ⟨b1, o1, rfl, i1⟩ := c1 h
    obtain ⟨b2, o2, rfl, i2⟩ := c2 h
    exact sameB_some l b1 o1 k1 b2 o2 k2 l.length w hn rfl i1 i2

theorem bs_arg {w : World} {v : Value} {l : List Int} {a : Option Addr} {cap : Nat} (h : IArg .u8 w v l a cap) : Bs w v l := ⟨a, cap, h.shape, h.lenLe, fun hne => by
  obtain ⟨b, o, e, _, hi⟩ := h.cells hne
  exact ⟨b, o, e, hi⟩⟩

/-- A row of one's own that is laid on. -/
structure Acc (W0 w : World) (v : Value) (l : List Int) : Prop where
  own : w.ownsRow W0.heap.size 5 1 v l.length (l.map (.int .u8 ·))
  stay : Stay (fun _ => False) W0 w
  wf : ∀ x ∈ l, (Lit.int .u8 x).wf = true

theorem Acc.nil (W0 : World) : Acc W0 W0 (.slice none 0 0) [] := ⟨World.ownsRow_nil _ _ _ _, Stay.refl _ _, fun x h => by simp at h⟩

theorem Acc.new (W0 : World) (cs : Array Value) (l : List Int) (n : Nat) (hl : cs.toList = l.map (.int .u8 ·)) (hn : cs.size = n) (hw : ∀ x ∈ l, (Lit.int .u8 x).wf = true) (hm : n ≤ 1000) : Acc W0 (W0.alloc (.cells cs 5)) (.slice (some ⟨W0.heap.size, 0, none⟩) n n) l := by
  subst hn
  have e : cs.size = l.length := by rw [← Array.length_toList, hl, List.length_map]
  have h := owns_new W0 cs 5 (by unfold maxLen; omega)
  rw [hl] at h
  rw [e] at h ⊢
  exact ⟨h, (Stay.refl _ _).alloc _, hw⟩

theorem Acc.shape {W0 w : World} {v : Value} {l : List Int} (h : Acc W0 w v l) : ∃ a c, v = .slice a l.length c := by
  obtain ⟨a, c, h, _⟩ := owned_arg h.own h.wf
  exact ⟨a, c, h.shape⟩

theorem Acc.arg {W0 w : World} {v : Value} {l : List Int} (h : Acc W0 w v l) : ∃ a c, IArg .u8 w v l a c := by
  obtain ⟨a, c, h, _⟩ := owned_arg h.own h.wf
  exact ⟨a, c, h⟩

theorem Acc.bs {W0 w : World} {v : Value} {l : List Int} (h : Acc W0 w v l) : Bs w v l := by
  obtain ⟨a, c, h⟩ := h.arg
  exact bs_arg h

theorem Acc.keep {W0 w w1 : World} {v : Value} {l : List Int} (h : Acc W0 w v l) (hs : Stay (fun _ => False) w w1) : Acc W0 w1 v l :=
  ⟨hs.owns h.own (fun _ _ h => h), h.stay.trans hs, h.wf⟩

/-- Nothing that was there at the beginning has turned: seen from an older world. -/
theorem Acc.older {W00 W0 w : World} {v : Value} {l : List Int} (h : Acc W0 w v l) (hs : Stay (fun _ => False) W00 W0) : Acc W00 w v l := ⟨ownsRow_base h.own hs.size, hs.trans h.stay, h.wf⟩

/-- append(own, bytes...). -/
theorem acc_app {ops : Array Oper} {rest : List Oper} {o : Oper} {a : Act} {Q : Exit → Act → World → Prop} (hgd : o.guard = none) (s x : Operand)
    (ho : o.op = .call { callee := .builtin .append, args := #[s, x], argTypes := #[22, 22] }) {W0 w : World} {v sv : Value} {l news : List Int} {ad : Option Addr} {cap : Nat} (hA : Acc W0 w v l) (hs : a.eval s = v) (hB : IArg .u8 w sv news ad cap) (hx : a.eval x = sv)
    (hn : l.length + news.length ≤ 1000000)
    (h : ∀ v' w', Acc W0 w' v' (l ++ news) → wpList Try.prog ops Q rest (a.put o.dst v') w') : wpList Try.prog ops Q (o :: rest) a w := by
  refine appL (fun k => W0.heap.size ≤ k) hgd s x 22 ho Try.underlying22 infoB rfl (by decide) hA.own hs hB.row hx (one_ints .u8 news) (by rw [List.length_map]; exact hn) hA.stay.size (fun k hk => (hA.own.lt k hk).1) ?_
  intro v' w' h1 h2
  refine h v' w' ⟨?_, ?_, ?_⟩
  · rw [List.length_map, ← List.length_append, ← List.map_append] at h1
    exact h1
  · exact hA.stay.trans2 h2 (fun j hj e => by omega)
  · intro y hy
    rcases List.mem_append.1 hy with hy | hy
    · exact hA.wf y hy
    · exact hB.wf y hy

/-- append(own, one byte). -/
theorem acc_one {ops : Array Oper} {rest : List Oper} {o : Oper} {a : Act} {Q : Exit → Act → World → Prop} (hgd : o.guard = none) (s x : Operand)
    (ho : o.op = .call { callee := .builtin .append, args := #[s, x], argTypes := #[22, 22] }) {W0 w : World} {v : Value} {l : List Int} {c : Int} (hA : Acc W0 w v l) (hs : a.eval s = v) (hx : a.eval x = .slice (some ⟨w.heap.size, 0, none⟩) 1 1) (hc : (Lit.int .u8 c).wf = true)
    (hn : l.length ≤ 900000)
    (h : ∀ v' w', Acc W0 w' v' (l ++ [c]) → wpList Try.prog ops Q rest (a.put o.dst v') w') : wpList Try.prog ops Q (o :: rest) a (w.alloc (.cells #[.int .u8 c] 5)) := by
  obtain ⟨ad, cp, hB⟩ := (Acc.new w #[.int .u8 c] [c] 1 rfl rfl (fun x hx => by simp at hx; subst hx; exact hc) (by omega)).arg
  exact acc_app hgd s x ho (hA.keep ((Stay.refl _ w).alloc _)) hs hB hx (by simp; omega) h

theorem has47 (n f : Int) (w : World) : Calls Try.prog 47 #[.int .i64 n, .int .i64 f] w (Gives (.bool (has n f)) w) := by
  have HS := hide' (Stay.refl (fun _ => False) w)
  go_enter Try.func47, Try.ntmps47
  go_wp2
  go_ret
  exact ⟨ret_bool rfl, HS.out⟩

theorem place38 (n : Int) (w : World) : Calls Try.prog 38 #[.int .i64 n] w (Gives (.int .i64 (plc n)) w) := by
  have HS := hide' (Stay.refl (fun _ => False) w)
  obtain ⟨p, hp⟩ : ∃ p, p = plc n := ⟨_, rfl⟩
  have HP : Hid (p = if n < 0 ∨ 1073741824 < n then 0 else n) := hp
  rw [← hp]
  clear hp
  by_cases h : n < 0
  · go_enter Try.func38, Try.ntmps38
    go_wp2
    go_ret
    exact ⟨ret_int (by rw [HP.out, if_pos (.inl h)]), HS.out⟩
  · by_cases h2 : 1073741824 < n
    · go_enter Try.func38, Try.ntmps38
      go_wp2
      go_ret
      exact ⟨ret_int (by rw [HP.out, if_pos (.inr h2)]), HS.out⟩
    · go_enter Try.func38, Try.ntmps38
      go_wp2
      go_ret
      exact ⟨ret_int (by rw [HP.out, if_neg (by omega)]), HS.out⟩

theorem counts37 (n : Int) (w : World) : Calls Try.prog 37 #[.int .i64 n] w (Gives (.int .i64 (cnt n)) w) := by
  have HS := hide' (Stay.refl (fun _ => False) w)
  have HF := hide' (has47 n 1)
  obtain ⟨p, hp⟩ : ∃ p, p = cnt n := ⟨_, rfl⟩
  obtain ⟨q, hq⟩ : ∃ q, q = has n 1 := ⟨_, rfl⟩
  have HP : Hid (p = if q then n else 0) := by rw [hp, hq]; rfl
  rw [← hp]
  rw [← hq] at HF
  clear hp hq
  cases q
  all_goals
    go_enter Try.func37, Try.ntmps37
    go_wp2_with fail
    refine (HF.out _).mono ?_
    rintro e w1 ⟨rfl, hs⟩
    have HS1 := hide' (HS.out.trans hs)
    clear hs
    go_wp2
    go_ret
    exact ⟨ret_int (by rw [HP.out]; rfl), HS1.out⟩

/-- Does a byte take no column? -/
def stB (c : Int) : Bool := decide (c < 32) || (decide (127 ≤ c) && decide (c ≤ 191))

theorem stays51 (c : Int) (w : World) : Calls Try.prog 51 #[.int .u8 c] w (Gives (.bool (stB c)) w) := by
  have HS := hide' (Stay.refl (fun _ => False) w)
  obtain ⟨p, hp⟩ : ∃ p, p = stB c := ⟨_, rfl⟩
  have HP : Hid (p = (decide (c < 32) || (decide (127 ≤ c) && decide (c ≤ 191)))) := hp
  rw [← hp]
  clear hp
  by_cases h : c < 32
  · go_enter Try.func51, Try.ntmps51
    go_wp2
    go_ret
    exact ⟨ret_bool (by rw [HP.out]; simp [*] <;> omega), HS.out⟩
  · by_cases h2 : 127 ≤ c
    · go_enter Try.func51, Try.ntmps51
      go_wp2
      go_ret
      exact ⟨ret_bool (by rw [HP.out]; simp [*] <;> omega), HS.out⟩
    · go_enter Try.func51, Try.ntmps51
      go_wp2
      go_ret
      exact ⟨ret_bool (by rw [HP.out]; simp [*] <;> omega), HS.out⟩

end Go.Proofs.Ytjfhmpjpdcckhaa.L19

namespace Go.Proofs.Ytjfhmpjpdcckhaa.L19
open Go.RowKit

/-- Bytes are laid behind a row of one's own, and a column is told. -/
def Adds (W0 : World) (l : List Int) (r : List Int × Int) (e : Ending) (w' : World) : Prop := ∃ v, e = .returned (.tuple #[v, .int .i64 r.2]) ∧ Acc W0 w' v (l ++ r.1)

theorem tup {v : Value} {a b : Int} (h : a = b) : Ending.returned (.tuple #[v, .int .i64 a]) = .returned (.tuple #[v, .int .i64 b]) := by rw [h]

theorem acc_two {ops : Array Oper} {rest : List Oper} {o : Oper} {a : Act} {Q : Exit → Act → World → Prop} (hgd : o.guard = none) (s x : Operand)
    (ho : o.op = .call { callee := .builtin .append, args := #[s, x], argTypes := #[22, 22] }) {W0 w : World} {v : Value} {l : List Int} {c : Int} (hA : Acc W0 w v l) (hs : a.eval s = v) (hx : a.eval x = .slice (some ⟨w.heap.size, 0, none⟩) 1 1) (hc : (Lit.int .u8 c).wf = true)
    (hn : l.length ≤ 900010)
    (h : ∀ v' w', Acc W0 w' v' (l ++ [c]) → wpList Try.prog ops Q rest (a.put o.dst v') w') : wpList Try.prog ops Q (o :: rest) a (w.alloc (.cells #[.int .u8 c] 5)) := by
  obtain ⟨ad, cp, hB⟩ := (Acc.new w #[.int .u8 c] [c] 1 rfl rfl (fun x hx => by simp at hx; subst hx; exact hc) (by omega)).arg
  exact acc_app hgd s x ho (hA.keep ((Stay.refl _ w).alloc _)) hs hB hx (by simp; omega) h

theorem addReturn48 (W0 w : World) (v : Value) (l : List Int) (o col : Int) (hA : Acc W0 w v l) (hn : l.length ≤ 900000) : Calls Try.prog 48 #[v, .int .i64 o, .int .i64 col] w (Adds W0 l (if col = 0 ∧ has o 8 = true then ([], 0) else ([13], 0))) := by
  have HA0 := hide' hA
  have HN := hide' hn
  have H8 := hide' (has47 o 8)
  obtain ⟨r, hr⟩ : ∃ r : List Int × Int, r = (if col = 0 ∧ has o 8 = true then ([], 0) else ([13], 0)) := ⟨_, rfl⟩
  obtain ⟨q, hq⟩ : ∃ q, q = has o 8 := ⟨_, rfl⟩
  have HP : Hid (r = (if col = 0 ∧ q = true then ([], 0) else ([13], 0))) := by rw [hr, hq]; rfl
  rw [← hr]
  rw [← hq] at H8
  clear hr hq hA hn
  by_cases h : col = 0
  · subst h
    cases q
    · go_enter Try.func48, Try.ntmps48
      go_wp2_with fail
      refine (H8.out _).mono ?_
      rintro e w1 ⟨rfl, hs⟩
      have HA1 := hide' (HA0.out.keep hs)
      clear hs H8
      go_wp2_with (at_builtin; go_must (refine acc_one rfl _ _ rfl HA1.out rfl rfl (by decide) HN.out ?_; intro v2 w2 ha; have HA2 := hide' ha; clear ha; go_wp2_with fail))
      go_returns
      exact ⟨_, tup (by rw [HP.out]; rfl), by rw [HP.out]; exact HA2.out⟩
    · go_enter Try.func48, Try.ntmps48
      go_wp2_with fail
      refine (H8.out _).mono ?_
      rintro e w1 ⟨rfl, hs⟩
      have HA1 := hide' (HA0.out.keep hs)
      clear hs H8
      go_wp2
      go_returns
      exact ⟨_, tup (by rw [HP.out]; rfl), by rw [HP.out]; simpa using HA1.out⟩
  · have e0 : (col == 0) = false := by simpa using h
    have HC := hide' h
    clear h
    go_enter Try.func48, Try.ntmps48
    go_wp2_with (at_builtin; go_must (refine acc_one rfl _ _ rfl HA0.out rfl rfl (by decide) HN.out ?_; intro v1 w1 ha; have HA1 := hide' ha; clear ha; go_wp2_with fail))
    go_returns
    exact ⟨_, tup (by rw [HP.out, if_neg (fun z => HC.out z.1)]), by rw [HP.out, if_neg (fun z => HC.out z.1)]; exact HA1.out⟩

theorem addLine49 (W0 w : World) (v : Value) (l : List Int) (o col : Int) (hA : Acc W0 w v l) (hn : l.length ≤ 900000) : Calls Try.prog 49 #[v, .int .i64 o, .int .i64 col] w (Adds W0 l (if has o 2 then ([13, 10], 0) else if has o 16 then ([10], 0) else ([10], col))) := by
  have HA0 := hide' hA
  have HN := hide' hn
  have H2 := hide' (has47 o 2)
  have H16 := hide' (has47 o 16)
  obtain ⟨r, hr⟩ : ∃ r : List Int × Int, r = (if has o 2 then ([13, 10], 0) else if has o 16 then ([10], 0) else ([10], col)) := ⟨_, rfl⟩
  obtain ⟨q, hq⟩ : ∃ q, q = has o 2 := ⟨_, rfl⟩
  obtain ⟨q1, hq1⟩ : ∃ q, q = has o 16 := ⟨_, rfl⟩
  have HP : Hid (r = (if q then ([13, 10], 0) else if q1 then ([10], 0) else ([10], col))) := by rw [hr, hq, hq1]; rfl
  rw [← hr]
  rw [← hq] at H2
  rw [← hq1] at H16
  clear hr hq hq1 hA hn
  cases q
  · cases q1
    · go_enter Try.func49, Try.ntmps49
      go_wp2_with fail
      refine (H2.out _).mono ?_
      rintro e w1 ⟨rfl, hs⟩
      have HA1 := hide' (HA0.out.keep hs)
      clear hs H2
      go_wp2_with fail
      refine (H16.out _).mono ?_
      rintro e w2 ⟨rfl, hs⟩
      have HA2 := hide' (HA1.out.keep hs)
      clear hs H16
      go_wp2_with (at_builtin; go_must (refine acc_one rfl _ _ rfl HA2.out rfl rfl (by decide) HN.out ?_; intro v3 w3 ha; have HA3 := hide' ha; clear ha; go_wp2_with fail))
      go_returns
      exact ⟨_, tup (by rw [HP.out]; rfl), by rw [HP.out]; exact HA3.out⟩
    · go_enter Try.func49, Try.ntmps49
      go_wp2_with fail
      refine (H2.out _).mono ?_
      rintro e w1 ⟨rfl, hs⟩
      have HA1 := hide' (HA0.out.keep hs)
      clear hs H2
      go_wp2_with fail
      refine (H16.out _).mono ?_
      rintro e w2 ⟨rfl, hs⟩
      have HA2 := hide' (HA1.out.keep hs)
      clear hs H16
      go_wp2_with (at_builtin; go_must (refine acc_one rfl _ _ rfl HA2.out rfl rfl (by decide) HN.out ?_; intro v3 w3 ha; have HA3 := hide' ha; clear ha; go_wp2_with fail))
      go_returns
      exact ⟨_, tup (by rw [HP.out]; rfl), by rw [HP.out]; exact HA3.out⟩
  · go_enter Try.func49, Try.ntmps49
    go_wp2_with fail
    refine (H2.out _).mono ?_
    rintro e w1 ⟨rfl, hs⟩
    have HA1 := hide' (HA0.out.keep hs)
    clear hs H2
    go_wp2_with (at_builtin; go_must (refine acc_one rfl _ _ rfl HA1.out rfl rfl (by decide) HN.out ?_; intro v2 w2 ha; have HA2 := hide' ha; have HN2 : Hid ((l ++ [13]).length ≤ 900010) := (by show (l ++ [(13 : Int)]).length ≤ 900010; rw [List.length_append]; have h9 := HN.out; show l.length + 1 ≤ 900010; omega); clear ha; go_wp2_with (at_builtin; go_must (refine acc_two rfl _ _ rfl HA2.out rfl rfl (by decide) HN2.out ?_; intro v3 w3 ha; have HA3 := hide' ha; clear ha; go_wp2_with fail))))
    go_returns
    exact ⟨_, tup (by rw [HP.out]; rfl), by rw [HP.out]; simpa using HA3.out⟩

/-- A tab's place. -/
theorem tab_place (col : Int) (h0 : 0 ≤ col) : col + 8 - col.tmod 8 = col + 8 - col % 8 := by rw [Int.tmod_eq_emod_of_nonneg h0]

set_option maxHeartbeats 2000000 in
theorem addTab50 (W0 w : World) (v : Value) (l : List Int) (o col : Int) (hA : Acc W0 w v l) (hn : l.length ≤ 900000) (h0 : 0 ≤ col) (h1 : col ≤ 1073741824) : Calls Try.prog 50 #[v, .int .i64 o, .int .i64 col] w (Adds W0 l (if has o 32 then (List.replicate (8 - col % 8).toNat 32, col + 8 - col % 8) else ([9], col + 8 - col % 8))) := by
  have HA0 := hide' hA
  have HN := hide' hn
  have H32 := hide' (has47 o 32)
  obtain ⟨r, hr⟩ : ∃ r : List Int × Int, r = (if has o 32 then (List.replicate (8 - col % 8).toNat 32, col + 8 - col % 8) else ([9], col + 8 - col % 8)) := ⟨_, rfl⟩
  obtain ⟨q, hq⟩ : ∃ q, q = has o 32 := ⟨_, rfl⟩
  obtain ⟨m, hm⟩ : ∃ m, m = col % 8 := ⟨_, rfl⟩
  obtain ⟨k, hk⟩ : ∃ k : Nat, k = (8 - col % 8).toNat := ⟨_, rfl⟩
  have tm : col.tmod 8 = m := by rw [Int.tmod_eq_emod_of_nonneg h0, hm]
  have hmr : 0 ≤ m ∧ m ≤ 7 := by omega
  have hkm : (k : Int) = 8 - m := by omega
  obtain ⟨nx, hnx⟩ : ∃ nx, nx = col + 8 - m := ⟨_, rfl⟩
  have HP : Hid (r = (if q then (List.replicate k 32, nx) else ([9], nx))) := by rw [hr, hq, hk, hnx, hm]; rfl
  rw [← hr]
  rw [← hq] at H32
  have e8a : IntKind.i64.wrap (col + 8) = col + 8 := by rw [IntKind.wrap_i64]; omega
  have e8b : IntKind.i64.wrap (col + 8 - m) = nx := by rw [IntKind.wrap_i64]; omega
  have HK : Hid ((k : Int) = nx - col ∧ k ≤ 8 ∧ nx ≤ 1073741840) := ⟨by omega, by omega, by omega⟩
  clear hr hq hA hn hm hk hkm hnx
  cases q
  · go_enter Try.func50, Try.ntmps50
    go_wp2_with fail
    refine (H32.out _).mono ?_
    rintro e w1 ⟨rfl, hs⟩
    have HA1 := hide' (HA0.out.keep hs)
    clear hs H32
    go_wp2_with (at_builtin; go_must (refine acc_one rfl _ _ rfl HA1.out rfl rfl (by decide) HN.out ?_; intro v2 w2 ha; have HA2 := hide' ha; clear ha; go_wp2_with fail))
    go_returns
    exact ⟨_, tup (by rw [HP.out]; rfl), by rw [HP.out]; exact HA2.out⟩
  · go_enter Try.func50, Try.ntmps50
    go_wp2_with fail
    refine (H32.out _).mono ?_
    rintro e w1 ⟨rfl, hs⟩
    have HA1 := hide' (HA0.out.keep hs)
    clear hs H32
    clear HA0 tm e8a e8b hmr
    go_wp2
    go_loopg [0, 2] k (fun gg v0 v2 wr => ∃ i : Nat, i ≤ k ∧ gg = k - i ∧ ∃ c : Int, v2 = .int .i64 c ∧ Hid (c = col + i) ∧ Hid (Acc W0 wr v0 (l ++ List.replicate i 32)))
    case atStart => exact ⟨0, Nat.zero_le _, rfl, col, rfl, (by show col = col + (0 : Nat); omega), hide' (by simpa using HA1.out)⟩
    case round =>
      obtain ⟨i, hi, rfl, c, rfl, HC, HB0⟩ := hrel
      by_cases hlt : i < k
      · have d1 : decide (c < nx) = true := by have := HC.out; have := HK.out; simp; omega
        have wc : IntKind.i64.wrap (c + 1) = c + 1 := by rw [IntKind.wrap_i64]; have := HC.out; have := HK.out; omega
        have HN2 : Hid ((l ++ List.replicate i (32 : Int)).length ≤ 900010) := by
          show (l ++ List.replicate i (32 : Int)).length ≤ 900010
          rw [List.length_append, List.length_replicate]
          have := HN.out
          have := HK.out.2.1
          omega
        go_wp2_with (at_builtin; go_must (refine acc_two rfl _ _ rfl HB0.out rfl rfl (by decide) HN2.out ?_; intro v3 w3 ha; have HA3 := hide' ha; clear ha; go_wp2_with fail))
        go_roundg (k - (i + 1))
        case measure => omega
        case rel => exact ⟨i + 1, by omega, rfl, c + 1, by first | rfl | go_num, (by show c + 1 = col + ((i + 1 : Nat) : Int); have := HC.out; omega), by have := HA3.out; rw [List.append_assoc] at this; rw [List.replicate_succ']; exact this⟩
      · have d1 : decide (c < nx) = false := by have := HC.out; have := HK.out; simp; omega
        have e : i = k := by omega
        subst e
        go_wp2
        go_returns
        exact ⟨_, tup (by rw [HP.out]; rfl), by rw [HP.out]; exact HB0.out⟩

end Go.Proofs.Ytjfhmpjpdcckhaa.L19

namespace Go.Proofs.Ytjfhmpjpdcckhaa.L19
open Go.RowKit

theorem extract0 (x y : Value) (w : World) : (Instr.extract (.tuple #[x, y]) 0).run Try.prog w = .ok x w := rfl

theorem extract1 (x y : Value) (w : World) : (Instr.extract (.tuple #[x, y]) 1).run Try.prog w = .ok y w := rfl

attribute [local go_sem] extract0 extract1

theorem addM_13f (o col : Int) (h : has o 4 = false) : addM o col 13 = if col = 0 ∧ has o 8 = true then ([], 0) else ([13], 0) := by
  unfold addM
  rw [if_pos ⟨rfl, h⟩]

theorem addM_line (o col c : Int) (h : c = 10 ∨ (c = 13 ∧ has o 4 = true)) : addM o col c = if has o 2 then ([13, 10], 0) else if has o 16 then ([10], 0) else ([10], col) := by
  unfold addM
  rcases h with rfl | ⟨rfl, h⟩
  · rw [if_neg (fun z => absurd z.1 (by decide)), if_pos (.inr rfl)]
  · rw [if_neg (fun z => by rw [h] at z; exact absurd z.2 (by decide)), if_pos (.inl rfl)]

theorem addM_9 (o col : Int) : addM o col 9 = if has o 32 then (List.replicate (8 - col % 8).toNat 32, col + 8 - col % 8) else ([9], col + 8 - col % 8) := by
  unfold addM
  rw [if_neg (fun z => absurd z.1 (by decide)), if_neg (by decide), if_pos rfl]

theorem addM_8 (o col : Int) : addM o col 8 = ([8], if col = 0 then 0 else col - 1) := by
  unfold addM
  rw [if_neg (fun z => absurd z.1 (by decide)), if_neg (by decide), if_neg (by decide), if_pos rfl]

theorem addM_other (o col c : Int) (h1 : ¬ c = 13) (h2 : ¬ c = 10) (h3 : ¬ c = 9) (h4 : ¬ c = 8) : addM o col c = ([c], if stB c then col else col + 1) := by
  unfold addM stB
  rw [if_neg (fun z => h1 z.1), if_neg (fun z => z.elim h1 h2), if_neg h3, if_neg h4]
  by_cases h : c < 32 ∨ (127 ≤ c ∧ c ≤ 191)
  · rw [if_pos h, if_pos (by simpa using h)]
  · rw [if_neg h, if_neg (by simpa using h)]

theorem add_13f (W0 w : World) (v : Value) (l : List Int) (o col : Int) (hA : Acc W0 w v l) (hn : l.length ≤ 900000) (h : has o 4 = false) : Calls Try.prog 36 #[v, .int .i64 o, .int .i64 col, .int .u8 13] w (Adds W0 l (addM o col 13)) := by
  rw [addM_13f o col h]
  have HX : Hid (∀ w1, Acc W0 w1 v l → Calls Try.prog 48 #[v, .int .i64 o, .int .i64 col] w1 (Adds W0 l (if col = 0 ∧ has o 8 = true then ([], 0) else ([13], 0)))) := fun w1 h => addReturn48 W0 w1 v l o col h hn
  obtain ⟨r, hr⟩ : ∃ r : List Int × Int, r = (if col = 0 ∧ has o 8 = true then ([], 0) else ([13], 0)) := ⟨_, rfl⟩
  rw [← hr] at HX ⊢
  clear hr
  have HA0 := hide' hA
  have HN := hide' hn
  have H4 := hide' (has47 o 4)
  rw [h] at H4
  clear h hA hn
  go_enter Try.func36, Try.ntmps36
  go_wp2_with fail
  refine (H4.out _).mono ?_
  rintro e w1 ⟨rfl, hs⟩
  have HA1 := hide' (HA0.out.keep hs)
  clear hs H4
  go_wp2_with fail
  refine (HX.out w1 HA1.out).mono ?_
  rintro e w2 ⟨v2, rfl, ha⟩
  have HA2 := hide' ha
  clear ha HX
  go_wp2
  go_returns
  exact ⟨_, rfl, HA2.out⟩

theorem add_13t (W0 w : World) (v : Value) (l : List Int) (o col : Int) (hA : Acc W0 w v l) (hn : l.length ≤ 900000) (h : has o 4 = true) : Calls Try.prog 36 #[v, .int .i64 o, .int .i64 col, .int .u8 13] w (Adds W0 l (addM o col 13)) := by
  rw [addM_line o col 13 (.inr ⟨rfl, h⟩)]
  have HX : Hid (∀ w1, Acc W0 w1 v l → Calls Try.prog 49 #[v, .int .i64 o, .int .i64 col] w1 (Adds W0 l (if has o 2 then ([13, 10], 0) else if has o 16 then ([10], 0) else ([10], col)))) := fun w1 h => addLine49 W0 w1 v l o col h hn
  obtain ⟨r, hr⟩ : ∃ r : List Int × Int, r = (if has o 2 then ([13, 10], 0) else if has o 16 then ([10], 0) else ([10], col)) := ⟨_, rfl⟩
  rw [← hr] at HX ⊢
  clear hr
  have HA0 := hide' hA
  have HN := hide' hn
  have H4 := hide' (has47 o 4)
  rw [h] at H4
  clear h hA hn
  go_enter Try.func36, Try.ntmps36
  go_wp2_with fail
  refine (H4.out _).mono ?_
  rintro e w1 ⟨rfl, hs⟩
  have HA1 := hide' (HA0.out.keep hs)
  clear hs H4
  go_wp2_with fail
  refine (HX.out w1 HA1.out).mono ?_
  rintro e w2 ⟨v2, rfl, ha⟩
  have HA2 := hide' ha
  clear ha HX
  go_wp2
  go_returns
  exact ⟨_, rfl, HA2.out⟩

theorem add_10 (W0 w : World) (v : Value) (l : List Int) (o col : Int) (hA : Acc W0 w v l) (hn : l.length ≤ 900000) : Calls Try.prog 36 #[v, .int .i64 o, .int .i64 col, .int .u8 10] w (Adds W0 l (addM o col 10)) := by
  rw [addM_line o col 10 (.inl rfl)]
  have HX := hide' (addLine49 W0 w v l o col hA hn)
  obtain ⟨r, hr⟩ : ∃ r : List Int × Int, r = (if has o 2 then ([13, 10], 0) else if has o 16 then ([10], 0) else ([10], col)) := ⟨_, rfl⟩
  rw [← hr] at HX ⊢
  clear hr hA hn
  go_enter Try.func36, Try.ntmps36
  go_wp2_with fail
  refine HX.out.mono ?_
  rintro e w2 ⟨v2, rfl, ha⟩
  have HA2 := hide' ha
  clear ha HX
  go_wp2
  go_returns
  exact ⟨_, rfl, HA2.out⟩

theorem add_9 (W0 w : World) (v : Value) (l : List Int) (o col : Int) (hA : Acc W0 w v l) (hn : l.length ≤ 900000) (h0 : 0 ≤ col) (h1 : col ≤ 1073741824) : Calls Try.prog 36 #[v, .int .i64 o, .int .i64 col, .int .u8 9] w (Adds W0 l (addM o col 9)) := by
  rw [addM_9 o col]
  have HX := hide' (addTab50 W0 w v l o col hA hn h0 h1)
  obtain ⟨r, hr⟩ : ∃ r : List Int × Int, r = (if has o 32 then (List.replicate (8 - col % 8).toNat 32, col + 8 - col % 8) else ([9], col + 8 - col % 8)) := ⟨_, rfl⟩
  rw [← hr] at HX ⊢
  clear hr hA hn
  go_enter Try.func36, Try.ntmps36
  go_wp2_with fail
  refine HX.out.mono ?_
  rintro e w2 ⟨v2, rfl, ha⟩
  have HA2 := hide' ha
  clear ha HX
  go_wp2
  go_returns
  exact ⟨_, rfl, HA2.out⟩

theorem add_8 (W0 w : World) (v : Value) (l : List Int) (o col : Int) (hA : Acc W0 w v l) (hn : l.length ≤ 900000) (h0 : 0 ≤ col) (h1 : col ≤ 1073741824) : Calls Try.prog 36 #[v, .int .i64 o, .int .i64 col, .int .u8 8] w (Adds W0 l (addM o col 8)) := by
  rw [addM_8 o col]
  obtain ⟨k, hk⟩ : ∃ k : Int, k = if col = 0 then 0 else col - 1 := ⟨_, rfl⟩
  have em : max (col - 1) 0 = k := by rw [hk]; split <;> omega
  have HA0 := hide' hA
  have HN := hide' hn
  rw [← hk]
  clear hA hn hk
  go_enter Try.func36, Try.ntmps36
  go_wp2_with (at_builtin; go_must (refine acc_one rfl _ _ rfl HA0.out rfl rfl (by decide) HN.out ?_; intro v1 w1 ha; have HA1 := hide' ha; clear ha; go_wp2_with fail))
  go_returns
  exact ⟨_, rfl, HA1.out⟩

theorem add_other (W0 w : World) (v : Value) (l : List Int) (o col : Int) (c : Int) (hA : Acc W0 w v l) (hn : l.length ≤ 900000) (h0 : 0 ≤ col) (h1 : col ≤ 1073741824) (hc : (Lit.int .u8 c).wf = true) (d1 : ¬ c = 13) (d2 : ¬ c = 10) (d3 : ¬ c = 9) (d4 : ¬ c = 8) : Calls Try.prog 36 #[v, .int .i64 o, .int .i64 col, .int .u8 c] w (Adds W0 l (addM o col c)) := by
  rw [addM_other o col c d1 d2 d3 d4]
  have HX := hide' (stays51 c)
  have HC := hide' hc
  have HA0 := hide' hA
  have HN := hide' hn
  have e1 : (c == 13) = false := beq_f d1
  have e2 : (c == 10) = false := beq_f d2
  have e3 : (c == 9) = false := beq_f d3
  have e4 : (c == 8) = false := beq_f d4
  obtain ⟨q, hq⟩ : ∃ q, q = stB c := ⟨_, rfl⟩
  rw [← hq] at HX ⊢
  clear hA hn hq hc d1 d2 d3 d4
  cases q
  all_goals
    go_enter Try.func36, Try.ntmps36
    go_wp2_with fail
    refine (HX.out _).mono ?_
    rintro e w1 ⟨rfl, hs⟩
    have HA1 := hide' (HA0.out.keep hs)
    clear hs HX
    go_wp2_with (at_builtin; go_must (refine acc_one rfl _ _ rfl HA1.out rfl rfl (HC.out) HN.out ?_; intro v2 w2 ha; have HA2 := hide' ha; clear ha; go_wp2_with fail))
    go_returns
    exact ⟨_, rfl, HA2.out⟩

theorem add36 (W0 w : World) (v : Value) (l : List Int) (o col : Int) (c : Int) (hA : Acc W0 w v l) (hn : l.length ≤ 900000) (h0 : 0 ≤ col) (h1 : col ≤ 1073741824) (hc : (Lit.int .u8 c).wf = true) : Calls Try.prog 36 #[v, .int .i64 o, .int .i64 col, .int .u8 c] w (Adds W0 l (addM o col c)) := by
  by_cases d1 : c = 13
  · subst d1
    cases h : has o 4
    · exact add_13f W0 w v l o col hA hn h
    · exact add_13t W0 w v l o col hA hn h
  · by_cases d2 : c = 10
    · subst d2
      exact add_10 W0 w v l o col hA hn
    · by_cases d3 : c = 9
      · subst d3
        exact add_9 W0 w v l o col hA hn h0 h1
      · by_cases d4 : c = 8
        · subst d4
          exact add_8 W0 w v l o col hA hn h0 h1
        · exact add_other W0 w v l o col c hA hn h0 h1 hc d1 d2 d3 d4

end Go.Proofs.Ytjfhmpjpdcckhaa.L19

namespace Go.Proofs.Ytjfhmpjpdcckhaa.L19
open Go.RowKit

attribute [local go_sem] extract0 extract1

theorem byte30 (o col c : Int) (w : World) (hc : (Lit.int .u8 c).wf = true) : Calls Try.prog 30 #[.int .i64 o, .int .i64 col, .int .u8 c] w (Adds w [] (addM (cnt o) (plc col) c)) := by
  have HA0 := hide' (Acc.nil w)
  have HC := hide' (counts37 o)
  have HP := hide' (place38 col)
  obtain ⟨p, hp⟩ : ∃ p, p = plc col := ⟨_, rfl⟩
  have HR : Hid (0 ≤ p ∧ p ≤ 1073741824) := by rw [hp]; exact plc_range col
  obtain ⟨f, hf⟩ : ∃ f, f = cnt o := ⟨_, rfl⟩
  rw [← hp] at HP ⊢
  rw [← hf] at HC ⊢
  clear hp hf
  have HX : Hid (∀ w1, Acc w w1 (.slice none 0 0) [] → Calls Try.prog 36 #[.slice none 0 0, .int .i64 f, .int .i64 p, .int .u8 c] w1 (Adds w [] (addM f p c))) := fun w1 h => add36 w w1 _ [] f p c h (by simp) HR.out.1 HR.out.2 hc
  obtain ⟨r, hr⟩ : ∃ r, r = addM f p c := ⟨_, rfl⟩
  rw [← hr] at HX ⊢
  clear hr HR
  go_enter Try.func30, Try.ntmps30
  go_wp2_with fail
  refine (HC.out _).mono ?_
  rintro e w1 ⟨rfl, hs⟩
  have HA1 := hide' (HA0.out.keep hs)
  clear hs HC
  go_wp2_with fail
  refine (HP.out _).mono ?_
  rintro e w2 ⟨rfl, hs⟩
  have HA2 := hide' (HA1.out.keep hs)
  clear hs HP
  go_wp2_with fail
  refine (HX.out _ HA2.out).mono ?_
  rintro e w3 ⟨v, rfl, ha⟩
  have HA3 := hide' ha
  clear ha HX
  go_wp2
  go_returns
  exact ⟨_, rfl, HA3.out⟩

theorem take_snoc (S : List Int) (i : Nat) (h : i < S.length) : S.take (i + 1) = S.take i ++ [S.getD i 0] := by
  rw [List.getD_eq_getElem?_getD, List.getElem?_eq_getElem h]
  exact List.take_succ_eq_append_getElem h

end Go.Proofs.Ytjfhmpjpdcckhaa.L19
