/-
  Rows that are laid on; whether bytes are the same; flags, places, which bytes take no column: walked. No conditions.
-/
import Derived.Test.YtjpdlnifbinloaaB0
namespace Go.Proofs.Ytjpdlnifbinloaa
open Go.RowKit

theorem infoB : (Try.prog.info? 5).map (fun i => (i.zero, i.size, i.bytes)) = some (some (.int .u8 0), 1, 1) := by kernel_rfl

/-- Bytes that can be read. -/
def Bs (w : World) (v : Value) (l : List Int) : Prop := ∃ a cap, v = .slice a l.length cap ∧ l.length ≤ cap ∧ (l ≠ [] → ∃ b off, a = some ⟨b, off, none⟩ ∧ Ints .u8 w b off l)

theorem Bs.keep {w w' : World} {v : Value} {l : List Int} (h : Bs w v l) (hs : Stay (fun _ => False) w w') : Bs w' v l := by
  obtain ⟨a, cap, h1, h2, h3⟩ := h
  exact ⟨a, cap, h1, h2, fun hn => by obtain ⟨b, o, e, hi⟩ := h3 hn; exact ⟨b, o, e, fun j hj => keep_cell hs (hi j hj)⟩⟩

theorem sameB_nil (a1 a2 : Option Addr) (k1 k2 : Nat) (w : World) : Calls Try.prog 10 #[.slice a1 0 k1, .slice a2 0 k2] w (Gives (.bool true) w) := by
  go_enter Try.func10, Try.ntmps10
  go_wp2_with fail
  go_loopg [5] 0 (fun g i wr => g = 0 ∧ i = .int .i64 0 ∧ wr = w)
  case atStart => exact ⟨rfl, rfl, rfl⟩
  case round =>
    obtain ⟨rfl, rfl, rfl⟩ := hrel
    go_wp2
    go_ret
    exact ⟨rfl, Stay.refl _ _⟩

set_option maxHeartbeats 1000000 in
theorem sameB_some (l : List Int) (b1 o1 k1 b2 o2 k2 n : Nat) (w : World) (hn : n ≤ 100000) (hl : l.length = n) (h1 : Ints .u8 w b1 o1 l) (h2 : Ints .u8 w b2 o2 l) :
    Calls Try.prog 10 #[.slice (some ⟨b1, o1, none⟩) n k1, .slice (some ⟨b2, o2, none⟩) n k2] w (Gives (.bool true) w) := by
  have H1 := hide' h1
  have H2 := hide' h2
  have HL := hide' hl
  have hnz : (n : Int) ≤ 100000 := by omega
  clear h1 h2 hn hl
  go_enter Try.func10, Try.ntmps10
  go_wp2_with fail
  go_loopg [5] n (fun g i wr => ∃ j : Nat, j ≤ n ∧ g = n - j ∧ i = .int .i64 (j : Int) ∧ ∃ q, wr = w.drewN q)
  case atStart => exact ⟨0, Nat.zero_le _, rfl, rfl, 0, rfl⟩
  case round =>
    obtain ⟨j, hj, rfl, rfl, q, rfl⟩ := hrel
    by_cases hlt : j < n
    · have a1 : w.cell? ⟨b1, o1 + j, none⟩ = some (.int .u8 (l.getD j 0)) := H1.out j (by have := HL.out; omega)
      have a2 : w.cell? ⟨b2, o2 + j, none⟩ = some (.int .u8 (l.getD j 0)) := H2.out j (by have := HL.out; omega)
      obtain ⟨x, hx⟩ : ∃ x, x = l.getD j 0 := ⟨_, rfl⟩
      rw [← hx] at a1 a2
      clear hx
      have jz : (j : Int) < n := by omega
      have j0 : (0 : Int) ≤ j := by omega
      go_wp2_with fail
      go_quiet (fail)
      go_wp2
      go_roundg (n - (j + 1))
      case measure => omega
      case rel => exact ⟨j + 1, by omega, rfl, by go_num, _, rfl⟩
    · have : j = n := by omega
      subst this
      go_wp2
      go_ret
      exact ⟨rfl, (Stay.refl _ _).drewN _⟩

theorem sameB (v1 v2 : Value) (l : List Int) (w : World) (h1 : Bs w v1 l) (h2 : Bs w v2 l) (hn : l.length ≤ 100000) : Calls Try.prog 10 #[v1, v2] w (Gives (.bool true) w) := by
  obtain ⟨a1, k1, rfl, _, c1⟩ := h1
  obtain ⟨a2, k2, rfl, _, c2⟩ := h2
  by_cases h : l = []
  · subst h
    exact sameB_nil a1 a2 k1 k2 w
  · obtain ⟨b1, o1, rfl, i1⟩ := c1 h
    obtain ⟨b2, o2, rfl, i2⟩ := c2 h
    exact sameB_some l b1 o1 k1 b2 o2 k2 l.length w hn rfl i1 i2

theorem bs_arg {w : World} {v : Value} {l : List Int} {a : Option Addr} {cap : Nat} (h : IArg .u8 w v l a cap) : Bs w v l := ⟨a, cap, h.shape, h.lenLe, fun hne => by
  obtain ⟨b, o, e, _, hi⟩ := h.cells hne
  exact ⟨b, o, e, hi⟩⟩

/-- A row of one's own that is laid on. -/
structure Acc (W0 w : World) (v : Value) (l : List Int) : Prop where
  own : w.ownsRow W0.heap.size 5 1 v l.length (l.map (.int .u8 ·))
  stay : Stay (fun _ => False) W0 w
  wf : ∀ x ∈ l, (Lit.int .u8 x).wf = true

theorem Acc.nil (W0 : World) : Acc W0 W0 (.slice none 0 0) [] := ⟨World.ownsRow_nil _ _ _ _, Stay.refl _ _, fun x h => by simp at h⟩

theorem Acc.new (W0 : World) (cs : Array Value) (l : List Int) (n : Nat) (hl : cs.toList = l.map (.int .u8 ·)) (hn : cs.size = n) (hw : ∀ x ∈ l, (Lit.int .u8 x).wf = true) (hm : n ≤ 1000) : Acc W0 (W0.alloc (.cells cs 5)) (.slice (some ⟨W0.heap.size, 0, none⟩) n n) l := by
  subst hn
  have e : cs.size = l.length := by rw [← Array.length_toList, hl, List.length_map]
  have h := owns_new W0 cs 5 (by unfold maxLen; omega)
  rw [hl] at h
  rw [e] at h ⊢
  exact ⟨h, (Stay.refl _ _).alloc _, hw⟩

theorem Acc.shape {W0 w : World} {v : Value} {l : List Int} (h : Acc W0 w v l) : ∃ a c, v = .slice a l.length c := by
  obtain ⟨a, c, h, _⟩ := owned_arg h.own h.wf
  exact ⟨a, c, h.shape⟩

theorem Acc.arg {W0 w : World} {v : Value} {l : List Int} (h : Acc W0 w v l) : ∃ a c, IArg .u8 w v l a c := by
  obtain ⟨a, c, h, _⟩ := owned_arg h.own h.wf
  exact ⟨a, c, h⟩

theorem Acc.bs {W0 w : World} {v : Value} {l : List Int} (h : Acc W0 w v l) : Bs w v l := by
  obtain ⟨a, c, h⟩ := h.arg
  exact bs_arg h

theorem Acc.keep {W0 w w1 : World} {v : Value} {l : List Int} (h : Acc W0 w v l) (hs : Stay (fun _ => False) w w1) : Acc W0 w1 v l :=
  ⟨hs.owns h.own (fun _ _ h => h), h.stay.trans hs, h.wf⟩

/-- Nothing that was there at the beginning has turned: seen from an older world. -/
theorem Acc.older {W00 W0 w : World} {v : Value} {l : List Int} (h : Acc W0 w v l) (hs : Stay (fun _ => False) W00 W0) : Acc W00 w v l := ⟨ownsRow_base h.own hs.size, hs.trans h.stay, h.wf⟩

/-- append(own, bytes...). -/
theorem acc_app {ops : Array Oper} {rest : List Oper} {o : Oper} {a : Act} {Q : Exit → Act → World → Prop} (hgd : o.guard = none) (s x : Operand)
    (ho : o.op = .call { callee := .builtin .append, args := #[s, x], argTypes := #[22, 22] }) {W0 w : World} {v sv : Value} {l news : List Int} {ad : Option Addr} {cap : Nat} (hA : Acc W0 w v l) (hs : a.eval s = v) (hB : IArg .u8 w sv news ad cap) (hx : a.eval x = sv)
    (hn : l.length + news.length ≤ 1000000)
    (h : ∀ v' w', Acc W0 w' v' (l ++ news) → wpList Try.prog ops Q rest (a.put o.dst v') w') : wpList Try.prog ops Q (o :: rest) a w := by
  refine appL (fun k => W0.heap.size ≤ k) hgd s x 22 ho Try.underlying22 infoB rfl (by decide) hA.own hs hB.row hx (one_ints .u8 news) (by rw [List.length_map]; exact hn) hA.stay.size (fun k hk => (hA.own.lt k hk).1) ?_
  intro v' w' h1 h2
  refine h v' w' ⟨?_, ?_, ?_⟩
  · rw [List.length_map, ← List.length_append, ← List.map_append] at h1
    exact h1
  · exact hA.stay.trans2 h2 (fun j hj e => by omega)
  · intro y hy
    rcases List.mem_append.1 hy with hy | hy
    · exact hA.wf y hy
    · exact hB.wf y hy

/-- append(own, one byte). -/
theorem acc_one {ops : Array Oper} {rest : List Oper} {o : Oper} {a : Act} {Q : Exit → Act → World → Prop} (hgd : o.guard = none) (s x : Operand)
    (ho : o.op = .call { callee := .builtin .append, args := #[s, x], argTypes := #[22, 22] }) {W0 w : World} {v : Value} {l : List Int} {c : Int} (hA : Acc W0 w v l) (hs : a.eval s = v) (hx : a.eval x = .slice (some ⟨w.heap.size, 0, none⟩) 1 1) (hc : (Lit.int .u8 c).wf = true)
    (hn : l.length ≤ 900000)
    (h : ∀ v' w', Acc W0 w' v' (l ++ [c]) → wpList Try.prog ops Q rest (a.put o.dst v') w') : wpList Try.prog ops Q (o :: rest) a (w.alloc (.cells #[.int .u8 c] 5)) := by
  obtain ⟨ad, cp, hB⟩ := (Acc.new w #[.int .u8 c] [c] 1 rfl rfl (fun x hx => by simp at hx; subst hx; exact hc) (by omega)).arg
  exact acc_app hgd s x ho (hA.keep ((Stay.refl _ w).alloc _)) hs hB hx (by simp; omega) h

theorem has17 (n f : Int) (w : World) : Calls Try.prog 17 #[.int .i64 n, .int .i64 f] w (Gives (.bool (has n f)) w) := by
  have HS := hide' (Stay.refl (fun _ => False) w)
  go_enter Try.func17, Try.ntmps17
  go_wp2
  go_ret
  exact ⟨ret_bool rfl, HS.out⟩

theorem flag16 (n f : Int) (w : World) : Calls Try.prog 16 #[.int .i64 n, .int .i64 f] w (Gives (.bool (has n f)) w) := by
  have HS := hide' (Stay.refl (fun _ => False) w)
  go_enter Try.func16, Try.ntmps16
  go_wp2
  go_ret
  exact ⟨ret_bool rfl, HS.out⟩

theorem place12 (n : Int) (w : World) : Calls Try.prog 12 #[.int .i64 n] w (Gives (.int .i64 (plc n)) w) := by
  have HS := hide' (Stay.refl (fun _ => False) w)
  obtain ⟨p, hp⟩ : ∃ p, p = plc n := ⟨_, rfl⟩
  have HP : Hid (p = if n < 0 ∨ 1073741824 < n then 0 else n) := hp
  rw [← hp]
  clear hp
  by_cases h : n < 0
  · go_enter Try.func12, Try.ntmps12
    go_wp2
    go_ret
    exact ⟨ret_int (by rw [HP.out, if_pos (.inl h)]), HS.out⟩
  · by_cases h2 : 1073741824 < n
    · go_enter Try.func12, Try.ntmps12
      go_wp2
      go_ret
      exact ⟨ret_int (by rw [HP.out, if_pos (.inr h2)]), HS.out⟩
    · go_enter Try.func12, Try.ntmps12
      go_wp2
      go_ret
      exact ⟨ret_int (by rw [HP.out, if_neg (by omega)]), HS.out⟩

theorem counts14 (n : Int) (w : World) : Calls Try.prog 14 #[.int .i64 n] w (Gives (.int .i64 (cnt n)) w) := by
  have HS := hide' (Stay.refl (fun _ => False) w)
  have HF := hide' (has17 n 1)
  obtain ⟨p, hp⟩ : ∃ p, p = cnt n := ⟨_, rfl⟩
  obtain ⟨q, hq⟩ : ∃ q, q = has n 1 := ⟨_, rfl⟩
  have HP : Hid (p = if q then n else 0) := by rw [hp, hq]; rfl
  rw [← hp]
  rw [← hq] at HF
  clear hp hq
  cases q
  all_goals
    go_enter Try.func14, Try.ntmps14
    go_wp2_with fail
    refine (HF.out _).mono ?_
    rintro e w1 ⟨rfl, hs⟩
    have HS1 := hide' (HS.out.trans hs)
    clear hs
    go_wp2
    go_ret
    exact ⟨ret_int (by rw [HP.out]; rfl), HS1.out⟩

/-- Does a byte take no column? -/
def stB (c : Int) : Bool := decide (c < 32) || (decide (127 ≤ c) && decide (c ≤ 191))

theorem stays21 (c : Int) (w : World) : Calls Try.prog 21 #[.int .u8 c] w (Gives (.bool (stB c)) w) := by
  have HS := hide' (Stay.refl (fun _ => False) w)
  obtain ⟨p, hp⟩ : ∃ p, p = stB c := ⟨_, rfl⟩
  have HP : Hid (p = (decide (c < 32) || (decide (127 ≤ c) && decide (c ≤ 191)))) := hp
  rw [← hp]
  clear hp
  by_cases h : c < 32
  · go_enter Try.func21, Try.ntmps21
    go_wp2
    go_ret
    exact ⟨ret_bool (by rw [HP.out]; simp [*] <;> omega), HS.out⟩
  · by_cases h2 : 127 ≤ c
    · go_enter Try.func21, Try.ntmps21
      go_wp2
      go_ret
      exact ⟨ret_bool (by rw [HP.out]; simp [*] <;> omega), HS.out⟩
    · go_enter Try.func21, Try.ntmps21
      go_wp2
      go_ret
      exact ⟨ret_bool (by rw [HP.out]; simp [*] <;> omega), HS.out⟩

end Go.Proofs.Ytjpdlnifbinloaa
