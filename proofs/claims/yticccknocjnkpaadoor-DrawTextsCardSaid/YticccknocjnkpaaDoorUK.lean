/-
  The document's own runes of bytes, what waits, the same runes: walked. No conditions.
-/
import Derived.Test.YticccknocjnkpaaDoorUJ
namespace Go.Proofs.YticccknocjnkpaaDoor.Utf
open Go.RowKit

theorem formV_lt (m : List Nat) (i : Nat) (_h : m.getD 0 0 < 256) : formV m i < 2097152 := by
  unfold formV
  split
  · omega
  · split
    · omega
    · split <;> omega

theorem atV_lt (m : List Nat) (h : m.getD 0 0 < 256) : atV m < 2097152 := by
  unfold atV
  split
  · omega
  · split
    · decide
    · exact formV_lt m _ h

/-- What holds at the head of the round. -/
structure RefIn (w wr : World) (l : List Nat) (k : Nat) (t : Value) (o : List Nat) : Prop where
  own : wr.ownsRow w.heap.size 21 1 t o.length (o.map rv)
  said : runes l = o ++ runes (l.drop k)
  stay : Stay (fun _ => False) w wr
  len : o.length ≤ k
  le : k ≤ l.length

/-- Behind what stayed, a turn that meets only new blocks. -/
theorem _root_.Go.Proofs.YticccknocjnkpaaDoor.Stay.trans' {S T : Nat → Prop} {w w' w'' : World} (h : Stay S w w') {o : Obj} (k : Stay T (w'.alloc o) w'') (hT : ∀ i, i < w.heap.size → T i → S i) : Stay S w w'' :=
  have h1 := h.alloc o
  ⟨k.os.trans h1.os, k.tape.trans h1.tape, k.output.trans h1.output, Nat.le_trans h1.size k.size, fun i hi hs =>
    (k.block i (Nat.lt_of_lt_of_le hi h1.size) (fun ht => hs (hT i hi ht))).trans (h1.block i hi hs)⟩

/-- A rune is added to an own row: only its block may have turned. -/
theorem app2 (S : Nat → Prop) {ops : Array Oper} {rest : List Oper} {o : Oper} {a : Act} {Q : Exit → Act → World → Prop} (hgd : o.guard = none) (s x : Operand)
    (ho : o.op = .call { callee := .builtin .append, args := #[s, x], argTypes := #[42, 42] }) {w : World} {base n B : Nat} {v : Value} {xs : List Value} (z : Int)
    (hown : w.ownsRow base 21 1 v n xs) (hs : a.eval s = v) (hx : a.eval x = .slice (some ⟨B, 0, none⟩) 1 1) (hB : w.heap.size = B) (hn : n < 1000000) (hbase : base ≤ w.heap.size) (hS : ∀ k, v.ownBlock = some k → S k)
    (h : ∀ v' w', w'.ownsRow base 21 1 v' (n + 1) (xs ++ [.int .i32 z]) → Stay S w w' → wpList Tryd.prog ops Q rest (a.put o.dst v') w') :
    wpList Tryd.prog ops Q (o :: rest) a (w.alloc (.cells #[.int .i32 z] 21)) := by
  subst hB
  obtain ⟨i, hi, hzz⟩ := Option.map_eq_some_iff.1 info21
  simp only [Prod.mk.injEq] at hzz
  obtain ⟨h1, h2, h3⟩ := hzz
  refine wpList_append_own _ hgd s x 42 ho base 21 i (.int .i32 0) 1 4 Tryd.underlying42 hi h1 h2 h3 rfl (by decide) v n xs hs (hown.alloc _) ⟨w.heap.size, 0, none⟩ 1 1 [.int .i32 z] hx rfl (cell_one_new _ _ _)
    (fun y hy => by simp at hy; subst hy; rfl) (by unfold maxLen; omega) (by omega) (by simp; omega) ?_
  intro v' w' hown' hg _
  exact h v' w' hown' (((Stay.refl _ w).alloc _).grown hg fun k hk _ => hS k hk)

theorem new_two (w : World) (X Y : Value) (t : TypeId) : (w.alloc (.cells #[X, Y] t)).cell? ⟨w.heap.size, 1, none⟩ = some Y := by simp

theorem drop_ne {l : List Nat} {k : Nat} (h : k < l.length) : l.drop k ≠ [] := by
  intro e
  have := congrArg List.length e
  rw [List.length_drop] at this
  simp at this
  omega

set_option maxHeartbeats 1000000 in
set_option maxRecDepth 100000 in
theorem refAll_any (l : List Nat) (b off cap : Nat) (w : World) (hl : l.length ≤ 5000) (hcap : l.length ≤ cap) (hcm : cap ≤ maxLen) (hB : Bytes w b off l) :
    Calls Tryd.prog 15 #[.slice (some ⟨b, off, none⟩) l.length cap] w (Runes w (runes l)) := by
  have HB := hide' hB
  have HCAP := hide' hcap
  have HCM := hide' hcm
  obtain ⟨n, hn⟩ : ∃ n, n = l.length := ⟨_, rfl⟩
  have HAT := hide' (fun k wr (h : Stay (fun _ => False) w wr) (hk : k < l.length) => at_any l k b off cap wr hk (by omega) hcap hcm (h.bytes hB (fun _ h => h)))
  rw [← hn] at HAT ⊢
  have HN := hide' hn
  have hl' : n ≤ 5000 := by omega
  clear hB hn hcap hcm
  go_enter Tryd.func15, Tryd.ntmps15
  go_wp2_with fail
  go_loopg [3, 4, 5] n (fun g t i u wr => ∃ (k : Nat) (o : List Nat), g = n - k ∧ i = .int .i64 (k : Int) ∧ Hid (RefIn w wr l k t o))
  case atStart => exact ⟨0, [], rfl, rfl, World.ownsRow_nil _ _ _ _, rfl, Stay.refl _ _, Nat.le_refl _, Nat.zero_le _⟩
  case round =>
    obtain ⟨k, o, rfl, rfl, HI⟩ := hrel
    have hkn : k ≤ n := by have := HI.out.le; have := HN.out; omega
    by_cases hlt : k < n
    · have hA := HAT.out k wr HI.out.stay hlt
      have hne : l.drop k ≠ [] := drop_ne (by have := HN.out; omega)
      have hv := atV_lt (l.drop k) ((HB.out.drop k).lt 0 (List.length_pos_iff.2 hne))
      have hN := atN_le (l.drop k) hne
      have hR := runes_at hne
      rw [List.length_drop] at hN
      obtain ⟨v, hv'⟩ : ∃ v, v = atV (l.drop k) := ⟨_, rfl⟩
      obtain ⟨m, hm'⟩ : ∃ m, m = atN (l.drop k) := ⟨_, rfl⟩
      unfold AtE at hA
      rw [← hv', ← hm'] at hA
      rw [← hv'] at hv hR
      rw [← hm'] at hN hR
      have HA := hide' hA
      have HR := hide' hR
      have v0 : (0 : Int) ≤ v := by omega
      have v1 : (v : Int) < 2097152 := by omega
      have m0 : (0 : Int) ≤ m := by omega
      have hmn : k + m ≤ n := by have := HN.out; omega
      have m1 : (k : Int) + m ≤ 5000 := by omega
      have k0 : (0 : Int) ≤ k := by omega
      have kn : (k : Int) < n := by omega
      have hm1 := hN.1
      clear hA hR hv' hm' hne hN
      go_wp2_with fail
      refine HA.out.mono ?_
      rintro e w1 ⟨rfl, hs1⟩
      have HS1 := hide' hs1
      have HO1 := hide' (hs1.owns HI.out.own (fun _ _ h => h))
      clear hs1
      have HR1 := hide' (new_two w1 (.int .i64 (v : Nat)) (.int .i64 (m : Nat)) 80)
      have HSZ := hide' HI.out.stay.size
      have HOX := hide' (HO1.out.alloc (.cells #[.int .i64 (v : Nat), .int .i64 (m : Nat)] 80))
      have hsz : w.heap.size ≤ w1.heap.size + 1 := by have := HS1.out.size; have := HSZ.out; omega
      have hol : o.length < 1000000 := by have := HI.out.len; omega
      have HSS : Hid (∀ k, Value.ownBlock _ = some k → w.heap.size ≤ k ∧ k < w1.heap.size) := fun k hk => HO1.out.lt k hk
      go_wp2_with (at_builtin; refine app2 (fun k => w.heap.size ≤ k ∧ k < w1.heap.size) rfl _ _ rfl (v : Nat) HOX.out rfl rfl (by simp) hol (by simpa using hsz) HSS.out ?_; intro t' w2 ho2 hs2; have c2 : w2.cell? ⟨w1.heap.size, 1, none⟩ = some (.int .i64 (m : Nat)) := (hs2.cell (p := ⟨w1.heap.size, 1, none⟩) (by simp) (fun h => by have := h.2; simp at this)).trans HR1.out; have HO2 := hide' ho2; have HS2 := hide' hs2; clear ho2 hs2)
      have HI2 : Hid (RefIn w w2 l (k + m) t' (o ++ [v])) := by
        refine ⟨?_, ?_, ?_, by have := HI.out.len; simp; omega, by have := HN.out; omega⟩
        · rw [List.length_append, List.map_append]; exact HO2.out
        · rw [HI.out.said, HR.out, List.drop_drop]; simp
        · exact (HI.out.stay.trans HS1.out).trans' (HS2.out) (fun k hk h => by have := h.1; omega)
      go_roundg (n - (k + m))
      case rel => exact ⟨k + m, _, rfl, by go_num, HI2⟩
      case measure => omega
    · have hk : k = n := by omega
      have hd : l.drop k = [] := List.drop_of_length_le (by have := HN.out; omega)
      have ho := HI.out.said
      rw [hd] at ho
      have ho' := ho.trans (List.append_nil _)
      have HO := hide' ho'
      clear hd ho ho' hk
      go_wp2
      go_ret
      exact ⟨_, rfl, by rw [HO.out]; exact HI.out.own, HI.out.stay⟩

end Go.Proofs.YticccknocjnkpaaDoor.Utf
