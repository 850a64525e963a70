/-
  Whose slots: walked. No conditions.
-/
import Derived.Test.YtlhfpnfiamgmlaaP3
import Derived.Deep.DeepCutAuto
namespace Go.Proofs.Ytlhfpnfiamgmlaa
open Go.RowKit

/-- The slots of a kind, rising. -/
def ixs (p : Nat → Bool) : Nat → List Nat
  | 0 => []
  | n + 1 => ixs p n ++ (if p n = true then [n] else [])

theorem ixs_len (p : Nat → Bool) : ∀ n, (ixs p n).length = cnt p n
  | 0 => rfl
  | n + 1 => by
    show (ixs p n ++ _).length = cnt p n + _
    rw [List.length_append, ixs_len p n]
    split <;> rfl

theorem ixs_mem (p : Nat → Bool) : ∀ n i, i ∈ ixs p n ↔ i < n ∧ p i = true
  | 0, i => by simp [ixs]
  | n + 1, i => by
    have h := ixs_mem p n i
    show i ∈ ixs p n ++ _ ↔ _
    rw [List.mem_append, h]
    by_cases e : p n = true
    · rw [if_pos e, List.mem_singleton]
      constructor
      · rintro (h | rfl)
        · exact ⟨by omega, h.2⟩
        · exact ⟨by omega, e⟩
      · rintro ⟨a, b⟩
        by_cases x : i = n
        · exact .inr x
        · exact .inl ⟨by omega, b⟩
    · rw [if_neg e]
      constructor
      · rintro (h | h)
        · exact ⟨by omega, h.2⟩
        · cases h
      · rintro ⟨a, b⟩
        refine .inl ⟨?_, b⟩
        by_cases x : i = n
        · subst x; exact absurd b e
        · omega

theorem ixs_congr {p q : Nat → Bool} : ∀ {n : Nat}, (∀ i, i < n → p i = q i) → ixs p n = ixs q n
  | 0, _ => rfl
  | n + 1, h => by
    show ixs p n ++ (if p n = true then [n] else []) = ixs q n ++ (if q n = true then [n] else [])
    rw [ixs_congr (fun i hi => h i (by omega)), h n (by omega)]

/-- Pointers to slots, as values. -/
def ptrs (B : Nat) (L : List Nat) : List Value := L.map (fun i => Value.pointer (some ⟨B, i * 6, none⟩))

/-- Pointers that come back. -/
def AOut (B : Nat) (L : List Nat) (w : World) (E : Ending) (w' : World) : Prop := ∃ v, E = .returned v ∧ Stay (fun _ => False) w w' ∧ w'.ownsRow w.heap.size 62 1 v L.length (ptrs B L)

theorem all41_nil (env : Int) (w : World) : Calls Try.prog 41 #[.pointer none, .int .i64 env] w (Gives (.slice none 0 0) w) := by
  have HS := hide' (Stay.refl (fun _ => False) w)
  go_enter Try.func41, Try.ntmps41
  go_wp2
  go_ret
  exact ⟨rfl, HS.out⟩

theorem info62 : (Try.prog.info? 62).map (fun i => (i.zero, i.size, i.bytes)) = some (some (.pointer none), 1, 8) := by kernel_rfl

theorem all41 (T B n : Nat) (q : Int) (f : Nat → Sl) (env : Int) (w : World) (ht : TAt w T B n q f) : Calls Try.prog 41 #[.pointer (some ⟨T, 0, none⟩), .int .i64 env] w (AOut B (ixs (isOf f env) n) w) := by
  have HT := hide' ht
  have HL0 : Hid (Stay (fun k => w.heap.size ≤ k) w w ∧ w.ownsRow w.heap.size 62 1 (.slice none 0 0) (ixs (isOf f env) 0).length (ptrs B (ixs (isOf f env) 0))) := ⟨Stay.refl _ _, rfl, .inl ⟨rfl, rfl⟩⟩
  have hn1 : (n : Int) ≤ 20 := by have := ht.n1; omega
  have t0 := ht.c0
  clear ht
  go_enter Try.func41, Try.ntmps41
  go_wp2
  clear t0
  go_loopg [5, 14] n (fun gg v5 v14 wr => ∃ (k : Nat) (v : Value), k ≤ n ∧ gg = n - k ∧ v14 = .int .i64 (k : Int) ∧ v = v5 ∧ Hid (Stay (fun k => w.heap.size ≤ k) w wr ∧ wr.ownsRow w.heap.size 62 1 v (ixs (isOf f env) k).length (ptrs B (ixs (isOf f env) k))))
  case atStart => exact ⟨0, _, Nat.zero_le _, rfl, rfl, rfl, HL0⟩
  case round =>
    clear HL0
    obtain ⟨k, v, hk, rfl, rfl, hv, HL⟩ := hrel
    subst hv
    have HTR : Hid (TAt wr T B n q f) := HT.out.stay HL.out.1 (by have := HT.out.lt; omega) (by have := HT.out.ltB; omega)
    have t0 := HTR.out.c0
    by_cases hlt : k < n
    · have kn : (k : Int) < (n : Nat) := by omega
      obtain ⟨p, hp⟩ : ∃ p, p = pl B (f k) := ⟨_, rfl⟩
      have hpb := HTR.out.at hlt
      rw [← hp] at hpb
      have HPB := hide' hpb
      have hX : isPl p env = isOf f env k := by rw [hp]; exact isPl_of B (HTR.out.ok.1 k hlt) env
      obtain ⟨b, hb⟩ : ∃ b, b = isOf f env k := ⟨_, rfl⟩
      rw [← hb] at hX
      have HX := hide' hX
      have HB := hide' hb
      clear hp hpb hX hb
      cases b
      · go_wp2_with fail
        refine (isof40 B (k * 6) p env _ HPB.out).mono ?_
        rintro _ w1 ⟨rfl, hs⟩
        rw [HX.out]
        have HN : Hid (Stay (fun k => w.heap.size ≤ k) w w1 ∧ w1.ownsRow w.heap.size 62 1 v (ixs (isOf f env) (k + 1)).length (ptrs B (ixs (isOf f env) (k + 1)))) := by
          have e : ixs (isOf f env) (k + 1) = ixs (isOf f env) k := by
            show _ ++ _ = _
            rw [if_neg (by rw [← HB.out]; decide), List.append_nil]
          rw [e]
          exact ⟨HL.out.1.trans (hs.mono (fun _ _ h => h.elim)), hs.owns HL.out.2 (fun _ _ h => h)⟩
        clear HL hs t0
        go_wp2
        go_roundg (n - (k + 1))
        case measure => omega
        case rel => exact ⟨k + 1, _, by omega, rfl, by go_num, rfl, HN⟩
      · have hlen := ixs_len (isOf f env) k
        have hcl := cnt_le (isOf f env) k
        obtain ⟨ln, hln⟩ : ∃ l, l = (ixs (isOf f env) k).length := ⟨_, rfl⟩
        have HNM : Hid (ln + 1 ≤ 1000000) := by show ln + 1 ≤ 1000000; omega
        have HLN := hide' hln
        have HE : Hid (ixs (isOf f env) (k + 1) = ixs (isOf f env) k ++ [k]) := by
          show _ ++ _ = _
          rw [if_pos HB.out.symm]
        clear hlen hcl hln
        go_wp2_with fail
        refine (isof40 B (k * 6) p env _ HPB.out).mono ?_
        rintro _ w1 ⟨rfl, hs⟩
        rw [HX.out]
        have hst : Stay (fun _ => False) w1 (w1.alloc (.cells #[.pointer (some ⟨B, k * 6, none⟩)] 62)) := (Stay.refl _ _).alloc _
        have HST := hide' ((HL.out.1.trans (hs.mono (fun _ _ h => h.elim))).trans (hst.mono (T := fun k => w.heap.size ≤ k) (fun _ _ h => h.elim)))
        have HO : Hid ((w1.alloc (.cells #[.pointer (some ⟨B, k * 6, none⟩)] 62)).ownsRow w.heap.size 62 1 v ln (ptrs B (ixs (isOf f env) k))) := by
          have := hst.owns (hs.owns HL.out.2 (fun _ _ h => h)) (fun _ _ h => h)
          rwa [← HLN.out] at this
        have HSRC := hide' (isRowS_new w1 #[.pointer (some ⟨B, k * 6, none⟩)] 62 1 1 rfl)
        have HON : Hid (∀ u ∈ [Value.pointer (some ⟨B, k * 6, none⟩)], u.oneCell' = true) := by
          intro u hu
          simp only [List.mem_cons, List.not_mem_nil, or_false] at hu
          subst hu
          rfl
        have HBS : Hid (w.heap.size ≤ (w1.alloc (.cells #[.pointer (some ⟨B, k * 6, none⟩)] 62)).heap.size) := HST.out.size
        have t0' := keep_cell hs t0
        clear hst HL hs t0
        go_wp2_with (at_builtin; go_must (refine appS rfl _ _ 82 rfl Try.underlying82 info62 rfl (by decide) (by decide) HO.out rfl HSRC.out rfl HON.out HNM.out HBS.out ?_; intro v5 W5 ho hst hb; have HS5 : Hid (Stay (fun k => w.heap.size ≤ k) w W5 ∧ W5.ownsRow w.heap.size 62 1 v5 (ixs (isOf f env) (k + 1)).length (ptrs B (ixs (isOf f env) (k + 1)))) := ⟨HST.out.trans (hst.mono (fun j _ e => (HO.out.lt j e).1)), by rw [HE.out, List.length_append, ← HLN.out]; unfold ptrs; rw [List.map_append]; exact ho⟩; clear ho hst hb HO HST HSRC t0'))
        go_roundg (n - (k + 1))
        case measure => omega
        case rel => exact ⟨k + 1, _, by omega, rfl, by go_num, rfl, HS5⟩
    · have hkn : k = n := by omega
      subst hkn
      go_wp2
      go_ret
      exact ⟨_, rfl, HL.out.1.mono (fun j hj h => by omega), HL.out.2⟩

theorem count23_nil (env : Int) (w : World) : Calls Try.prog 23 #[.pointer none, .int .i64 env] w (Gives (.int .i64 0) w) := by
  go_enter Try.func23, Try.ntmps23
  go_wp2_with fail
  refine (all41_nil env w).mono ?_
  rintro _ w1 ⟨rfl, hs⟩
  have HS := hide' hs
  clear hs
  go_wp2
  go_ret
  exact ⟨rfl, HS.out⟩

theorem owns_slice {w : World} {base e n : Nat} {v : Value} {xs : List Value} (h : w.ownsRow base e 1 v n xs) : ∃ ad cp, v = .slice ad n cp := by
  rcases h.2 with ⟨rfl, h0⟩ | ⟨g, cap, cur, rfl, _⟩
  · exact ⟨none, 0, by rw [h0]⟩
  · exact ⟨_, cap, rfl⟩

theorem count23 (T B n : Nat) (q : Int) (f : Nat → Sl) (env : Int) (w : World) (ht : TAt w T B n q f) : Calls Try.prog 23 #[.pointer (some ⟨T, 0, none⟩), .int .i64 env] w (Gives (.int .i64 (cnt (isOf f env) n : Nat)) w) := by
  have HT := hide' ht
  clear ht
  go_enter Try.func23, Try.ntmps23
  go_wp2_with fail
  refine (all41 T B n q f env _ HT.out).mono ?_
  rintro _ w1 ⟨v, rfl, hs, ho⟩
  obtain ⟨ad, cp, rfl⟩ := owns_slice ho
  rw [ixs_len] 
  have HS := hide' hs
  clear hs ho
  go_wp2
  go_ret
  exact ⟨rfl, HS.out⟩

end Go.Proofs.Ytlhfpnfiamgmlaa
