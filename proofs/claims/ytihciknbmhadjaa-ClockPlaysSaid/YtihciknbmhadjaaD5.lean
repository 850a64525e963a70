/-
  A timer comes behind all, or among others: walked. No conditions.
-/
import Derived.Test.YtihciknbmhadjaaD4
namespace Go.Proofs.Ytihciknbmhadjaa
open Go.RowKit

/-- One is appended. -/
theorem append_end (a : Option Addr) (n cap vb : Nat) (L : List Tm) (p : Tm) (w : World) (h : Ws w a n cap L) (hm : n ≤ 2048) (hv : TBox w vb p) :
    ∃ v' w', (Builtin.append_ #[26, 26] 26 #[.slice a n cap, .slice (some ⟨vb, 0, none⟩) 1 1]).run Try.prog w = .ok v' w' ∧ Wv w' v' (L ++ [p]) ∧ Stay (fun j => (Value.slice a n cap).ownBlock = some j) w w' ∧ ∀ j, v'.ownBlock = some j → (Value.slice a n cap).ownBlock = some j ∨ w.heap.size ≤ j := by
  obtain ⟨ii, hii, hzz⟩ := Option.map_eq_some_iff.1 info35
  simp only [Prod.mk.injEq] at hzz
  obtain ⟨g1, g2, g3⟩ := hzz
  have hsrc : ∀ j u, p.parts[j]? = some u → w.cell? ((⟨vb, 0, none⟩ : Addr).add j) = some u := fun j u hu => by rw [addr_add]; exact hv.cells j u hu
  have hlen : (L ++ [p]).length = n + 1 := by rw [List.length_append, h.1]; rfl
  have e1 : wc L ++ p.parts = wc (L ++ [p]) := by rw [wc_append]; simp [wc]
  have fin : ∀ v' w', w'.ownsRow w.heap.size 35 3 v' (n + 1) (wc (L ++ [p])) → Stay (fun _ => False) w w' → Wv w' v' (L ++ [p]) ∧ Stay (fun j => (Value.slice a n cap).ownBlock = some j) w w' ∧ ∀ j, v'.ownBlock = some j → (Value.slice a n cap).ownBlock = some j ∨ w.heap.size ≤ j := by
    intro v' w' ho hs
    have hlo := ho.lt
    obtain ⟨a', cap', rfl, hw, _⟩ := Ws.of_owns ho
    refine ⟨⟨a', cap', by rw [hlen], by rw [hlen]; exact hw, fun e => by have := hw.2.1; omega⟩, hs.mono (fun _ _ h => h.elim), fun j hj => .inr (hlo j hj).1⟩
  rcases h.2.2.2 with ⟨rfl, rfl⟩ | ⟨g, rfl, hg, hr, ht⟩
  · have h1 := h.1; have h2 := h.2.1
    obtain rfl : n = 0 := by omega
    obtain rfl : L = [] := List.eq_nil_of_length_eq_zero h1
    obtain ⟨v', w', hr, h2, h3, _, _⟩ := run_append_own_at (P := Try.prog) w w.heap.size 26 26 35 ii _ ii.size ii.bytes Try.underlying26 hii g1 rfl rfl (by rw [g2]; rfl) (by rw [g2]; decide) (.slice none 0 0) 0 [] (World.ownsRow_nil w _ 35 ii.size) ⟨vb, 0, none⟩ 1 1 p.parts (by rw [g2]; rfl) hsrc p.parts_one (by unfold maxLen; omega) (by rw [g3]; omega) (Nat.le_refl _)
    rw [g2, List.nil_append, Nat.zero_add] at h2
    have e2 : p.parts = wc ([] ++ [p]) := by simp [wc]
    rw [e2] at h2
    exact ⟨v', w', hr, fin v' w' h2 ((Stay.refl _ w).grown h3 (fun k hk _ => by cases hk))⟩
  · by_cases hc : n + 1 ≤ cap
    · have hth : w.there g (n * 3) 3 := there_part ht (by omega)
      have hrun := run_append_room_cells (P := Try.prog) w 26 26 35 ii Try.underlying26 hii g 0 n cap ⟨vb, 0, none⟩ 1 1 p.parts (by rw [g2]; rfl) hsrc p.parts_one (by omega)
        (fun j hj => by rw [g2, Nat.zero_add]; exact (hth j hj).1) (fun j hj => by rw [g2, Nat.zero_add]; exact (hth j hj).2)
      rw [g2, Nat.zero_add] at hrun
      have hst : Stay (fun j => j = g) w (w.setCells g (n * 3) p.parts) := (Stay.refl (fun j => j = g) w).setCells g _ _ rfl
      have hp := range_patch (k := n * 3) (ys := p.parts) hr (by rw [wc_length, h.1]; exact Nat.le_refl _) hth
      rw [List.take_of_length_le (by rw [wc_length, h.1]; exact Nat.le_refl _), List.drop_of_length_le (by rw [wc_length, h.1]; omega), List.append_nil, e1] at hp
      exact ⟨_, _, hrun, ⟨_, cap, by rw [hlen], ⟨rfl, by rw [hlen]; exact hc, h.2.2.1, .inr ⟨g, rfl, Nat.lt_of_lt_of_le hg hst.size, hp, World.there_setCells ht _ _ _⟩⟩, fun e => by omega⟩, hst.mono (fun j _ e => by rw [e]; rfl), fun j hj => .inl hj⟩
    · obtain ⟨v', w', hrun, h2, h5⟩ := run_append_arg_grows (P := Try.prog) w 26 26 35 ii _ ii.size ii.bytes Try.underlying26 hii g1 rfl rfl (by rw [g2]; rfl) (by rw [g2]; decide) ⟨g, 0, none⟩ n cap (wc L) (by rw [g2, wc_length, h.1]) (fun j u hu => by rw [addr_add]; exact hr j u hu) ⟨vb, 0, none⟩ 1 1 p.parts (by rw [g2]; rfl) hsrc (by omega) (by unfold maxLen; omega) (by rw [g3]; omega)
      rw [g2, e1] at h2
      exact ⟨v', w', hrun, fin v' w' h2 ((Stay.refl _ w).grown h5 (fun k hk _ => by cases hk))⟩

theorem insert33_end_eq (a : Option Addr) (n vb : Nat) (L : List Tm) (p : Tm) (w : World) (h : Ws w a n n L) (hm : n ≤ 2048) (hv : TBox w vb p) :
    Calls Try.prog 33 #[.slice a n n, .int .i64 (n : Nat), .slice (some ⟨vb, 0, none⟩) 1 1] w (InsOut L p n (.slice a n n) w) := by
  obtain ⟨v', w', hrun, hf⟩ := append_end a n n vb L p w h hm hv
  have HAP := hide' hrun
  have e : L.take n ++ p :: L.drop n = L ++ [p] := by rw [List.take_of_length_le (by rw [h.1]; exact Nat.le_refl _), List.drop_of_length_le (by rw [h.1]; exact Nat.le_refl _)]
  have HF := hide' hf
  have HE := hide' e
  have hz5 : (n : Int) ≤ 2048 := by omega
  have hz6 : (n : Int) ≤ (n : Nat) := by have := h.2.1; omega
  clear h hv hrun hf e
  go_enter Try.func33, Try.ntmps33
  go_wp2_with (at_builtin; go_must (refine Lib.wpList_append_run _ rfl _ _ 26 26 rfl _ _ rfl rfl _ _ HAP.out ?_))
  go_ret
  exact ⟨v', rfl, by rw [HE.out]; exact HF.out.1, HF.out.2⟩

theorem insert33_end_ne (a : Option Addr) (n cap vb : Nat) (L : List Tm) (p : Tm) (w : World) (h : Ws w a n cap L) (hc : ¬ cap = n) (hm : n ≤ 2048) (hv : TBox w vb p) :
    Calls Try.prog 33 #[.slice a n cap, .int .i64 (n : Nat), .slice (some ⟨vb, 0, none⟩) 1 1] w (InsOut L p n (.slice a n cap) w) := by
  obtain ⟨v', w', hrun, hf⟩ := append_end a n cap vb L p w h hm hv
  have HAP := hide' hrun
  have e : L.take n ++ p :: L.drop n = L ++ [p] := by rw [List.take_of_length_le (by rw [h.1]; exact Nat.le_refl _), List.drop_of_length_le (by rw [h.1]; exact Nat.le_refl _)]
  have HF := hide' hf
  have HE := hide' e
  have hz5 : (n : Int) ≤ 2048 := by omega
  have hz6 : (n : Int) ≤ (cap : Nat) := by have := h.2.1; omega
  clear h hv hrun hf e
  go_enter Try.func33, Try.ntmps33
  go_wp2_with (at_builtin; go_must (refine Lib.wpList_append_run _ rfl _ _ 26 26 rfl _ _ rfl rfl _ _ HAP.out ?_))
  go_ret
  exact ⟨v', rfl, by rw [HE.out]; exact HF.out.1, HF.out.2⟩

theorem insert33 (v : Value) (vb i : Nat) (L : List Tm) (p : Tm) (w : World) (h : Wv w v L) (hi : i ≤ L.length) (hm : L.length ≤ 2048) (hv : TBox w vb p) (hz : ∃ c e, w.heap[vb]? = some (.cells c e)) (hne : v.ownBlock ≠ some vb) :
    Calls Try.prog 33 #[v, .int .i64 (i : Nat), .slice (some ⟨vb, 0, none⟩) 1 1] w (InsOut L p i v w) := by
  obtain ⟨a, cap, rfl, hw, h0⟩ := h
  by_cases hin : i = L.length
  · subst hin
    by_cases hc : cap = L.length
    · subst hc
      exact insert33_end_eq a L.length vb L p w hw hm hv
    · exact insert33_end_ne a L.length cap vb L p w hw hc hm hv
  · rcases hw.2.2.2 with ⟨rfl, rfl⟩ | ⟨g, rfl, _⟩
    · have := hw.2.1; omega
    · have hne' : vb ≠ g := fun e => hne (by rw [e]; rfl)
      have h2 := hw.2.1
      by_cases hr : L.length + 1 ≤ cap
      · exact insert33_shift g L.length cap vb i L p w hw (by omega) hr hm hv hz hne'
      · obtain rfl : cap = L.length := by omega
        exact insert33_grow g L.length vb i L p w hw (by omega) hm hv

end Go.Proofs.Ytihciknbmhadjaa
