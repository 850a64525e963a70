/-
  Much comes in, line by line or raw: plain. No conditions.
-/
import Derived.Test.YtkggmjjjopfdbaaP5
namespace Go.Proofs.Ytkggmjjjopfdbaa
open Go.RowKit
open L17

theorem lost_84 (d : DS) (h : d.t.fi = 84) : d.lost = d.out [7] := by
  have e : d.inp 64 = true := by show hasB d.t.fi 64 = true; rw [h]; decide
  unfold DS.lost
  rw [if_pos e]

theorem type_full (L : List Int) (Ls : List (List Int)) (e : List Int) (c : Int) (h0 : 32 ≤ c) (h1 : c < 127) (hl : 254 ≤ L.length) : (pd 623 L Ls false e).input c = (pd 623 L Ls false [7], 0) := by
  obtain ⟨b0, b1, b2, b3, b4, b5, b6, b7, b8, b9, b10, b11⟩ := isB_pl_all 623 c (cc_pl 623 c h0 h1) (by omega)
  rw [input_pd 623 L Ls e c (by omega) (by omega) b10 b11, sig_pd 623 L Ls [] c b0 b1 b2 fl_623, canon_eq]
  have tt : (pd 623 L Ls false []).t = pl 623 := rfl
  rw [tt, b9, b7, b8, b5, b6, b3]
  simp only [Bool.and_false, Bool.or_self, Bool.false_eq_true, if_false]
  have hen : (pd 623 L Ls false []).ends c = false := by
    unfold DS.ends
    rw [tt, b4]
    simp
    omega
  have hr : (pd 623 L Ls false []).room c = false := by
    unfold DS.room
    have l1 : (pd 623 L Ls false []).loc 1 = true := fl_623.a1
    have d1 : decide ((pd 623 L Ls false []).line.length < 254) = false := decide_eq_false (by show ¬ L.length < 254; omega)
    rw [l1, d1, hen]
    rfl
  unfold DS.enter
  rw [hen, if_neg (by simp)]
  unfold DS.put
  rw [hr, if_neg (by simp), lost_84 _ rfl]
  rfl

theorem newline_any (L : List Int) (Ls : List (List Int)) (e : List Int) (hl : L.length ≤ 254) : ∃ e', (pd 623 L Ls false e).input 10 = (pd 623 [] (if Ls.flatten.length + L.length + 1 ≤ 1024 then Ls ++ [L ++ [10]] else Ls) false e', 0) := by
  have b : ∀ k : Nat, k < 12 → isB (pl 623) (k : Int) 10 = false := fun k hk => by
    have : k = 0 ∨ k = 1 ∨ k = 2 ∨ k = 3 ∨ k = 4 ∨ k = 5 ∨ k = 6 ∨ k = 7 ∨ k = 8 ∨ k = 9 ∨ k = 10 ∨ k = 11 := by omega
    rcases this with rfl | rfl | rfl | rfl | rfl | rfl | rfl | rfl | rfl | rfl | rfl | rfl <;> rfl
  rw [input_pd 623 _ Ls e 10 (by decide) (by decide) (b 10 (by decide)) (b 11 (by decide)), sig_pd 623 _ Ls [] 10 (b 0 (by decide)) (b 1 (by decide)) (b 2 (by decide)) fl_623, canon_eq]
  have tt : (pd 623 L Ls false []).t = pl 623 := rfl
  have b9 : isB (pl 623) 9 10 = false := b 9 (by decide)
  have b7 : isB (pl 623) 7 10 = false := b 7 (by decide)
  have b8 : isB (pl 623) 8 10 = false := b 8 (by decide)
  have b5 : isB (pl 623) 5 10 = false := b 5 (by decide)
  have b6 : isB (pl 623) 6 10 = false := b 6 (by decide)
  have b3 : isB (pl 623) 3 10 = false := b 3 (by decide)
  rw [tt, b9, b7, b8, b5, b6, b3]
  simp only [Bool.and_false, Bool.or_self, Bool.false_eq_true, if_false]
  have hen : (pd 623 L Ls false []).ends 10 = true := rfl
  have l1 : ∀ L Ls x e, (pd 623 L Ls x e).loc 1 = true := fun _ _ _ _ => fl_623.a1
  have l2 : ∀ L Ls x e, (pd 623 L Ls x e).loc 2 = true := fun _ _ _ _ => fl_623.a2
  have hr : (pd 623 L Ls false []).room 10 = true := by
    unfold DS.room
    have d2 : decide ((pd 623 L Ls false []).line.length < 255) = true := decide_eq_true (by show L.length < 255; omega)
    rw [l1, hen, d2]
    simp
  have hput : (pd 623 L Ls false []).put 10 = pd 623 (L ++ [10]) Ls false [10] := by
    unfold DS.put
    rw [if_pos hr]
    have hlay : (pd 623 L Ls false []).lay 10 = pd 623 (L ++ [10]) Ls false [] := by unfold DS.lay; rw [if_pos (l1 _ _ _ _)]; rfl
    rw [hlay]
    have hnl : (pd 623 (L ++ [10]) Ls false []).nl 10 = pd 623 (L ++ [10]) Ls false [] := by
      unfold DS.nl
      rw [if_neg (fun k => by have := k.2.2.1; rw [show (pd 623 (L ++ [10]) Ls false []).loc 16 = false from fl_623.a16] at this; cases this)]
    rw [hnl]
    unfold DS.shw
    rw [if_pos (l2 _ _ _ _)]
    have hp : (pd 623 (L ++ [10]) Ls false []).pic 10 = [10] := by
      unfold DS.pic
      rw [if_neg (fun k => k.2.2.2 rfl), if_neg (fun k => by have := k.2; cases this)]
    rw [hp]
    rfl
  unfold DS.enter
  rw [if_pos ⟨hr, hen⟩, hput]
  unfold DS.ready
  have hc : ((pd 623 (L ++ [10]) Ls false [10]).setLine []).cnt = Ls.flatten.length := by show 0 + Ls.flatten.length = _; omega
  have hll : (pd 623 (L ++ [10]) Ls false [10]).line.length = L.length + 1 := by show (L ++ [10]).length = _; simp
  rw [hc, hll]
  by_cases hs : Ls.flatten.length + L.length + 1 ≤ 1024
  · rw [if_neg (by omega), if_pos hs]
    exact ⟨[10], rfl⟩
  · rw [if_pos (by omega), if_neg hs, lost_84 _ rfl]
    exact ⟨[10, 7], rfl⟩

/-- A discipline without Icanon. -/
def pw (R : List Int) (e : List Int) : DS := ⟨pl 0, [], [], R, false, false, e⟩

theorem raw_pw (R : List Int) (e : List Int) (c : Int) (hc : c = 10 ∨ (32 ≤ c ∧ c < 127)) : (pw R e).input c = if R.length < 1024 then (pw (R ++ [c]) [], 0) else (pw R [7], 0) := by
  have hb : isB (pl 0) 10 c = false ∧ isB (pl 0) 11 c = false := by
    rcases hc with rfl | ⟨h0, h1⟩
    · exact ⟨rfl, rfl⟩
    · obtain ⟨_, _, _, _, _, _, _, _, _, _, b10, b11⟩ := isB_pl_all 0 c (cc_pl 0 c h0 h1) (by omega)
      exact ⟨b10, b11⟩
  have hm : mapI 84 c = c := mapI_84 c (by omega)
  have hx : (pw R e).nxt = false := rfl
  unfold DS.input
  simp only
  rw [if_neg (by rw [hx]; simp)]
  have hm2 : mapI (pw R e).t.fi c = c := hm
  rw [hm2, if_neg (by omega)]
  show (pw R []).mapped c = _
  rw [mapped_eq]
  have e10 : isB (pw R []).t 10 c = false := hb.1
  have e11 : isB (pw R []).t 11 c = false := hb.2
  have i32 : (pw R []).inp 32 = false := by show hasB 84 32 = false; decide
  rw [e10, e11, i32]
  simp only [Bool.or_self, Bool.and_false, Bool.false_eq_true, if_false]
  have l0 : ∀ R e f, (pw R e).loc f = false := fun R e f => by
    show hasB 0 f = false
    unfold hasB
    have : bits .and .i64 0 f = 0 := by
      show IntKind.i64.wrap ((BitVec.ofInt 64 0 &&& BitVec.ofInt 64 f).toNat : Nat) = 0
      rw [show BitVec.ofInt 64 0 = 0#64 by decide]
      simp
      decide
    rw [this]; rfl
  unfold DS.plainIn
  rw [sig_off _ _ (l0 _ _ _), if_neg (by omega), if_pos (l0 _ _ _)]
  have hr : (pw R []).room c = decide (R.length < 1024) := by
    unfold DS.room
    rw [l0]
    rfl
  unfold DS.put
  rw [hr]
  by_cases h : R.length < 1024
  · rw [if_pos h, decide_eq_true h, if_pos rfl]
    have hlay : (pw R []).lay c = pw (R ++ [c]) [] := by unfold DS.lay; rw [if_neg (by rw [l0]; simp)]; rfl
    have hnl : (pw (R ++ [c]) []).nl c = pw (R ++ [c]) [] := by unfold DS.nl; rw [if_neg (fun k => by have := k.2.1; rw [l0] at this; cases this)]
    have hsh : (pw (R ++ [c]) []).shw c = pw (R ++ [c]) [] := by unfold DS.shw; rw [if_neg (by rw [l0]; simp)]
    rw [hlay, hnl, hsh]
  · rw [if_neg h, decide_eq_false h, if_neg (by simp), lost_84 _ rfl]
    rfl

theorem right_0 : rightB (pl 0) = true := by decide +kernel

/-- One, if it is so. -/
def o1 (x : Bool) : Nat := if x = true then 1 else 0

/-- What stands when i times, and k bytes more, came in. -/
def Lg (canon nl : Bool) (i k R : Nat) (d : DS) : Prop :=
  R ≤ 300 * i + k ∧
  if canon = true then ∃ L Ls, d = pd 623 L Ls false [] ∧ L.length ≤ 254 ∧ Ls.flatten.length ≤ 1024 ∧ Ls.length ≤ i ∧ (k ≤ 254 → k ≤ L.length) ∧ (254 < k → L.length = 254) ∧ ((255 ≤ k ∨ 1 ≤ i) → 1 ≤ R)
  else ∃ Rw, d = pw Rw [] ∧ Rw.length = min 1024 (i * (300 + o1 nl) + k)

theorem lg_start (canon nl : Bool) : Lg canon nl 0 0 0 (if canon = true then pd 623 [] [] false [] else pw [] []) := by
  refine ⟨by omega, ?_⟩
  cases canon
  · rw [if_neg (by simp)]
    exact ⟨[], by simp, by simp⟩
  · rw [if_pos rfl]
    exact ⟨[], [], by simp, by simp, by simp, by simp, fun h => by omega, fun h => by omega, fun h => by omega⟩

theorem lg_ok {canon nl : Bool} {i k R : Nat} {d : DS} (h : Lg canon nl i k R d) (e : List Int) : Ok i (d.setEc e) := by
  obtain ⟨_, h⟩ := h
  cases canon
  · rw [if_neg (by simp)] at h
    obtain ⟨Rw, rfl, hR⟩ := h
    exact ⟨right_0, by show 0 ≤ 255; omega, by show Rw.length ≤ 1279; omega, by show 0 ≤ 1024; omega, by show 0 ≤ i; omega, fun hq => Bool.noConfusion ((show hasB 0 1 = false by decide).symm.trans hq), fun _ => ⟨rfl, rfl⟩⟩
  · rw [if_pos rfl] at h
    obtain ⟨L, Ls, rfl, h1, h2, h3, _⟩ := h
    exact ok_pd 623 fl_623 right_623 L Ls false e i (by omega) h2 h3

theorem lg_line {canon nl : Bool} {i k R : Nat} {d : DS} (h : Lg canon nl i k R d) : d.line.length ≤ 254 ∧ d.cnt ≤ 1024 ∧ (canon = false → d.cnt = min 1024 (i * (300 + o1 nl) + k)) := by
  obtain ⟨_, h⟩ := h
  cases canon
  · rw [if_neg (by simp)] at h
    obtain ⟨Rw, rfl, hR⟩ := h
    refine ⟨by show 0 ≤ 254; omega, by show Rw.length + 0 ≤ 1024; omega, fun _ => by show Rw.length + 0 = _; omega⟩
  · rw [if_pos rfl] at h
    obtain ⟨L, Ls, rfl, h1, h2, h3, _⟩ := h
    exact ⟨h1, by show 0 + Ls.flatten.length ≤ 1024; omega, fun hc => by cases hc⟩

theorem lg_type {canon nl : Bool} {i k R : Nat} {d : DS} (h : Lg canon nl i k R d) (c : Int) (h0 : 97 ≤ c) (h1 : c ≤ 122) : ((d.input c).1.ec = [7] ∧ Lg canon nl i (k + 1) (R + 1) ((d.input c).1.setEc [])) ∨ (((d.input c).1.ec = [c] ∨ (d.input c).1.ec = []) ∧ Lg canon nl i (k + 1) R ((d.input c).1.setEc [])) := by
  obtain ⟨hR, h⟩ := h
  cases canon
  · rw [if_neg (by simp)] at h
    obtain ⟨Rw, rfl, hl⟩ := h
    rw [raw_pw Rw [] c (.inr ⟨by omega, by omega⟩)]
    by_cases hf : Rw.length < 1024
    · rw [if_pos hf]
      refine .inr ⟨.inr rfl, by omega, ?_⟩
      rw [if_neg (by simp)]
      exact ⟨Rw ++ [c], rfl, by rw [List.length_append, List.length_singleton]; omega⟩
    · rw [if_neg hf]
      refine .inl ⟨rfl, by omega, ?_⟩
      rw [if_neg (by simp)]
      exact ⟨Rw, rfl, by omega⟩
  · rw [if_pos rfl] at h
    obtain ⟨L, Ls, rfl, k1, k2, k3, k4, k5, k6⟩ := h
    by_cases hf : L.length < 254
    · rw [type_pd 623 fl_623 L Ls [] c (by omega) (by omega) hf]
      refine .inr ⟨.inl rfl, by omega, ?_⟩
      rw [if_pos rfl]
      exact ⟨L ++ [c], Ls, rfl, by rw [List.length_append, List.length_singleton]; omega, k2, k3, fun hk => by rw [List.length_append, List.length_singleton]; omega, fun hk => by rw [List.length_append, List.length_singleton]; omega, fun hk => by
        rcases hk with hk | hk
        · exfalso
          by_cases e : k = 254
          · have := k4 (by omega); omega
          · have := k5 (by omega); omega
        · exact k6 (.inr hk)⟩
    · rw [type_full L Ls [] c (by omega) (by omega) (by omega)]
      refine .inl ⟨rfl, by omega, ?_⟩
      rw [if_pos rfl]
      exact ⟨L, Ls, rfl, k1, k2, k3, fun hk => by omega, fun hk => by omega, fun _ => by omega⟩

theorem lg_next {canon : Bool} {i R : Nat} {d : DS} (h : Lg canon false i 300 R d) : Lg canon false (i + 1) 0 R d := by
  obtain ⟨hR, h⟩ := h
  refine ⟨by omega, ?_⟩
  cases canon
  · rw [if_neg (by simp)] at h ⊢
    obtain ⟨Rw, rfl, hl⟩ := h
    refine ⟨Rw, rfl, ?_⟩
    have : o1 false = 0 := rfl
    rw [this] at hl ⊢
    omega
  · rw [if_pos rfl] at h ⊢
    obtain ⟨L, Ls, rfl, k1, k2, k3, k4, k5, k6⟩ := h
    exact ⟨L, Ls, rfl, k1, k2, by omega, fun _ => by omega, fun hk => by omega, fun _ => k6 (.inl (by omega))⟩

theorem lg_nl {canon : Bool} {i R : Nat} {d : DS} (h : Lg canon true i 300 R d) : Lg canon true (i + 1) 0 R ((d.input 10).1.setEc []) := by
  obtain ⟨hR, h⟩ := h
  refine ⟨by omega, ?_⟩
  cases canon
  · rw [if_neg (by simp)] at h ⊢
    obtain ⟨Rw, rfl, hl⟩ := h
    have ho : o1 true = 1 := rfl
    rw [ho] at hl ⊢
    rw [raw_pw Rw [] 10 (.inl rfl)]
    by_cases hf : Rw.length < 1024
    · rw [if_pos hf]
      exact ⟨Rw ++ [10], rfl, by rw [List.length_append, List.length_singleton]; omega⟩
    · rw [if_neg hf]
      exact ⟨Rw, rfl, by omega⟩
  · rw [if_pos rfl] at h ⊢
    obtain ⟨L, Ls, rfl, k1, k2, k3, k4, k5, k6⟩ := h
    obtain ⟨e', he⟩ := newline_any L Ls [] k1
    rw [he]
    refine ⟨[], (if Ls.flatten.length + L.length + 1 ≤ 1024 then Ls ++ [L ++ [10]] else Ls), rfl, by simp, ?_, ?_, fun hk => by omega, fun hk => by omega, fun _ => k6 (.inl (by omega))⟩
    · split
      · rw [List.flatten_append, List.length_append]; simp; simp at *; omega
      · exact k2
    · split
      · rw [List.length_append, List.length_singleton]; omega
      · omega

theorem lg_rings {nl : Bool} {i R : Nat} {d : DS} (h : Lg true nl i 0 R d) (hi : 1 ≤ i) : 1 ≤ R := by
  obtain ⟨_, h⟩ := h
  rw [if_pos rfl] at h
  obtain ⟨L, Ls, _, _, _, _, _, _, k6⟩ := h
  exact k6 (.inr hi)

end Go.Proofs.Ytkggmjjjopfdbaa
