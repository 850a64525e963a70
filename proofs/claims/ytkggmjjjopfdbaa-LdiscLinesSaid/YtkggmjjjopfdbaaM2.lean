/-
  What plain bytes, a newline, an erase and a signal do in the plain setting: plain. No conditions.
-/
import Derived.Test.YtkggmjjjopfdbaaP2
namespace Go.Proofs.Ytkggmjjjopfdbaa
open Go.RowKit
open L17

/-- The plain setting, with other local flags. -/
def pl (f : Int) : Tm := ⟨84, 3, f, 3, 28, 26, 4, 0, 127, 21, 23, 18, 22, 17, 19, 1, 0⟩

theorem plain_pl : plainT = pl 623 := rfl

/-- A discipline at the plain setting. -/
def pd (f : Int) (L : List Int) (Ls : List (List Int)) (x : Bool) (e : List Int) : DS := ⟨pl f, L, Ls, [], false, x, e⟩

theorem fresh_pd : fresh plainT = pd 623 [] [] false [] := rfl

theorem isB_pl (f : Int) (k : Nat) (_hk : k < 12) (c : Int) (_hc : ¬ c = 0) (h : ¬ (pl f).cc k = c) : isB (pl f) (k : Int) c = false := by
  have h1 : ((pl f).cc ((k : Int).toNat) == c) = false := by
    show ((pl f).cc k == c) = false
    simpa using h
  show (decide (0 ≤ (k : Int)) && decide ((k : Int) < 12) && !(c == 0) && ((pl f).cc ((k : Int).toNat) == c)) = false
  rw [h1, Bool.and_false]

theorem isB_pl_all (f c : Int) (h : ∀ k : Nat, k < 12 → ¬ (pl f).cc k = c) (hc : ¬ c = 0) :
    isB (pl f) 0 c = false ∧ isB (pl f) 1 c = false ∧ isB (pl f) 2 c = false ∧ isB (pl f) 3 c = false ∧ isB (pl f) 4 c = false ∧ isB (pl f) 5 c = false ∧ isB (pl f) 6 c = false ∧ isB (pl f) 7 c = false ∧ isB (pl f) 8 c = false ∧ isB (pl f) 9 c = false ∧ isB (pl f) 10 c = false ∧ isB (pl f) 11 c = false :=
  ⟨isB_pl f 0 (by decide) c hc (h 0 (by decide)), isB_pl f 1 (by decide) c hc (h 1 (by decide)), isB_pl f 2 (by decide) c hc (h 2 (by decide)), isB_pl f 3 (by decide) c hc (h 3 (by decide)), isB_pl f 4 (by decide) c hc (h 4 (by decide)), isB_pl f 5 (by decide) c hc (h 5 (by decide)), isB_pl f 6 (by decide) c hc (h 6 (by decide)), isB_pl f 7 (by decide) c hc (h 7 (by decide)), isB_pl f 8 (by decide) c hc (h 8 (by decide)), isB_pl f 9 (by decide) c hc (h 9 (by decide)), isB_pl f 10 (by decide) c hc (h 10 (by decide)), isB_pl f 11 (by decide) c hc (h 11 (by decide))⟩

theorem cc_pl (f c : Int) (h0 : 32 ≤ c) (h1 : c < 127) : ∀ k : Nat, k < 12 → ¬ (pl f).cc k = c := by
  intro k hk
  have : k = 0 ∨ k = 1 ∨ k = 2 ∨ k = 3 ∨ k = 4 ∨ k = 5 ∨ k = 6 ∨ k = 7 ∨ k = 8 ∨ k = 9 ∨ k = 10 ∨ k = 11 := by omega
  rcases this with rfl | rfl | rfl | rfl | rfl | rfl | rfl | rfl | rfl | rfl | rfl | rfl
  · show ¬ (3 : Int) = c; omega
  · show ¬ (28 : Int) = c; omega
  · show ¬ (26 : Int) = c; omega
  · show ¬ (4 : Int) = c; omega
  · show ¬ (0 : Int) = c; omega
  · show ¬ (127 : Int) = c; omega
  · show ¬ (21 : Int) = c; omega
  · show ¬ (23 : Int) = c; omega
  · show ¬ (18 : Int) = c; omega
  · show ¬ (22 : Int) = c; omega
  · show ¬ (17 : Int) = c; omega
  · show ¬ (19 : Int) = c; omega

theorem low_84 (c : Int) : low 84 c = c := by
  have h : hasB 84 1 = false := by decide
  unfold low; rw [h]; rfl

theorem mapI_84 (c : Int) (h : ¬ c = 13) : mapI 84 c = c := by
  unfold mapI
  rw [low_84, if_neg (fun k => h k.1), if_neg (fun k => h k.1)]
  have h8 : hasB 84 8 = false := by decide
  rw [if_neg (fun k => by rw [h8] at k; cases k.2)]

/-- The local flags of the two plain settings. -/
structure Fl (f : Int) : Prop where
  a1 : hasB f 1 = true
  a2 : hasB f 2 = true
  a4 : hasB f 4 = true
  a8 : hasB f 8 = true
  a16 : hasB f 16 = false
  a32 : hasB f 32 = true
  a64 : hasB f 64 = true
  a512 : hasB f 512 = true

theorem fl_623 : Fl 623 := ⟨by decide, by decide, by decide, by decide, by decide, by decide, by decide, by decide⟩
theorem fl_751 : Fl 751 := ⟨by decide, by decide, by decide, by decide, by decide, by decide, by decide, by decide⟩

theorem inp_pd (f : Int) (L : List Int) (Ls : List (List Int)) (x : Bool) (e : List Int) : (pd f L Ls x e).inp 16 = true ∧ (pd f L Ls x e).inp 32 = false := ⟨by show hasB 84 16 = true; decide, by show hasB 84 32 = false; decide⟩

theorem input_pd (f : Int) (L : List Int) (Ls : List (List Int)) (e : List Int) (c : Int) (hc : 0 ≤ c) (h13 : ¬ c = 13) (h10 : isB (pl f) 10 c = false) (h11 : isB (pl f) 11 c = false) : (pd f L Ls false e).input c = (pd f L Ls false []).plainIn c := by
  have hm : mapI 84 c = c := mapI_84 c h13
  obtain ⟨i16, i32⟩ := inp_pd f L Ls false []
  have hx : (pd f L Ls false e).nxt = false := rfl
  unfold DS.input
  simp only
  rw [if_neg (by rw [hx]; simp)]
  have hm2 : mapI (pd f L Ls false e).t.fi c = c := hm
  rw [hm2, if_neg (by omega)]
  show (pd f L Ls false []).mapped c = _
  rw [mapped_eq]
  have e10 : isB (pd f L Ls false []).t 10 c = false := h10
  have e11 : isB (pd f L Ls false []).t 11 c = false := h11
  rw [e10, e11, i16, i32]
  rfl

theorem pic_pd (f : Int) (_hf : Fl f) (L : List Int) (Ls : List (List Int)) (x : Bool) (e : List Int) (c : Int) (h0 : 32 ≤ c) (h1 : c < 127) : (pd f L Ls x e).pic c = [c] := by
  unfold DS.pic
  rw [if_neg (fun k => by have := k.2.1; omega), if_neg (fun k => by have := k.2; omega)]

theorem put_pd (f : Int) (hf : Fl f) (L : List Int) (Ls : List (List Int)) (x : Bool) (e : List Int) (c : Int) (hl : L.length < 254) (hp : ¬ c = 10) : (pd f L Ls x e).put c = pd f (L ++ [c]) Ls x (e ++ (pd f L Ls x e).pic c) := by
  have l1 : ∀ L Ls x e, (pd f L Ls x e).loc 1 = true := fun _ _ _ _ => hf.a1
  have l2 : ∀ L Ls x e, (pd f L Ls x e).loc 2 = true := fun _ _ _ _ => hf.a2
  have hr : (pd f L Ls x e).room c = true := by
    unfold DS.room
    rw [l1]
    have : decide ((pd f L Ls x e).line.length < 254) = true := decide_eq_true hl
    rw [this]; rfl
  have hlay : (pd f L Ls x e).lay c = pd f (L ++ [c]) Ls x e := by unfold DS.lay; rw [if_pos (l1 _ _ _ _)]; rfl
  unfold DS.put
  rw [if_pos hr, hlay]
  have hnl : (pd f (L ++ [c]) Ls x e).nl c = pd f (L ++ [c]) Ls x e := by unfold DS.nl; rw [if_neg (fun k => hp k.1)]
  rw [hnl]
  unfold DS.shw
  rw [if_pos (l2 _ _ _ _)]
  rfl

theorem sig_pd (f : Int) (L : List Int) (Ls : List (List Int)) (e : List Int) (c : Int) (h0 : isB (pl f) 0 c = false) (h1 : isB (pl f) 1 c = false) (h2 : isB (pl f) 2 c = false) (hf : Fl f) : (pd f L Ls false e).plainIn c = ((pd f L Ls false e).canon c, 0) := by
  have hs : (pd f L Ls false e).sigOf c = 3 := by
    unfold DS.sigOf
    rw [if_neg (by rw [show (pd f L Ls false e).loc 64 = true from hf.a64]; simp)]
    have e0 : isB (pd f L Ls false e).t 0 c = false := h0
    have e1 : isB (pd f L Ls false e).t 1 c = false := h1
    have e2 : isB (pd f L Ls false e).t 2 c = false := h2
    rw [e0, e1, e2]
    rfl
  unfold DS.plainIn
  rw [hs, if_neg (by omega), if_neg (by rw [show (pd f L Ls false e).loc 1 = true from hf.a1]; simp)]

/-- A plain byte. -/
theorem type_pd (f : Int) (hf : Fl f) (L : List Int) (Ls : List (List Int)) (e : List Int) (c : Int) (h0 : 32 ≤ c) (h1 : c < 127) (hl : L.length < 254) : (pd f L Ls false e).input c = (pd f (L ++ [c]) Ls false [c], 0) := by
  obtain ⟨b0, b1, b2, b3, b4, b5, b6, b7, b8, b9, b10, b11⟩ := isB_pl_all f c (cc_pl f c h0 h1) (by omega)
  rw [input_pd f L Ls e c (by omega) (by omega) b10 b11, sig_pd f L Ls [] c b0 b1 b2 hf, canon_eq]
  have tt : (pd f L Ls false []).t = pl f := rfl
  rw [tt, b9, b7, b8, b5, b6, b3]
  simp only [Bool.and_false, Bool.or_self, Bool.false_eq_true, if_false]
  unfold DS.enter
  have hen : (pd f L Ls false []).ends c = false := by
    unfold DS.ends
    rw [tt, b4]
    simp
    omega
  rw [hen, if_neg (by simp), put_pd f hf L Ls false [] c hl (by omega), pic_pd f hf L Ls false [] c h0 h1]
  rfl

/-- An erase. -/
theorem erase_pd (f : Int) (hf : Fl f) (L : List Int) (Ls : List (List Int)) (e : List Int) (c : Int) (h0 : 32 ≤ c) (h1 : c < 127) : (pd f (L ++ [c]) Ls false e).input 127 = (pd f L Ls false [8, 32, 8], 0) := by
  have b : ∀ k : Nat, k < 12 → ¬ k = 5 → isB (pl f) (k : Int) 127 = false := fun k hk h5 => isB_pl f k hk 127 (by decide) (by
    have : k = 0 ∨ k = 1 ∨ k = 2 ∨ k = 3 ∨ k = 4 ∨ k = 6 ∨ k = 7 ∨ k = 8 ∨ k = 9 ∨ k = 10 ∨ k = 11 := by omega
    rcases this with rfl | rfl | rfl | rfl | rfl | rfl | rfl | rfl | rfl | rfl | rfl
    · show ¬ (3 : Int) = 127; decide
    · show ¬ (28 : Int) = 127; decide
    · show ¬ (26 : Int) = 127; decide
    · show ¬ (4 : Int) = 127; decide
    · show ¬ (0 : Int) = 127; decide
    · show ¬ (21 : Int) = 127; decide
    · show ¬ (23 : Int) = 127; decide
    · show ¬ (18 : Int) = 127; decide
    · show ¬ (22 : Int) = 127; decide
    · show ¬ (17 : Int) = 127; decide
    · show ¬ (19 : Int) = 127; decide)
  have b5 : isB (pl f) 5 127 = true := rfl
  rw [input_pd f _ Ls e 127 (by decide) (by decide) (b 10 (by decide) (by decide)) (b 11 (by decide) (by decide)), sig_pd f _ Ls [] 127 (b 0 (by decide) (by decide)) (b 1 (by decide) (by decide)) (b 2 (by decide) (by decide)) hf, canon_eq]
  have tt : (pd f (L ++ [c]) Ls false []).t = pl f := rfl
  have b9 : isB (pl f) 9 127 = false := b 9 (by decide) (by decide)
  have b7 : isB (pl f) 7 127 = false := b 7 (by decide) (by decide)
  have b8 : isB (pl f) 8 127 = false := b 8 (by decide) (by decide)
  rw [tt, b9, b7, b8, b5]
  simp only [Bool.and_false, Bool.true_or, Bool.false_eq_true, if_false, if_true]
  rw [kills_eq, tt, b5]
  have hb : DS.backs (fun _ => true) 1 (pd f (L ++ [c]) Ls false []) = pd f L Ls false [8, 32, 8] := by
    rw [backs_go (fun _ => true) 0 _ (by show L ++ [c] ≠ []; simp) rfl]
    show (pd f (L ++ [c]) Ls false []).back = _
    have hlast : (pd f (L ++ [c]) Ls false []).line.getLastD 0 = c := by show (L ++ [c]).getLastD 0 = c; simp
    have hdrop : (pd f (L ++ [c]) Ls false []).line.dropLast = L := by show (L ++ [c]).dropLast = L; simp
    unfold DS.back
    rw [hlast, hdrop]
    have hru : (pd f (L ++ [c]) Ls false []).rub c = [8, 32, 8] := by
      unfold DS.rub
      rw [if_pos ⟨hf.a2, hf.a4⟩, pic_pd f hf _ Ls false [] c h0 h1]
      rfl
    rw [hru]
    rfl
  simp only [if_true]
  rw [hb]
  have l4 : (pd f (L ++ [c]) Ls false []).loc 4 = true := hf.a4
  rw [l4]
  rfl

/-- The end of a line. -/
theorem newline_pd (f : Int) (hf : Fl f) (L : List Int) (Ls : List (List Int)) (e : List Int) (hl : L.length < 254) (hs : Ls.flatten.length + L.length + 1 ≤ 1024) : (pd f L Ls false e).input 10 = (pd f [] (Ls ++ [L ++ [10]]) false [10], 0) := by
  have b : ∀ k : Nat, k < 12 → isB (pl f) (k : Int) 10 = false := fun k hk => isB_pl f k hk 10 (by decide) (by
    have : k = 0 ∨ k = 1 ∨ k = 2 ∨ k = 3 ∨ k = 4 ∨ k = 5 ∨ k = 6 ∨ k = 7 ∨ k = 8 ∨ k = 9 ∨ k = 10 ∨ k = 11 := by omega
    rcases this with rfl | rfl | rfl | rfl | rfl | rfl | rfl | rfl | rfl | rfl | rfl | rfl
    · show ¬ (3 : Int) = 10; decide
    · show ¬ (28 : Int) = 10; decide
    · show ¬ (26 : Int) = 10; decide
    · show ¬ (4 : Int) = 10; decide
    · show ¬ (0 : Int) = 10; decide
    · show ¬ (127 : Int) = 10; decide
    · show ¬ (21 : Int) = 10; decide
    · show ¬ (23 : Int) = 10; decide
    · show ¬ (18 : Int) = 10; decide
    · show ¬ (22 : Int) = 10; decide
    · show ¬ (17 : Int) = 10; decide
    · show ¬ (19 : Int) = 10; decide)
  rw [input_pd f _ Ls e 10 (by decide) (by decide) (b 10 (by decide)) (b 11 (by decide)), sig_pd f _ Ls [] 10 (b 0 (by decide)) (b 1 (by decide)) (b 2 (by decide)) hf, canon_eq]
  have tt : (pd f L Ls false []).t = pl f := rfl
  have b9 : isB (pl f) 9 10 = false := b 9 (by decide)
  have b7 : isB (pl f) 7 10 = false := b 7 (by decide)
  have b8 : isB (pl f) 8 10 = false := b 8 (by decide)
  have b5 : isB (pl f) 5 10 = false := b 5 (by decide)
  have b6 : isB (pl f) 6 10 = false := b 6 (by decide)
  have b3 : isB (pl f) 3 10 = false := b 3 (by decide)
  rw [tt, b9, b7, b8, b5, b6, b3]
  simp only [Bool.and_false, Bool.or_self, Bool.false_eq_true, if_false]
  have hen : (pd f L Ls false []).ends 10 = true := rfl
  have l1 : ∀ L Ls x e, (pd f L Ls x e).loc 1 = true := fun _ _ _ _ => hf.a1
  have l2 : ∀ L Ls x e, (pd f L Ls x e).loc 2 = true := fun _ _ _ _ => hf.a2
  have hr : (pd f L Ls false []).room 10 = true := by
    unfold DS.room
    rw [l1]
    have : decide ((pd f L Ls false []).line.length < 254) = true := decide_eq_true hl
    rw [this]; rfl
  have hput : (pd f L Ls false []).put 10 = pd f (L ++ [10]) Ls false [10] := by
    unfold DS.put
    rw [if_pos hr]
    have hlay : (pd f L Ls false []).lay 10 = pd f (L ++ [10]) Ls false [] := by unfold DS.lay; rw [if_pos (l1 _ _ _ _)]; rfl
    rw [hlay]
    have hnl : (pd f (L ++ [10]) Ls false []).nl 10 = pd f (L ++ [10]) Ls false [] := by
      unfold DS.nl
      rw [if_neg (fun k => by have := k.2.2.1; rw [show (pd f (L ++ [10]) Ls false []).loc 16 = false from hf.a16] at this; cases this)]
    rw [hnl]
    unfold DS.shw
    rw [if_pos (l2 _ _ _ _)]
    have hp : (pd f (L ++ [10]) Ls false []).pic 10 = [10] := by
      unfold DS.pic
      rw [if_neg (fun k => k.2.2.2 rfl), if_neg (fun k => by have := k.2; cases this)]
    rw [hp]
    rfl
  unfold DS.enter
  rw [if_pos ⟨hr, hen⟩, hput]
  unfold DS.ready
  have hc : ((pd f (L ++ [10]) Ls false [10]).setLine []).cnt = Ls.flatten.length := by show 0 + Ls.flatten.length = _; omega
  have hll : (pd f (L ++ [10]) Ls false [10]).line.length = L.length + 1 := by show (L ++ [10]).length = _; simp
  rw [hc, hll, if_neg (by omega)]
  rfl

end Go.Proofs.Ytkggmjjjopfdbaa
