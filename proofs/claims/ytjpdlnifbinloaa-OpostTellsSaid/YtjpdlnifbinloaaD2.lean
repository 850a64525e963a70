/-
  What the document writes of any byte: walked. No conditions.
-/
import Derived.Test.YtjpdlnifbinloaaD1
namespace Go.Proofs.Ytjpdlnifbinloaa
open Go.RowKit

theorem posts_eq {l l2 : List Int} {k k2 : Int} {w : World} {f : Nat} {xs : Array Value} (h : Calls Try.prog f xs w (Posts l k w)) (hl : l2 = l) (hk : k2 = k) : Calls Try.prog f xs w (Posts l2 k2 w) := by subst hl hk; exact h

/-- What the document's function writes of one byte: without the blanks of a tab. -/
def rbM (o col c : Int) : List Int := if c = 9 ∧ has o 32 = true then [] else (addM o col c).1

theorem rbyte_line (o col c : Int) (w : World) (h0 : 0 ≤ col) (h1 : col ≤ 1073741824) (h1f : has o 1 = true) (h : c = 10 ∨ (c = 13 ∧ has o 4 = true)) : Calls Try.prog 15 #[.int .i64 o, .int .i64 col, .int .u8 c] w (Posts (addM o col c).1 (addM o col c).2 w) := by
  rw [addM_line o col c h]
  cases g2 : has o 2
  · cases g16 : has o 16
    · rcases h with rfl | ⟨rfl, g4⟩
      · exact rbyte_10k o col w h0 h1 h1f g2 g16
      · exact rbyte_13k o col w h0 h1 h1f g4 g2 g16
    · rcases h with rfl | ⟨rfl, g4⟩
      · exact rbyte_10r o col w h0 h1 h1f g2 g16
      · exact rbyte_13r o col w h0 h1 h1f g4 g2 g16
  · rcases h with rfl | ⟨rfl, g4⟩
    · exact rbyte_10n o col w h0 h1 h1f g2
    · exact rbyte_13n o col w h0 h1 h1f g4 g2

theorem rbyte_on (o col c : Int) (w : World) (h0 : 0 ≤ col) (h1 : col ≤ 1073741824) (h1f : has o 1 = true) (hc : (Lit.int .u8 c).wf = true) : Calls Try.prog 15 #[.int .i64 o, .int .i64 col, .int .u8 c] w (Posts (rbM o col c) (addM o col c).2 w) := by
  by_cases d1 : c = 13
  · subst d1
    have e : rbM o col 13 = (addM o col 13).1 := by unfold rbM; rw [if_neg (fun z => absurd z.1 (by decide))]
    rw [e]
    cases g4 : has o 4
    · rw [addM_13f o col g4]
      by_cases hz : col = 0
      · cases g8 : has o 8
        · exact posts_eq (rbyte_13y o col w h0 h1 h1f hz g4 g8) (by rw [if_neg (fun z => absurd z.2 (by decide))]) (by rw [if_neg (fun z => absurd z.2 (by decide))])
        · exact posts_eq (rbyte_13z o col w h0 h1 h1f hz g4 g8) (by rw [if_pos ⟨hz, rfl⟩]) (by rw [if_pos ⟨hz, rfl⟩])
      · exact posts_eq (rbyte_13x o col w h0 h1 h1f hz g4) (by rw [if_neg (fun z => hz z.1)]) (by rw [if_neg (fun z => hz z.1)])
    · exact rbyte_line o col 13 w h0 h1 h1f (.inr ⟨rfl, g4⟩)
  · by_cases d2 : c = 10
    · subst d2
      have e : rbM o col 10 = (addM o col 10).1 := by unfold rbM; rw [if_neg (fun z => absurd z.1 (by decide))]
      rw [e]
      exact rbyte_line o col 10 w h0 h1 h1f (.inl rfl)
    · by_cases d3 : c = 9
      · subst d3
        unfold rbM
        rw [addM_9]
        cases g32 : has o 32
        · exact posts_eq (rbyte_9f o col _ w h0 h1 rfl h1f g32) (by rw [if_neg (fun z => absurd z.2 (by decide))]; rfl) rfl
        · exact posts_eq (rbyte_9t o col _ w h0 h1 rfl h1f g32) (by rw [if_pos ⟨rfl, rfl⟩]) rfl
      · have e : rbM o col c = (addM o col c).1 := by unfold rbM; rw [if_neg (fun z => d3 z.1)]
        rw [e]
        by_cases d4 : c = 8
        · subst d4
          rw [addM_8]
          by_cases hz : col = 0
          · exact posts_eq (rbyte_8z o col w h0 h1 h1f hz) rfl (by rw [if_pos hz])
          · exact posts_eq (rbyte_8s o col w h0 h1 h1f (by omega)) rfl (by rw [if_neg hz])
        · rw [addM_other o col c d1 d2 d3 d4]
          unfold stB
          by_cases r1 : c < 32
          · exact posts_eq (rbyte_low o col c w h0 h1 h1f hc r1 d1 d2 d3 d4) rfl (by simp [r1])
          · by_cases r2 : c < 127
            · exact posts_eq (rbyte_plain o col c w h0 h1 h1f hc (by omega) r2) rfl (by rw [if_neg]; simp; omega)
            · by_cases r3 : c < 192
              · exact posts_eq (rbyte_mid o col c w h0 h1 h1f hc (by omega) r3) rfl (by rw [if_pos]; simp; omega)
              · exact posts_eq (rbyte_hi o col c w h0 h1 h1f hc (by omega)) rfl (by rw [if_neg]; simp; omega)

theorem field27_1 (x y : Value) (w : World) : (Instr.field 27 (.agg #[x, y]) 1).run Try.prog w = .ok y w := rfl

attribute [local go_sem] field27_1

theorem rbyte_off (o col c : Int) (w : World) (h0 : 0 ≤ col) (h1 : col ≤ 1073741824) (h1f : has o 1 = false) (hc : (Lit.int .u8 c).wf = true) : Calls Try.prog 15 #[.int .i64 o, .int .i64 col, .int .u8 c] w (Posts [c] (addM 0 col c).2 w) := by
  obtain ⟨B, hB⟩ : ∃ B, B = w.heap.size := ⟨_, rfl⟩
  obtain ⟨W, hW⟩ : ∃ W, W = w.alloc (.cells #[.slice none 0 0, .int .i64 0] 27) := ⟨_, rfl⟩
  have HD1 : Hid (PBox W B ⟨.slice none 0 0, 0⟩) := by rw [hW, hB]; exact PBox.new ⟨.slice none 0 0, 0⟩ rfl
  have HA0 : Hid (Stay (fun _ => False) w W) := by rw [hW]; exact (Stay.refl _ _).alloc _
  have HBW : Hid (B = w.heap.size ∧ W = w.alloc (.cells #[.slice none 0 0, .int .i64 0] 27)) := ⟨hB, hW⟩
  have HF1 := hide' (flag16 o 1)
  rw [h1f] at HF1
  have HX : Hid (∀ w1, Calls Try.prog 15 #[.int .i64 1, .int .i64 col, .int .u8 c] w1 (Posts (rbM 1 col c) (addM 0 col c).2 w1)) := fun w1 => by
    have h := rbyte_on 1 col c w1 h0 h1 (by decide) hc
    rwa [addM_one] at h
  have HC := hide' hc
  obtain ⟨k, hk⟩ : ∃ k, k = (addM 0 col c).2 := ⟨_, rfl⟩
  obtain ⟨l1, hl1⟩ : ∃ l, l = rbM 1 col c := ⟨_, rfl⟩
  rw [← hk, ← hl1] at HX
  rw [← hk]
  clear hB hW h1f hc hk hl1
  go_enter Try.func15, Try.ntmps15
  go_upto_region 1 with fail
  obtain ⟨hB, hW⟩ := HBW.out
  rw [← hW, ← hB]
  clear hB hW
  go_wp2_with fail
  refine (HF1.out _).mono ?_
  rintro e w1 ⟨rfl, hs⟩
  have HA1 := hide' (HA0.out.trans hs)
  have HD2 := hide' (HD1.out.keep hs)
  clear hs HF1 HD1 HA0
  have HN := hide' (Acc.new w1 #[.int .u8 c] [c] 1 rfl rfl (by intro x hx; simp at hx; subst hx; exact HC.out) (by omega))
  have HD3 := hide' (HD2.out.alloc (.cells #[.int .u8 c] 5))
  obtain ⟨g, hg⟩ : ∃ g, g = w1.heap.size := ⟨_, rfl⟩
  obtain ⟨W2, hW2⟩ : ∃ W, W = w1.alloc (.cells #[.int .u8 c] 5) := ⟨_, rfl⟩
  have HG : Hid (g = w1.heap.size ∧ W2 = w1.alloc (.cells #[.int .u8 c] 5)) := ⟨hg, hW2⟩
  rw [← hg, ← hW2] at HN
  rw [← hW2] at HD3
  clear hg hW2
  go_wp2_with fail
  obtain ⟨hg, hW2⟩ := HG.out
  rw [← hW2, ← hg]
  clear hg hW2
  refine (HX.out _).mono ?_
  rintro e w3 ⟨v3, rfl, ha⟩
  have HN3 := hide' (HN.out.keep ha.stay)
  have HD4 := hide' (HD3.out.keep ha.stay)
  clear ha HX HN HD3
  obtain ⟨c0, c1, f0, f1⟩ := HD4.out
  simp only at c0 c1
  go_wp2
  have hlt := HD2.out.lt
  have hA := (HN3.out.older HA1.out).put (B := B) HBW.out.1.symm (fun e => by have := HG.out.1; simp [Value.ownBlock] at e; omega) (.slice (some ⟨g, 0, none⟩) 1 1) (.int .i64 k)
  have hbox := HD4.out.put ⟨.slice (some ⟨g, 0, none⟩) 1 1, k⟩
  exact bodyPost_ret (results_PBox rfl _ _ B ⟨.slice (some ⟨g, 0, none⟩) 1 1, k⟩ rfl hbox) rfl ⟨_, rfl, hA⟩

/-- The document's bytes of one, the blanks of a tab left out. -/
def rbA (o col c : Int) : List Int := if has o 1 = true ∧ c = 9 ∧ has o 32 = true then [] else (addM (cnt o) col c).1

theorem rbyte15 (o col c : Int) (w : World) (h0 : 0 ≤ col) (h1 : col ≤ 1073741824) (hc : (Lit.int .u8 c).wf = true) : Calls Try.prog 15 #[.int .i64 o, .int .i64 col, .int .u8 c] w (Posts (rbA o col c) (addM (cnt o) col c).2 w) := by
  cases h : has o 1
  · rw [cnt_zero h]
    exact posts_eq (rbyte_off o col c w h0 h1 h hc) (by unfold rbA; rw [if_neg (fun z => by rw [h] at z; exact absurd z.1 (by decide)), cnt_zero h, addM_zero]) rfl
  · rw [cnt_same h]
    refine posts_eq (rbyte_on o col c w h0 h1 h hc) ?_ rfl
    unfold rbA rbM
    rw [cnt_same h]
    by_cases g : c = 9 ∧ has o 32 = true
    · rw [if_pos g, if_pos ⟨h, g⟩]
    · rw [if_neg g, if_neg (fun z => g z.2)]

end Go.Proofs.Ytjpdlnifbinloaa
