/-
  What signal characters do in the plain settings: plain. No conditions.
-/
import Derived.Test.YtkggmjjjopfdbaaP3
namespace Go.Proofs.Ytkggmjjjopfdbaa
open Go.RowKit
open L17

theorem pic_ctl (f : Int) (hf : Fl f) (L : List Int) (Ls : List (List Int)) (x : Bool) (e : List Int) (c : Int) (h : c < 32) (h9 : ¬ c = 9) (h10 : ¬ c = 10) : (pd f L Ls x e).pic c = [94, c + 64] := by
  unfold DS.pic
  rw [if_pos ⟨hf.a32, h, h9, h10⟩]

/-- The signal characters. -/
def sgc : Nat → Int
  | 0 => 3
  | 1 => 28
  | _ => 26

theorem sig_is (f : Int) (k : Nat) (hk : k < 3) : (∀ j : Nat, j < k → isB (pl f) (j : Int) (sgc k) = false) ∧ isB (pl f) (k : Int) (sgc k) = true ∧ isB (pl f) 10 (sgc k) = false ∧ isB (pl f) 11 (sgc k) = false ∧ isB (pl f) 4 (sgc k) = false ∧ 0 ≤ sgc k ∧ sgc k < 32 ∧ ¬ sgc k = 9 ∧ ¬ sgc k = 10 ∧ ¬ sgc k = 13 := by
  have : k = 0 ∨ k = 1 ∨ k = 2 := by omega
  rcases this with rfl | rfl | rfl
  · exact ⟨fun j hj => by omega, rfl, rfl, rfl, rfl, by decide, by decide, by decide, by decide, by decide⟩
  · refine ⟨fun j hj => ?_, rfl, rfl, rfl, rfl, by decide, by decide, by decide, by decide, by decide⟩
    obtain rfl : j = 0 := by omega
    rfl
  · refine ⟨fun j hj => ?_, rfl, rfl, rfl, rfl, by decide, by decide, by decide, by decide, by decide⟩
    have : j = 0 ∨ j = 1 := by omega
    rcases this with rfl | rfl <;> rfl

/-- A signal: all goes, or, with Noflsh, nothing. -/
theorem signal_pd (f : Int) (hf : Fl f) (L : List Int) (e : List Int) (k : Nat) (hk : k < 3) : (pd f L [] false e).input (sgc k) = (if hasB f 128 = true then pd f L [] false [94, sgc k + 64] else pd f [] [] false [94, sgc k + 64], (k : Int) + 1) := by
  obtain ⟨s1, s2, s3, s4, _, s5, s6, s7, s8, s9⟩ := sig_is f k hk
  rw [input_pd f L [] e (sgc k) s5 s9 s3 s4, sig_at (pd f L [] false []) (sgc k) k hk hf.a64 s1 s2]
  have hsh : (pd f L [] false []).shw (sgc k) = pd f L [] false [94, sgc k + 64] := by
    unfold DS.shw
    rw [if_pos (show (pd f L [] false []).loc 2 = true from hf.a2), pic_ctl f hf L [] false [] (sgc k) s6 s7 s8]
    rfl
  unfold DS.signal
  rw [hsh]
  have h8 : (pd f L [] false [94, sgc k + 64]).loc 128 = hasB f 128 := rfl
  rw [h8]
  cases hasB f 128 <;> rfl

/-- Vlnext. -/
theorem lit_pd (f : Int) (hf : Fl f) (L : List Int) (e : List Int) : (pd f L [] false e).input 22 = (pd f L [] true [94, 8], 0) := by
  rw [input_pd f L [] e 22 (by decide) (by decide) rfl rfl, sig_pd f L [] [] 22 rfl rfl rfl hf, canon_eq]
  have h1 : (pd f L [] false []).loc 512 = true := hf.a512
  have h2 : isB (pd f L [] false []).t 9 22 = true := rfl
  have h3 : (pd f L [] false []).loc 2 = true := hf.a2
  rw [h1, h2, h3]
  rfl

/-- .. and the byte behind it. -/
theorem next_pd (f : Int) (hf : Fl f) (L : List Int) (e : List Int) (k : Nat) (hk : k < 3) (hl : L.length < 254) : (pd f L [] true e).input (sgc k) = (pd f (L ++ [sgc k]) [] false [94, sgc k + 64], 0) := by
  obtain ⟨_, _, _, _, _, _, s6, s7, s8, _⟩ := sig_is f k hk
  unfold DS.input
  simp only
  rw [if_pos (show (pd f L [] true e).nxt = true from rfl)]
  have hlo : low (pd f L [] true e).t.fi (sgc k) = sgc k := low_84 _
  rw [hlo]
  show ((pd f L [] false []).put (sgc k), (0 : Int)) = _
  rw [put_pd f hf L [] false [] (sgc k) hl s8, pic_ctl f hf L [] false [] (sgc k) s6 s7 s8]
  rfl

end Go.Proofs.Ytkggmjjjopfdbaa
