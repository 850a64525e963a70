/-
  A read, whatever it asks for; a byte of input: walked. No conditions.
-/
import Derived.Test.YtkggmjjjopfdbaaRA
import Derived.Deep.CutBlock
namespace Go.Proofs.Ytkggmjjjopfdbaa
open Go.RowKit
open L17

theorem r_read (b : Bx) (d : DS) (n : Int) (w : World) (h : RAt w b d) (hm : n ≤ 9223372036854775807) (hf : Small d) : Calls Try.prog 15 #[.pointer (some ⟨b, 0, none⟩), .int .i64 n] w (ReadR b d n w) := by
  by_cases hn : n < 1
  · exact r_read0 b d n w h hn
  · cases hc : d.loc 1
    · exact r_read1 b d n w h hn hm hc (by have := hf.bytes; omega)
    · cases hl : d.lines with
      | nil => exact r_read2 b d n w h hn hc hl
      | cons l L =>
        have hb := hf.bytes
        have hL := hf.lines
        rw [hl, List.flatten_cons, List.length_append] at hb
        rw [hl, List.length_cons] at hL
        exact r_read3 b d n w h hn hm hc l L hl (by omega) (by omega)

theorem mapI_range (f c : Int) (h0 : 0 ≤ c) (h1 : c < 256) : mapI f c = -1 ∨ (0 ≤ mapI f c ∧ mapI f c < 256) := by
  have hl := low_range f c h0 h1
  unfold mapI
  repeat' split
  all_goals omega

theorem Small.setEc {d : DS} (h : Small d) (l : List Int) : Small (d.setEc l) := ⟨h.bytes, h.lines⟩
theorem Small.setStp {d : DS} (h : Small d) (x : Bool) : Small (d.setStp x) := ⟨h.bytes, h.lines⟩
theorem Small.setNxt {d : DS} (h : Small d) (x : Bool) : Small (d.setNxt x) := ⟨h.bytes, h.lines⟩

theorem mapped_eq (e : DS) (m : Int) : e.mapped m = if (e.inp 16 && (isB e.t 11 m || isB e.t 10 m)) = true then (e.setStp (isB e.t 11 m), 0) else if (e.inp 16 && e.inp 32) = true then (e.setStp false).plainIn m else e.plainIn m := by
  unfold DS.mapped
  simp only [Bool.and_eq_true, Bool.or_eq_true]

theorem canon_eq (e : DS) (m : Int) : e.canon m =
    if (e.loc 512 && isB e.t 9 m) = true then (if e.loc 2 = true then (e.setNxt true).out [94, 8] else e.setNxt true)
    else if (e.loc 512 && isB e.t 7 m) = true then DS.backs (fun x => !DS.blk x) (DS.backs DS.blk e.line.length e).line.length (DS.backs DS.blk e.line.length e)
    else if (e.loc 512 && isB e.t 8 m) = true then e.again m
    else if (isB e.t 5 m || isB e.t 6 m) = true then e.kills m
    else if isB e.t 3 m = true then e.ready else e.enter m := by
  unfold DS.canon
  simp only [Bool.and_eq_true, Bool.or_eq_true]

theorem input_next (d : DS) (c : Int) (h : (d.setEc []).nxt = true) : d.input c = (((d.setEc []).setNxt false).put (low (d.setEc []).t.fi c), 0) := by
  have h : d.nxt = true := h
  unfold DS.input; rw [if_pos h]; rfl

theorem input_none (d : DS) (c : Int) (h : (d.setEc []).nxt = false) (hm : mapI (d.setEc []).t.fi c < 0) : d.input c = (d.setEc [], 0) := by
  have h : d.nxt = false := h
  have hm : mapI d.t.fi c < 0 := hm
  unfold DS.input; rw [if_neg (by rw [h]; simp), if_pos hm]

theorem input_some (d : DS) (c : Int) (h : (d.setEc []).nxt = false) (hm : ¬ mapI (d.setEc []).t.fi c < 0) : d.input c = (d.setEc []).mapped (mapI (d.setEc []).t.fi c) := by
  have h : d.nxt = false := h
  have hm : ¬ mapI d.t.fi c < 0 := hm
  unfold DS.input; rw [if_neg (by rw [h]; simp), if_neg hm]; rfl

theorem sig_off (e : DS) (m : Int) (h : e.loc 64 = false) : e.sigOf m = 3 := by unfold DS.sigOf; rw [if_pos h]

theorem sig_none (e : DS) (m : Int) (h : ∀ j : Nat, j < 3 → isB e.t (j : Int) m = false) : e.sigOf m = 3 := by
  have h0 : isB e.t 0 m = false := h 0 (by decide)
  have h1 : isB e.t 1 m = false := h 1 (by decide)
  have h2 : isB e.t 2 m = false := h 2 (by decide)
  unfold DS.sigOf
  rw [h0, h1, h2]
  split <;> rfl

theorem sig_at (e : DS) (m : Int) (k : Nat) (hk : k < 3) (hq : e.loc 64 = true) (h : ∀ j : Nat, j < k → isB e.t (j : Int) m = false) (hi : isB e.t (k : Int) m = true) : e.plainIn m = (e.signal m, (k : Int) + 1) := by
  have hs : e.sigOf m = k := by
    unfold DS.sigOf
    rw [if_neg (by rw [hq]; simp)]
    have : k = 0 ∨ k = 1 ∨ k = 2 := by omega
    rcases this with rfl | rfl | rfl
    · have hi : isB e.t 0 m = true := hi
      rw [if_pos hi]
    · have hi : isB e.t 1 m = true := hi
      have h0 : isB e.t 0 m = false := h 0 (by decide)
      rw [if_neg (by rw [h0]; simp), if_pos hi]
    · have hi : isB e.t 2 m = true := hi
      have h0 : isB e.t 0 m = false := h 0 (by decide)
      have h1 : isB e.t 1 m = false := h 1 (by decide)
      rw [if_neg (by rw [h0]; simp), if_neg (by rw [h1]; simp), if_pos hi]
  unfold DS.plainIn
  rw [hs, if_pos hk]


/-- Neither the line nor what is shown grows past this while bytes are taken back. -/
def Bd (e : DS) : Prop := e.line.length ≤ 255 ∧ e.ec.length + 6 * e.line.length ≤ 2000

theorem rub_len (e : DS) (c : Int) : (e.rub c).length ≤ 6 := by
  unfold DS.rub
  split
  · rw [rubs_len]; have := pic_len e c; omega
  · simp

theorem back_len (e : DS) (h : e.line ≠ []) : e.back.line.length + 1 = e.line.length := by
  have hl : 0 < e.line.length := List.length_pos_iff.2 h
  show e.line.dropLast.length + 1 = _
  rw [List.length_dropLast]; omega

theorem back_bd (e : DS) (h : e.line ≠ []) (hb : Bd e) : Bd e.back := by
  have h1 := back_len e h
  have h2 := rub_len e (e.line.getLastD 0)
  have h3 : e.back.ec.length = e.ec.length + (e.rub (e.line.getLastD 0)).length := by show (e.ec ++ _).length = _; rw [List.length_append]
  obtain ⟨b1, b2⟩ := hb
  exact ⟨by omega, by omega⟩

theorem backs_nil (p : Int → Bool) (n : Nat) (e : DS) (h : e.line = []) : DS.backs p n e = e := by
  cases n with
  | zero => rfl
  | succ n => show (if e.line = [] then e else _) = e; rw [if_pos h]

theorem backs_stop (p : Int → Bool) (n : Nat) (e : DS) (h : p (e.line.getLastD 0) = false) : DS.backs p n e = e := by
  cases n with
  | zero => rfl
  | succ n => show (if e.line = [] then e else if p (e.line.getLastD 0) = true then DS.backs p n e.back else e) = e; rw [h]; simp

theorem backs_go (p : Int → Bool) (n : Nat) (e : DS) (hne : e.line ≠ []) (h : p (e.line.getLastD 0) = true) : DS.backs p (n + 1) e = DS.backs p n e.back := by
  show (if e.line = [] then e else if p (e.line.getLastD 0) = true then DS.backs p n e.back else e) = _
  rw [if_neg hne, if_pos h]

theorem backs_len (p : Int → Bool) (e : DS) (hne : e.line ≠ []) (h : p (e.line.getLastD 0) = true) : DS.backs p e.line.length e = DS.backs p e.back.line.length e.back := by
  rw [← back_len e hne]; exact backs_go p _ e hne h

theorem backs_t (p : Int → Bool) : ∀ (n : Nat) (e : DS), (DS.backs p n e).t = e.t
  | 0, _ => rfl
  | n + 1, e => by
    show (if e.line = [] then e else if p (e.line.getLastD 0) = true then DS.backs p n e.back else e).t = e.t
    split
    · rfl
    · split
      · exact backs_t p n e.back
      · rfl

theorem shw_t (e : DS) (m : Int) : (e.shw m).t = e.t := by unfold DS.shw; split <;> rfl
theorem shw_line (e : DS) (m : Int) : (e.shw m).line = e.line := by unfold DS.shw; split <;> rfl
theorem shw_ec (e : DS) (m : Int) : (e.shw m).ec.length ≤ e.ec.length + 2 := by
  unfold DS.shw
  split
  · show (e.ec ++ _).length ≤ _; rw [List.length_append]; have := pic_len e m; omega
  · omega

theorem lost_ec (e : DS) : e.lost.ec.length ≤ e.ec.length + 1 := by
  unfold DS.lost; split
  · show (e.ec ++ _).length ≤ _; simp
  · omega

theorem put_t (e : DS) (m : Int) : (e.put m).t = e.t := by
  unfold DS.put DS.lay DS.nl DS.lost
  split
  · rw [shw_t]; split <;> split <;> rfl
  · split <;> rfl

theorem put_ec (e : DS) (m : Int) : (e.put m).ec.length ≤ e.ec.length + 3 := by
  unfold DS.put
  split
  · have h1 := shw_ec ((e.lay m).nl m) m
    have h2 := nl_ec (e.lay m) m
    rw [lay_ec] at h2
    omega
  · have := lost_ec e; omega

theorem put_small (e : DS) (m : Int) (h : e.raw.length + e.lines.flatten.length + e.line.length ≤ 9000) (hl : e.lines.length ≤ 100000) : Small (e.put m) := by
  have hsh : ∀ x : DS, (x.shw m).raw = x.raw ∧ (x.shw m).lines = x.lines ∧ (x.shw m).line = x.line := fun x => by unfold DS.shw; split <;> exact ⟨rfl, rfl, rfl⟩
  have hnl : ∀ x : DS, (x.nl m).raw = x.raw ∧ (x.nl m).lines = x.lines ∧ (x.nl m).line = x.line := fun x => by unfold DS.nl; split <;> exact ⟨rfl, rfl, rfl⟩
  unfold DS.put
  split
  · obtain ⟨a1, a2, a3⟩ := hsh ((e.lay m).nl m)
    obtain ⟨b1, b2, b3⟩ := hnl (e.lay m)
    refine ⟨?_, ?_⟩
    · rw [a1, a2, a3, b1, b2, b3]
      unfold DS.lay
      split
      · show e.raw.length + e.lines.flatten.length + (e.line ++ [m]).length ≤ _
        rw [List.length_append, List.length_singleton]; omega
      · show (e.raw ++ [m]).length + e.lines.flatten.length + e.line.length ≤ _
        rw [List.length_append, List.length_singleton]; omega
    · rw [a2, b2]
      unfold DS.lay
      split <;> exact hl
  · unfold DS.lost
    split
    · exact ⟨by show e.raw.length + e.lines.flatten.length + e.line.length ≤ _; omega, hl⟩
    · exact ⟨by omega, hl⟩

theorem enter_eq (e : DS) (m : Int) : e.enter m = if (e.room m && (m == 10 || isB e.t 4 m)) = true then (e.put m).ready else e.put m := by
  unfold DS.enter DS.ends
  simp only [Bool.and_eq_true]

theorem getD_byte {w : World} {b : Bx} {v : Value} {l : List Int} (h : BRow w b v l) (k : Nat) (hk : k < l.length) : 0 ≤ l.getD k 0 ∧ l.getD k 0 < 256 := by
  have := wf_u8 (h.wf (l.getD k 0) (getD_mem hk))
  omega

theorem shows_drop (l : List Int) (k : Nat) (h : k < l.length) (e : DS) : DS.shows (l.drop k) e = DS.shows (l.drop (k + 1)) (e.shw (l.getD k 0)) := by
  rw [drop_cons l k h]; rfl

theorem shows_end (l : List Int) (e : DS) : DS.shows (l.drop l.length) e = e := by rw [List.drop_length]; rfl


theorem kills_eq (e : DS) (m : Int) : e.kills m = if ((!isB e.t 5 m && e.loc 8) && e.loc 2) = true then (if e.loc 4 = false then (DS.backs (fun _ => true) (if isB e.t 5 m = true then 1 else e.line.length) e).shw m else DS.backs (fun _ => true) (if isB e.t 5 m = true then 1 else e.line.length) e).out [10] else (if e.loc 4 = false then (DS.backs (fun _ => true) (if isB e.t 5 m = true then 1 else e.line.length) e).shw m else DS.backs (fun _ => true) (if isB e.t 5 m = true then 1 else e.line.length) e) := by
  unfold DS.kills
  simp only
  cases isB e.t 5 m <;> cases e.loc 8 <;> cases e.loc 2 <;> simp


end Go.Proofs.Ytkggmjjjopfdbaa
