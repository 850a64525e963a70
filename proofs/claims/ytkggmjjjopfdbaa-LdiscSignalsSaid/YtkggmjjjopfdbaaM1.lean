/-
  What holds of a discipline, whatever comes in: plain. No conditions.
-/
import Derived.Test.YtkggmjjjopfdbaaM0
namespace Go.Proofs.Ytkggmjjjopfdbaa
open Go.RowKit
open L17

/-- The same but for what is shown, and the two marks. -/
def Like (a b : DS) : Prop := a.t = b.t ∧ a.line = b.line ∧ a.lines = b.lines ∧ a.raw = b.raw

theorem Like.refl (a : DS) : Like a a := ⟨rfl, rfl, rfl, rfl⟩
theorem Like.trans {a b c : DS} (h : Like a b) (k : Like b c) : Like a c := ⟨h.1.trans k.1, h.2.1.trans k.2.1, h.2.2.1.trans k.2.2.1, h.2.2.2.trans k.2.2.2⟩
theorem Like.loc {a b : DS} (h : Like a b) (f : Int) : a.loc f = b.loc f := by unfold DS.loc; rw [h.1]

theorem like_out (d : DS) (l : List Int) : Like (d.out l) d := ⟨rfl, rfl, rfl, rfl⟩
theorem like_shw (d : DS) (c : Int) : Like (d.shw c) d := by unfold DS.shw; split; exact like_out d _; exact Like.refl d
theorem like_lost (d : DS) : Like d.lost d := by unfold DS.lost; split; exact like_out d _; exact Like.refl d
theorem like_nl (d : DS) (c : Int) : Like (d.nl c) d := by unfold DS.nl; split; exact like_out d _; exact Like.refl d
theorem like_stp (d : DS) (x : Bool) : Like (d.setStp x) d := ⟨rfl, rfl, rfl, rfl⟩
theorem like_nxt (d : DS) (x : Bool) : Like (d.setNxt x) d := ⟨rfl, rfl, rfl, rfl⟩
theorem like_ec (d : DS) (l : List Int) : Like (d.setEc l) d := ⟨rfl, rfl, rfl, rfl⟩

/-- What holds of a discipline; at most N lines. -/
structure Ok (N : Nat) (d : DS) : Prop where
  right : rightB d.t = true
  line : d.line.length ≤ 255
  raw : d.raw.length ≤ 1279
  flat : d.lines.flatten.length ≤ 1024
  lines : d.lines.length ≤ N
  canon : d.loc 1 = true → d.raw = []
  plain : d.loc 1 = false → d.lines = [] ∧ d.line = []

theorem Ok.like {N : Nat} {a b : DS} (h : Ok N b) (k : Like a b) : Ok N a := by
  obtain ⟨k1, k2, k3, k4⟩ := k
  refine ⟨by rw [k1]; exact h.right, by rw [k2]; exact h.line, by rw [k4]; exact h.raw, by rw [k3]; exact h.flat, by rw [k3]; exact h.lines, fun e => ?_, fun e => ?_⟩
  · rw [k4]; exact h.canon (by unfold DS.loc at e ⊢; rw [← k1]; exact e)
  · rw [k3, k2]; exact h.plain (by unfold DS.loc at e ⊢; rw [← k1]; exact e)

theorem Ok.more {N M : Nat} {d : DS} (h : Ok N d) (k : N ≤ M) : Ok M d := ⟨h.right, h.line, h.raw, h.flat, Nat.le_trans h.lines k, h.canon, h.plain⟩

theorem Ok.out {N : Nat} {d : DS} (h : Ok N d) (l : List Int) : Ok N (d.out l) := h.like (like_out d l)
theorem Ok.shw {N : Nat} {d : DS} (h : Ok N d) (c : Int) : Ok N (d.shw c) := h.like (like_shw d c)
theorem Ok.lost {N : Nat} {d : DS} (h : Ok N d) : Ok N d.lost := h.like (like_lost d)

theorem Ok.flush {N : Nat} {d : DS} (h : Ok N d) : Ok N d.flush :=
  ⟨h.right, Nat.zero_le _, Nat.zero_le _, Nat.zero_le _, Nat.zero_le _, fun _ => rfl, fun _ => ⟨rfl, rfl⟩⟩

theorem Ok.put {N : Nat} {d : DS} (h : Ok N d) (c : Int) : Ok N (d.put c) := by
  unfold DS.put
  split
  · rename_i hr
    refine ((Ok.like ?_ (like_nl (d.lay c) c)).shw c)
    unfold DS.room at hr
    unfold DS.lay
    by_cases hq : d.loc 1 = true
    · rw [if_pos hq]
      have hl : d.line.length < 255 := by
        rw [hq] at hr
        simp at hr
        omega
      refine ⟨h.right, ?_, h.raw, h.flat, h.lines, h.canon, fun e => ?_⟩
      · show (d.line ++ [c]).length ≤ 255
        rw [List.length_append, List.length_singleton]; omega
      · have e : d.loc 1 = false := e
        rw [hq] at e; cases e
    · rw [if_neg hq]
      have hq2 : d.loc 1 = false := by simpa using hq
      have hl : d.raw.length < 1024 := by
        rw [hq2] at hr
        simpa using hr
      refine ⟨h.right, h.line, ?_, h.flat, h.lines, fun e => ?_, h.plain⟩
      · show (d.raw ++ [c]).length ≤ 1279
        rw [List.length_append, List.length_singleton]; omega
      · have e : d.loc 1 = true := e
        rw [hq2] at e; cases e
  · exact h.lost

theorem Ok.back {N : Nat} {d : DS} (h : Ok N d) : Ok N d.back := by
  refine Ok.out (d := d.setLine d.line.dropLast) ⟨h.right, ?_, h.raw, h.flat, h.lines, h.canon, fun e => ?_⟩ _
  · show d.line.dropLast.length ≤ 255
    rw [List.length_dropLast]; have := h.line; omega
  · obtain ⟨e1, e2⟩ := h.plain e
    exact ⟨e1, by show d.line.dropLast = []; rw [e2]; rfl⟩

theorem Ok.backs {N : Nat} (p : Int → Bool) : ∀ (n : Nat) {d : DS}, Ok N d → Ok N (DS.backs p n d)
  | 0, _, h => h
  | n + 1, d, h => by
    show Ok N (if d.line = [] then d else if p (d.line.getLastD 0) = true then DS.backs p n d.back else d)
    split
    · exact h
    · split
      · exact Ok.backs p n h.back
      · exact h

theorem back_t (d : DS) : d.back.t = d.t := rfl

theorem Ok.ready {N : Nat} {d : DS} (h : Ok N d) (hq : d.loc 1 = true) : Ok (N + 1) d.ready := by
  have h0 : Ok N (d.setLine []) := ⟨h.right, Nat.zero_le _, h.raw, h.flat, h.lines, h.canon, fun e => ⟨(h.plain e).1, rfl⟩⟩
  unfold DS.ready
  split
  · exact h0.lost.more (by omega)
  · rename_i hn
    refine ⟨h.right, Nat.zero_le _, h.raw, ?_, ?_, h.canon, fun e => ?_⟩
    · show (d.lines ++ [d.line]).flatten.length ≤ 1024
      rw [List.flatten_append, List.length_append]
      have hc : (d.setLine []).cnt = d.raw.length + d.lines.flatten.length := rfl
      simp only [List.flatten_cons, List.flatten_nil, List.append_nil]
      omega
    · show (d.lines ++ [d.line]).length ≤ N + 1
      rw [List.length_append, List.length_singleton]; have := h.lines; omega
    · have e : d.loc 1 = false := e
      rw [hq] at e; cases e

theorem Ok.shows {N : Nat} : ∀ (l : List Int) {d : DS}, Ok N d → Ok N (DS.shows l d)
  | [], _, h => h
  | c :: l, _, h => Ok.shows l (h.shw c)

theorem put_loc (d : DS) (c f : Int) : (d.put c).loc f = d.loc f := by
  unfold DS.put
  split
  · rw [(like_shw _ c).loc, (like_nl _ c).loc]; unfold DS.lay; split <;> rfl
  · exact (like_lost d).loc f

theorem Ok.enter {N : Nat} {d : DS} (h : Ok N d) (c : Int) (hq : d.loc 1 = true) : Ok (N + 1) (d.enter c) := by
  unfold DS.enter
  split
  · exact (h.put c).ready (by rw [put_loc]; exact hq)
  · exact (h.put c).more (by omega)

theorem Ok.kills {N : Nat} {d : DS} (h : Ok N d) (c : Int) : Ok N (d.kills c) := by
  have hb : ∀ n, Ok N (DS.backs (fun _ => true) n d) := fun n => Ok.backs _ n h
  unfold DS.kills
  simp only
  split
  · refine Ok.out ?_ _
    split
    · exact (hb _).shw c
    · exact hb _
  · split
    · exact (hb _).shw c
    · exact hb _

theorem Ok.again {N : Nat} {d : DS} (h : Ok N d) (c : Int) : Ok N (d.again c) := by
  unfold DS.again
  simp only
  refine Ok.shows _ ?_
  split
  · exact (h.shw c).out _
  · exact h.shw c

theorem Ok.canon' {N : Nat} {d : DS} (h : Ok N d) (c : Int) (hq : d.loc 1 = true) : Ok (N + 1) (d.canon c) := by
  unfold DS.canon
  split
  · split
    · exact ((h.like (like_nxt d true)).out _).more (by omega)
    · exact (h.like (like_nxt d true)).more (by omega)
  · split
    · exact (Ok.backs _ _ (Ok.backs _ _ h)).more (by omega)
    · split
      · exact (h.again c).more (by omega)
      · split
        · exact (h.kills c).more (by omega)
        · split
          · exact h.ready hq
          · exact h.enter c hq

theorem Ok.plainIn {N : Nat} {d : DS} (h : Ok N d) (c : Int) : Ok (N + 1) (d.plainIn c).1 := by
  unfold DS.plainIn
  split
  · refine Ok.more (N := N) ?_ (by omega)
    show Ok N (d.signal c)
    unfold DS.signal
    split
    · exact ((h.shw c).flush).like (like_stp _ _)
    · exact h.shw c
  · split
    · exact (h.put c).more (by omega)
    · rename_i hq
      exact h.canon' c (by simpa using hq)

theorem Ok.input {N : Nat} {d : DS} (h : Ok N d) (c : Int) : Ok (N + 1) (d.input c).1 := by
  have h0 : Ok N (d.setEc []) := h.like (like_ec d [])
  unfold DS.input
  simp only
  split
  · exact ((h0.like (like_nxt _ false)).put _).more (by omega)
  · split
    · exact h0.more (by omega)
    · unfold DS.mapped
      split
      · exact (h0.like (like_stp _ _)).more (by omega)
      · split
        · exact (h0.like (like_stp _ false)).plainIn _
        · exact h0.plainIn _

theorem Ok.set {N : Nat} {d : DS} (h : Ok N d) (t : Tm) (ht : rightB t = true) : Ok N (d.set t) := by
  unfold DS.set
  split
  · rename_i e
    exact ⟨ht, h.line, h.raw, h.flat, h.lines, fun k => h.canon (e.trans k), fun k => h.plain (e.trans k)⟩
  · rename_i e
    split
    · rename_i e2
      have hq : d.loc 1 = true := by
        cases hd : d.loc 1
        · rw [hd, e2] at e; exact absurd rfl e
        · rfl
      have hr := h.canon hq
      refine ⟨ht, Nat.zero_le _, ?_, Nat.zero_le _, Nat.zero_le _, fun k => ?_, fun _ => ⟨rfl, rfl⟩⟩
      · show d.all.length ≤ 1279
        unfold DS.all
        rw [hr, List.nil_append, List.length_append]
        have := h.flat
        have := h.line
        omega
      · have k : (d.setT t).loc 1 = true := k
        rw [e2] at k; cases k
    · rename_i e2
      refine ⟨ht, ?_, Nat.zero_le _, Nat.zero_le _, Nat.zero_le _, fun _ => rfl, fun k => ?_⟩
      · show (d.all.take 254).length ≤ 255
        rw [List.length_take]; omega
      · exact absurd k e2

theorem Ok.rdS {N : Nat} {d : DS} (h : Ok N d) (n : Int) : Ok N (d.rdS n) := by
  unfold DS.rdS
  split
  · exact h
  · split
    · rename_i hq
      refine ⟨h.right, h.line, ?_, h.flat, h.lines, fun k => ?_, h.plain⟩
      · show (d.raw.drop n.toNat).length ≤ 1279
        rw [List.length_drop]; have := h.raw; omega
      · have k : d.loc 1 = true := k
        rw [hq] at k; cases k
    · rename_i hq
      split
      · exact h
      · rename_i l r hl
        have hf := h.flat
        have hn := h.lines
        rw [hl, List.flatten_cons, List.length_append] at hf
        rw [hl, List.length_cons] at hn
        split
        · refine ⟨h.right, h.line, h.raw, ?_, ?_, h.canon, fun k => absurd k hq⟩
          · show (l.drop n.toNat :: r).flatten.length ≤ 1024
            rw [List.flatten_cons, List.length_append, List.length_drop]; omega
          · show (l.drop n.toNat :: r).length ≤ N
            rw [List.length_cons]; omega
        · refine ⟨h.right, h.line, h.raw, ?_, ?_, h.canon, fun k => absurd k hq⟩
          · show r.flatten.length ≤ 1024; omega
          · show r.length ≤ N; omega

/-- A new one. -/
def fresh (t : Tm) : DS := ⟨t, [], [], [], false, false, []⟩

theorem ok_fresh (t : Tm) (h : rightB t = true) : Ok 0 (fresh t) := ⟨h, Nat.zero_le _, Nat.zero_le _, Nat.zero_le _, Nat.zero_le _, fun _ => rfl, fun _ => ⟨rfl, rfl⟩⟩

theorem Ok.sum {N : Nat} {d : DS} (h : Ok N d) : d.raw.length + d.lines.flatten.length + d.line.length ≤ 2558 := by
  have := h.raw
  have := h.flat
  have := h.line
  omega

end Go.Proofs.Ytkggmjjjopfdbaa
