/-
  What comes of one that goes, in plain words. No conditions.
-/
import Derived.Test.YtefpifnfinkbaaaEE
namespace Go.Proofs.Ytefpifnfinkbaaa
open Go.RowKit

variable {L : List Pr} {md : Int} {f : Int → Int}

/-- The groups that have processes, rising. -/
def grps (md : Int) (L : List Pr) : List Int := ((List.range md.toNat).map (fun (k : Nat) => (k : Int) + 1)).filter (fun g => L.any (fun p => p.grp == g))

theorem grps_up (md : Int) (L : List Pr) : (grps md L).Pairwise (· < ·) := by
  refine List.Pairwise.filter _ (List.pairwise_map.2 (List.pairwise_lt_range.imp (fun {a b} h => ?_)))
  omega

theorem grps_mem (h : ∀ p ∈ L, 1 ≤ p.grp ∧ p.grp ≤ md) (x : Int) : x ∈ grps md L ↔ tiesH L L.length x = true := by
  unfold grps
  rw [tiesH_all, List.mem_filter, List.mem_map]
  constructor
  · exact fun h => h.2
  · intro hx
    refine ⟨?_, hx⟩
    obtain ⟨p, hp, hpx⟩ := List.any_eq_true.1 hx
    have e := beq_iff_eq.1 hpx
    have := h p hp
    exact ⟨(x - 1).toNat, List.mem_range.2 (by omega), by omega⟩

theorem grps_len (md : Int) (L : List Pr) : (grps md L).length ≤ md.toNat := by
  unfold grps
  refine Nat.le_trans (List.length_filter_le _ _) ?_
  rw [List.length_map, List.length_range]
  exact Nat.le_refl _

theorem grps_w64 (hm : md ≤ 4096) : ∀ x ∈ grps md L, W64 x := fun x hx => by
  unfold grps at hx
  obtain ⟨k, hk, rfl⟩ := List.mem_map.1 (List.mem_filter.1 hx).1
  have := List.mem_range.1 hk
  unfold W64
  omega

/-- What a group is told that is an orphan now. -/
def orphS (L L3 : List Pr) (g : Int) : List Sg := if 0 < tiesF L L.length g ∧ tiesF L3 L3.length g = 0 then sigsTo L3 g [4, 5] else []

/-- What the first groups are told. -/
def tellS (L L3 : List Pr) (T : List Int) : List Sg := T.flatMap (orphS L L3)

theorem tellS_snoc (L L3 : List Pr) {T : List Int} {k : Nat} (h : k < T.length) : tellS L L3 (T.take (k + 1)) = tellS L L3 (T.take k) ++ orphS L L3 (T.getD k 0) := by
  unfold tellS
  rw [List.take_add_one, List.flatMap_append, List.getD_eq_getElem?_getD, List.getElem?_eq_getElem h]
  simp

theorem orphS_yes {L L3 : List Pr} {g : Int} (h1 : 0 < tiesF L L.length g) (h2 : tiesF L3 L3.length g = 0) : orphS L L3 g = sigsTo L3 g [4, 5] := if_pos ⟨h1, h2⟩

theorem orphS_no {L L3 : List Pr} {g : Int} (h : ¬ (0 < tiesF L L.length g ∧ tiesF L3 L3.length g = 0)) : orphS L L3 g = [] := if_neg h

theorem sigsTo_len (L : List Pr) (g : Int) (K : List Int) : (sigsTo L g K).length ≤ K.length := by
  unfold sigsTo
  split
  · rw [sigL_len]; exact Nat.le_refl _
  · exact Nat.zero_le _

theorem tellS_len (L L3 : List Pr) : ∀ T : List Int, (tellS L L3 T).length ≤ T.length * 2
  | [] => Nat.zero_le _
  | g :: T => by
    show (orphS L L3 g ++ tellS L L3 T).length ≤ _
    have h1 := tellS_len L L3 T
    have h2 : (orphS L L3 g).length ≤ 2 := by
      unfold orphS
      split
      · exact sigsTo_len L3 g [4, 5]
      · exact Nat.zero_le _
    rw [List.length_append, List.length_cons]
    omega

/-- Where signals are read. -/
theorem SV.src {w : World} {a : Option Addr} {cap : Nat} {K : List Sg} (h : SV w a cap K) : (∀ ad, a = some ad → ∀ j u, (sc K)[j]? = some u → w.cell? (ad.add j) = some u) ∧ (a = none → K.length = 0) := by
  rcases h.2 with ⟨e, h0⟩ | ⟨g, o, c, e, _, _, _, hr, _⟩
  · injection e with e1 e2 e3
    subst e1
    exact ⟨fun ad e => (by cases e), fun _ => h0⟩
  · injection e with e1 e2 e3
    subst e1
    refine ⟨fun ad e j u hu => ?_, fun e => (by cases e)⟩
    cases e
    rw [addr_add]
    exact hr j u hu

/-- What stands while one that goes is seen off. -/
structure ExIn (w0 : World) (q0 q : Tq) (L L3 : List Pr) (md : Int) (f3 : Int → Int) (c m1 m3 : Nat) (ka : Option Addr) (kc : Nat) (T : List Int) (a : Option Addr) (cap : Nat) (S : List Sg) (w : World) : Prop where
  tm : TM w q L3 md f3 c
  b1 : MAt w m1 L.length (tiesF L L.length) (tiesH L L.length)
  b3 : MAt w m3 L3.length (tiesF L3 L3.length) (tiesH L3 L3.length)
  row : IArg .i64 w (.slice ka T.length kc) T ka kc
  sv : SV w a cap S
  ne : ∀ j, a.map Addr.block = some j → ¬ q.own j ∧ ¬ j = m1 ∧ ¬ j = m3 ∧ (T ≠ [] → ∀ b off, ka = some ⟨b, off, none⟩ → ¬ j = b)
  new : ∀ j, a.map Addr.block = some j → w0.heap.size ≤ j
  mv : Moved q0 q w0 w

theorem ExIn.keep {w0 : World} {q0 q : Tq} {L L3 : List Pr} {f3 : Int → Int} {c m1 m3 kc cap : Nat} {ka a : Option Addr} {T : List Int} {S : List Sg} {w w1 : World} (h : ExIn w0 q0 q L L3 md f3 c m1 m3 ka kc T a cap S w) (hs : Stay (fun _ => False) w w1) : ExIn w0 q0 q L L3 md f3 c m1 m3 ka kc T a cap S w1 :=
  ⟨h.tm.keep hs, h.b1.keep hs, h.b3.keep hs, h.row.stay0 hs, h.sv.keep hs, h.ne, h.new, h.mv.trans (Moved.of_stay hs)⟩

/-- More signals are gathered. -/
theorem ExIn.more {w0 : World} {q0 q : Tq} {L L3 : List Pr} {f3 : Int → Int} {c m1 m3 kc cap cap2 : Nat} {ka a a2 : Option Addr} {T : List Int} {S S2 : List Sg} {w w1 : World} (h : ExIn w0 q0 q L L3 md f3 c m1 m3 ka kc T a cap S w) (hz : w0.heap.size ≤ w.heap.size)
    (hs : Stay (fun j => a.map Addr.block = some j) w w1) (hv : SV w1 a2 cap2 S2) (hb : (∀ j, a2.map Addr.block = some j → a.map Addr.block = some j) ∨ (∀ j, a2.map Addr.block = some j → j = w.heap.size)) : ExIn w0 q0 q L L3 md f3 c m1 m3 ka kc T a2 cap2 S2 w1 := by
  have hkl : ∀ b off, ka = some ⟨b, off, none⟩ → T ≠ [] → b < w.heap.size := fun b off e hne => by
    obtain ⟨b', off', e', hlt, _⟩ := h.row.cells hne
    rw [e] at e'
    cases e'
    exact hlt
  have hrow : IArg .i64 w1 (.slice ka T.length kc) T ka kc := by
    by_cases hT : T = []
    · exact ⟨h.row.shape, fun hne => absurd hT hne, h.row.nilCap, h.row.lenLe, h.row.capLe, h.row.wf⟩
    · exact h.row.stay hs (fun b off e k => (h.ne _ k).2.2.2 hT b off e rfl)
  refine ⟨h.tm.stay hs (fun j hj e => (h.ne j e).1 hj), h.b1.stay hs (fun e => (h.ne _ e).2.1 rfl), h.b3.stay hs (fun e => (h.ne _ e).2.2.1 rfl), hrow, hv, fun j hj => ?_, fun j hj => ?_, h.mv.1.trans2 hs (fun j hj e => by have := h.new j e; omega), h.mv.2⟩
  · rcases hb with hb | hb
    · exact h.ne j (hb j hj)
    · have e := hb j hj
      subst e
      exact ⟨fun k => by have := h.tm.lt _ k; omega, fun k => by have := h.b1.lt; omega, fun k => by have := h.b3.lt; omega, fun hT b off k e => by have := hkl b off k hT; omega⟩
  · rcases hb with hb | hb
    · exact h.new j (hb j hj)
    · have := hb j hj; omega

end Go.Proofs.Ytefpifnfinkbaaa
