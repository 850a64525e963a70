/-
  The document's table: where it lies. No conditions.
  What the document asks of a table: walked. No conditions.
  The same signals, the same processes: walked. No conditions.
  Another table: with another process, with another group in front, with a terminal for a session: walked. No conditions.
  Another table: with a terminal for a session, with another group in front: walked. No conditions.
  The document makes a process: walked. No conditions.
-/
import Derived.Test.YtefpifnfinkbaaaEG
import Derived.BigQuiet
import Derived.ArgAppend
namespace Go.Proofs.Ytefpifnfinkbaaa
open Go.RowKit

/-- Where the document's table lies. -/
structure Xr where
  a : Option Addr
  cap : Nat
  a2 : Option Addr
  c2 : Nat

/-- A block of it. -/
def Xr.has (x : Xr) (j : Nat) : Prop := x.a.map Addr.block = some j ∨ x.a2.map Addr.block = some j

/-- The document's table: its processes and what stands in front, to be read. -/
structure XAt (w : World) (x : Xr) (L : List Pr) (f : Int → Int) : Prop where
  rd : Rd w x.a L
  nc : x.a = none → x.cap = 0
  le : L.length ≤ x.cap
  cm : x.cap ≤ maxLen
  len : L.length ≤ 256
  fr : ∃ g, x.a2 = some ⟨g, 0, none⟩ ∧ ∀ k : Nat, k < 65 → w.cell? ⟨g, k, none⟩ = some (.int .i64 (f (k : Int)))
  c2 : 65 ≤ x.c2
  cm2 : x.c2 ≤ maxLen
  lt : ∀ j, x.has j → j < w.heap.size

theorem XAt.stay {T : Nat → Prop} {w w1 : World} {x : Xr} {L : List Pr} {f : Int → Int} (h : XAt w x L f) (hs : Stay T w w1) (hn : ∀ j, x.has j → ¬ T j) : XAt w1 x L f := by
  obtain ⟨g, hg, hc⟩ := h.fr
  have hgh : x.has g := .inr (by rw [hg]; rfl)
  exact ⟨h.rd.stay hs (fun j hj => hn j (.inl hj)), h.nc, h.le, h.cm, h.len, ⟨g, hg, fun k hk => (hs.cell (p := ⟨g, k, none⟩) (h.lt g hgh) (hn g hgh)).trans (hc k hk)⟩, h.c2, h.cm2, fun j hj => Nat.lt_of_lt_of_le (h.lt j hj) hs.size⟩

theorem XAt.keep {w w1 : World} {x : Xr} {L : List Pr} {f : Int → Int} (h : XAt w x L f) (hs : Stay (fun _ => False) w w1) : XAt w1 x L f := h.stay hs (fun _ _ h => h)

/-- What is new of it is new. -/
def XFrom (w : World) (x x' : Xr) : Prop := ∀ j, x'.has j → x.has j ∨ w.heap.size ≤ j

theorem XFrom.refl (w : World) (x : Xr) : XFrom w x x := fun _ h => .inl h

theorem XFrom.trans {w w1 : World} {x x1 x2 : Xr} (h : XFrom w x x1) (hz : w.heap.size ≤ w1.heap.size) (k : XFrom w1 x1 x2) : XFrom w x x2 := fun j hj => by
  rcases k j hj with e | e
  · exact h j e
  · exact .inr (Nat.le_trans hz e)

/-- The table as a value. -/
def xs (x : Xr) (n : Nat) (nx : Int) : Xs := ⟨.slice x.a n x.cap, nx, .slice x.a2 65 x.c2⟩

/-- Processes that can be read, one behind the other. -/
theorem Rd.row {w : World} {a : Option Addr} {cap : Nat} {L : List Pr} (h : Rd w a L) (nc : a = none → cap = 0) : IsRowS w 6 (.slice a L.length cap) L.length (wc L) := by
  cases a with
  | none =>
    have hL : L = [] := by
      cases L with
      | nil => rfl
      | cons p L =>
        obtain ⟨g, o, e, _⟩ := h 0 p rfl
        cases e
    subst hL
    rw [nc rfl]
    exact .inl ⟨rfl, rfl, rfl⟩
  | some ad =>
    refine .inr ⟨ad, cap, rfl, wc_length L, fun j u hu => ?_⟩
    have hj : j < (wc L).length := (List.getElem?_eq_some_iff.1 hu).1
    rw [wc_length] at hj
    have hi : j / 6 < L.length := by omega
    obtain ⟨p, hp⟩ : ∃ p, L[j / 6]? = some p := ⟨_, List.getElem?_eq_getElem hi⟩
    obtain ⟨g, o, e, hb⟩ := h (j / 6) p hp
    cases e
    have e1 := wc_get hp (j % 6) (Nat.mod_lt _ (by decide))
    rw [show j / 6 * 6 + j % 6 = j by omega, hu] at e1
    have e2 := hb.cells (j % 6) u e1.symm
    rw [addr_add, show o + j = o + j / 6 * 6 + j % 6 by omega]
    exact e2

variable {w : World} {x : Xr} {L : List Pr} {f : Int → Int}

theorem XAt.row (h : XAt w x L f) : IsRowS w 6 (.slice x.a L.length x.cap) L.length (wc L) := h.rd.row h.nc

/-- The place of a process; -1: there is none. -/
def ixI (L : List Pr) (y : Int) : Int := fiI (fun p => p.pid == y) L

theorem ixI_at {i : Nat} {p : Pr} {y : Int} (hu : Up L) (hp : L[i]? = some p) (hx : p.pid = y) : ixI L y = (i : Nat) := by
  have hi : i < L.length := (List.getElem?_eq_some_iff.1 hp).1
  have e : fi (fun p => p.pid == y) L = i := by
    refine fi_eq (by omega) (fun k a hk ha => ?_) (fun a ha => ?_)
    · have := hu.get hk ha hp
      simpa using (by omega : ¬ a.pid = y)
    · rw [hp] at ha; cases ha; simpa using hx
  unfold ixI fiI
  rw [e, if_pos hi]

theorem ixI_no {y : Int} (hx : ∀ p ∈ L, p.pid ≠ y) : ixI L y = -1 := by
  have e : fi (fun p => p.pid == y) L = L.length := by
    refine fi_eq (Nat.le_refl _) (fun k a hk ha => ?_) (fun a ha => ?_)
    · simpa using hx a (mem_at ha)
    · rw [List.getElem?_eq_none (Nat.le_refl _)] at ha; cases ha
  unfold ixI fiI
  rw [e, if_neg (Nat.lt_irrefl _)]

/-- What the table is in a box. -/
theorem xbox_new (w : World) (x : Xr) (n : Nat) (nx : Int) {b : Nat} (h : w.heap.size = b) : XBox (w.alloc (.cells #[.slice x.a n x.cap, .int .i64 nx, .slice x.a2 65 x.c2] 29)) b (xs x n nx) := XBox.new (xs x n nx) h

end Go.Proofs.Ytefpifnfinkbaaa

namespace Go.Proofs.Ytefpifnfinkbaaa
open Go.RowKit

variable {w : World} {x : Xr} {L : List Pr} {f : Int → Int}

theorem at14 (y nx : Int) (h : XAt w x L f) : Calls Try.prog 14 #[.agg #[.slice x.a L.length x.cap, .int .i64 nx, .slice x.a2 65 x.c2], .int .i64 y] w (Gives (.int .i64 (ixI L y)) w) := by
  obtain ⟨bt, hbt⟩ : ∃ b, b = w.heap.size := ⟨_, rfl⟩
  obtain ⟨n, hn⟩ : ∃ n, n = L.length := ⟨_, rfl⟩
  obtain ⟨W0, hW0⟩ : ∃ W, W = w.alloc (.cells #[.slice x.a n x.cap, .int .i64 nx, .slice x.a2 65 x.c2] 29) := ⟨_, rfl⟩
  have hs : Stay (fun _ => False) w W0 := by rw [hW0]; exact (Stay.refl _ _).alloc _
  have HB : Hid (XBox W0 bt (xs x n nx)) := by rw [hW0]; exact xbox_new w x n nx hbt.symm
  have HX := hide' (h.keep hs)
  have HS := hide' hs
  have HN := hide' hn
  have hn1 : (n : Int) ≤ 256 := by have := h.len; omega
  rw [← hn]
  have HL0 : Hid (Stay (fun _ => False) W0 W0 ∧ ∀ k t, k < 0 → L[k]? = some t → ¬ t.pid = y) := ⟨Stay.refl _ _, fun k t h => by omega⟩
  clear h hn hs
  go_enter Try.func14, Try.ntmps14
  go_upto_region 1 with fail
  rw [← hW0, ← hbt]
  clear hW0 hbt
  go_wp2
  go_loopg [5] n (fun gg v5 wr => ∃ k : Nat, k ≤ n ∧ gg = n - k ∧ v5 = .int .i64 (k : Int) ∧ Hid (Stay (fun _ => False) W0 wr ∧ ∀ j t, j < k → L[j]? = some t → ¬ t.pid = y))
  case atStart => exact ⟨0, Nat.zero_le _, rfl, rfl, HL0⟩
  case round =>
    clear HL0
    obtain ⟨k, hk, rfl, rfl, HL⟩ := hrel
    have e0 := (HB.out.keep HL.out.1).c0
    simp only [xs] at e0
    by_cases hlt : k < n
    · have kn : (k : Int) < (n : Nat) := by omega
      obtain ⟨t, ht⟩ : ∃ t, L[k]? = some t := ⟨_, List.getElem?_eq_getElem (by rw [← HN.out]; exact hlt)⟩
      obtain ⟨g, o, hxa, hb⟩ := (HX.out.keep HL.out.1).rd k t ht
      rw [hxa] at e0
      obtain ⟨c0, c1, c2, c3, c4, c5⟩ := hb
      have HT := hide' ht
      clear ht hxa c1 c2 c3 c4 c5
      by_cases hx : t.pid = y
      · have d0 : (t.pid == y) = true := beq_iff_eq.2 hx
        have HE : Hid (ixI L y = ((k : Nat) : Int)) := by
          have e := fi_eq (p := fun p => p.pid == y) (L := L) (i := k) (by rw [← HN.out]; omega) (fun j u hj hu => by simpa using HL.out.2 j u hj hu) (fun u hu => by rw [HT.out] at hu; cases hu; simpa using hx)
          show ixI L y = _
          unfold ixI fiI
          rw [e, if_pos (by rw [← HN.out]; exact hlt)]
        clear hx
        go_wp2
        go_ret
        exact ⟨by rw [HE.out]; rfl, HS.out.trans HL.out.1⟩
      · have d0 : (t.pid == y) = false := beq_eq_false_iff_ne.2 hx
        have HN1 : Hid (Stay (fun _ => False) W0 wr ∧ ∀ j t, j < k + 1 → L[j]? = some t → ¬ t.pid = y) := by
          refine ⟨HL.out.1, fun j u hj hu => ?_⟩
          by_cases e : j = k
          · subst e
            rw [HT.out] at hu
            cases hu
            exact hx
          · exact HL.out.2 j u (by omega) hu
        clear hx HL
        go_wp2
        go_roundg (n - (k + 1))
        case measure => omega
        case rel => exact ⟨k + 1, by omega, rfl, by go_num, HN1⟩
    · have e : k = n := by omega
      subst e
      have HE : Hid (ixI L y = -1) := ixI_no (fun p hp e => by
        obtain ⟨j, hj⟩ := List.getElem?_of_mem hp
        exact HL.out.2 j p (by have := (List.getElem?_eq_some_iff.1 hj).1; have := HN.out; omega) hj e)
      go_wp2
      go_ret
      exact ⟨by rw [HE.out]; rfl, HS.out.trans HL.out.1⟩

/-- Whether there is a group in a session; of session 0: in any. -/
def hasB (L : List Pr) (g z : Int) : Bool := L.any (fun p => p.grp == g && (z == 0 || p.ses == z))

theorem hasB_zero (L : List Pr) (g : Int) : hasB L g 0 = L.any (fun p => p.grp == g) := by unfold hasB; simp

theorem hasB_other (L : List Pr) (g : Int) {z : Int} (hz : z ≠ 0) : hasB L g z = L.any (fun p => p.grp == g && p.ses == z) := by
  unfold hasB
  rw [show (z == 0) = false from beq_eq_false_iff_ne.2 hz]
  simp

theorem any_no {p : Pr → Bool} (h : ∀ (j : Nat) t, L[j]? = some t → p t = false) : L.any p = false := by
  rw [List.any_eq_false]
  intro t ht
  obtain ⟨j, hj⟩ := List.getElem?_of_mem ht
  rw [h j t hj]
  decide

set_option maxHeartbeats 1000000 in
theorem has41 (y z nx : Int) (h : XAt w x L f) : Calls Try.prog 41 #[.agg #[.slice x.a L.length x.cap, .int .i64 nx, .slice x.a2 65 x.c2], .int .i64 y, .int .i64 z] w (Gives (.bool (hasB L y z)) w) := by
  obtain ⟨bt, hbt⟩ : ∃ b, b = w.heap.size := ⟨_, rfl⟩
  obtain ⟨n, hn⟩ : ∃ n, n = L.length := ⟨_, rfl⟩
  obtain ⟨W0, hW0⟩ : ∃ W, W = w.alloc (.cells #[.slice x.a n x.cap, .int .i64 nx, .slice x.a2 65 x.c2] 29) := ⟨_, rfl⟩
  have hs : Stay (fun _ => False) w W0 := by rw [hW0]; exact (Stay.refl _ _).alloc _
  have HB : Hid (XBox W0 bt (xs x n nx)) := by rw [hW0]; exact xbox_new w x n nx hbt.symm
  have HX := hide' (h.keep hs)
  have HS := hide' hs
  have HN := hide' hn
  have hn1 : (n : Int) ≤ 256 := by have := h.len; omega
  rw [← hn]
  have HL0 : Hid (Stay (fun _ => False) W0 W0 ∧ ∀ k t, k < 0 → L[k]? = some t → (t.grp == y && (z == 0 || t.ses == z)) = false) := ⟨Stay.refl _ _, fun k t h => by omega⟩
  clear h hn hs
  go_enter Try.func41, Try.ntmps41
  go_upto_region 1 with fail
  rw [← hW0, ← hbt]
  clear hW0 hbt
  go_wp2
  go_loopg [7] n (fun gg v7 wr => ∃ k : Nat, k ≤ n ∧ gg = n - k ∧ v7 = .int .i64 (k : Int) ∧ Hid (Stay (fun _ => False) W0 wr ∧ ∀ j t, j < k → L[j]? = some t → (t.grp == y && (z == 0 || t.ses == z)) = false))
  case atStart => exact ⟨0, Nat.zero_le _, rfl, rfl, HL0⟩
  case round =>
    clear HL0
    obtain ⟨k, hk, rfl, rfl, HL⟩ := hrel
    have e0 := (HB.out.keep HL.out.1).c0
    simp only [xs] at e0
    by_cases hlt : k < n
    · have kn : (k : Int) < (n : Nat) := by omega
      obtain ⟨t, ht⟩ : ∃ t, L[k]? = some t := ⟨_, List.getElem?_eq_getElem (by rw [← HN.out]; exact hlt)⟩
      obtain ⟨g, o, hxa, hb⟩ := (HX.out.keep HL.out.1).rd k t ht
      rw [hxa] at e0
      obtain ⟨c0, c1, c2, c3, c4, c5⟩ := hb
      have HT := hide' ht
      have HNO : Hid ((t.grp == y && (z == 0 || t.ses == z)) = false → Stay (fun _ => False) W0 wr ∧ ∀ j t, j < k + 1 → L[j]? = some t → (t.grp == y && (z == 0 || t.ses == z)) = false) := fun hx => by
        refine ⟨HL.out.1, fun j u hj hu => ?_⟩
        by_cases e : j = k
        · subst e
          rw [HT.out] at hu
          cases hu
          exact hx
        · exact HL.out.2 j u (by omega) hu
      have HYES : Hid ((t.grp == y && (z == 0 || t.ses == z)) = true → hasB L y z = true) := fun hx => List.any_eq_true.2 ⟨t, mem_at HT.out, hx⟩
      have HST := hide' (HS.out.trans HL.out.1)
      clear ht hxa c0 c1 c4 c5 HL HT
      cases d1 : (t.grp == y)
      · have HN1 := hide' (HNO.out (by rw [d1]; rfl))
        clear HNO HYES
        go_wp2
        go_roundg (n - (k + 1))
        case measure => omega
        case rel => exact ⟨k + 1, by omega, rfl, by go_num, HN1⟩
      · cases d2 : (z == 0)
        · cases d3 : (t.ses == z)
          · have HN1 := hide' (HNO.out (by rw [d1, d2, d3]; rfl))
            clear HNO HYES
            go_wp2
            go_roundg (n - (k + 1))
            case measure => omega
            case rel => exact ⟨k + 1, by omega, rfl, by go_num, HN1⟩
          · have HE := hide' (HYES.out (by rw [d1, d2, d3]; rfl))
            clear HNO HYES
            go_wp2
            go_ret
            exact ⟨by rw [HE.out]; rfl, HST.out⟩
        · have HE := hide' (HYES.out (by rw [d1, d2]; rfl))
          clear HNO HYES
          go_wp2
          go_ret
          exact ⟨by rw [HE.out]; rfl, HST.out⟩
    · have e : k = n := by omega
      subst e
      have HE : Hid (hasB L y z = false) := any_no (fun j t hj => HL.out.2 j t (by have := (List.getElem?_eq_some_iff.1 hj).1; have := HN.out; omega) hj)
      go_wp2
      go_ret
      exact ⟨by rw [HE.out]; rfl, HS.out.trans HL.out.1⟩

/-- The session of a terminal; 0: there is none. -/
def sesI (L : List Pr) (t : Int) : Int := if t = 0 then 0 else match L.find? (fun p => p.tty == t) with
  | some p => p.ses
  | none => 0

theorem find_first {p : Pr → Bool} : ∀ {L : List Pr} {k : Nat} {t : Pr}, L[k]? = some t → p t = true → (∀ j u, j < k → L[j]? = some u → p u = false) → L.find? p = some t
  | [], k, t, h, _, _ => by simp at h
  | a :: L, 0, t, h, h1, _ => by
    simp at h
    subst h
    simp [h1]
  | a :: L, k + 1, t, h, h1, h2 => by
    have h3 := h2 0 a (by omega) rfl
    rw [List.find?_cons, h3]
    exact find_first (L := L) (k := k) (by simpa using h) h1 (fun j u hj hu => h2 (j + 1) u (by omega) (by simpa using hu))

theorem session56_zero (nx : Int) (h : XAt w x L f) : Calls Try.prog 56 #[.agg #[.slice x.a L.length x.cap, .int .i64 nx, .slice x.a2 65 x.c2], .int .i64 0] w (Gives (.int .i64 0) w) := by
  obtain ⟨bt, hbt⟩ : ∃ b, b = w.heap.size := ⟨_, rfl⟩
  obtain ⟨n, hn⟩ : ∃ n, n = L.length := ⟨_, rfl⟩
  obtain ⟨W0, hW0⟩ : ∃ W, W = w.alloc (.cells #[.slice x.a n x.cap, .int .i64 nx, .slice x.a2 65 x.c2] 29) := ⟨_, rfl⟩
  have hs : Stay (fun _ => False) w W0 := by rw [hW0]; exact (Stay.refl _ _).alloc _
  have HB : Hid (XBox W0 bt (xs x n nx)) := by rw [hW0]; exact xbox_new w x n nx hbt.symm
  have HX := hide' (h.keep hs)
  have HS := hide' hs
  have HN := hide' hn
  have hn1 : (n : Int) ≤ 256 := by have := h.len; omega
  rw [← hn]
  have HL0 : Hid (Stay (fun _ => False) W0 W0) := Stay.refl _ _
  clear h hn hs
  go_enter Try.func56, Try.ntmps56
  go_upto_region 1 with fail
  rw [← hW0, ← hbt]
  clear hW0 hbt
  go_wp2
  go_loopg [5] n (fun gg v5 wr => ∃ k : Nat, k ≤ n ∧ gg = n - k ∧ v5 = .int .i64 (k : Int) ∧ Hid (Stay (fun _ => False) W0 wr))
  case atStart => exact ⟨0, Nat.zero_le _, rfl, rfl, HL0⟩
  case round =>
    clear HL0
    obtain ⟨k, hk, rfl, rfl, HL⟩ := hrel
    have e0 := (HB.out.keep HL.out).c0
    simp only [xs] at e0
    by_cases hlt : k < n
    · have kn : (k : Int) < (n : Nat) := by omega
      have HN1 := hide' HL.out
      clear HL
      go_wp2
      go_roundg (n - (k + 1))
      case measure => omega
      case rel => exact ⟨k + 1, by omega, rfl, by go_num, HN1⟩
    · have e : k = n := by omega
      subst e
      go_wp2
      go_ret
      exact ⟨rfl, HS.out.trans HL.out⟩

theorem session56_other (t nx : Int) (h : XAt w x L f) (hz : (t != 0) = true) : Calls Try.prog 56 #[.agg #[.slice x.a L.length x.cap, .int .i64 nx, .slice x.a2 65 x.c2], .int .i64 t] w (Gives (.int .i64 (sesI L t)) w) := by
  obtain ⟨bt, hbt⟩ : ∃ b, b = w.heap.size := ⟨_, rfl⟩
  obtain ⟨n, hn⟩ : ∃ n, n = L.length := ⟨_, rfl⟩
  obtain ⟨W0, hW0⟩ : ∃ W, W = w.alloc (.cells #[.slice x.a n x.cap, .int .i64 nx, .slice x.a2 65 x.c2] 29) := ⟨_, rfl⟩
  have hs : Stay (fun _ => False) w W0 := by rw [hW0]; exact (Stay.refl _ _).alloc _
  have HB : Hid (XBox W0 bt (xs x n nx)) := by rw [hW0]; exact xbox_new w x n nx hbt.symm
  have HX := hide' (h.keep hs)
  have HS := hide' hs
  have HN := hide' hn
  have hn1 : (n : Int) ≤ 256 := by have := h.len; omega
  rw [← hn]
  have HL0 : Hid (Stay (fun _ => False) W0 W0 ∧ ∀ k u, k < 0 → L[k]? = some u → (u.tty == t) = false) := ⟨Stay.refl _ _, fun k t h => by omega⟩
  have HZ : Hid (¬ t = 0) := by show ¬ _; simpa using hz
  clear h hn hs
  go_enter Try.func56, Try.ntmps56
  go_upto_region 1 with fail
  rw [← hW0, ← hbt]
  clear hW0 hbt
  go_wp2
  go_loopg [5] n (fun gg v5 wr => ∃ k : Nat, k ≤ n ∧ gg = n - k ∧ v5 = .int .i64 (k : Int) ∧ Hid (Stay (fun _ => False) W0 wr ∧ ∀ j u, j < k → L[j]? = some u → (u.tty == t) = false))
  case atStart => exact ⟨0, Nat.zero_le _, rfl, rfl, HL0⟩
  case round =>
    clear HL0
    obtain ⟨k, hk, rfl, rfl, HL⟩ := hrel
    have e0 := (HB.out.keep HL.out.1).c0
    simp only [xs] at e0
    by_cases hlt : k < n
    · have kn : (k : Int) < (n : Nat) := by omega
      obtain ⟨u, hu⟩ : ∃ u, L[k]? = some u := ⟨_, List.getElem?_eq_getElem (by rw [← HN.out]; exact hlt)⟩
      obtain ⟨g, o, hxa, hb⟩ := (HX.out.keep HL.out.1).rd k u hu
      rw [hxa] at e0
      obtain ⟨c0, c1, c2, c3, c4, c5⟩ := hb
      have HT := hide' hu
      clear hu hxa c0 c1 c2 c5
      cases d1 : (u.tty == t)
      · have HN1 : Hid (Stay (fun _ => False) W0 wr ∧ ∀ j u, j < k + 1 → L[j]? = some u → (u.tty == t) = false) := by
          refine ⟨HL.out.1, fun j v hj hv => ?_⟩
          by_cases e : j = k
          · subst e
            rw [HT.out] at hv
            cases hv
            exact d1
          · exact HL.out.2 j v (by omega) hv
        clear HL
        go_wp2
        go_roundg (n - (k + 1))
        case measure => omega
        case rel => exact ⟨k + 1, by omega, rfl, by go_num, HN1⟩
      · have HE : Hid (sesI L t = u.ses) := by
          show sesI L t = _
          unfold sesI
          rw [if_neg HZ.out, find_first HT.out d1 HL.out.2]
        go_wp2
        go_ret
        exact ⟨by rw [HE.out]; rfl, HS.out.trans HL.out.1⟩
    · have e : k = n := by omega
      subst e
      have HE : Hid (sesI L t = 0) := by
        show sesI L t = _
        unfold sesI
        rw [if_neg HZ.out, List.find?_eq_none.2 (fun u hu => by
          obtain ⟨j, hj⟩ := List.getElem?_of_mem hu
          rw [HL.out.2 j u (by have := (List.getElem?_eq_some_iff.1 hj).1; have := HN.out; omega) hj]
          decide)]
      go_wp2
      go_ret
      exact ⟨by rw [HE.out]; rfl, HS.out.trans HL.out.1⟩

theorem session56 (t nx : Int) (h : XAt w x L f) : Calls Try.prog 56 #[.agg #[.slice x.a L.length x.cap, .int .i64 nx, .slice x.a2 65 x.c2], .int .i64 t] w (Gives (.int .i64 (sesI L t)) w) := by
  by_cases hz : t = 0
  · subst hz
    exact session56_zero nx h
  · exact session56_other t nx h (by simpa using hz)

theorem front19 (t nx : Int) (h : XAt w x L f) (hf : ¬ (1 ≤ t ∧ t ≤ 64) → f t = 0) : Calls Try.prog 19 #[.agg #[.slice x.a L.length x.cap, .int .i64 nx, .slice x.a2 65 x.c2], .int .i64 t] w (Gives (.int .i64 (f t)) w) := by
  obtain ⟨bt, hbt⟩ : ∃ b, b = w.heap.size := ⟨_, rfl⟩
  obtain ⟨n, hn⟩ : ∃ n, n = L.length := ⟨_, rfl⟩
  obtain ⟨W0, hW0⟩ : ∃ W, W = w.alloc (.cells #[.slice x.a n x.cap, .int .i64 nx, .slice x.a2 65 x.c2] 29) := ⟨_, rfl⟩
  have hs : Stay (fun _ => False) w W0 := by rw [hW0]; exact (Stay.refl _ _).alloc _
  have HB : Hid (XBox W0 bt (xs x n nx)) := by rw [hW0]; exact xbox_new w x n nx hbt.symm
  have HX := hide' (h.keep hs)
  have HS := hide' hs
  have HN := hide' hn
  have hn1 : (n : Int) ≤ 256 := by have := h.len; omega
  rw [← hn]
  have HF := hide' hf
  clear h hn hs hf
  by_cases h1 : 1 ≤ t
  · by_cases h2 : t ≤ 64
    · obtain ⟨k, rfl⟩ : ∃ k : Nat, t = (k : Int) := ⟨t.toNat, by omega⟩
      obtain ⟨g, hg, hc⟩ := HX.out.fr
      have c0 := hc k (by omega)
      have e2 := HB.out.c2
      simp only [xs] at e2
      rw [hg] at e2
      clear hg hc
      go_enter Try.func19, Try.ntmps19
      go_upto_region 1 with fail
      rw [← hW0, ← hbt]
      clear hW0 hbt
      go_wp2
      go_ret
      exact ⟨rfl, HS.out⟩
    · have HE := hide' (HF.out (by omega))
      go_enter Try.func19, Try.ntmps19
      go_upto_region 1 with fail
      rw [← hW0, ← hbt]
      clear hW0 hbt
      go_wp2
      go_ret
      exact ⟨by rw [HE.out]; rfl, HS.out⟩
  · have HE := hide' (HF.out (by omega))
    go_enter Try.func19, Try.ntmps19
    go_upto_region 1 with fail
    rw [← hW0, ← hbt]
    clear hW0 hbt
    go_wp2
    go_ret
    exact ⟨by rw [HE.out]; rfl, HS.out⟩

end Go.Proofs.Ytefpifnfinkbaaa

namespace Go.Proofs.Ytefpifnfinkbaaa
open Go.RowKit

variable {w : World} {x : Xr} {L : List Pr} {f : Int → Int}

theorem same15 (a b : Option Addr) (ca cb : Nat) (S : List Sg) (w : World) (ha : SV w a ca S) (hb : SV w b cb S) (hl : S.length ≤ 100000) : Calls Try.prog 15 #[.slice a S.length ca, .slice b S.length cb] w (Gives (.bool true) w) := by
  obtain ⟨n, hn⟩ : ∃ n, n = S.length := ⟨_, rfl⟩
  have HA := hide' ha
  have HB := hide' hb
  have HN := hide' hn
  have hn1 : (n : Int) ≤ 100000 := by omega
  rw [← hn]
  have HL0 := hide' (Stay.refl (fun _ => False) w)
  clear ha hb hn hl
  go_enter Try.func15, Try.ntmps15
  go_wp2
  go_loopg [5] n (fun gg v5 wr => ∃ k : Nat, k ≤ n ∧ gg = n - k ∧ v5 = .int .i64 (k : Int) ∧ Hid (Stay (fun _ => False) w wr))
  case atStart => exact ⟨0, Nat.zero_le _, rfl, rfl, HL0⟩
  case round =>
    clear HL0
    obtain ⟨k, hk, rfl, rfl, HL⟩ := hrel
    by_cases hlt : k < n
    · have kn : (k : Int) < (n : Nat) := by omega
      obtain ⟨t, ht⟩ : ∃ t, S[k]? = some t := ⟨_, List.getElem?_eq_getElem (by rw [← HN.out]; exact hlt)⟩
      obtain ⟨g, o, rfl, c0, c1⟩ := (HA.out.keep HL.out).at ht
      obtain ⟨g2, o2, rfl, d0, d1⟩ := (HB.out.keep HL.out).at ht
      clear ht
      go_upto_region 6 with fail
      go_quiet (fail)
      have HL2 := hide' HL.out
      go_wp2
      go_roundg (n - (k + 1))
      case measure => omega
      case rel => exact ⟨k + 1, by omega, rfl, by go_num, HL2.out.drewN _⟩
    · have e : k = n := by omega
      subst e
      go_wp2
      go_ret
      exact ⟨rfl, HL.out⟩

theorem sameAll36 (a b : Option Addr) (ca cb : Nat) (L : List Pr) (w : World) (ha : Rd w a L) (hb : Rd w b L) (hl : L.length ≤ 256) : Calls Try.prog 36 #[.slice a L.length ca, .slice b L.length cb] w (Gives (.bool true) w) := by
  obtain ⟨n, hn⟩ : ∃ n, n = L.length := ⟨_, rfl⟩
  have HA := hide' ha
  have HB := hide' hb
  have HN := hide' hn
  have hn1 : (n : Int) ≤ 256 := by omega
  rw [← hn]
  have HL0 := hide' (Stay.refl (fun _ => False) w)
  clear ha hb hn hl
  go_enter Try.func36, Try.ntmps36
  go_wp2
  go_loopg [5] n (fun gg v5 wr => ∃ k : Nat, k ≤ n ∧ gg = n - k ∧ v5 = .int .i64 (k : Int) ∧ Hid (Stay (fun _ => False) w wr))
  case atStart => exact ⟨0, Nat.zero_le _, rfl, rfl, HL0⟩
  case round =>
    clear HL0
    obtain ⟨k, hk, rfl, rfl, HL⟩ := hrel
    by_cases hlt : k < n
    · have kn : (k : Int) < (n : Nat) := by omega
      obtain ⟨t, ht⟩ : ∃ t, L[k]? = some t := ⟨_, List.getElem?_eq_getElem (by rw [← HN.out]; exact hlt)⟩
      obtain ⟨g, o, rfl, c0, c1, c2, c3, c4, c5⟩ := (HA.out.keep HL.out) k t ht
      obtain ⟨g2, o2, rfl, d0, d1, d2, d3, d4, d5⟩ := (HB.out.keep HL.out) k t ht
      clear ht
      go_upto_region 6 with fail
      go_quiet (fail)
      have HL2 := hide' HL.out
      go_wp2
      go_roundg (n - (k + 1))
      case measure => omega
      case rel => exact ⟨k + 1, by omega, rfl, by go_num, HL2.out.drewN _⟩
    · have e : k = n := by omega
      subst e
      go_wp2
      go_ret
      exact ⟨rfl, HL.out⟩

end Go.Proofs.Ytefpifnfinkbaaa

namespace Go.Proofs.Ytefpifnfinkbaaa
open Go.RowKit

variable {w : World} {x : Xr} {L : List Pr} {f : Int → Int}

/-- Another table that is handed back. -/
def XGives (x : Xr) (L' : List Pr) (nx : Int) (f' : Int → Int) (w : World) (e : Ending) (w' : World) : Prop := ∃ x' : Xr, e = .returned (.agg #[.slice x'.a L'.length x'.cap, .int .i64 nx, .slice x'.a2 65 x'.c2]) ∧ XAt w' x' L' f' ∧ Stay (fun _ => False) w w' ∧ XFrom w x x'

theorem results_xs {fn : Func} {p : Tmp} (h : fn.results = #[.cell p 29]) (tmps : Array Value) (w : World) (g : Nat) (x : Xr) (n : Nat) (nx : Int) (hp : tmps.getD p undef = .pointer (some ⟨g, 0, none⟩)) (hb : XBox w g (xs x n nx)) :
    (results fn tmps).run Try.prog w = .ok (.agg #[.slice x.a n x.cap, .int .i64 nx, .slice x.a2 65 x.c2]) w := results_XBox h tmps w g (xs x n nx) hp hb

/-- A copy of the processes, to be written. -/
theorem Ws.cellsAt {w : World} {g n cap i : Nat} {L : List Pr} {p : Pr} (h : Ws w (some ⟨g, 0, none⟩) n cap L) (hp : L[i]? = some p) : PBoxAt w g (i * 6) p ∧ ∀ j, j < 6 → w.frozen? ⟨g, i * 6 + j, none⟩ = false := by
  obtain ⟨g2, e, hb⟩ := h.at hp
  cases e
  have hi : i < L.length := (List.getElem?_eq_some_iff.1 hp).1
  refine ⟨hb, fun j hj => ?_⟩
  have := (h.ther.2.1 (i * 6 + j) (by have := h.1; have := h.2.1; omega)).2
  rwa [Nat.zero_add] at this

/-- Other processes are a table's. -/
theorem XAt.procs {w w1 : World} {a : Option Addr} {n cap : Nat} {L' : List Pr} (h : XAt w x L f) (hs : Stay (fun _ => False) w w1) (hw : Ws w1 a n cap L') (hn : a = none → cap = 0) (hb : ∀ j, a.map Addr.block = some j → w.heap.size ≤ j) (hl : L'.length ≤ 256) : XAt w1 ⟨a, cap, x.a2, x.c2⟩ L' f ∧ XFrom w x ⟨a, cap, x.a2, x.c2⟩ := by
  have hk := h.keep hs
  refine ⟨⟨hw.rd, hn, by rw [hw.1]; exact hw.2.1, hw.2.2.1, hl, hk.fr, hk.c2, hk.cm2, fun j hj => ?_⟩, fun j hj => ?_⟩
  · rcases hj with e | e
    · exact hw.lt j e
    · exact hk.lt j (.inr e)
  · rcases hj with e | e
    · exact .inr (hb j e)
    · exact .inl (.inr e)

theorem Ws.nocap {w : World} {a : Option Addr} {n cap : Nat} {L : List Pr} (h : Ws w a n cap L) : a = none → cap = 0 := fun e => by
  rcases h.2.2.2 with ⟨_, h0⟩ | ⟨g, h0, _⟩
  · exact h0
  · rw [e] at h0; cases h0

set_option maxRecDepth 100000 in
theorem with55 (i : Nat) (p : Pr) (nx : Int) (h : XAt w x L f) (hi : i < L.length) : Calls Try.prog 55 #[.agg #[.slice x.a L.length x.cap, .int .i64 nx, .slice x.a2 65 x.c2], .int .i64 (i : Nat), .agg #[.int .i64 p.pid, .int .i64 p.par, .int .i64 p.grp, .int .i64 p.ses, .int .i64 p.tty, .bool p.df]] w (XGives x (L.set i p) nx f w) := by
  obtain ⟨n, hn⟩ : ∃ n, n = L.length := ⟨_, rfl⟩
  obtain ⟨b3, hb3⟩ : ∃ b, b = w.heap.size := ⟨_, rfl⟩
  obtain ⟨Wq0, hWq0⟩ : ∃ W, W = w.alloc (.cells #[.slice x.a n x.cap, .int .i64 nx, .slice x.a2 65 x.c2] 29) := ⟨_, rfl⟩
  have hsWq0 : Stay (fun _ => False) w Wq0 := by rw [hWq0]; exact (Stay.refl _ _).alloc _
  have hpb3 : w.heap.size = b3 := by rw [hb3]
  obtain ⟨b5, hb5⟩ : ∃ b, b = w.heap.size + 1 := ⟨_, rfl⟩
  obtain ⟨Wq1, hWq1⟩ : ∃ W, W = Wq0.alloc (.cells #[.int .i64 p.pid, .int .i64 p.par, .int .i64 p.grp, .int .i64 p.ses, .int .i64 p.tty, .bool p.df] 40) := ⟨_, rfl⟩
  have hsWq1 : Stay (fun _ => False) Wq0 Wq1 := by rw [hWq1]; exact (Stay.refl _ _).alloc _
  have hpb5 : Wq0.heap.size = b5 := by rw [hb5]; rw [hWq0, World.size_alloc]
  obtain ⟨b6, hb6⟩ : ∃ b, b = w.heap.size + 1 + 1 := ⟨_, rfl⟩
  obtain ⟨W0, hW0⟩ : ∃ W, W = Wq1.alloc (.cells #[.slice none 0 0, .int .i64 0, .slice none 0 0] 29) := ⟨_, rfl⟩
  have hsW0 : Stay (fun _ => False) Wq1 W0 := by rw [hW0]; exact (Stay.refl _ _).alloc _
  have hpb6 : Wq1.heap.size = b6 := by rw [hb6]; rw [hWq1, World.size_alloc]; rw [hWq0, World.size_alloc]
  have HBb3 := hide' (show XBox W0 b3 (xs x n nx) from (show XBox Wq0 b3 (xs x n nx) from (by rw [hWq0]; exact xbox_new w x n nx hpb3)).keep (((Stay.refl (fun _ => False) Wq0).trans hsWq1).trans hsW0))
  have HZb3 : Hid (w.heap.size ≤ b3) := by show _ ≤ _; omega
  have HBb5 := hide' (show PBox W0 b5 p from (show PBox Wq1 b5 p from (by rw [hWq1]; exact PBox.new p hpb5)).keep ((Stay.refl (fun _ => False) Wq1).trans hsW0))
  have HZb5 : Hid (w.heap.size ≤ b5) := by show _ ≤ _; omega
  have HBb6 := hide' (show XBox W0 b6 ⟨.slice none 0 0, 0, .slice none 0 0⟩ from (show XBox W0 b6 ⟨.slice none 0 0, 0, .slice none 0 0⟩ from (by rw [hW0]; exact XBox.new ⟨.slice none 0 0, 0, .slice none 0 0⟩ hpb6)).keep (Stay.refl (fun _ => False) W0))
  have HZb6 : Hid (w.heap.size ≤ b6) := by show _ ≤ _; omega
  have HS0 := hide' ((((Stay.refl (fun _ => False) w).trans hsWq0).trans hsWq1).trans hsW0)
  have HW0 : Hid (W0 = (((w.alloc (.cells #[.slice x.a n x.cap, .int .i64 nx, .slice x.a2 65 x.c2] 29)).alloc (.cells #[.int .i64 p.pid, .int .i64 p.par, .int .i64 p.grp, .int .i64 p.ses, .int .i64 p.tty, .bool p.df] 40)).alloc (.cells #[.slice none 0 0, .int .i64 0, .slice none 0 0] 29))) := by show _ = _; rw [hW0, hWq1, hWq0]
  have HO := hide' (owns_newS W0 #[] 40 6 0 rfl (by decide))
  have HXA := hide' (h.keep HS0.out)
  have HSRC := hide' ((HXA.out.row).stay ((Stay.refl (fun _ => False) W0).alloc (.cells #[] 40)) (fun _ _ h => h))
  have HSA := hide' ((Stay.refl (fun _ => False) W0).alloc (.cells #[] 40))
  have HLE : Hid (L.length ≤ 256) := h.len
  rw [← hn] at HSRC
  have e0 : ∀ o : Obj, (W0.alloc o).cell? ⟨b3, 0, none⟩ = some (.slice x.a n x.cap) := fun o => (HBb3.out.keep ((Stay.refl (fun _ => False) W0).alloc o)).c0
  have hn1 : n ≤ 256 := by have := h.len; omega
  have HX0 := hide' h
  have HI := hide' hi
  have HN := hide' hn
  have hi1 : (i : Int) < (n : Nat) := by omega
  have hlen : Hid ((L.set i p).length = n) := by show _ = _; rw [List.length_set, hn]
  rw [← hn]
  clear h hi hn
  clear hWq0 hWq1 hW0 hsWq0 hsWq1 hsW0 hpb3 hpb5 hpb6
  go_enter Try.func55, Try.ntmps55
  go_upto_region 1 with fail
  rw [← HW0.out, ← hb6, ← hb5, ← hb3]
  clear HW0 hb3 hb5 hb6
  go_upto_region 2 with (at_builtin; refine appS rfl _ _ 26 rfl Try.underlying26 info40 rfl (by decide) (by decide) HO.out rfl HSRC.out rfl (wc_one _) (by omega) (by simp) ?_; intro v W1 ho hst hb; have HO2 := hide' ho; have HT2 := hide' hst; clear ho hst hb; have h2 := HO2.out; rw [Nat.zero_add, show (#[] : Array Value).toList ++ wc L = wc L from rfl] at h2; obtain ⟨a1, cap1, hv1, hw1, hb1⟩ := Ws.of_owns h2; subst hv1; clear h2)
  have HWS1 := hide' hw1
  have HS1 := hide' (HSA.out.trans2 HT2.out (fun j hj e => by have e2 : W0.heap.size = j := Option.some.inj e; omega))
  have HBN1 := hide' hb1
  clear HO HSRC HSA HO2 HT2 hw1 hb1 e0
  obtain ⟨t, ht⟩ : ∃ t, L[i]? = some t := ⟨_, List.getElem?_eq_getElem HI.out⟩
  obtain ⟨g1, rfl, _⟩ := HWS1.out.at ht
  obtain ⟨d0, d1, d2, d3, d4, d5⟩ := (HWS1.out.cellsAt ht).1
  have fz := (HWS1.out.cellsAt ht).2
  have z0 := fz 0 (by decide)
  have z1 := fz 1 (by decide)
  have z2 := fz 2 (by decide)
  have z3 := fz 3 (by decide)
  have z4 := fz 4 (by decide)
  have z5 := fz 5 (by decide)
  simp only [Nat.add_zero] at z0
  obtain ⟨q0, q1, q2, q3, q4, q5, _⟩ := HBb5.out.keep HS1.out
  have HT := hide' ht
  clear ht fz
  go_upto_region 3 with fail
  obtain ⟨W2, hW2⟩ : ∃ W, W = W1.setCells g1 (i * 6) p.parts := ⟨_, rfl⟩
  change Code.wp _ _ _ _ (W1.setCells g1 (i * 6) p.parts)
  rw [← hW2]
  have hst2 : Stay (fun j => j = g1) W1 W2 := by rw [hW2]; exact (Stay.refl (fun j => j = g1) W1).setCells g1 _ _ rfl
  have hws2 : Ws W2 (some ⟨g1, 0, none⟩) n cap1 (L.set i p) := by rw [hW2]; exact HWS1.out.set HT.out p
  have hg1 : W0.heap.size ≤ g1 := HBN1.out g1 rfl
  have hl3 := HBb3.out.lt
  have hl6 := HBb6.out.lt
  have HB3 := hide' ((HBb3.out.keep HS1.out).stay hst2 (fun e => by have : b3 = g1 := e; omega))
  have HB6 := hide' ((HBb6.out.keep HS1.out).stay hst2 (fun e => by have : b6 = g1 := e; omega))
  have HS2 : Hid (Stay (fun _ => False) W0 W2) := HS1.out.trans2 hst2 (fun j hj e => by have : j = g1 := e; omega)
  have HWS2 := hide' hws2
  have ng : ¬ b6 = g1 := by omega
  clear hW2 hst2 hws2 hg1 hl3 hl6 HS1 HWS1 HBb3 HBb6 HT d0 d1 d2 d3 d4 d5 z0 z1 z2 z3 z4 z5 q0 q1 q2 q3 q4 q5
  have e1 := HB3.out.c1
  have e2 := HB3.out.c2
  simp only [xs] at e1 e2
  obtain ⟨k0, k1, k2, r0, r1, r2⟩ := HB6.out
  go_wp2
  have h3 : Stay (fun _ => False) w (((W2.setCell ⟨b6, 0, none⟩ (.slice (some ⟨g1, 0, none⟩) n cap1)).setCell ⟨b6, 1, none⟩ (.int .i64 nx)).setCell ⟨b6, 2, none⟩ (.slice x.a2 65 x.c2)) := XBox.stay_put (HS0.out.trans HS2.out) HZb6.out _ _ _
  have h4 : Stay (fun j => j = b6) W2 (((W2.setCell ⟨b6, 0, none⟩ (.slice (some ⟨g1, 0, none⟩) n cap1)).setCell ⟨b6, 1, none⟩ (.int .i64 nx)).setCell ⟨b6, 2, none⟩ (.slice x.a2 65 x.c2)) := (((Stay.refl (fun j => j = b6) W2).setCell (p := ⟨b6, 0, none⟩) rfl _).setCell (p := ⟨b6, 1, none⟩) rfl _).setCell (p := ⟨b6, 2, none⟩) rfl _
  have h5 := HX0.out.procs h3 (HWS2.out.stay h4 (fun k hk e => ng (by cases hk; exact e.symm))) (fun e => by cases e) (fun j hj => by cases hj; exact Nat.le_trans HS0.out.size (HBN1.out g1 rfl)) (by rw [hlen.out]; omega)
  rw [← hlen.out] at h3 h5 ⊢
  exact bodyPost_ret (results_xs rfl _ _ b6 ⟨some ⟨g1, 0, none⟩, cap1, x.a2, x.c2⟩ _ nx rfl (HB6.out.put (xs ⟨some ⟨g1, 0, none⟩, cap1, x.a2, x.c2⟩ _ nx))) rfl ⟨_, rfl, h5.1, h3, h5.2⟩

end Go.Proofs.Ytefpifnfinkbaaa

namespace Go.Proofs.Ytefpifnfinkbaaa
open Go.RowKit

variable {w : World} {x : Xr} {L : List Pr} {f : Int → Int}

set_option maxRecDepth 100000 in
set_option maxHeartbeats 1000000 in
theorem give58 (z t nx : Int) (h : XAt w x L f) : Calls Try.prog 58 #[.agg #[.slice x.a L.length x.cap, .int .i64 nx, .slice x.a2 65 x.c2], .int .i64 z, .int .i64 t] w (XGives x (L.map (giveS z t)) nx f w) := by
  obtain ⟨n, hn⟩ : ∃ n, n = L.length := ⟨_, rfl⟩
  obtain ⟨b3, hb3⟩ : ∃ b, b = w.heap.size := ⟨_, rfl⟩
  obtain ⟨Wq0, hWq0⟩ : ∃ W, W = w.alloc (.cells #[.slice x.a n x.cap, .int .i64 nx, .slice x.a2 65 x.c2] 29) := ⟨_, rfl⟩
  have hsWq0 : Stay (fun _ => False) w Wq0 := by rw [hWq0]; exact (Stay.refl _ _).alloc _
  have hpb3 : w.heap.size = b3 := by rw [hb3]
  obtain ⟨b6, hb6⟩ : ∃ b, b = w.heap.size + 1 := ⟨_, rfl⟩
  obtain ⟨W0, hW0⟩ : ∃ W, W = Wq0.alloc (.cells #[.slice none 0 0, .int .i64 0, .slice none 0 0] 29) := ⟨_, rfl⟩
  have hsW0 : Stay (fun _ => False) Wq0 W0 := by rw [hW0]; exact (Stay.refl _ _).alloc _
  have hpb6 : Wq0.heap.size = b6 := by rw [hb6]; rw [hWq0, World.size_alloc]
  have HBb3 := hide' (show XBox W0 b3 (xs x n nx) from (show XBox Wq0 b3 (xs x n nx) from (by rw [hWq0]; exact xbox_new w x n nx hpb3)).keep ((Stay.refl (fun _ => False) Wq0).trans hsW0))
  have HZb3 : Hid (w.heap.size ≤ b3) := by show _ ≤ _; omega
  have HBb6 := hide' (show XBox W0 b6 ⟨.slice none 0 0, 0, .slice none 0 0⟩ from (show XBox W0 b6 ⟨.slice none 0 0, 0, .slice none 0 0⟩ from (by rw [hW0]; exact XBox.new ⟨.slice none 0 0, 0, .slice none 0 0⟩ hpb6)).keep (Stay.refl (fun _ => False) W0))
  have HZb6 : Hid (w.heap.size ≤ b6) := by show _ ≤ _; omega
  have HS0 := hide' (((Stay.refl (fun _ => False) w).trans hsWq0).trans hsW0)
  have HW0 : Hid (W0 = ((w.alloc (.cells #[.slice x.a n x.cap, .int .i64 nx, .slice x.a2 65 x.c2] 29)).alloc (.cells #[.slice none 0 0, .int .i64 0, .slice none 0 0] 29))) := by show _ = _; rw [hW0, hWq0]
  have HO := hide' (owns_newS W0 #[] 40 6 0 rfl (by decide))
  have HXA := hide' (h.keep HS0.out)
  have HSRC := hide' ((HXA.out.row).stay ((Stay.refl (fun _ => False) W0).alloc (.cells #[] 40)) (fun _ _ h => h))
  have HSA := hide' ((Stay.refl (fun _ => False) W0).alloc (.cells #[] 40))
  have HLE : Hid (L.length ≤ 256) := h.len
  rw [← hn] at HSRC
  have e0 : ∀ o : Obj, (W0.alloc o).cell? ⟨b3, 0, none⟩ = some (.slice x.a n x.cap) := fun o => (HBb3.out.keep ((Stay.refl (fun _ => False) W0).alloc o)).c0
  have hn1 : n ≤ 256 := by have := h.len; omega
  have HX0 := hide' h
  have HN := hide' hn
  have hlen : Hid ((L.map (giveS z t)).length = n) := by show _ = _; rw [List.length_map, hn]
  have hn2 : (n : Int) ≤ 256 := by omega
  rw [← hn]
  clear h hn
  clear hWq0 hW0 hsWq0 hsW0 hpb3 hpb6
  go_enter Try.func58, Try.ntmps58
  go_upto_region 1 with fail
  rw [← HW0.out, ← hb6, ← hb3]
  clear HW0 hb3 hb6
  go_upto_region 2 with (at_builtin; refine appS rfl _ _ 26 rfl Try.underlying26 info40 rfl (by decide) (by decide) HO.out rfl HSRC.out rfl (wc_one _) (by omega) (by simp) ?_; intro v W1 ho hst hb; have HO2 := hide' ho; have HT2 := hide' hst; clear ho hst hb; have h2 := HO2.out; rw [Nat.zero_add, show (#[] : Array Value).toList ++ wc L = wc L from rfl] at h2; obtain ⟨a1, cap1, hv1, hw1, hb1⟩ := Ws.of_owns h2; subst hv1; clear h2)
  have HWS1 := hide' hw1
  have HS1 := hide' (HSA.out.trans2 HT2.out (fun j hj e => by have e2 : W0.heap.size = j := Option.some.inj e; omega))
  have HBN1 := hide' hb1
  clear HO HSRC HSA HO2 HT2 hw1 hb1 e0
  have HL0 : Hid (Ws W1 a1 n cap1 (mapT (giveS z t) 0 L) ∧ Stay (fun j => a1.map Addr.block = some j) W1 W1) := by rw [mapT_zero]; exact ⟨HWS1.out, Stay.refl _ _⟩
  go_wp2
  go_loopg [8] n (fun gg v8 wr => ∃ k : Nat, k ≤ n ∧ gg = n - k ∧ v8 = .int .i64 (k : Int) ∧ Hid (Ws wr a1 n cap1 (mapT (giveS z t) k L) ∧ Stay (fun j => a1.map Addr.block = some j) W1 wr))
  case atStart => exact ⟨0, Nat.zero_le _, rfl, rfl, HL0⟩
  case round =>
    clear HL0
    obtain ⟨k, hk, rfl, rfl, HL⟩ := hrel
    by_cases hlt : k < n
    · have kn : (k : Int) < (n : Nat) := by omega
      obtain ⟨u, hu⟩ : ∃ u, L[k]? = some u := ⟨_, List.getElem?_eq_getElem (by rw [← HN.out]; exact hlt)⟩
      have hm := mapT_get (giveS z t) hu
      obtain ⟨g1, hg1, _⟩ := HL.out.1.at hm
      subst hg1
      obtain ⟨d0, d1, d2, d3, d4, d5⟩ := (HL.out.1.cellsAt hm).1
      have fz := (HL.out.1.cellsAt hm).2
      have z4 := fz 4 (by decide)
      have HM := hide' hm
      have HU := hide' hu
      clear hm hu fz d0 d1 d2 d5
      by_cases hs : u.ses = z
      · have d9 : (u.ses == z) = true := beq_iff_eq.2 hs
        have HN1 : Hid (Ws (wr.setCell ⟨g1, k * 6 + 4, none⟩ (.int .i64 t)) (some ⟨g1, 0, none⟩) n cap1 (mapT (giveS z t) (k + 1) L) ∧ Stay (fun j => (some ⟨g1, 0, none⟩ : Option Addr).map Addr.block = some j) W1 (wr.setCell ⟨g1, k * 6 + 4, none⟩ (.int .i64 t))) := by
          have h1 := HL.out.1.part HM.out (q := giveS z t u) (k := 4) (vs := [.int .i64 t]) (by simp) (by rw [giveS_yes hs]; rfl)
          rw [mapT_set _ HU.out] at h1
          exact ⟨h1, HL.out.2.setCell (p := ⟨g1, k * 6 + 4, none⟩) rfl _⟩
        clear hs HL HM HU
        go_wp2
        go_roundg (n - (k + 1))
        case measure => omega
        case rel => exact ⟨k + 1, by omega, rfl, by go_num, HN1⟩
      · have d9 : (u.ses == z) = false := beq_eq_false_iff_ne.2 hs
        have HN1 : Hid (Ws wr (some ⟨g1, 0, none⟩) n cap1 (mapT (giveS z t) (k + 1) L) ∧ Stay (fun j => (some ⟨g1, 0, none⟩ : Option Addr).map Addr.block = some j) W1 wr) := by
          refine ⟨?_, HL.out.2⟩
          rw [← mapT_set _ HU.out, giveS_no hs, set_same HM.out]
          exact HL.out.1
        clear hs HL HM HU
        go_wp2
        go_roundg (n - (k + 1))
        case measure => omega
        case rel => exact ⟨k + 1, by omega, rfl, by go_num, HN1⟩
    · have e : k = n := by omega
      subst e
      obtain ⟨W2, hW2⟩ : ∃ W, W = wr := ⟨_, rfl⟩
      have HWS2 : Hid (Ws W2 a1 k cap1 (L.map (giveS z t))) := by
        have := HL.out.1
        rw [mapT_all _ (by rw [← HN.out]; exact Nat.le_refl _)] at this
        rw [hW2]
        exact this
      have hst2 : Stay (fun j => a1.map Addr.block = some j) W1 W2 := by rw [hW2]; exact HL.out.2
      have hl3 := HBb3.out.lt
      have hl6 := HBb6.out.lt
      have HB3 := hide' ((HBb3.out.keep HS1.out).stay hst2 (fun e => by have := HBN1.out _ e; omega))
      have HB6 := hide' ((HBb6.out.keep HS1.out).stay hst2 (fun e => by have := HBN1.out _ e; omega))
      have HS2 : Hid (Stay (fun _ => False) W0 W2) := HS1.out.trans2 hst2 (fun j hj e => by have := HBN1.out _ e; omega)
      have HNG : Hid (∀ j, a1.map Addr.block = some j → ¬ j = b6) := fun j hj => by have := HBN1.out j hj; omega
      rw [← hW2]
      clear hW2 hst2 hl3 hl6 HS1 HWS1 HBb3 HBb6 HL
      have e0 := HB3.out.c0
      have e1 := HB3.out.c1
      have e2 := HB3.out.c2
      simp only [xs] at e0 e1 e2
      obtain ⟨k0, k1, k2, r0, r1, r2⟩ := HB6.out
      go_wp2
      have h3 : Stay (fun _ => False) w (((W2.setCell ⟨b6, 0, none⟩ (.slice a1 k cap1)).setCell ⟨b6, 1, none⟩ (.int .i64 nx)).setCell ⟨b6, 2, none⟩ (.slice x.a2 65 x.c2)) := XBox.stay_put (HS0.out.trans HS2.out) HZb6.out _ _ _
      have h4 : Stay (fun j => j = b6) W2 (((W2.setCell ⟨b6, 0, none⟩ (.slice a1 k cap1)).setCell ⟨b6, 1, none⟩ (.int .i64 nx)).setCell ⟨b6, 2, none⟩ (.slice x.a2 65 x.c2)) := (((Stay.refl (fun j => j = b6) W2).setCell (p := ⟨b6, 0, none⟩) rfl _).setCell (p := ⟨b6, 1, none⟩) rfl _).setCell (p := ⟨b6, 2, none⟩) rfl _
      have h5 := HX0.out.procs h3 (HWS2.out.stay h4 (fun k hk e => HNG.out k hk e)) HWS2.out.nocap (fun j hj => Nat.le_trans HS0.out.size (HBN1.out j hj)) (by rw [hlen.out]; omega)
      rw [← hlen.out] at h3 h5 ⊢
      exact bodyPost_ret (results_xs rfl _ _ b6 ⟨a1, cap1, x.a2, x.c2⟩ _ nx rfl (HB6.out.put (xs ⟨a1, cap1, x.a2, x.c2⟩ _ nx))) rfl ⟨_, rfl, h5.1, h3, h5.2⟩

/-- What stands in front, number by number. -/
def fL (f : Int → Int) : List Int := (List.range 65).map (fun (k : Nat) => f (k : Int))

theorem fL_len (f : Int → Int) : (fL f).length = 65 := by unfold fL; rw [List.length_map, List.length_range]

theorem fL_get (f : Int → Int) {k : Nat} (hk : k < 65) : (fL f).getD k 0 = f (k : Int) := by
  unfold fL
  rw [List.getD_eq_getElem?_getD, List.getElem?_map, List.getElem?_range hk]
  rfl

theorem XAt.frow (h : XAt w x L f) : IsRowS w 1 (.slice x.a2 65 x.c2) 65 ((fL f).map (.int .i64 ·)) := by
  obtain ⟨g, hg, hc⟩ := h.fr
  refine .inr ⟨⟨g, 0, none⟩, x.c2, by rw [hg], by rw [List.length_map, fL_len], fun j u hu => ?_⟩
  rw [List.getElem?_map, Option.map_eq_some_iff] at hu
  obtain ⟨z, hz, rfl⟩ := hu
  have hj := (List.getElem?_eq_some_iff.1 hz).1
  rw [fL_len] at hj
  have e := fL_get f hj
  rw [List.getD_eq_getElem?_getD, hz] at e
  rw [addr_add, Nat.zero_add, hc j hj]
  have e2 : z = f (j : Int) := e
  rw [e2]

/-- A row of integers that was made, to be written. -/
theorem own_ints {base e : Nat} {v : Value} {l : List Int} (h : w.ownsRow base e 1 v 65 (l.map (.int .i64 ·))) (hl : l.length = 65) : ∃ g cap, v = .slice (some ⟨g, 0, none⟩) 65 cap ∧ base ≤ g ∧ g < w.heap.size ∧ 65 ≤ cap ∧ cap ≤ maxLen ∧ ∀ k, k < 65 → w.cell? ⟨g, k, none⟩ = some (.int .i64 (l.getD k 0)) ∧ w.frozen? ⟨g, k, none⟩ = false := by
  rcases h.2 with ⟨_, h0⟩ | ⟨g, cap, cur, rfl, hb, hg, h1, h2, h3, h4⟩
  · cases h0
  · refine ⟨g, cap, rfl, hb, (Array.getElem?_eq_some_iff.1 hg).1, h1, h2, fun k hk => ⟨?_, by simp [World.frozen?, hg]⟩⟩
    have := h.cells (g := g) rfl k (.int .i64 (l.getD k 0)) (by rw [List.getElem?_map, List.getElem?_eq_getElem (by omega), List.getD_eq_getElem?_getD, List.getElem?_eq_getElem (by omega)]; rfl)
    rwa [addr_add, Nat.zero_add] at this

theorem info3 : (Try.prog.info? 3).map (fun i => (i.zero, i.size, i.bytes)) = some (some (.int .i64 0), 1, 8) := by kernel_rfl

set_option maxRecDepth 100000 in
set_option maxHeartbeats 1000000 in
theorem front57 (k : Nat) (y nx : Int) (h : XAt w x L f) (hk : k < 65) : Calls Try.prog 57 #[.agg #[.slice x.a L.length x.cap, .int .i64 nx, .slice x.a2 65 x.c2], .int .i64 (k : Nat), .int .i64 y] w (XGives x L nx (upd f (k : Int) y) w) := by
  obtain ⟨n, hn⟩ : ∃ n, n = L.length := ⟨_, rfl⟩
  obtain ⟨b3, hb3⟩ : ∃ b, b = w.heap.size := ⟨_, rfl⟩
  obtain ⟨Wq0, hWq0⟩ : ∃ W, W = w.alloc (.cells #[.slice x.a n x.cap, .int .i64 nx, .slice x.a2 65 x.c2] 29) := ⟨_, rfl⟩
  have hsWq0 : Stay (fun _ => False) w Wq0 := by rw [hWq0]; exact (Stay.refl _ _).alloc _
  have hpb3 : w.heap.size = b3 := by rw [hb3]
  obtain ⟨b6, hb6⟩ : ∃ b, b = w.heap.size + 1 := ⟨_, rfl⟩
  obtain ⟨W0, hW0⟩ : ∃ W, W = Wq0.alloc (.cells #[.slice none 0 0, .int .i64 0, .slice none 0 0] 29) := ⟨_, rfl⟩
  have hsW0 : Stay (fun _ => False) Wq0 W0 := by rw [hW0]; exact (Stay.refl _ _).alloc _
  have hpb6 : Wq0.heap.size = b6 := by rw [hb6]; rw [hWq0, World.size_alloc]
  have HBb3 := hide' (show XBox W0 b3 (xs x n nx) from (show XBox Wq0 b3 (xs x n nx) from (by rw [hWq0]; exact xbox_new w x n nx hpb3)).keep ((Stay.refl (fun _ => False) Wq0).trans hsW0))
  have HZb3 : Hid (w.heap.size ≤ b3) := by show _ ≤ _; omega
  have HBb6 := hide' (show XBox W0 b6 ⟨.slice none 0 0, 0, .slice none 0 0⟩ from (show XBox W0 b6 ⟨.slice none 0 0, 0, .slice none 0 0⟩ from (by rw [hW0]; exact XBox.new ⟨.slice none 0 0, 0, .slice none 0 0⟩ hpb6)).keep (Stay.refl (fun _ => False) W0))
  have HZb6 : Hid (w.heap.size ≤ b6) := by show _ ≤ _; omega
  have HS0 := hide' (((Stay.refl (fun _ => False) w).trans hsWq0).trans hsW0)
  have HW0 : Hid (W0 = ((w.alloc (.cells #[.slice x.a n x.cap, .int .i64 nx, .slice x.a2 65 x.c2] 29)).alloc (.cells #[.slice none 0 0, .int .i64 0, .slice none 0 0] 29))) := by show _ = _; rw [hW0, hWq0]
  have HO := hide' (owns_newS W0 #[] 3 1 0 rfl (by decide))
  have HXA := hide' (h.keep HS0.out)
  have HSRC := hide' ((HXA.out.frow).stay ((Stay.refl (fun _ => False) W0).alloc (.cells #[] 3)) (fun _ _ h => h))
  have HSA := hide' ((Stay.refl (fun _ => False) W0).alloc (.cells #[] 3))
  have e0 : ∀ o : Obj, (W0.alloc o).cell? ⟨b3, 2, none⟩ = some (.slice x.a2 65 x.c2) := fun o => (HBb3.out.keep ((Stay.refl (fun _ => False) W0).alloc o)).c2
  have HX0 := hide' h
  have HN := hide' hn
  have hk1 : (k : Int) < 65 := by omega
  have HK := hide' hk
  rw [← hn]
  clear h hn hk
  clear hWq0 hW0 hsWq0 hsW0 hpb3 hpb6
  go_enter Try.func57, Try.ntmps57
  go_upto_region 1 with fail
  rw [← HW0.out, ← hb6, ← hb3]
  clear HW0 hb3 hb6
  go_upto_region 2 with (at_builtin; refine appS rfl _ _ 27 rfl Try.underlying27 info3 rfl (by decide) (by decide) HO.out rfl HSRC.out rfl (one_ints .i64 _) (by omega) (by simp) ?_; intro v W1 ho hst hb; have HO2 := hide' ho; have HT2 := hide' hst; clear ho hst hb; have h2 := HO2.out; rw [Nat.zero_add, show (#[] : Array Value).toList ++ (fL f).map (Value.int .i64 ·) = (fL f).map (Value.int .i64 ·) from rfl] at h2; obtain ⟨g1, cap1, hv1, hb1, hg1, hc1, hm1, hce⟩ := own_ints h2 (fL_len f); subst hv1; clear h2)
  have HS1 := hide' (HSA.out.trans2 HT2.out (fun j hj e => by have e2 : W0.heap.size = j := Option.some.inj e; omega))
  have HCE := hide' hce
  have HG1 := hide' (show W0.heap.size ≤ g1 ∧ g1 < W1.heap.size ∧ 65 ≤ cap1 ∧ cap1 ≤ maxLen from ⟨hb1, hg1, hc1, hm1⟩)
  have c0 := (hce k HK.out).1
  have z0 := (hce k HK.out).2
  clear HO HSRC HSA HO2 HT2 hb1 e0 hce hg1 hc1 hm1
  go_upto_region 3 with fail
  obtain ⟨W2, hW2⟩ : ∃ W, W = W1.setCell ⟨g1, k, none⟩ (.int .i64 y) := ⟨_, rfl⟩
  rw [← hW2]
  have hst2 : Stay (fun j => j = g1) W1 W2 := by rw [hW2]; exact (Stay.refl (fun j => j = g1) W1).setCell (p := ⟨g1, k, none⟩) rfl _
  have hl3 := HBb3.out.lt
  have hl6 := HBb6.out.lt
  have hg0 := HG1.out.1
  have HC2 : Hid (∀ j : Nat, j < 65 → W2.cell? ⟨g1, j, none⟩ = some (.int .i64 (upd f (k : Int) y (j : Int)))) := fun j hj => by
    by_cases e : j = k
    · subst e
      rw [hW2, upd_same]
      exact World.cell?_setCell_same _ _ _ c0
    · rw [upd_other _ _ (by omega : ¬ (j : Int) = (k : Int)), ← fL_get f hj, ← (HCE.out j hj).1, hW2]
      exact World.cell?_setCell_other _ _ _ _ (by intro e2; cases e2; exact e rfl)
  have HB3 := hide' ((HBb3.out.keep HS1.out).stay hst2 (fun e => by have : b3 = g1 := e; omega))
  have HB6 := hide' ((HBb6.out.keep HS1.out).stay hst2 (fun e => by have : b6 = g1 := e; omega))
  have HS2 : Hid (Stay (fun _ => False) W0 W2) := HS1.out.trans2 hst2 (fun j hj e => by have : j = g1 := e; omega)
  have HZ2 := hide' hst2.size
  have ng : ¬ g1 = b6 := by omega
  clear hW2 hst2 hl3 hl6 HS1 HBb3 HBb6 c0 z0
  have e0 := HB3.out.c0
  have e1 := HB3.out.c1
  simp only [xs] at e0 e1
  obtain ⟨k0, k1, k2, r0, r1, r2⟩ := HB6.out
  go_wp2
  have h3 : Stay (fun _ => False) w (((W2.setCell ⟨b6, 0, none⟩ (.slice x.a n x.cap)).setCell ⟨b6, 1, none⟩ (.int .i64 nx)).setCell ⟨b6, 2, none⟩ (.slice (some ⟨g1, 0, none⟩) 65 cap1)) := XBox.stay_put (HS0.out.trans HS2.out) HZb6.out _ _ _
  have h4 : Stay (fun j => j = b6) W2 (((W2.setCell ⟨b6, 0, none⟩ (.slice x.a n x.cap)).setCell ⟨b6, 1, none⟩ (.int .i64 nx)).setCell ⟨b6, 2, none⟩ (.slice (some ⟨g1, 0, none⟩) 65 cap1)) := (((Stay.refl (fun j => j = b6) W2).setCell (p := ⟨b6, 0, none⟩) rfl _).setCell (p := ⟨b6, 1, none⟩) rfl _).setCell (p := ⟨b6, 2, none⟩) rfl _
  have hk := HX0.out.keep h3
  have hgl : g1 < W2.heap.size := by have := HG1.out.2.1; have := HZ2.out; omega
  have h5 : XAt (((W2.setCell ⟨b6, 0, none⟩ (.slice x.a n x.cap)).setCell ⟨b6, 1, none⟩ (.int .i64 nx)).setCell ⟨b6, 2, none⟩ (.slice (some ⟨g1, 0, none⟩) 65 cap1)) ⟨x.a, x.cap, some ⟨g1, 0, none⟩, cap1⟩ L (upd f (k : Int) y) :=
    ⟨hk.rd, hk.nc, hk.le, hk.cm, hk.len, ⟨g1, rfl, fun j hj => (h4.cell (p := ⟨g1, j, none⟩) hgl ng).trans (HC2.out j hj)⟩, HG1.out.2.2.1, HG1.out.2.2.2, fun j hj => by
      rcases hj with e | e
      · exact hk.lt j (.inl e)
      · cases e
        exact Nat.lt_of_lt_of_le hgl h4.size⟩
  have h6 : XFrom w x ⟨x.a, x.cap, some ⟨g1, 0, none⟩, cap1⟩ := fun j hj => by
    rcases hj with e | e
    · exact .inl (.inl e)
    · cases e
      exact .inr (Nat.le_trans HS0.out.size hg0)
  rw [HN.out] at h3 h5 ⊢
  exact bodyPost_ret (results_xs rfl _ _ b6 ⟨x.a, x.cap, some ⟨g1, 0, none⟩, cap1⟩ _ nx rfl (HB6.out.put (xs ⟨x.a, x.cap, some ⟨g1, 0, none⟩, cap1⟩ _ nx))) rfl ⟨_, rfl, h5, h3, h6⟩

end Go.Proofs.Ytefpifnfinkbaaa

namespace Go.Proofs.Ytefpifnfinkbaaa
open Go.RowKit

variable {w : World} {x : Xr} {L : List Pr} {f : Int → Int}

/-- Another table, and an error's number. -/
def XG2 (x : Xr) (L' : List Pr) (nx : Int) (f' : Int → Int) (er : Int) (w : World) (e : Ending) (w' : World) : Prop := ∃ x' : Xr, e = .returned (.tuple #[.agg #[.slice x'.a L'.length x'.cap, .int .i64 nx, .slice x'.a2 65 x'.c2], .int .i64 er]) ∧ XAt w' x' L' f' ∧ Stay (fun _ => False) w w' ∧ XFrom w x x'

/-- Another table, a number, and an error's number. -/
def XG3 (x : Xr) (L' : List Pr) (nx : Int) (f' : Int → Int) (m er : Int) (w : World) (e : Ending) (w' : World) : Prop := ∃ x' : Xr, e = .returned (.tuple #[.agg #[.slice x'.a L'.length x'.cap, .int .i64 nx, .slice x'.a2 65 x'.c2], .int .i64 m, .int .i64 er]) ∧ XAt w' x' L' f' ∧ Stay (fun _ => False) w w' ∧ XFrom w x x'

theorem results_x1 {fn : Func} {p t : Tmp} (h : fn.results = #[.cell p 29, .tmp t]) (tmps : Array Value) (w : World) (g : Nat) (x : Xr) (n : Nat) (nx : Int) (v : Value) (hp : tmps.getD p undef = .pointer (some ⟨g, 0, none⟩)) (ht : tmps.getD t undef = v) (hb : XBox w g (xs x n nx)) :
    (results fn tmps).run Try.prog w = .ok (.tuple #[.agg #[.slice x.a n x.cap, .int .i64 nx, .slice x.a2 65 x.c2], v]) w := by
  have hp' : tmps[p]?.getD undef = .pointer (some ⟨g, 0, none⟩) := by simpa using hp
  have ht' : tmps[t]?.getD undef = v := by simpa using ht
  have hl := run_loadVar_cells w g 0 29 _ _ hb.cells Try.underlying29 rfl (by kernel_rfl)
  simp only [xs] at hl
  simp [results, h, hp', ht', asAddr, hl]

theorem results_x2 {fn : Func} {p t u : Tmp} (h : fn.results = #[.cell p 29, .tmp t, .tmp u]) (tmps : Array Value) (w : World) (g : Nat) (x : Xr) (n : Nat) (nx : Int) (v y : Value) (hp : tmps.getD p undef = .pointer (some ⟨g, 0, none⟩)) (ht : tmps.getD t undef = v) (hu : tmps.getD u undef = y) (hb : XBox w g (xs x n nx)) :
    (results fn tmps).run Try.prog w = .ok (.tuple #[.agg #[.slice x.a n x.cap, .int .i64 nx, .slice x.a2 65 x.c2], v, y]) w := by
  have hp' : tmps[p]?.getD undef = .pointer (some ⟨g, 0, none⟩) := by simpa using hp
  have ht' : tmps[t]?.getD undef = v := by simpa using ht
  have hu' : tmps[u]?.getD undef = y := by simpa using hu
  have hl := run_loadVar_cells w g 0 29 _ _ hb.cells Try.underlying29 rfl (by kernel_rfl)
  simp only [xs] at hl
  simp [results, h, hp', ht', hu', asAddr, hl]

theorem XBox.put_stay (w : World) (b : Nat) (v0 v1 v2 : Value) : Stay (fun j => j = b) w (((w.setCell ⟨b, 0, none⟩ v0).setCell ⟨b, 1, none⟩ v1).setCell ⟨b, 2, none⟩ v2) :=
  (((Stay.refl (fun j => j = b) w).setCell (p := ⟨b, 0, none⟩) rfl v0).setCell (p := ⟨b, 1, none⟩) rfl v1).setCell (p := ⟨b, 2, none⟩) rfl v2

theorem rfork28_none (y nx : Int) (h : XAt w x L f) (hx : ∀ p ∈ L, p.pid ≠ y) : Calls Try.prog 28 #[.agg #[.slice x.a L.length x.cap, .int .i64 nx, .slice x.a2 65 x.c2], .int .i64 y] w (XG3 x L nx f 0 5 w) := by
  obtain ⟨n, hn⟩ : ∃ n, n = L.length := ⟨_, rfl⟩
  obtain ⟨b2, hb2⟩ : ∃ b, b = w.heap.size := ⟨_, rfl⟩
  obtain ⟨Wq0, hWq0⟩ : ∃ W, W = w.alloc (.cells #[.slice x.a n x.cap, .int .i64 nx, .slice x.a2 65 x.c2] 29) := ⟨_, rfl⟩
  have hsWq0 : Stay (fun _ => False) w Wq0 := by rw [hWq0]; exact (Stay.refl _ _).alloc _
  have hpb2 : w.heap.size = b2 := by rw [hb2]
  obtain ⟨b4, hb4⟩ : ∃ b, b = w.heap.size + 1 := ⟨_, rfl⟩
  obtain ⟨W0, hW0⟩ : ∃ W, W = Wq0.alloc (.cells #[.slice none 0 0, .int .i64 0, .slice none 0 0] 29) := ⟨_, rfl⟩
  have hsW0 : Stay (fun _ => False) Wq0 W0 := by rw [hW0]; exact (Stay.refl _ _).alloc _
  have hpb4 : Wq0.heap.size = b4 := by rw [hb4]; rw [hWq0, World.size_alloc]
  have HBb2 := hide' (show XBox W0 b2 (xs x n nx) from (show XBox Wq0 b2 (xs x n nx) from (by rw [hWq0]; exact xbox_new w x n nx hpb2)).keep ((Stay.refl (fun _ => False) Wq0).trans hsW0))
  have HZb2 : Hid (w.heap.size ≤ b2) := by show _ ≤ _; omega
  have HBb4 := hide' (show XBox W0 b4 ⟨.slice none 0 0, 0, .slice none 0 0⟩ from (show XBox W0 b4 ⟨.slice none 0 0, 0, .slice none 0 0⟩ from (by rw [hW0]; exact XBox.new ⟨.slice none 0 0, 0, .slice none 0 0⟩ hpb4)).keep (Stay.refl (fun _ => False) W0))
  have HZb4 : Hid (w.heap.size ≤ b4) := by show _ ≤ _; omega
  have HS0 := hide' (((Stay.refl (fun _ => False) w).trans hsWq0).trans hsW0)
  have HW0 : Hid (W0 = ((w.alloc (.cells #[.slice x.a n x.cap, .int .i64 nx, .slice x.a2 65 x.c2] 29)).alloc (.cells #[.slice none 0 0, .int .i64 0, .slice none 0 0] 29))) := by show _ = _; rw [hW0, hWq0]
  have HXA := hide' (h.keep HS0.out)
  have HX0 := hide' h
  have HN := hide' hn
  have hn1 : (n : Int) ≤ 256 := by have := h.len; omega
  have hat := at14 y nx HXA.out
  rw [ixI_no hx, ← hn] at hat
  have HAT := hide' hat
  clear hat
  rw [← hn]
  clear h hn hx
  clear hWq0 hW0 hsWq0 hsW0 hpb2 hpb4
  obtain ⟨e0, e1, e2, _⟩ := HBb2.out
  simp only [xs] at e0 e1 e2
  go_enter Try.func28, Try.ntmps28
  go_upto_region 1 with fail
  rw [← HW0.out, ← hb4, ← hb2]
  clear HW0 hb2 hb4
  go_wp2_with fail
  refine HAT.out.mono ?_
  rintro _ w1 ⟨rfl, hs⟩
  have HB2 := hide' (HBb2.out.keep hs)
  have HB4 := hide' (HBb4.out.keep hs)
  have HS9 := hide' (HS0.out.trans hs)
  have HXA1 := hide' (HXA.out.keep hs)
  clear hs HAT HBb2 HBb4 HXA
  clear e0 e1 e2
  obtain ⟨e0, e1, e2, _⟩ := HB2.out
  simp only [xs] at e0 e1 e2
  obtain ⟨k0, k1, k2, r0, r1, r2⟩ := HB4.out
  go_wp2
  have h3 := XBox.stay_put HS9.out HZb4.out (.slice x.a n x.cap) (.int .i64 nx) (.slice x.a2 65 x.c2)
  have h5 := HX0.out.keep h3
  rw [HN.out] at h3 h5 ⊢
  exact bodyPost_ret (results_x2 rfl _ _ b4 x _ nx _ _ rfl rfl rfl ( HB4.out.put (xs x _ nx))) rfl ⟨x, rfl, h5, h3, XFrom.refl _ _⟩

theorem rfork28_full (y nx : Int) {i : Nat} {p : Pr} (h : XAt w x L f) (hu : Up L) (hp : L[i]? = some p) (hx : p.pid = y) (hl : 256 ≤ L.length) : Calls Try.prog 28 #[.agg #[.slice x.a L.length x.cap, .int .i64 nx, .slice x.a2 65 x.c2], .int .i64 y] w (XG3 x L nx f 0 3 w) := by
  obtain ⟨n, hn⟩ : ∃ n, n = L.length := ⟨_, rfl⟩
  obtain ⟨b2, hb2⟩ : ∃ b, b = w.heap.size := ⟨_, rfl⟩
  obtain ⟨Wq0, hWq0⟩ : ∃ W, W = w.alloc (.cells #[.slice x.a n x.cap, .int .i64 nx, .slice x.a2 65 x.c2] 29) := ⟨_, rfl⟩
  have hsWq0 : Stay (fun _ => False) w Wq0 := by rw [hWq0]; exact (Stay.refl _ _).alloc _
  have hpb2 : w.heap.size = b2 := by rw [hb2]
  obtain ⟨b4, hb4⟩ : ∃ b, b = w.heap.size + 1 := ⟨_, rfl⟩
  obtain ⟨W0, hW0⟩ : ∃ W, W = Wq0.alloc (.cells #[.slice none 0 0, .int .i64 0, .slice none 0 0] 29) := ⟨_, rfl⟩
  have hsW0 : Stay (fun _ => False) Wq0 W0 := by rw [hW0]; exact (Stay.refl _ _).alloc _
  have hpb4 : Wq0.heap.size = b4 := by rw [hb4]; rw [hWq0, World.size_alloc]
  have HBb2 := hide' (show XBox W0 b2 (xs x n nx) from (show XBox Wq0 b2 (xs x n nx) from (by rw [hWq0]; exact xbox_new w x n nx hpb2)).keep ((Stay.refl (fun _ => False) Wq0).trans hsW0))
  have HZb2 : Hid (w.heap.size ≤ b2) := by show _ ≤ _; omega
  have HBb4 := hide' (show XBox W0 b4 ⟨.slice none 0 0, 0, .slice none 0 0⟩ from (show XBox W0 b4 ⟨.slice none 0 0, 0, .slice none 0 0⟩ from (by rw [hW0]; exact XBox.new ⟨.slice none 0 0, 0, .slice none 0 0⟩ hpb4)).keep (Stay.refl (fun _ => False) W0))
  have HZb4 : Hid (w.heap.size ≤ b4) := by show _ ≤ _; omega
  have HS0 := hide' (((Stay.refl (fun _ => False) w).trans hsWq0).trans hsW0)
  have HW0 : Hid (W0 = ((w.alloc (.cells #[.slice x.a n x.cap, .int .i64 nx, .slice x.a2 65 x.c2] 29)).alloc (.cells #[.slice none 0 0, .int .i64 0, .slice none 0 0] 29))) := by show _ = _; rw [hW0, hWq0]
  have HXA := hide' (h.keep HS0.out)
  have HX0 := hide' h
  have HN := hide' hn
  have hn1 : (n : Int) ≤ 256 := by have := h.len; omega
  have hat := at14 y nx HXA.out
  rw [ixI_at hu hp hx, ← hn] at hat
  have HAT := hide' hat
  clear hat
  have hl2 : (256 : Int) ≤ (n : Nat) := by omega
  rw [← hn]
  clear h hn hx hu hp hl
  clear hWq0 hW0 hsWq0 hsW0 hpb2 hpb4
  obtain ⟨e0, e1, e2, _⟩ := HBb2.out
  simp only [xs] at e0 e1 e2
  go_enter Try.func28, Try.ntmps28
  go_upto_region 1 with fail
  rw [← HW0.out, ← hb4, ← hb2]
  clear HW0 hb2 hb4
  go_wp2_with fail
  refine HAT.out.mono ?_
  rintro _ w1 ⟨rfl, hs⟩
  have HB2 := hide' (HBb2.out.keep hs)
  have HB4 := hide' (HBb4.out.keep hs)
  have HS9 := hide' (HS0.out.trans hs)
  have HXA1 := hide' (HXA.out.keep hs)
  clear hs HAT HBb2 HBb4 HXA
  clear e0 e1 e2
  obtain ⟨e0, e1, e2, _⟩ := HB2.out
  simp only [xs] at e0 e1 e2
  obtain ⟨k0, k1, k2, r0, r1, r2⟩ := HB4.out
  go_wp2
  have h3 := XBox.stay_put HS9.out HZb4.out (.slice x.a n x.cap) (.int .i64 nx) (.slice x.a2 65 x.c2)
  have h5 := HX0.out.keep h3
  rw [HN.out] at h3 h5 ⊢
  exact bodyPost_ret (results_x2 rfl _ _ b4 x _ nx _ _ rfl rfl rfl ( HB4.out.put (xs x _ nx))) rfl ⟨x, rfl, h5, h3, XFrom.refl _ _⟩

end Go.Proofs.Ytefpifnfinkbaaa
