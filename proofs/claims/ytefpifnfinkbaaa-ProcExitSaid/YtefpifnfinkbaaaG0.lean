/-
  Processes, groups and sessions, in plain words: what always holds of them. No conditions.
  Blocks that stay; arguments that are integers; rows that are appended; what a law's statement asks behind a walk. No conditions.
  A region that draws its order: what only looks is taken first, wherever it stands; what makes or turns memory comes in its one order. No conditions.
  Integers of 64 bits, results, rows that can be read, blocks apart. No conditions.
  Rows of structs of integers that came in. No conditions.
  Windows of own rows: what is cut off, what is appended. No conditions.
  Processes, tables, acts and signals in boxes. No conditions.
-/
import Derived.Test.YtefpifnfinkbaaaRows
import Derived.ProofKit
import Derived.Below
import Derived.Carry
import Derived.Laws.Cover2
import Derived.Deep.OwnRows
import Derived.Deep.Slices
import Derived.OpenShut
import Derived.LaidMore
import Derived.Deep.QuietTactic
import Derived.BigQuiet
import Derived.WalkKit
import Derived.WalkSpells
import Derived.WalkLawsBesides
import Derived.Handy
import Derived.Lib.Hide
import Derived.Deep.LoopGhost
import Derived.StillTailTactics
import Derived.Laws.AppendOwnNone
import Derived.IntWalk
import Derived.Lib.MinMax
import Derived.Deep.RegionHeld3
import Derived.Deep.DeepCutAuto
import Derived.SevenTiedAt
import Derived.OrdersHeld
import Derived.Maps.AppendAt
import Derived.Laws.BitsLemmas
import Derived.Lib.SmallJoins
import Derived.ArgAppend
import Derived.Deep.MidRow
namespace Go.Proofs.Ytefpifnfinkbaaa

/-- A process, as a value. -/
structure Pr where
  pid : Int
  par : Int
  grp : Int
  ses : Int
  tty : Int
  df : Bool

/-- The places of a list whose numbers rise. -/
def Up (L : List Pr) : Prop := (L.map Pr.pid).Pairwise (· < ·)

theorem Up.get {L : List Pr} (h : Up L) {i j : Nat} {a b : Pr} (hij : i < j) (ha : L[i]? = some a) (hb : L[j]? = some b) : a.pid < b.pid := by
  obtain ⟨hi, rfl⟩ := List.getElem?_eq_some_iff.1 ha
  obtain ⟨hj, rfl⟩ := List.getElem?_eq_some_iff.1 hb
  have := List.pairwise_iff_getElem.1 h i j (by simpa using hi) (by simpa using hj) hij
  simpa using this

theorem Up.inj {L : List Pr} (h : Up L) {i j : Nat} {a b : Pr} (ha : L[i]? = some a) (hb : L[j]? = some b) (e : a.pid = b.pid) : i = j := by
  rcases Nat.lt_trichotomy i j with h1 | h1 | h1
  · have := h.get h1 ha hb; omega
  · exact h1
  · have := h.get h1 hb ha; omega

theorem Up.mem {L : List Pr} (h : Up L) {a b : Pr} (ha : a ∈ L) (hb : b ∈ L) (e : a.pid = b.pid) : a = b := by
  obtain ⟨i, hi⟩ := List.getElem?_of_mem ha
  obtain ⟨j, hj⟩ := List.getElem?_of_mem hb
  have := h.inj hi hj e
  subst this
  rw [hi] at hj
  exact Option.some.inj hj

theorem mem_at {L : List Pr} {i : Nat} {p : Pr} (h : L[i]? = some p) : p ∈ L := List.mem_of_getElem? h

theorem Up.set {L : List Pr} (h : Up L) {i : Nat} {p q : Pr} (hp : L[i]? = some p) (e : q.pid = p.pid) : Up (L.set i q) := by
  have : (L.set i q).map Pr.pid = L.map Pr.pid := by
    rw [List.map_set, e]
    apply List.ext_getElem?
    intro k
    rw [List.getElem?_set]
    split
    · rename_i hk
      subst hk
      have hi := (List.getElem?_eq_some_iff.1 hp).1
      simp [hi, (List.getElem?_eq_some_iff.1 hp).2]
    · rfl
  unfold Up
  rw [this]
  exact h

theorem Up.set_mem {L : List Pr} (h : Up L) {i : Nat} {p q a : Pr} (hp : L[i]? = some p) (ha : a ∈ L.set i q) : a = q ∨ (a ∈ L ∧ a.pid ≠ p.pid) := by
  obtain ⟨k, hk⟩ := List.getElem?_of_mem ha
  rw [List.getElem?_set] at hk
  split at hk
  · split at hk
    · exact .inl (Option.some.inj hk).symm
    · cases hk
  · rename_i hne
    refine .inr ⟨mem_at hk, fun e => hne ?_⟩
    exact h.inj hp hk e.symm

theorem set_has {L : List Pr} {i : Nat} {p q : Pr} (hp : L[i]? = some p) : q ∈ L.set i q := by
  have hi := (List.getElem?_eq_some_iff.1 hp).1
  exact List.mem_iff_getElem?.2 ⟨i, by simp [hi]⟩

theorem set_old {L : List Pr} {i : Nat} {p q a : Pr} (hp : L[i]? = some p) (ha : a ∈ L) (hn : a.pid ≠ p.pid) : a ∈ L.set i q := by
  obtain ⟨k, hk⟩ := List.getElem?_of_mem ha
  have hik : ¬ i = k := fun e => by subst e; rw [hp] at hk; cases hk; exact hn rfl
  exact List.mem_iff_getElem?.2 ⟨k, by rw [List.getElem?_set_ne hik]; exact hk⟩

theorem Up.map {L : List Pr} (h : Up L) {F : Pr → Pr} (hF : ∀ p, (F p).pid = p.pid) : Up (L.map F) := by
  have : (L.map F).map Pr.pid = L.map Pr.pid := by
    rw [List.map_map]
    exact List.map_congr_left (fun a _ => hF a)
  unfold Up
  rw [this]
  exact h

theorem Up.erase {L : List Pr} (h : Up L) (i : Nat) : Up (L.eraseIdx i) := by
  unfold Up
  exact List.Pairwise.sublist ((List.eraseIdx_sublist L i).map _) h

theorem Up.erase_mem {L : List Pr} (h : Up L) {i : Nat} {p a : Pr} (hp : L[i]? = some p) (ha : a ∈ L.eraseIdx i) : a ∈ L ∧ a.pid ≠ p.pid := by
  obtain ⟨k, hk, hka⟩ := List.mem_eraseIdx_iff_getElem?.1 ha
  exact ⟨mem_at hka, fun e => hk (h.inj hka hp e)⟩

theorem erase_old {L : List Pr} {i : Nat} {p a : Pr} (hp : L[i]? = some p) (ha : a ∈ L) (hn : a.pid ≠ p.pid) : a ∈ L.eraseIdx i := by
  obtain ⟨k, hk⟩ := List.getElem?_of_mem ha
  exact List.mem_eraseIdx_iff_getElem?.2 ⟨k, fun e => by subst e; rw [hp] at hk; cases hk; exact hn rfl, hk⟩

theorem Up.snoc {L : List Pr} (h : Up L) {q : Pr} (hq : ∀ p ∈ L, p.pid < q.pid) : Up (L ++ [q]) := by
  unfold Up
  rw [List.map_append, List.pairwise_append]
  refine ⟨h, by simp, fun a ha b hb => ?_⟩
  simp at hb
  subst hb
  obtain ⟨p, hp, rfl⟩ := List.mem_map.1 ha
  exact hq p hp

/-- A number's place holds another number. -/
def upd (f : Int → Int) (t v : Int) : Int → Int := fun x => if x = t then v else f x

theorem upd_same (f : Int → Int) (t v : Int) : upd f t v t = v := if_pos rfl

theorem upd_other (f : Int → Int) {t x : Int} (v : Int) (h : ¬ x = t) : upd f t v x = f x := if_neg h

/-- What always holds of processes and foreground groups. -/
structure Ok (L : List Pr) (md : Int) (f : Int → Int) : Prop where
  up : Up L
  len : L.length ≤ 256
  m1 : 1 ≤ md
  pd : ∀ p ∈ L, 1 ≤ p.pid ∧ p.pid ≤ md
  gd : ∀ p ∈ L, 1 ≤ p.grp ∧ p.grp ≤ md
  sd : ∀ p ∈ L, 1 ≤ p.ses ∧ p.ses ≤ md
  td : ∀ p ∈ L, 0 ≤ p.tty ∧ p.tty ≤ 64
  rd : ∀ p ∈ L, 0 ≤ p.par ∧ p.par ≤ md
  lead : ∀ p ∈ L, p.ses = p.pid → p.grp = p.pid
  gs : ∀ p ∈ L, ∀ q ∈ L, p.grp = q.grp → p.ses = q.ses
  gp : ∀ p ∈ L, ∀ q ∈ L, p.grp = q.pid → p.ses = q.ses
  sp : ∀ p ∈ L, ∀ q ∈ L, q.ses = p.pid → p.ses = p.pid
  st : ∀ p ∈ L, ∀ q ∈ L, p.ses = q.ses → p.tty = q.tty
  ts : ∀ p ∈ L, ∀ q ∈ L, p.tty ≠ 0 → p.tty = q.tty → p.ses = q.ses
  ld : ∀ p ∈ L, p.tty ≠ 0 → ∃ q ∈ L, q.pid = p.ses ∧ q.ses = q.pid
  f1 : ∀ t, f t ≠ 0 → t ≠ 0 ∧ ∃ p ∈ L, p.tty = t
  f2 : ∀ p ∈ L, p.tty ≠ 0 → f p.tty ≠ 0
  fd : ∀ t, 0 ≤ f t ∧ f t ≤ md

/-- At first. -/
theorem Ok.new : Ok [⟨1, 0, 1, 1, 0, false⟩] 1 (fun _ => 0) := by
  constructor <;> simp [Up]

theorem Ok.fork {L : List Pr} {md : Int} {f : Int → Int} (h : Ok L md f) {p : Pr} (hp : p ∈ L) (hl : L.length < 256) : Ok (L ++ [⟨md + 1, p.pid, p.grp, p.ses, p.tty, p.df⟩]) (md + 1) f := by
  have key : ∀ a ∈ L ++ [(⟨md + 1, p.pid, p.grp, p.ses, p.tty, p.df⟩ : Pr)], (a ∈ L) ∨ a = ⟨md + 1, p.pid, p.grp, p.ses, p.tty, p.df⟩ := fun a ha => by simpa using ha
  have key2 : ∀ a ∈ L ++ [(⟨md + 1, p.pid, p.grp, p.ses, p.tty, p.df⟩ : Pr)], ∃ b ∈ L, a.grp = b.grp ∧ a.ses = b.ses ∧ a.tty = b.tty := fun a ha => by
    rcases key a ha with h1 | rfl
    · exact ⟨a, h1, rfl, rfl, rfl⟩
    · exact ⟨p, hp, rfl, rfl, rfl⟩
  have hm := h.m1
  refine ⟨h.up.snoc fun a ha => ?_, ?_, by omega, ?_, ?_, ?_, ?_, ?_, ?_, ?_, ?_, ?_, ?_, ?_, ?_, ?_, ?_, ?_⟩
  · have := h.pd a ha
    show a.pid < md + 1
    omega
  · rw [List.length_append]; simp; omega
  · intro a ha
    rcases key a ha with h1 | rfl
    · have := h.pd a h1; omega
    · show 1 ≤ md + 1 ∧ md + 1 ≤ md + 1; omega
  · intro a ha
    obtain ⟨b, hb, e1, e2, e3⟩ := key2 a ha
    have := h.gd b hb; omega
  · intro a ha
    obtain ⟨b, hb, e1, e2, e3⟩ := key2 a ha
    have := h.sd b hb; omega
  · intro a ha
    obtain ⟨b, hb, e1, e2, e3⟩ := key2 a ha
    have := h.td b hb; omega
  · intro a ha
    rcases key a ha with h1 | rfl
    · have := h.rd a h1; omega
    · have := h.pd p hp
      show 0 ≤ p.pid ∧ p.pid ≤ md + 1; omega
  · intro a ha e
    rcases key a ha with h1 | rfl
    · exact h.lead a h1 e
    · have := h.sd p hp
      change p.ses = md + 1 at e
      omega
  · intro a ha b hb e
    obtain ⟨a', ha', e1, e2, e3⟩ := key2 a ha
    obtain ⟨b', hb', k1, k2, k3⟩ := key2 b hb
    rw [e2, k2]; exact h.gs a' ha' b' hb' (by omega)
  · intro a ha b hb e
    obtain ⟨a', ha', e1, e2, e3⟩ := key2 a ha
    rcases key b hb with h1 | rfl
    · rw [e2]; exact h.gp a' ha' b h1 (by omega)
    · have := h.gd a' ha'
      change a.grp = md + 1 at e
      omega
  · intro a ha b hb e
    obtain ⟨b', hb', k1, k2, k3⟩ := key2 b hb
    rcases key a ha with h1 | rfl
    · exact h.sp a h1 b' hb' (by omega)
    · have := h.sd b' hb'
      change b.ses = md + 1 at e
      omega
  · intro a ha b hb e
    obtain ⟨a', ha', e1, e2, e3⟩ := key2 a ha
    obtain ⟨b', hb', k1, k2, k3⟩ := key2 b hb
    rw [e3, k3]; exact h.st a' ha' b' hb' (by omega)
  · intro a ha b hb n e
    obtain ⟨a', ha', e1, e2, e3⟩ := key2 a ha
    obtain ⟨b', hb', k1, k2, k3⟩ := key2 b hb
    rw [e2, k2]; exact h.ts a' ha' b' hb' (by omega) (by omega)
  · intro a ha n
    obtain ⟨a', ha', e1, e2, e3⟩ := key2 a ha
    obtain ⟨q, hq, k1, k2⟩ := h.ld a' ha' (by omega)
    exact ⟨q, by simp [hq], by omega, k2⟩
  · intro t n
    obtain ⟨h1, q, hq, e⟩ := h.f1 t n
    exact ⟨h1, q, by simp [hq], e⟩
  · intro a ha n
    obtain ⟨a', ha', e1, e2, e3⟩ := key2 a ha
    rw [e3]; exact h.f2 a' ha' (by omega)
  · intro t
    have := h.fd t; omega

/-- One is by itself. -/
theorem Ok.setsid {L : List Pr} {md : Int} {f : Int → Int} (h : Ok L md f) {i : Nat} {p : Pr} (hp : L[i]? = some p) (hn : ∀ q ∈ L, q.grp ≠ p.pid) : Ok (L.set i ⟨p.pid, p.par, p.pid, p.pid, 0, p.df⟩) md f := by
  have key : ∀ a ∈ L.set i ⟨p.pid, p.par, p.pid, p.pid, 0, p.df⟩, a = ⟨p.pid, p.par, p.pid, p.pid, 0, p.df⟩ ∨ (a ∈ L ∧ a.pid ≠ p.pid) := fun a ha => h.up.set_mem hp ha
  have hpm := mem_at hp
  have hnl : p.ses ≠ p.pid := fun e => hn p hpm (h.lead p hpm e)
  have hs : ∀ q ∈ L, q.ses ≠ p.pid := fun q hq e => hnl (h.sp p hpm q hq e)
  have hpd := h.pd p hpm
  refine ⟨h.up.set hp rfl, by rw [List.length_set]; exact h.len, h.m1, ?_, ?_, ?_, ?_, ?_, ?_, ?_, ?_, ?_, ?_, ?_, ?_, ?_, ?_, h.fd⟩
  · intro a ha
    rcases key a ha with rfl | ⟨h1, _⟩
    · exact hpd
    · exact h.pd a h1
  · intro a ha
    rcases key a ha with rfl | ⟨h1, _⟩
    · exact hpd
    · exact h.gd a h1
  · intro a ha
    rcases key a ha with rfl | ⟨h1, _⟩
    · exact hpd
    · exact h.sd a h1
  · intro a ha
    rcases key a ha with rfl | ⟨h1, _⟩
    · exact ⟨Int.le_refl 0, by show (0 : Int) ≤ 64; omega⟩
    · exact h.td a h1
  · intro a ha
    rcases key a ha with rfl | ⟨h1, _⟩
    · exact h.rd p hpm
    · exact h.rd a h1
  · intro a ha e
    rcases key a ha with rfl | ⟨h1, _⟩
    · rfl
    · exact h.lead a h1 e
  · intro a ha b hb e
    rcases key a ha with rfl | ⟨h1, _⟩ <;> rcases key b hb with rfl | ⟨k1, _⟩
    · rfl
    · exact absurd e.symm (hn b k1)
    · exact absurd e (hn a h1)
    · exact h.gs a h1 b k1 e
  · intro a ha b hb e
    rcases key a ha with rfl | ⟨h1, _⟩ <;> rcases key b hb with rfl | ⟨k1, k2⟩
    · rfl
    · exact absurd e.symm k2
    · exact absurd e (hn a h1)
    · exact h.gp a h1 b k1 e
  · intro a ha b hb e
    rcases key a ha with rfl | ⟨h1, h2⟩ <;> rcases key b hb with rfl | ⟨k1, _⟩
    · rfl
    · rfl
    · exact absurd e.symm h2
    · exact h.sp a h1 b k1 e
  · intro a ha b hb e
    rcases key a ha with rfl | ⟨h1, _⟩ <;> rcases key b hb with rfl | ⟨k1, _⟩
    · rfl
    · exact absurd e.symm (hs b k1)
    · exact absurd e (hs a h1)
    · exact h.st a h1 b k1 e
  · intro a ha b hb n e
    rcases key a ha with rfl | ⟨h1, _⟩ <;> rcases key b hb with rfl | ⟨k1, _⟩
    · rfl
    · exact absurd rfl n
    · exact absurd e n
    · exact h.ts a h1 b k1 n e
  · intro a ha n
    rcases key a ha with rfl | ⟨h1, _⟩
    · exact absurd rfl n
    · obtain ⟨q, hq, e1, e2⟩ := h.ld a h1 n
      exact ⟨q, set_old hp hq (fun e => hs q hq (by omega)), e1, e2⟩
  · intro t n
    obtain ⟨h1, q, hq, e⟩ := h.f1 t n
    refine ⟨h1, ?_⟩
    by_cases hqp : q.pid = p.pid
    · have := h.up.mem hq hpm hqp
      subst this
      obtain ⟨l, hl, e1, e2⟩ := h.ld q hq (by omega)
      exact ⟨l, set_old hp hl (fun k => hnl (by omega)), by rw [← e]; exact h.st l hl q hq (by omega)⟩
    · exact ⟨q, set_old hp hq hqp, e⟩
  · intro a ha n
    rcases key a ha with rfl | ⟨h1, _⟩
    · exact absurd rfl n
    · exact h.f2 a h1 n

theorem Ok.setpgid {L : List Pr} {md : Int} {f : Int → Int} (h : Ok L md f) {i : Nat} {p : Pr} {g : Int} (hp : L[i]? = some p) (hl : p.ses ≠ p.pid) (hg : g = p.pid ∨ ∃ m ∈ L, m.grp = g ∧ m.ses = p.ses) : Ok (L.set i ⟨p.pid, p.par, g, p.ses, p.tty, p.df⟩) md f := by
  have key : ∀ a ∈ L.set i ⟨p.pid, p.par, g, p.ses, p.tty, p.df⟩, a = ⟨p.pid, p.par, g, p.ses, p.tty, p.df⟩ ∨ (a ∈ L ∧ a.pid ≠ p.pid) := fun a ha => h.up.set_mem hp ha
  have hpm := mem_at hp
  have back : ∀ a ∈ L.set i ⟨p.pid, p.par, g, p.ses, p.tty, p.df⟩, ∃ b ∈ L, a.pid = b.pid ∧ a.par = b.par ∧ a.ses = b.ses ∧ a.tty = b.tty := fun a ha => by
    rcases key a ha with rfl | ⟨h1, _⟩
    · exact ⟨p, hpm, rfl, rfl, rfl, rfl⟩
    · exact ⟨a, h1, rfl, rfl, rfl, rfl⟩
  have forth : ∀ a ∈ L, ∃ b ∈ L.set i ⟨p.pid, p.par, g, p.ses, p.tty, p.df⟩, a.pid = b.pid ∧ a.par = b.par ∧ a.ses = b.ses ∧ a.tty = b.tty := fun a ha => by
    by_cases e : a.pid = p.pid
    · have := h.up.mem ha hpm e
      subst this
      exact ⟨_, set_has hp, rfl, rfl, rfl, rfl⟩
    · exact ⟨a, set_old hp ha e, rfl, rfl, rfl, rfl⟩
  have hgb : 1 ≤ g ∧ g ≤ md := by
    rcases hg with rfl | ⟨m, hm, rfl, _⟩
    · exact h.pd p hpm
    · exact h.gd m hm
  have hgs : ∀ q ∈ L, q.grp = g → q.ses = p.ses := fun q hq e => by
    rcases hg with rfl | ⟨m, hm, rfl, e2⟩
    · exact h.gp q hq p hpm e
    · rw [← e2]; exact h.gs q hq m hm e
  have hgq : ∀ q ∈ L, g = q.pid → p.ses = q.ses := fun q hq e => by
    rcases hg with rfl | ⟨m, hm, rfl, e2⟩
    · rw [h.up.mem hpm hq e]
    · rw [← e2]; exact h.gp m hm q hq e
  refine ⟨h.up.set hp rfl, by rw [List.length_set]; exact h.len, h.m1, ?_, ?_, ?_, ?_, ?_, ?_, ?_, ?_, ?_, ?_, ?_, ?_, ?_, ?_, h.fd⟩
  · intro a ha
    obtain ⟨b, hb, e1, e2, e3, e4⟩ := back a ha
    rw [e1]; exact h.pd b hb
  · intro a ha
    rcases key a ha with rfl | ⟨h1, _⟩
    · exact hgb
    · exact h.gd a h1
  · intro a ha
    obtain ⟨b, hb, e1, e2, e3, e4⟩ := back a ha
    rw [e3]; exact h.sd b hb
  · intro a ha
    obtain ⟨b, hb, e1, e2, e3, e4⟩ := back a ha
    rw [e4]; exact h.td b hb
  · intro a ha
    obtain ⟨b, hb, e1, e2, e3, e4⟩ := back a ha
    rw [e2]; exact h.rd b hb
  · intro a ha e
    rcases key a ha with rfl | ⟨h1, _⟩
    · exact absurd e hl
    · exact h.lead a h1 e
  · intro a ha b hb e
    rcases key a ha with rfl | ⟨h1, _⟩ <;> rcases key b hb with rfl | ⟨k1, _⟩
    · rfl
    · exact (hgs b k1 e.symm).symm
    · exact hgs a h1 e
    · exact h.gs a h1 b k1 e
  · intro a ha b hb e
    obtain ⟨b', hb', e1, e2, e3, e4⟩ := back b hb
    rw [e3]
    rcases key a ha with rfl | ⟨h1, _⟩
    · exact hgq b' hb' (e.trans e1)
    · exact h.gp a h1 b' hb' (e.trans e1)
  · intro a ha b hb e
    obtain ⟨a', ha', e1, e2, e3, e4⟩ := back a ha
    obtain ⟨b', hb', k1, k2, k3, k4⟩ := back b hb
    rw [e3, e1]
    exact h.sp a' ha' b' hb' (by omega)
  · intro a ha b hb e
    obtain ⟨a', ha', e1, e2, e3, e4⟩ := back a ha
    obtain ⟨b', hb', k1, k2, k3, k4⟩ := back b hb
    rw [e4, k4]
    exact h.st a' ha' b' hb' (by omega)
  · intro a ha b hb n e
    obtain ⟨a', ha', e1, e2, e3, e4⟩ := back a ha
    obtain ⟨b', hb', k1, k2, k3, k4⟩ := back b hb
    rw [e3, k3]
    exact h.ts a' ha' b' hb' (by omega) (by omega)
  · intro a ha n
    obtain ⟨a', ha', e1, e2, e3, e4⟩ := back a ha
    obtain ⟨q, hq, n1, n2⟩ := h.ld a' ha' (by omega)
    obtain ⟨q', hq', k1, k2, k3, k4⟩ := forth q hq
    exact ⟨q', hq', by omega, by omega⟩
  · intro t n
    obtain ⟨h1, q, hq, e⟩ := h.f1 t n
    obtain ⟨q', hq', k1, k2, k3, k4⟩ := forth q hq
    exact ⟨h1, q', hq', by omega⟩
  · intro a ha n
    obtain ⟨a', ha', e1, e2, e3, e4⟩ := back a ha
    rw [e4]
    exact h.f2 a' ha' (by omega)

theorem Ok.deaf {L : List Pr} {md : Int} {f : Int → Int} (h : Ok L md f) {i : Nat} {p : Pr} (hp : L[i]? = some p) (d : Bool) : Ok (L.set i ⟨p.pid, p.par, p.grp, p.ses, p.tty, d⟩) md f := by
  have hpm := mem_at hp
  have back : ∀ a ∈ L.set i ⟨p.pid, p.par, p.grp, p.ses, p.tty, d⟩, ∃ b ∈ L, a.pid = b.pid ∧ a.par = b.par ∧ a.grp = b.grp ∧ a.ses = b.ses ∧ a.tty = b.tty := fun a ha => by
    rcases h.up.set_mem hp ha with rfl | ⟨h1, _⟩
    · exact ⟨p, hpm, rfl, rfl, rfl, rfl, rfl⟩
    · exact ⟨a, h1, rfl, rfl, rfl, rfl, rfl⟩
  have forth : ∀ a ∈ L, ∃ b ∈ L.set i ⟨p.pid, p.par, p.grp, p.ses, p.tty, d⟩, a.pid = b.pid ∧ a.par = b.par ∧ a.grp = b.grp ∧ a.ses = b.ses ∧ a.tty = b.tty := fun a ha => by
    by_cases e : a.pid = p.pid
    · have := h.up.mem ha hpm e
      subst this
      exact ⟨_, set_has hp, rfl, rfl, rfl, rfl, rfl⟩
    · exact ⟨a, set_old hp ha e, rfl, rfl, rfl, rfl, rfl⟩
  refine ⟨h.up.set hp rfl, by rw [List.length_set]; exact h.len, h.m1, ?_, ?_, ?_, ?_, ?_, ?_, ?_, ?_, ?_, ?_, ?_, ?_, ?_, ?_, h.fd⟩
  · intro a ha
    obtain ⟨b, hb, e1, e2, e3, e4, e5⟩ := back a ha
    rw [e1]; exact h.pd b hb
  · intro a ha
    obtain ⟨b, hb, e1, e2, e3, e4, e5⟩ := back a ha
    rw [e3]; exact h.gd b hb
  · intro a ha
    obtain ⟨b, hb, e1, e2, e3, e4, e5⟩ := back a ha
    rw [e4]; exact h.sd b hb
  · intro a ha
    obtain ⟨b, hb, e1, e2, e3, e4, e5⟩ := back a ha
    rw [e5]; exact h.td b hb
  · intro a ha
    obtain ⟨b, hb, e1, e2, e3, e4, e5⟩ := back a ha
    rw [e2]; exact h.rd b hb
  · intro a ha e
    obtain ⟨b, hb, e1, e2, e3, e4, e5⟩ := back a ha
    rw [e3, e1]; exact h.lead b hb (by omega)
  · intro a ha b hb e
    obtain ⟨a', ha', e1, e2, e3, e4, e5⟩ := back a ha
    obtain ⟨b', hb', k1, k2, k3, k4, k5⟩ := back b hb
    rw [e4, k4]; exact h.gs a' ha' b' hb' (by omega)
  · intro a ha b hb e
    obtain ⟨a', ha', e1, e2, e3, e4, e5⟩ := back a ha
    obtain ⟨b', hb', k1, k2, k3, k4, k5⟩ := back b hb
    rw [e4, k4]; exact h.gp a' ha' b' hb' (by omega)
  · intro a ha b hb e
    obtain ⟨a', ha', e1, e2, e3, e4, e5⟩ := back a ha
    obtain ⟨b', hb', k1, k2, k3, k4, k5⟩ := back b hb
    rw [e4, e1]; exact h.sp a' ha' b' hb' (by omega)
  · intro a ha b hb e
    obtain ⟨a', ha', e1, e2, e3, e4, e5⟩ := back a ha
    obtain ⟨b', hb', k1, k2, k3, k4, k5⟩ := back b hb
    rw [e5, k5]; exact h.st a' ha' b' hb' (by omega)
  · intro a ha b hb n e
    obtain ⟨a', ha', e1, e2, e3, e4, e5⟩ := back a ha
    obtain ⟨b', hb', k1, k2, k3, k4, k5⟩ := back b hb
    rw [e4, k4]; exact h.ts a' ha' b' hb' (by omega) (by omega)
  · intro a ha n
    obtain ⟨a', ha', e1, e2, e3, e4, e5⟩ := back a ha
    obtain ⟨q, hq, n1, n2⟩ := h.ld a' ha' (by omega)
    obtain ⟨q', hq', k1, k2, k3, k4, k5⟩ := forth q hq
    exact ⟨q', hq', by omega, by omega⟩
  · intro t n
    obtain ⟨h1, q, hq, e⟩ := h.f1 t n
    obtain ⟨q', hq', k1, k2, k3, k4, k5⟩ := forth q hq
    exact ⟨h1, q', hq', by omega⟩
  · intro a ha n
    obtain ⟨a', ha', e1, e2, e3, e4, e5⟩ := back a ha
    rw [e5]; exact h.f2 a' ha' (by omega)

theorem Ok.fore {L : List Pr} {md : Int} {f : Int → Int} (h : Ok L md f) {p m : Pr} (hp : p ∈ L) (hm : m ∈ L) (ht : p.tty ≠ 0) : Ok L md (upd f p.tty m.grp) := by
  have hg := h.gd m hm
  refine ⟨h.up, h.len, h.m1, h.pd, h.gd, h.sd, h.td, h.rd, h.lead, h.gs, h.gp, h.sp, h.st, h.ts, h.ld, ?_, ?_, ?_⟩
  · intro t n
    by_cases e : t = p.tty
    · exact ⟨by omega, p, hp, e.symm⟩
    · rw [upd_other _ _ e] at n
      exact h.f1 t n
  · intro a ha n
    by_cases e : a.tty = p.tty
    · rw [e, upd_same]; omega
    · rw [upd_other _ _ e]; exact h.f2 a ha n
  · intro t
    by_cases e : t = p.tty
    · rw [e, upd_same]; omega
    · rw [upd_other _ _ e]; exact h.fd t

/-- A session has a terminal. -/
def giveS (s t : Int) (q : Pr) : Pr := if q.ses = s then ⟨q.pid, q.par, q.grp, q.ses, t, q.df⟩ else q

theorem giveS_yes {s t : Int} {q : Pr} (h : q.ses = s) : giveS s t q = ⟨q.pid, q.par, q.grp, q.ses, t, q.df⟩ := if_pos h

theorem giveS_no {s t : Int} {q : Pr} (h : ¬ q.ses = s) : giveS s t q = q := if_neg h

theorem giveS_parts (s t : Int) (q : Pr) : (giveS s t q).pid = q.pid ∧ (giveS s t q).par = q.par ∧ (giveS s t q).grp = q.grp ∧ (giveS s t q).ses = q.ses ∧ (giveS s t q).df = q.df ∧ (giveS s t q).tty = if q.ses = s then t else q.tty := by
  unfold giveS
  split <;> simp

/-- What a session's terminal turns: what must hold of the terminal. -/
theorem Ok.give {L : List Pr} {md : Int} {f : Int → Int} (h : Ok L md f) {s t : Int} (ht : 0 ≤ t ∧ t ≤ 64) (hs : t ≠ 0 → ∃ q ∈ L, q.pid = s ∧ q.ses = q.pid) (hu : ∀ q ∈ L, t ≠ 0 → q.ses ≠ s → q.tty ≠ t) {f' : Int → Int}
    (k1 : ∀ x, f' x ≠ 0 → x ≠ 0 ∧ ((x = t ∧ ∃ q ∈ L, q.ses = s) ∨ ∃ q ∈ L, q.ses ≠ s ∧ q.tty = x)) (k2 : t ≠ 0 → f' t ≠ 0) (k3 : ∀ q ∈ L, q.ses ≠ s → q.tty ≠ 0 → f' q.tty ≠ 0) (k4 : ∀ x, 0 ≤ f' x ∧ f' x ≤ md) : Ok (L.map (giveS s t)) md f' := by
  have back : ∀ a ∈ L.map (giveS s t), ∃ b ∈ L, a.pid = b.pid ∧ a.par = b.par ∧ a.grp = b.grp ∧ a.ses = b.ses ∧ ((b.ses = s ∧ a.tty = t) ∨ (b.ses ≠ s ∧ a.tty = b.tty)) := fun a ha => by
    obtain ⟨b, hb, rfl⟩ := List.mem_map.1 ha
    obtain ⟨e1, e2, e3, e4, e5, e6⟩ := giveS_parts s t b
    refine ⟨b, hb, e1, e2, e3, e4, ?_⟩
    by_cases e : b.ses = s
    · rw [if_pos e] at e6; exact .inl ⟨e, e6⟩
    · rw [if_neg e] at e6; exact .inr ⟨e, e6⟩
  have forth : ∀ b ∈ L, ∃ a ∈ L.map (giveS s t), a.pid = b.pid ∧ a.ses = b.ses ∧ ((b.ses = s ∧ a.tty = t) ∨ (b.ses ≠ s ∧ a.tty = b.tty)) := fun b hb => by
    obtain ⟨e1, e2, e3, e4, e5, e6⟩ := giveS_parts s t b
    refine ⟨_, List.mem_map_of_mem hb, e1, e4, ?_⟩
    by_cases e : b.ses = s
    · rw [if_pos e] at e6; exact .inl ⟨e, e6⟩
    · rw [if_neg e] at e6; exact .inr ⟨e, e6⟩
  refine ⟨h.up.map (fun p => (giveS_parts s t p).1), by rw [List.length_map]; exact h.len, h.m1, ?_, ?_, ?_, ?_, ?_, ?_, ?_, ?_, ?_, ?_, ?_, ?_, ?_, ?_, k4⟩
  · intro a ha
    obtain ⟨b, hb, e1, e2, e3, e4, e5⟩ := back a ha
    rw [e1]; exact h.pd b hb
  · intro a ha
    obtain ⟨b, hb, e1, e2, e3, e4, e5⟩ := back a ha
    rw [e3]; exact h.gd b hb
  · intro a ha
    obtain ⟨b, hb, e1, e2, e3, e4, e5⟩ := back a ha
    rw [e4]; exact h.sd b hb
  · intro a ha
    obtain ⟨b, hb, e1, e2, e3, e4, e5⟩ := back a ha
    have := h.td b hb
    rcases e5 with ⟨_, e5⟩ | ⟨_, e5⟩ <;> omega
  · intro a ha
    obtain ⟨b, hb, e1, e2, e3, e4, e5⟩ := back a ha
    rw [e2]; exact h.rd b hb
  · intro a ha e
    obtain ⟨b, hb, e1, e2, e3, e4, e5⟩ := back a ha
    rw [e3, e1]; exact h.lead b hb (by omega)
  · intro a ha b hb e
    obtain ⟨a', ha', e1, e2, e3, e4, e5⟩ := back a ha
    obtain ⟨b', hb', l1, l2, l3, l4, l5⟩ := back b hb
    rw [e4, l4]; exact h.gs a' ha' b' hb' (by omega)
  · intro a ha b hb e
    obtain ⟨a', ha', e1, e2, e3, e4, e5⟩ := back a ha
    obtain ⟨b', hb', l1, l2, l3, l4, l5⟩ := back b hb
    rw [e4, l4]; exact h.gp a' ha' b' hb' (by omega)
  · intro a ha b hb e
    obtain ⟨a', ha', e1, e2, e3, e4, e5⟩ := back a ha
    obtain ⟨b', hb', l1, l2, l3, l4, l5⟩ := back b hb
    rw [e4, e1]; exact h.sp a' ha' b' hb' (by omega)
  · intro a ha b hb e
    obtain ⟨a', ha', e1, e2, e3, e4, e5⟩ := back a ha
    obtain ⟨b', hb', l1, l2, l3, l4, l5⟩ := back b hb
    have := h.st a' ha' b' hb' (by omega)
    rcases e5 with ⟨n1, e5⟩ | ⟨n1, e5⟩ <;> rcases l5 with ⟨n2, l5⟩ | ⟨n2, l5⟩ <;> omega
  · intro a ha b hb n e
    obtain ⟨a', ha', e1, e2, e3, e4, e5⟩ := back a ha
    obtain ⟨b', hb', l1, l2, l3, l4, l5⟩ := back b hb
    rcases e5 with ⟨n1, e5⟩ | ⟨n1, e5⟩ <;> rcases l5 with ⟨n2, l5⟩ | ⟨n2, l5⟩
    · omega
    · exact absurd (by omega) (hu b' hb' (by omega) n2)
    · exact absurd (by omega) (hu a' ha' (by omega) n1)
    · rw [e4, l4]; exact h.ts a' ha' b' hb' (by omega) (by omega)
  · intro a ha n
    obtain ⟨a', ha', e1, e2, e3, e4, e5⟩ := back a ha
    have hq : ∃ q ∈ L, q.pid = a'.ses ∧ q.ses = q.pid := by
      rcases e5 with ⟨n1, e5⟩ | ⟨n1, e5⟩
      · obtain ⟨q, hq, m1, m2⟩ := hs (by omega)
        exact ⟨q, hq, by omega, m2⟩
      · exact h.ld a' ha' (by omega)
    obtain ⟨q, hq, n1, n2⟩ := hq
    obtain ⟨q', hq', l1, l2, l3⟩ := forth q hq
    exact ⟨q', hq', by omega, by omega⟩
  · intro x n
    obtain ⟨h1, h2⟩ := k1 x n
    refine ⟨h1, ?_⟩
    rcases h2 with ⟨rfl, q, hq, e⟩ | ⟨q, hq, e, ex⟩
    · obtain ⟨q', hq', l1, l2, l3⟩ := forth q hq
      exact ⟨q', hq', by rcases l3 with ⟨_, l3⟩ | ⟨l3, _⟩; exact l3; exact absurd e l3⟩
    · obtain ⟨q', hq', l1, l2, l3⟩ := forth q hq
      exact ⟨q', hq', by rcases l3 with ⟨l3, _⟩ | ⟨_, l3⟩; exact absurd l3 e; omega⟩
  · intro a ha n
    obtain ⟨a', ha', e1, e2, e3, e4, e5⟩ := back a ha
    rcases e5 with ⟨n1, e5⟩ | ⟨n1, e5⟩
    · rw [e5]; exact k2 (by omega)
    · rw [e5]; exact k3 a' ha' n1 (by omega)

theorem Ok.attach {L : List Pr} {md : Int} {f : Int → Int} (h : Ok L md f) {p : Pr} {t : Int} (hp : p ∈ L) (hl : p.ses = p.pid) (h1 : 1 ≤ t) (h2 : t ≤ 64) (h0 : p.tty = 0) (hf : f t = 0) : Ok (L.map (giveS p.pid t)) md (upd f t p.grp) := by
  have hg := h.gd p hp
  have hz : ∀ q ∈ L, q.ses = p.pid → q.tty = 0 := fun q hq e => by rw [← h0]; exact h.st q hq p hp (by omega)
  have hnt : ∀ q ∈ L, q.tty ≠ t := fun q hq e => h.f2 q hq (by omega) (by rw [e]; exact hf)
  refine h.give ⟨by omega, h2⟩ (fun _ => ⟨p, hp, rfl, hl⟩) (fun q hq _ _ => hnt q hq) ?_ ?_ ?_ ?_
  · intro x n
    by_cases e : x = t
    · exact ⟨by omega, .inl ⟨e, p, hp, hl⟩⟩
    · rw [upd_other _ _ e] at n
      obtain ⟨n1, q, hq, e2⟩ := h.f1 x n
      exact ⟨n1, .inr ⟨q, hq, fun e3 => n1 (by rw [← e2]; exact hz q hq e3), e2⟩⟩
  · intro _
    rw [upd_same]; omega
  · intro q hq _ n
    rw [upd_other _ _ (hnt q hq)]
    exact h.f2 q hq n
  · intro x
    by_cases e : x = t
    · rw [e, upd_same]; omega
    · rw [upd_other _ _ e]; exact h.fd x

/-- A terminal is nobody's. -/
def freeT (t : Int) (q : Pr) : Pr := if q.tty = t then ⟨q.pid, q.par, q.grp, q.ses, 0, q.df⟩ else q

theorem freeT_yes {t : Int} {q : Pr} (h : q.tty = t) : freeT t q = ⟨q.pid, q.par, q.grp, q.ses, 0, q.df⟩ := if_pos h

theorem freeT_no {t : Int} {q : Pr} (h : ¬ q.tty = t) : freeT t q = q := if_neg h

theorem freeT_parts (t : Int) (q : Pr) : (freeT t q).pid = q.pid ∧ (freeT t q).par = q.par ∧ (freeT t q).grp = q.grp ∧ (freeT t q).ses = q.ses ∧ (freeT t q).df = q.df := by
  unfold freeT
  split <;> simp

theorem freeT_zero : ∀ L : List Pr, L.map (freeT 0) = L
  | [] => rfl
  | p :: L => by
    rw [List.map_cons, freeT_zero L]
    congr 1
    unfold freeT
    split
    · rename_i h
      obtain ⟨a, b, c, d, e, g⟩ := p
      simp at h
      subst h
      rfl
    · rfl

theorem freeT_none {t : Int} : ∀ {L : List Pr}, (∀ q ∈ L, q.tty ≠ t) → L.map (freeT t) = L
  | [], _ => rfl
  | p :: L, h => by
    rw [List.map_cons, freeT_none (fun q hq => h q (by simp [hq])), freeT_no (h p (by simp))]

/-- Whoever has the terminal is of its session. -/
theorem Ok.free_give {L : List Pr} {md : Int} {f : Int → Int} (h : Ok L md f) {p : Pr} (hp : p ∈ L) (ht : p.tty ≠ 0) : L.map (freeT p.tty) = L.map (giveS p.ses 0) := by
  refine List.map_congr_left (fun q hq => ?_)
  by_cases e : q.tty = p.tty
  · rw [freeT_yes e, giveS_yes (h.ts q hq p hp (by omega) e)]
  · rw [freeT_no e, giveS_no (fun e2 => e (h.st q hq p hp e2))]

theorem Ok.free {L : List Pr} {md : Int} {f : Int → Int} (h : Ok L md f) {p : Pr} (hp : p ∈ L) (ht : p.tty ≠ 0) : Ok (L.map (freeT p.tty)) md (upd f p.tty 0) := by
  have hm := h.m1
  rw [h.free_give hp ht]
  refine h.give ⟨Int.le_refl 0, by omega⟩ (fun n => absurd rfl n) (fun q hq n _ => absurd rfl n) ?_ (fun n => absurd rfl n) ?_ ?_
  · intro x n
    by_cases e : x = p.tty
    · rw [e, upd_same] at n; exact absurd rfl n
    · rw [upd_other _ _ e] at n
      obtain ⟨n1, q, hq, e2⟩ := h.f1 x n
      exact ⟨n1, .inr ⟨q, hq, fun e3 => e (by rw [← e2]; exact h.st q hq p hp e3), e2⟩⟩
  · intro q hq n1 n
    have e : ¬ q.tty = p.tty := fun e => n1 (h.ts q hq p hp n e)
    rw [upd_other _ _ e]
    exact h.f2 q hq n
  · intro x
    by_cases e : x = p.tty
    · rw [e, upd_same]; omega
    · rw [upd_other _ _ e]; exact h.fd x

/-- What children of one that is gone are. -/
def adopt (x : Int) (q : Pr) : Pr := if q.par = x then ⟨q.pid, if x = 1 then 0 else 1, q.grp, q.ses, q.tty, q.df⟩ else q

theorem adopt_parts (x : Int) (q : Pr) : (adopt x q).pid = q.pid ∧ (adopt x q).grp = q.grp ∧ (adopt x q).ses = q.ses ∧ (adopt x q).tty = q.tty ∧ (adopt x q).df = q.df ∧ ((adopt x q).par = q.par ∨ (adopt x q).par = 0 ∨ (adopt x q).par = 1) := by
  unfold adopt
  split
  · refine ⟨rfl, rfl, rfl, rfl, rfl, ?_⟩
    show (if x = 1 then (0 : Int) else 1) = _ ∨ _
    split <;> simp
  · exact ⟨rfl, rfl, rfl, rfl, rfl, .inl rfl⟩

/-- One is gone that had no session's terminal. -/
theorem Ok.gone {L : List Pr} {md : Int} {f : Int → Int} (h : Ok L md f) {i : Nat} {p : Pr} (hp : L[i]? = some p) (hl : p.ses = p.pid → p.tty = 0) : Ok ((L.eraseIdx i).map (adopt p.pid)) md f := by
  have hpm := mem_at hp
  have hm := h.m1
  have back : ∀ a ∈ (L.eraseIdx i).map (adopt p.pid), ∃ b ∈ L, b.pid ≠ p.pid ∧ a.pid = b.pid ∧ a.grp = b.grp ∧ a.ses = b.ses ∧ a.tty = b.tty ∧ (a.par = b.par ∨ a.par = 0 ∨ a.par = 1) := fun a ha => by
    obtain ⟨b, hb, rfl⟩ := List.mem_map.1 ha
    obtain ⟨hb1, hb2⟩ := h.up.erase_mem hp hb
    obtain ⟨e1, e2, e3, e4, e5, e6⟩ := adopt_parts p.pid b
    exact ⟨b, hb1, hb2, e1, e2, e3, e4, e6⟩
  have forth : ∀ b ∈ L, b.pid ≠ p.pid → ∃ a ∈ (L.eraseIdx i).map (adopt p.pid), a.pid = b.pid ∧ a.ses = b.ses ∧ a.tty = b.tty := fun b hb hn => by
    obtain ⟨e1, e2, e3, e4, e5, e6⟩ := adopt_parts p.pid b
    exact ⟨_, List.mem_map_of_mem (erase_old hp hb hn), e1, e3, e4⟩
  refine ⟨(h.up.erase i).map (fun p' => (adopt_parts p.pid p').1), by have := List.length_eraseIdx_le L i; have := h.len; rw [List.length_map]; omega, h.m1, ?_, ?_, ?_, ?_, ?_, ?_, ?_, ?_, ?_, ?_, ?_, ?_, ?_, ?_, h.fd⟩
  · intro a ha
    obtain ⟨b, hb, hn, e1, e2, e3, e4, e5⟩ := back a ha
    rw [e1]; exact h.pd b hb
  · intro a ha
    obtain ⟨b, hb, hn, e1, e2, e3, e4, e5⟩ := back a ha
    rw [e2]; exact h.gd b hb
  · intro a ha
    obtain ⟨b, hb, hn, e1, e2, e3, e4, e5⟩ := back a ha
    rw [e3]; exact h.sd b hb
  · intro a ha
    obtain ⟨b, hb, hn, e1, e2, e3, e4, e5⟩ := back a ha
    rw [e4]; exact h.td b hb
  · intro a ha
    obtain ⟨b, hb, hn, e1, e2, e3, e4, e5⟩ := back a ha
    have := h.rd b hb
    rcases e5 with e5 | e5 | e5 <;> omega
  · intro a ha e
    obtain ⟨b, hb, hn, e1, e2, e3, e4, e5⟩ := back a ha
    rw [e2, e1]; exact h.lead b hb (by omega)
  · intro a ha b hb e
    obtain ⟨a', ha', hn, e1, e2, e3, e4, e5⟩ := back a ha
    obtain ⟨b', hb', ln, l1, l2, l3, l4, l5⟩ := back b hb
    rw [e3, l3]; exact h.gs a' ha' b' hb' (by omega)
  · intro a ha b hb e
    obtain ⟨a', ha', hn, e1, e2, e3, e4, e5⟩ := back a ha
    obtain ⟨b', hb', ln, l1, l2, l3, l4, l5⟩ := back b hb
    rw [e3, l3]; exact h.gp a' ha' b' hb' (by omega)
  · intro a ha b hb e
    obtain ⟨a', ha', hn, e1, e2, e3, e4, e5⟩ := back a ha
    obtain ⟨b', hb', ln, l1, l2, l3, l4, l5⟩ := back b hb
    rw [e3, e1]; exact h.sp a' ha' b' hb' (by omega)
  · intro a ha b hb e
    obtain ⟨a', ha', hn, e1, e2, e3, e4, e5⟩ := back a ha
    obtain ⟨b', hb', ln, l1, l2, l3, l4, l5⟩ := back b hb
    rw [e4, l4]; exact h.st a' ha' b' hb' (by omega)
  · intro a ha b hb n e
    obtain ⟨a', ha', hn, e1, e2, e3, e4, e5⟩ := back a ha
    obtain ⟨b', hb', ln, l1, l2, l3, l4, l5⟩ := back b hb
    rw [e3, l3]; exact h.ts a' ha' b' hb' (by omega) (by omega)
  · intro a ha n
    obtain ⟨a', ha', hn, e1, e2, e3, e4, e5⟩ := back a ha
    obtain ⟨q, hq, n1, n2⟩ := h.ld a' ha' (by omega)
    have hqp : q.pid ≠ p.pid := fun e => by
      have := h.up.mem hq hpm e
      subst this
      have h3 := hl n2
      have h4 := h.st a' ha' q hq (by omega)
      omega
    obtain ⟨q', hq', l1, l2, l3⟩ := forth q hq hqp
    exact ⟨q', hq', by omega, by omega⟩
  · intro t n
    obtain ⟨h1, q, hq, e⟩ := h.f1 t n
    refine ⟨h1, ?_⟩
    by_cases hqp : q.pid = p.pid
    · have := h.up.mem hq hpm hqp
      subst this
      obtain ⟨l, hl1, e1, e2⟩ := h.ld q hq (by omega)
      have hlq : l.pid ≠ q.pid := fun k => by
        have := hl (by omega)
        omega
      obtain ⟨q', hq', l1, l2, l3⟩ := forth l hl1 hlq
      exact ⟨q', hq', by rw [l3, ← e]; exact h.st l hl1 q hq (by omega)⟩
    · obtain ⟨q', hq', l1, l2, l3⟩ := forth q hq hqp
      exact ⟨q', hq', by omega⟩
  · intro a ha n
    obtain ⟨a', ha', hn, e1, e2, e3, e4, e5⟩ := back a ha
    rw [e4]; exact h.f2 a' ha' (by omega)

theorem erase_map {F : Pr → Pr} : ∀ (L : List Pr) (i : Nat), (L.map F).eraseIdx i = (L.eraseIdx i).map F
  | [], _ => rfl
  | _ :: _, 0 => rfl
  | a :: L, i + 1 => by
    show F a :: (L.map F).eraseIdx i = F a :: (L.eraseIdx i).map F
    rw [erase_map L i]

/-- One that leads a session is gone, and its terminal is nobody's. -/
theorem Ok.goneT {L : List Pr} {md : Int} {f : Int → Int} (h : Ok L md f) {i : Nat} {p : Pr} (hp : L[i]? = some p) (ht : p.tty ≠ 0) : Ok (((L.eraseIdx i).map (adopt p.pid)).map (freeT p.tty)) md (upd f p.tty 0) := by
  have hf := h.free (mem_at hp) ht
  have hp2 : (L.map (freeT p.tty))[i]? = some ⟨p.pid, p.par, p.grp, p.ses, 0, p.df⟩ := by rw [List.getElem?_map, hp, Option.map_some, freeT_yes rfl]
  have hg := hf.gone hp2 (fun _ => rfl)
  have e : ((L.map (freeT p.tty)).eraseIdx i).map (adopt p.pid) = ((L.eraseIdx i).map (adopt p.pid)).map (freeT p.tty) := by
    rw [erase_map, List.map_map, List.map_map]
    refine List.map_congr_left (fun q _ => ?_)
    show adopt p.pid (freeT p.tty q) = freeT p.tty (adopt p.pid q)
    unfold adopt freeT
    by_cases h1 : q.tty = p.tty <;> by_cases h2 : q.par = p.pid <;> simp [h1, h2]
  rw [← e]
  exact hg

end Go.Proofs.Ytefpifnfinkbaaa

namespace Go.Proofs.Ytefpifnfinkbaaa
open Go.RowKit Go.ChangeShapes Go.WideShapes Go.ChangeAt

theorem hide' {p : Prop} (h : p) : Hid p := h

/-- All blocks that were there, but those of a set, are as they were. -/
structure Stay (S : Nat → Prop) (w w' : World) : Prop where
  os : w'.os = w.os
  tape : w'.tape = w.tape
  output : w'.output = w.output
  size : w.heap.size ≤ w'.heap.size
  block : ∀ k, k < w.heap.size → ¬ S k → w'.heap[k]? = w.heap[k]?

namespace Stay
variable {S T : Nat → Prop} {w w' w'' : World}

theorem refl (S : Nat → Prop) (w : World) : Stay S w w := ⟨rfl, rfl, rfl, Nat.le_refl _, fun _ _ _ => rfl⟩

theorem trans (h : Stay S w w') (k : Stay S w' w'') : Stay S w w'' :=
  ⟨k.os.trans h.os, k.tape.trans h.tape, k.output.trans h.output, Nat.le_trans h.size k.size, fun i hi hs => (k.block i (Nat.lt_of_lt_of_le hi h.size) hs).trans (h.block i hi hs)⟩

theorem mono (h : Stay S w w') (hS : ∀ k, k < w.heap.size → S k → T k) : Stay T w w' :=
  ⟨h.os, h.tape, h.output, h.size, fun k hk ht => h.block k hk (fun hs => ht (hS k hk hs))⟩

theorem drew (h : Stay S w w') : Stay S w w'.drew := ⟨h.os, h.tape, h.output, h.size, h.block⟩

theorem drewN (h : Stay S w w') (n : Nat) : Stay S w (w'.drewN n) := ⟨h.os, h.tape, h.output, h.size, h.block⟩

theorem of_below {B : Nat} (h : Below B w w') (hS : ∀ k, k < w.heap.size → B ≤ k → S k) : Stay S w w' :=
  ⟨h.os, h.tape, h.output, h.size, fun k hk hs => h.block k (Nat.lt_of_not_le fun hb => hs (hS k hk hb))⟩

theorem below {B : Nat} (h : Stay S w w') (hB : B ≤ w.heap.size) (hS : ∀ k, k < B → ¬ S k) : Below B w w' :=
  ⟨h.os, h.tape, h.output, h.size, fun k hk => h.block k (Nat.lt_of_lt_of_le hk hB) (hS k hk)⟩

theorem alloc (h : Stay S w w') (o : Obj) : Stay S w (w'.alloc o) :=
  h.trans ⟨rfl, rfl, rfl, by simp, fun k hk _ => Below.heap_alloc _ _ _ hk⟩

theorem setCell (h : Stay S w w') {p : Addr} (hp : S p.block) (u : Value) : Stay S w (w'.setCell p u) :=
  h.trans ⟨rfl, rfl, rfl, by simp [World.setCell], fun k _ hs => Below.heap_setCell _ _ _ _ (fun e => hs (e ▸ hp))⟩

/-- A store into a block that is new. -/
theorem setNew (h : Stay S w w') {p : Addr} (hp : w.heap.size ≤ p.block) (u : Value) : Stay S w (w'.setCell p u) :=
  ⟨h.os, h.tape, h.output, by simpa [World.setCell] using h.size, fun k hk hs => by rw [Below.heap_setCell _ _ _ _ (by omega)]; exact h.block k hk hs⟩

theorem grown {row : Option Nat} (h : Stay S w w') (hg : w'.grownBy w'' row) (hr : ∀ k, row = some k → k < w.heap.size → S k) : Stay S w w'' :=
  ⟨hg.os.trans h.os, hg.tape.trans h.tape, hg.output.trans h.output, Nat.le_trans h.size hg.size, fun k hk hs =>
    (hg.block k (Nat.lt_of_lt_of_le hk h.size) (fun e => hs (hr k e.symm hk))).trans (h.block k hk hs)⟩

theorem cell (h : Stay S w w') {p : Addr} (hp : p.block < w.heap.size) (hs : ¬ S p.block) : w'.cell? p = w.cell? p := World.cell?_of_block (w := w) (h.block p.block hp hs)

theorem frozen (h : Stay S w w') {p : Addr} (hp : p.block < w.heap.size) (hs : ¬ S p.block) : w'.frozen? p = w.frozen? p := World.frozen?_of_block (w := w) (h.block p.block hp hs)

theorem row (h : Stay S w w') {b : Nat} {t : TypeId} {n : Nat} {f : Nat → Value} (hr : w.rowIs b t n f) (hs : ¬ S b) : w'.rowIs b t n f := hr.of_block (h.block b hr.lt hs)

theorem owns (h : Stay S w w') {base : Nat} {e : TypeId} {size : Nat} {v : Value} {n : Nat} {xs : List Value} (hr : w.ownsRow base e size v n xs) (hs : ∀ k, v.ownBlock = some k → ¬ S k) : w'.ownsRow base e size v n xs := by
  have hlt := hr.lt
  refine ⟨hr.1, ?_⟩
  rcases hr.2 with hn | ⟨g, cap, cur, rfl, hb, hgg, rest⟩
  · exact .inl hn
  · exact .inr ⟨g, cap, cur, rfl, hb, by rw [h.block g (hlt g rfl).2 (hs g rfl)]; exact hgg, rest⟩

end Stay

/-- An own row, asked for from a lower base. -/
theorem ownsRow_base {w : World} {base base' : Nat} {e : TypeId} {size : Nat} {v : Value} {n : Nat} {xs : List Value} (h : w.ownsRow base e size v n xs) (hb : base' ≤ base) : w.ownsRow base' e size v n xs := by
  refine ⟨h.1, ?_⟩
  rcases h.2 with hn | ⟨g, cap, cur, rfl, hb', rest⟩
  · exact .inl hn
  · exact .inr ⟨g, cap, cur, rfl, Nat.le_trans hb hb', rest⟩

/-- The shape of an own row. -/
theorem ownsRow_shape {w : World} {base : Nat} {e : TypeId} {v : Value} {n : Nat} {xs : List Value} (h : w.ownsRow base e 1 v n xs) :
    ∃ a cap, v = .slice a n cap ∧ xs.length = n ∧ ∀ j u, xs[j]? = some u → ∃ g, a = some ⟨g, 0, none⟩ ∧ base ≤ g ∧ w.cell? ⟨g, j, none⟩ = some u := by
  have hl : xs.length = n := by simpa using h.1
  rcases h.2 with ⟨rfl, rfl⟩ | ⟨g, cap, cur, rfl, hb, hg, _⟩
  · exact ⟨none, 0, rfl, hl, fun j u hu => by rw [List.eq_nil_of_length_eq_zero hl] at hu; simp at hu⟩
  · refine ⟨some ⟨g, 0, none⟩, cap, rfl, hl, fun j u hu => ⟨g, rfl, hb, ?_⟩⟩
    have := h.cells (g := g) rfl j u hu
    rwa [show (⟨g, 0, none⟩ : Addr).add j = ⟨g, j, none⟩ from by unfold Addr.add; split <;> simp_all] at this

/-- The cells of a datum of integers alone. -/
def flat {H : Type} : Nat → DataW H → List Value
  | 0, _ => []
  | _ + 1, .lit (.int k n) => [.int k n]
  | f + 1, .agg ds => ds.flatMap (flat f)
  | _ + 1, _ => []

theorem flat_pieces {H : Type} (fuel c : Nat) : ∀ (xs : List (DataW H × List MemPlace)) (cs : List Value) (s : Nat), cs.length = s + xs.length * c →
    (∀ i x, xs[i]? = some x → (cs.drop (s + i * c)).take c = flat fuel x.1) → cs.drop s = (xs.map (·.1)).flatMap (flat fuel)
  | [], cs, s, hl, _ => by simp at hl; simp [hl]
  | x :: xs, cs, s, hl, h => by
    have h0 := h 0 x rfl
    have ih := flat_pieces fuel c xs cs (s + c) (by rw [hl, List.length_cons, Nat.succ_mul]; omega) (fun i y hy => by
      have := h (i + 1) y (by simpa using hy)
      rwa [show s + (i + 1) * c = s + c + i * c from by rw [Nat.succ_mul]; omega] at this)
    rw [List.map_cons, List.flatMap_cons, ← h0, ← ih, Nat.zero_mul, Nat.add_zero]
    conv => lhs; rw [← List.take_append_drop c (cs.drop s)]
    rw [List.drop_drop]

/-- An array whose elements' cells are known piece by piece. -/
theorem flat_array {H : Type} {enc : TypeId × Value → H} {P : Program} {w : World} {base : Nat} {sp : Nat → Bool} {held : Bool} {fuel n k : Nat} {t e : TypeId} {cs : List Value} {ds : List (DataW H)} {p : List MemPlace}
    (ht : P.underlying t = some (.array n e)) (hc : P.cellsOf t = n * P.cellsOf e)
    (he : ∀ (cs : List Value) (x : DataW H × List MemPlace) (fuel : Nat), DataW.trod enc P w base sp held fuel e cs = some x → cs = flat k x.1)
    (h : DataW.trod enc P w base sp held fuel t cs = some (.agg ds, p)) : cs = ds.flatMap (flat k) := by
  obtain ⟨xs, m, rfl, hx, hl, hn, hel⟩ := DataW.trod_array ht h
  simp only [Prod.mk.injEq, DataW.agg.injEq] at hx
  rw [hx.1]
  have := flat_pieces (H := H) k (P.cellsOf e) xs cs 0 (by rw [hl, hc, hn]; omega) (fun i x hi => by
    have hlt : i < n := by rw [← hn]; exact (List.getElem?_eq_some_iff.1 hi).1
    rw [Nat.zero_add]
    exact he _ _ _ ((hel i hlt).trans hi))
  simpa using this

theorem flat_any_array {H : Type} {enc : TypeId × Value → H} {P : Program} {w : World} {base : Nat} {sp : Nat → Bool} {held : Bool} {n k : Nat} {t e : TypeId}
    (ht : P.underlying t = some (.array n e)) (hc : P.cellsOf t = n * P.cellsOf e)
    (he : ∀ (cs : List Value) (x : DataW H × List MemPlace) (fuel : Nat), DataW.trod enc P w base sp held fuel e cs = some x → cs = flat k x.1)
    (cs : List Value) (x : DataW H × List MemPlace) (fuel : Nat) (h : DataW.trod enc P w base sp held fuel t cs = some x) : cs = flat (k + 1) x.1 := by
  obtain ⟨xs, m, rfl, hx, _⟩ := DataW.trod_array ht h
  subst hx
  exact flat_array ht hc he h

theorem flat_any_int {H : Type} {enc : TypeId × Value → H} {P : Program} {w : World} {base : Nat} {sp : Nat → Bool} {held : Bool} {t : TypeId} {k : IntKind} (j : Nat)
    (ht : P.underlying t = some (.int k)) (cs : List Value) (x : DataW H × List MemPlace) (fuel : Nat) (h : DataW.trod enc P w base sp held fuel t cs = some x) : cs = flat (j + 1) x.1 := by
  obtain ⟨n, rfl, rfl, _⟩ := DataW.trod_int ht h
  rfl

/-- A struct of two fields. -/
theorem flat_any_two {H : Type} {enc : TypeId × Value → H} {P : Program} {w : World} {base : Nat} {sp : Nat → Bool} {held : Bool} {k : Nat} {t : TypeId} {f0 f1 : Field}
    (ht : P.underlying t = some (.struct #[f0, f1])) (h0 : f0.offset = 0) (h1 : f1.offset = P.cellsOf f0.type) (hc : P.cellsOf t = P.cellsOf f0.type + P.cellsOf f1.type)
    (e0 : ∀ (cs : List Value) (x : DataW H × List MemPlace) (fuel : Nat), DataW.trod enc P w base sp held fuel f0.type cs = some x → cs = flat k x.1)
    (e1 : ∀ (cs : List Value) (x : DataW H × List MemPlace) (fuel : Nat), DataW.trod enc P w base sp held fuel f1.type cs = some x → cs = flat k x.1)
    (cs : List Value) (x : DataW H × List MemPlace) (fuel : Nat) (h : DataW.trod enc P w base sp held fuel t cs = some x) : cs = flat (k + 1) x.1 := by
  obtain ⟨xs, m, rfl, rfl, hl, hn, hel⟩ := DataW.trod_struct ht h
  match xs, hn with
  | [x0, x1], _ =>
    have a0 := e0 _ _ _ (hel 0 f0 rfl)
    have a1 := e1 _ _ _ (hel 1 f1 rfl)
    show cs = ([x0, x1].map (·.1)).flatMap (flat k)
    simp only [List.map_cons, List.map_nil, List.flatMap_cons, List.flatMap_nil, List.append_nil, ← a0, ← a1, h0, h1, List.drop_zero]
    rw [List.take_of_length_le (l := cs.drop _) (by rw [List.length_drop]; omega), List.take_append_drop]

theorem addr_add (b off j : Nat) : (⟨b, off, none⟩ : Addr).add j = ⟨b, off + j, none⟩ := by unfold Addr.add; split <;> simp_all

/-- A slice that holds a row of one-cell values, nil included. -/
def IsRow (w : World) (v : Value) (news : List Value) : Prop :=
  (v = .slice none 0 0 ∧ news = []) ∨ ∃ ad m c, v = .slice (some ad) m c ∧ news.length = m ∧ ∀ j u, news[j]? = some u → w.cell? (ad.add j) = some u

theorem isRow_of_owns {w : World} {base : Nat} {e : TypeId} {v : Value} {n : Nat} {xs : List Value} (h : w.ownsRow base e 1 v n xs) : IsRow w v xs := by
  have hl : xs.length = n := by simpa using h.1
  rcases h.2 with ⟨rfl, rfl⟩ | ⟨g, cap, cur, rfl, _⟩
  · exact Or.inl ⟨rfl, List.eq_nil_of_length_eq_zero hl⟩
  · exact Or.inr ⟨_, _, _, rfl, hl, h.cells (g := g) rfl⟩

/-- A row is appended to an own row: only its block may have turned. -/
theorem appL {P : Program} (S : Nat → Prop) {ops : Array Oper} {rest : List Oper} {o : Oper} {a : Act} {Q : Exit → Act → World → Prop} (hgd : o.guard = none) (s x : Operand) (t : TypeId)
    (ho : o.op = .call { callee := .builtin .append, args := #[s, x], argTypes := #[t, t] }) {w : World} {base n bytes : Nat} {e : TypeId} {z v sv : Value} {xs news : List Value} (hu : P.underlying t = some (.slice e))
    (hinfo : (P.info? e).map (fun i => (i.zero, i.size, i.bytes)) = some (some z, 1, bytes)) (hz : z.cells.size = 1) (hby : bytes ≤ 1000)
    (hown : w.ownsRow base e 1 v n xs) (hs : a.eval s = v) (hsrc : IsRow w sv news) (hx : a.eval x = sv) (h1 : ∀ u ∈ news, u.oneCell' = true) (hn : n + news.length ≤ 1000000) (hbase : base ≤ w.heap.size) (hS : ∀ k, v.ownBlock = some k → S k)
    (h : ∀ v' w', w'.ownsRow base e 1 v' (n + news.length) (xs ++ news) → Stay S w w' → wpList P ops Q rest (a.put o.dst v') w') : wpList P ops Q (o :: rest) a w := by
  obtain ⟨i, hi, hzz⟩ := Option.map_eq_some_iff.1 hinfo
  simp only [Prod.mk.injEq] at hzz
  obtain ⟨g1, g2, g3⟩ := hzz
  rcases hsrc with ⟨rfl, rfl⟩ | ⟨ad, m, c, rfl, hm, hc⟩
  · exact wpList_append_own_none hgd s x t ho base e i 1 hu hi v n xs hs hown hx (h v w (by simpa using hown) (Stay.refl _ _))
  · subst hm
    have hb : (n + news.length) * bytes ≤ 140737488355328 := Nat.le_trans (Nat.mul_le_mul hn hby) (by decide)
    exact wpList_append_own _ hgd s x t ho base e i z 1 bytes hu hi g1 g2 g3 hz (by decide) v n xs hs hown ad _ c news hx (by simp) hc h1 (by unfold maxLen; omega) hb hbase
      (fun v' w' h2 h3 _ => h v' w' h2 ((Stay.refl _ w).grown h3 fun k hk _ => hS k hk))

theorem isRow_new (w : World) (c : Array Value) (t : TypeId) : IsRow (w.alloc (.cells c t)) (.slice (some ⟨w.heap.size, 0, none⟩) c.size c.size) c.toList := by
  refine Or.inr ⟨_, _, _, rfl, by simp, fun j u hu => ?_⟩
  rw [addr_add]
  have hj : c[j]? = some u := by simpa using hu
  simp [hj]

theorem owns_new (w : World) (c : Array Value) (e : TypeId) (hm : c.size ≤ maxLen) : (w.alloc (.cells c e)).ownsRow w.heap.size e 1 (.slice (some ⟨w.heap.size, 0, none⟩) c.size c.size) c.size c.toList :=
  ⟨by simp, .inr ⟨w.heap.size, c.size, c, rfl, Nat.le_refl _, heap_alloc_new w _, Nat.le_refl _, hm, by simp, by rw [Nat.mul_one]; exact List.take_of_length_le (by simp)⟩⟩

/-- A slice of integers that can be read: it is empty, or its cells hold integers of the kind. -/
theorem open_zs {H : Type} {enc : TypeId × Value → H} {P : Program} {W : World} {v : Value} {d : DataW H} {p : List MemPlace} {t e : TypeId} {k : IntKind} (ht : P.underlying t = some (.slice e)) (he : P.underlying e = some (.int k)) (hc1 : P.cellsOf e = 1)
    (hval : ∃ a len cap, v = .slice a len cap) (h : DataW.Trod enc P W 0 (fun _ => true) true t v d p) :
    (∃ a cap, v = .slice a 0 cap) ∨ ∃ (b off cap : Nat) (l : List Int), l ≠ [] ∧ v = .slice (some ⟨b, off, none⟩) l.length cap ∧ l.length ≤ cap ∧ cap ≤ maxLen ∧ (∀ x ∈ l, (Lit.int k x).wf = true) ∧ ∀ j, j < l.length → W.cell? ⟨b, off + j, none⟩ = some (.int k (l.getD j 0)) := by
  obtain ⟨a0, l0, c0, rfl⟩ := hval
  obtain ⟨fuel, hf⟩ := h
  rcases open_ints ht he hc1 hf with ⟨h1, _⟩ | ⟨a, len, cap, zs, h1, _, h3, h4, h5, _, h7, h8⟩
  · left
    exact ⟨none, 0, by simpa [Value.cells] using h1⟩
  · have e : (Value.slice a0 l0 c0) = .slice (some a) len cap := by simpa [Value.cells] using h1
    have hz : zs.length = cap := by simpa using h5
    rcases Nat.eq_zero_or_pos len with h0 | h0
    · left
      subst h0
      exact ⟨_, _, e⟩
    · right
      obtain ⟨b, off, sp⟩ := a
      have hsp : sp = none := by simpa [Addr.add] using World.cell?_spot (h7 0 (by omega))
      subst hsp
      have hlen : (zs.take len).length = len := by rw [List.length_take]; omega
      refine ⟨b, off, cap, zs.take len, fun h => by rw [h] at hlen; simp at hlen; omega, by rw [hlen]; exact e, by omega, h4, fun x hx => h8 x (List.mem_of_mem_take hx), fun j hj => ?_⟩
      rw [hlen] at hj
      have := h7 j (by omega)
      rw [show (⟨b, off, none⟩ : Addr).add j = ⟨b, off + j, none⟩ from by unfold Addr.add; split <;> simp_all] at this
      rw [this]
      simp [List.getD_eq_getElem?_getD, hj]

/-- Integers of one kind, cell by cell. -/
def Ints (k : IntKind) (W : World) (b off : Nat) (l : List Int) : Prop := ∀ j, j < l.length → W.cell? ⟨b, off + j, none⟩ = some (.int k (l.getD j 0))

/-- An argument that is integers of one kind. -/
structure IArg (k : IntKind) (W : World) (v : Value) (l : List Int) (a : Option Addr) (cap : Nat) : Prop where
  shape : v = .slice a l.length cap
  cells : l ≠ [] → ∃ b off, a = some ⟨b, off, none⟩ ∧ b < W.heap.size ∧ Ints k W b off l
  nilCap : a = none → cap = 0
  lenLe : l.length ≤ cap
  capLe : cap ≤ maxLen
  wf : ∀ x ∈ l, (Lit.int k x).wf = true

theorem Ints.of_cell {k : IntKind} {W W' : World} {b off : Nat} {l : List Int} (h : Ints k W b off l) (hc : ∀ o, W'.cell? ⟨b, o, none⟩ = W.cell? ⟨b, o, none⟩) : Ints k W' b off l := fun j hj => (hc _).trans (h j hj)

theorem Ints.stay {k : IntKind} {S : Nat → Prop} {W W' : World} {b off : Nat} {l : List Int} (h : Ints k W b off l) (hb : b < W.heap.size) (hs : Stay S W W') (hn : ¬ S b) : Ints k W' b off l := h.of_cell fun o => hs.cell (p := ⟨b, o, none⟩) hb hn

theorem Ints.take {k : IntKind} {W : World} {b off : Nat} {l : List Int} (h : Ints k W b off l) (n : Nat) : Ints k W b off (l.take n) := fun j hj => by
  rw [List.length_take] at hj
  rw [h j (by omega), List.getD_eq_getElem?_getD, List.getD_eq_getElem?_getD, List.getElem?_take_of_lt (by omega)]

theorem IArg.stay {k : IntKind} {S : Nat → Prop} {W W' : World} {v : Value} {l : List Int} {a : Option Addr} {cap : Nat} (h : IArg k W v l a cap) (hs : Stay S W W') (hn : ∀ b off, a = some ⟨b, off, none⟩ → ¬ S b) : IArg k W' v l a cap :=
  ⟨h.shape, fun hne => by obtain ⟨b, off, h1, h2, h3⟩ := h.cells hne; exact ⟨b, off, h1, Nat.lt_of_lt_of_le h2 hs.size, h3.stay h2 hs (hn b off h1)⟩, h.nilCap, h.lenLe, h.capLe, h.wf⟩

theorem IArg.stay0 {k : IntKind} {W W' : World} {v : Value} {l : List Int} {a : Option Addr} {cap : Nat} (h : IArg k W v l a cap) (hs : Stay (fun _ => False) W W') : IArg k W' v l a cap := h.stay hs (fun _ _ _ h => h)

theorem IArg.take {k : IntKind} {W : World} {v : Value} {l : List Int} {a : Option Addr} {cap : Nat} (h : IArg k W v l a cap) (n : Nat) (hn : n ≤ l.length) : IArg k W (.slice a n cap) (l.take n) a cap := by
  have hl : (l.take n).length = n := by rw [List.length_take]; omega
  refine ⟨by rw [hl], fun hne => ?_, h.nilCap, by have := h.lenLe; omega, h.capLe, fun x hx => h.wf x (List.mem_of_mem_take hx)⟩
  have : l ≠ [] := by rintro rfl; simp at hne
  obtain ⟨b, off, h1, h2, h3⟩ := h.cells this
  exact ⟨b, off, h1, h2, h3.take n⟩

theorem IArg.row {k : IntKind} {W : World} {v : Value} {l : List Int} {a : Option Addr} {cap : Nat} (h : IArg k W v l a cap) : IsRow W v (l.map (.int k ·)) := by
  obtain ⟨h1, h2, h3, h4, _⟩ := h
  subst h1
  by_cases hne : l = []
  · subst hne
    cases a with
    | none => left; exact ⟨by rw [h3 rfl]; rfl, rfl⟩
    | some ad => right; exact ⟨ad, 0, cap, rfl, rfl, fun j u hu => by simp at hu⟩
  · obtain ⟨b, off, rfl, _, hB⟩ := h2 hne
    right
    refine ⟨_, _, _, rfl, by simp, fun j u hu => ?_⟩
    rw [List.getElem?_map, Option.map_eq_some_iff] at hu
    obtain ⟨z, hz, rfl⟩ := hu
    have hj := (List.getElem?_eq_some_iff.1 hz).1
    rw [addr_add, hB j hj, List.getD_eq_getElem?_getD, hz]
    rfl

/-- Integers, opened. -/
theorem open_arg {H : Type} {enc : TypeId × Value → H} {P : Program} {W : World} {v : Value} {d : DataW H} {p : List MemPlace} {t e : TypeId} {k : IntKind} (ht : P.underlying t = some (.slice e)) (he : P.underlying e = some (.int k)) (hc1 : P.cellsOf e = 1)
    (hval : ∃ a len cap, v = .slice a len cap) (h : DataW.Trod enc P W 0 (fun _ => true) true t v d p) : ∃ l a cap, IArg k W v l a cap := by
  rcases open_zs ht he hc1 hval h with ⟨a, cap, rfl⟩ | ⟨b, off, cap, l, hne, rfl, hc, hm, hwf, hB⟩
  · obtain ⟨fuel, hf⟩ := h
    rcases open_ints ht he hc1 hf with ⟨h1, _⟩ | ⟨a', len, cap', zs, h1, _, h3, h4, _⟩
    · have e : (Value.slice a 0 cap) = .slice none 0 0 := by simpa [Value.cells] using h1
      refine ⟨[], a, cap, rfl, fun h => absurd rfl h, fun _ => ?_, by simp, ?_, fun x hx => by simp at hx⟩
      · cases e; rfl
      · cases e; simp
    · have e : (Value.slice a 0 cap) = .slice (some a') len cap' := by simpa [Value.cells] using h1
      refine ⟨[], a, cap, rfl, fun h => absurd rfl h, fun h => ?_, by simp, ?_, fun x hx => by simp at hx⟩
      · cases e; cases h
      · cases e; exact h4
  · have hb : b < W.heap.size := World.block_lt_of_cell? _ _ (hB 0 (List.length_pos_iff.2 hne))
    exact ⟨l, _, cap, rfl, fun _ => ⟨b, off, rfl, hb, hB⟩, (fun h => by cases h), hc, hm, hwf⟩

/-- An own row of integers is an argument. -/
theorem owned_arg {k : IntKind} {w : World} {base : Nat} {e : TypeId} {v : Value} {l : List Int} (h : w.ownsRow base e 1 v l.length (l.map (.int k ·))) (hw : ∀ x ∈ l, (Lit.int k x).wf = true) : ∃ a cap, IArg k w v l a cap ∧ ∀ b off, a = some ⟨b, off, none⟩ → base ≤ b := by
  have hlt := h.lt
  rcases h.2 with ⟨rfl, h0⟩ | ⟨g, cap, cur, rfl, hbg, hg, hnc, hcm, _⟩
  · have : l = [] := List.eq_nil_of_length_eq_zero h0
    subst this
    exact ⟨none, 0, ⟨rfl, fun h => absurd rfl h, fun _ => rfl, Nat.le_refl _, by unfold maxLen; omega, fun x hx => by simp at hx⟩, fun b off hb => by cases hb⟩
  · refine ⟨_, cap, ⟨rfl, fun _ => ⟨g, 0, rfl, (hlt g rfl).2, fun j hj => ?_⟩, (fun h => by cases h), hnc, hcm, hw⟩, fun b off hb => by cases hb; exact hbg⟩
    have := h.cells (g := g) rfl j (.int k (l.getD j 0)) (by rw [List.getElem?_map, List.getElem?_eq_getElem hj, List.getD_eq_getElem?_getD, List.getElem?_eq_getElem hj]; rfl)
    rwa [addr_add] at this

theorem one_ints (k : IntKind) (l : List Int) : ∀ u ∈ l.map (Value.int k ·), u.oneCell' = true := by
  intro u hu
  obtain ⟨z, _, rfl⟩ := List.mem_map.1 hu
  rfl

theorem wf_i32 {x : Int} (h : (Lit.int .i32 x).wf = true) : -2147483648 ≤ x ∧ x ≤ 2147483647 := by
  have z1 : IntKind.i32.min = -2147483648 := by decide
  have z2 : IntKind.i32.max = 2147483647 := by decide
  simp only [Lit.wf, decide_eq_true_eq, Bool.and_eq_true] at h
  omega

theorem wf_i64 {x : Int} (h : (Lit.int .i64 x).wf = true) : -9223372036854775808 ≤ x ∧ x ≤ 9223372036854775807 := by
  have z1 : IntKind.i64.min = -9223372036854775808 := by decide
  have z2 : IntKind.i64.max = 9223372036854775807 := by decide
  simp only [Lit.wf, decide_eq_true_eq, Bool.and_eq_true] at h
  omega

theorem wf_u8 {x : Int} (h : (Lit.int .u8 x).wf = true) : 0 ≤ x ∧ x < 256 := by
  have z1 : IntKind.u8.min = 0 := by decide
  have z2 : IntKind.u8.max = 255 := by decide
  simp only [Lit.wf, decide_eq_true_eq, Bool.and_eq_true] at h
  omega

/-- Of a law: true, and nothing that was there has turned. -/
def LawTrue (w : World) (e : Ending) (w' : World) : Prop := e = .returned (.bool true) ∧ Stay (fun _ => False) w w'

theorem LawTrue.below {w w' : World} {e : Ending} (h : LawTrue w e w') : Below w.heap.size w w' := h.2.below (Nat.le_refl _) (fun _ _ h => h)

/-- A value, and nothing that was there has turned. -/
def Gives (v : Value) (w : World) (e : Ending) (w' : World) : Prop := e = .returned v ∧ Stay (fun _ => False) w w'

/-- All arguments read as they did. -/
theorem all_stay {H : Type} {enc : TypeId × Value → H} {P : Program} (hl : laidOutB P = true) {W W' : World} (hb : Below W.heap.size W W') : ∀ (ts : List TypeId) (vs : List Value) (ds : List (DataW H)) (ps : List MemPlace),
    (∀ t ∈ ts, P.readableRec t = true ∧ t < P.types.size) → (∀ x ∈ ps, x.block < W.heap.size) → DataW.TrodAll enc P W 0 (fun _ => true) true ts vs ds ps → DataW.TrodAll enc P W' 0 (fun b => decide (b < W.heap.size)) true ts vs ds ps
  | [], [], [], _, _, _, h => h
  | t :: ts, v :: vs, d :: ds, ps, hr, hp, h => by
    obtain ⟨p, q, h1, h2, rfl⟩ := h
    exact ⟨p, q, Below.trod hl (hr t (by simp)).1 (hr t (by simp)).2 h1 hb (fun x hx => hp x (by simp [hx])), all_stay hl hb ts vs ds q (fun t ht => hr t (by simp [ht])) (fun x hx => hp x (by simp [hx])) h2, rfl⟩
  | [], _ :: _, _, _, _, _, h => by cases h
  | [], [], _ :: _, _, _, _, h => by cases h
  | _ :: _, [], _, _, _, _, h => by cases h
  | _ :: _, _ :: _, [], _, _, _, h => by cases h

/-- ALL THAT A LAW's STATEMENT ASKS BEHIND THE WALK. -/
theorem law_post {H : Type} {enc : TypeId × Value → H} {P : Program} {f : Func} {s : ChangeSpec} {apart fresh handsOn : Bool} {W W' : World} {args : Array Value} {ds gs : List (DataW H)} {before : List MemPlace} {tb : TypeId}
    (hl : laidOutB P = true) (hr : ∀ t ∈ f.params.toList, P.readableRec t = true ∧ t < P.types.size) (hbt : f.resultTypes = #[tb]) (hu : P.underlying tb = some .bool) (hv : s.vars = [])
    (hW : DataW.Whole enc P f.params.toList s.vars apart W args.toList ds gs before) (hfn : gs = [] → s.fn H ds = { results := [.lit (.bool true)], args := ds }) (hb : Below W.heap.size W W') : s.post enc P f apart fresh handsOn false W args (.bool true) W' := by
  have hold : ∀ p ∈ before, p.block < W.heap.size := fun p hp => hW.lt p hp
  have hW0 := hW
  obtain ⟨p, q, hA, hV, rfl, _, _⟩ := hW
  rw [hv] at hV
  have hg : gs = [] ∧ q = [] := by
    cases gs with
    | nil => exact ⟨rfl, hV⟩
    | cons _ _ => cases hV
  obtain ⟨rfl, rfl⟩ := hg
  have e := hfn rfl
  refine ⟨ds, [], p ++ [], [], p, [], hW0, ?_, ?_, ?_, World.keptBut_mono (fun x hx => ⟨hx, ?_⟩) (hb.frame (· ∈ p ++ [])), fun h => absurd h (by simp)⟩
  · rw [List.append_nil, e, hbt]
    exact trodAll_mk1 (shut_bool hu _)
  · rw [List.append_nil, e]
    exact all_stay hl hb _ _ _ _ hr (fun x hx => hold x (by simpa using hx)) hA
  · rw [List.append_nil, e, hv]
    rfl
  · simpa using hx

end Go.Proofs.Ytefpifnfinkbaaa

namespace Go.Proofs.Ytefpifnfinkbaaa
open Go.RowKit

section
variable {P : Program} {ops : Array Oper} {Q : Exit → Act → World → Prop} {md : Region.Mode} {S : World → Prop}

/-- The walk of a region by a plan: number and whether it only looks. -/
def wpMix (P : Program) (ops : Array Oper) (S : World → Prop) (Q : Exit → Act → World → Prop) : List (Nat × Bool) → Act → World → Prop
  | [], a, w => Q .normal a w
  | (i, true) :: r, a, w => ∃ o v, ops[i]? = some o ∧ YieldsIf P ops S o v a ∧ wpMix P ops S Q r (a.put o.dst v) w
  | (i, false) :: r, a, w => wpOp P ops Q i (fun a' w' => S w' ∧ wpMix P ops S Q r a' w') a w

/-- Is the plan one that serves every order? -/
def mixB (md : Region.Mode) (ops : Array Oper) : List (Nat × Bool) → Array Bool → Bool
  | [], listed => (Region.ready md ops listed).isEmpty
  | (i, true) :: r, listed => (Region.ready md ops listed).contains i && Region.free md ops listed i && mixB md ops r (listed.setIfInBounds i true)
  | (i, false) :: r, listed => (Region.ready md ops listed == [i]) && mixB md ops r (listed.setIfInBounds i true)

theorem anyH_of_mix (hs : Region.noSelect ops = true) (hQ : ∀ (c : _) (d : Option Tmp) (v : Value) (a : Act) (w : World), Q (.panic c) (a.put d v) w → Q (.panic c) a w) :
    ∀ (σ : List (Nat × Bool)) (listed : Array Bool) (a : Act) (w : World), mixB md ops σ listed = true → S w → wpMix P ops S Q σ a w → wpAnyH P md ops Q S σ.length listed a w
  | [], listed, a, w, hB, _, h => ⟨by simpa [mixB] using hB, h⟩
  | (i, true) :: r, listed, a, w, hB, hS, h => by
    simp only [mixB, Bool.and_eq_true] at hB
    obtain ⟨⟨h1, h2⟩, h3⟩ := hB
    obtain ⟨o, v, hi, hy, hr⟩ := h
    exact wpAnyH_take hi hs h2 h1 (fun c a w => hQ c o.dst v a w) hy hS (anyH_of_mix hs hQ r _ _ _ h3 hS hr)
  | (i, false) :: r, listed, a, w, hB, hS, h => by
    simp only [mixB, Bool.and_eq_true, beq_iff_eq] at hB
    obtain ⟨h1, h3⟩ := hB
    refine wpAnyH_all h1 (by simp) (fun j hj => ?_)
    obtain rfl : j = i := by simpa using hj
    exact wpOp_mono (fun a' w' h' => ⟨h'.1, anyH_of_mix hs hQ r _ a' w' h3 h'.1 h'.2⟩) h

theorem wp_region_mix {id : Nat} {a : Act} {w : World} (S : World → Prop) (σ : List (Nat × Bool)) (hm : P.follows .mixedOrders = true)
    (hB : (Region.noSelect ops && (σ.length == ops.size) && mixB .any ops σ (Array.replicate ops.size false)) = true)
    (hQ : ∀ (c : _) (d : Option Tmp) (v : Value) (a : Act) (w : World), Q (.panic c) (a.put d v) w → Q (.panic c) a w)
    (hS : S w.drew) (h : wpMix P ops S Q σ a w.drew) : (Code.region id ops true).wp P Q a w := by
  simp only [Bool.and_eq_true, beq_iff_eq] at hB
  obtain ⟨⟨h1, h2⟩, h3⟩ := hB
  refine wp_region_held (S := S) hm ?_
  rw [← h2]
  exact anyH_of_mix h1 hQ σ _ a _ (by rw [h2]; exact h3) hS h

theorem mix_nil {a : Act} {w : World} (h : Q .normal a w) : wpMix P ops S Q [] a w := h

/-- Begin: what follows stands behind a letter. -/
theorem mix_begin {σ : List (Nat × Bool)} {a : Act} {w : World} (h : ∀ K : Act → World → Prop, (∀ a w, wpMix P ops S Q σ a w → K a w) → K a w) : wpMix P ops S Q σ a w := h _ (fun _ _ h => h)

/-- An operation whose guard is not met. -/
theorem mix_skip {i : Nat} {b : Bool} {σ : List (Nat × Bool)} {K : Act → World → Prop} {a : Act} {w : World} (hK : ∀ a w, wpMix P ops S Q ((i, b) :: σ) a w → K a w) (d : Option Tmp) (hd : (ops[i]?).map (·.dst) = some d)
    (hg : (ops[i]?).map (fun o => Region.wanted o (yielded ops a.tmps)) = some false) (hS : S w) (h : ∀ K2 : Act → World → Prop, (∀ a w, wpMix P ops S Q σ a w → K2 a w) → K2 (a.put d undef) w) : K a w := by
  obtain ⟨o, hi, rfl⟩ := Option.map_eq_some_iff.1 hd
  rw [hi] at hg
  have hg' : Region.wanted o (yielded ops a.tmps) = false := by simpa using hg
  refine hK a w ?_
  cases b with
  | true => exact ⟨o, undef, hi, .inr ⟨hg', rfl⟩, h _ fun _ _ h => h⟩
  | false =>
    show wpOp P ops Q i _ a w
    unfold wpOp
    simp only [hi, hg', Bool.false_eq_true, if_false]
    exact ⟨hS, h _ fun _ _ h => h⟩

/-- An operation by what counts in a run. -/
def opr (d : Option Tmp) (x : Op) (ty : TypeId) : Oper := { dst := d, op := x, type := ty, pos := "", after := #[], guard := none }

theorem execOp_opr (ρ : Operand → Value) (o : Oper) : execOp ρ o = execOp ρ (opr o.dst o.op o.type) := by
  obtain ⟨d, x, ty, ps, af, g⟩ := o
  rfl

theorem opr_of {i : Nat} {d : Option Tmp} {x : Op} {ty : TypeId} (hi : (ops[i]?).map (fun o => (o.dst, o.op, o.type)) = some (d, x, ty)) {ρ : Array Value} {b : Bool} (hg : (ops[i]?).map (fun o => Region.wanted o (yielded ops ρ)) = some b) :
    ∃ o, ops[i]? = some o ∧ o.dst = d ∧ (∀ ρ, execOp ρ o = execOp ρ (opr d x ty)) ∧ Region.wanted o (yielded ops ρ) = b := by
  obtain ⟨o, ho, h⟩ := Option.map_eq_some_iff.1 hi
  obtain ⟨o', ho', h'⟩ := Option.map_eq_some_iff.1 hg
  obtain rfl : o' = o := Option.some.inj (ho'.symm.trans ho)
  simp only [Prod.mk.injEq] at h
  obtain ⟨rfl, rfl, rfl⟩ := h
  exact ⟨o', ho, rfl, fun ρ => execOp_opr ρ o', h'⟩

/-- An operation that only looks. -/
theorem mix_take {i : Nat} {σ : List (Nat × Bool)} {K : Act → World → Prop} {a : Act} {w : World} (hK : ∀ a w, wpMix P ops S Q ((i, true) :: σ) a w → K a w) (d : Option Tmp) (x : Op) (ty : TypeId) (v : Value)
    (hi : (ops[i]?).map (fun o => (o.dst, o.op, o.type)) = some (d, x, ty))
    (hg : (ops[i]?).map (fun o => Region.wanted o (yielded ops a.tmps)) = some true) (hv : ∀ w, S w → (execOp a.eval (opr d x ty)).run P w = .ok (.value v) w)
    (h : ∀ K2 : Act → World → Prop, (∀ a w, wpMix P ops S Q σ a w → K2 a w) → K2 (a.put d v) w) : K a w := by
  obtain ⟨o, h1, rfl, h3, h4⟩ := opr_of hi hg
  exact hK a w ⟨o, v, h1, .inl ⟨h4, fun w hw => by rw [h3]; exact hv w hw⟩, h _ fun _ _ h => h⟩

/-- A function with a body is entered. -/
theorem enters {P : Program} {f : FuncId} {fn : Func} (hf : P.funcs[f]? = some fn) (hn : (fn.name == "runtime.NumGoroutine") = false) (hb : fn.body.isNone = false) (args : Array Value) (w : World) : (callFunc f args).run P w = .ok (.enter f args) w := by
  have h1 : fn.name ≠ "runtime.NumGoroutine" := by simpa using hn
  have h2 : ¬ fn.body = none := by intro h; simp [h] at hb
  simp [callFunc, hf, h1, h2]

/-- A call of a Go function. -/
theorem mix_call {i : Nat} {σ : List (Nat × Bool)} {K : Act → World → Prop} {a : Act} {w : World} (hK : ∀ a w, wpMix P ops S Q ((i, false) :: σ) a w → K a w) (d : Option Tmp) (f : FuncId) (xs : Array Operand) (tys : Array TypeId) (ty : TypeId) (args : Array Value)
    (hi : (ops[i]?).map (fun o => (o.dst, o.op, o.type)) = some (d, .call { callee := .value (.func f), args := xs, argTypes := tys }, ty))
    (hg : (ops[i]?).map (fun o => Region.wanted o (yielded ops a.tmps)) = some true) (hf : ∀ args w, (callFunc f args).run P w = .ok (.enter f args) w) (ha : xs.map a.eval = args)
    (h : ∀ K2 : Act → World → Prop, (∀ a w, wpMix P ops S Q σ a w → K2 a w) → Calls P f args w fun e w' => ∃ v, e = .returned v ∧ S w' ∧ K2 (a.put d v) w') : K a w := by
  obtain ⟨o, h1, rfl, h3, h4⟩ := opr_of hi hg
  refine hK a w ?_
  show wpOp P ops Q i _ a w
  unfold wpOp
  simp only [h1, h4, if_true]
  refine .inl ?_
  unfold Oper.wp
  have he : (execOp a.eval o).run P w = .ok (.enter f args) w := by
    rw [h3]
    simp [execOp, opr, resolve, invoke, Act.eval, hf, ha, go_sem]
  rw [he]
  refine (h _ fun _ _ h => h).mono ?_
  rintro e w' ⟨v, rfl, h1, h2⟩
  exact ⟨h1, h2⟩

/-- Begin, where several may come up. -/
theorem any_begin {id : Nat} {a : Act} {w : World} (S : World → Prop) (hm : P.follows .mixedOrders = true)
    (h : ∀ K : Act → World → Prop, (∀ a w, wpAnyH P .any ops Q S ops.size (Array.replicate ops.size false) a w → K a w) → K a w.drew) : (Code.region id ops true).wp P Q a w :=
  wp_region_held (S := S) hm (h _ fun _ _ h => h)

theorem any_take {i fuel : Nat} {listed : Array Bool} {K : Act → World → Prop} {a : Act} {w : World} (hK : ∀ a w, wpAnyH P md ops Q S (fuel + 1) listed a w → K a w) (d : Option Tmp) (x : Op) (ty : TypeId) (v : Value)
    (hs : (Region.noSelect ops && Region.free md ops listed i && (Region.ready md ops listed).contains i) = true) (hQ : ∀ (c : _) (d : Option Tmp) (v : Value) (a : Act) (w : World), Q (.panic c) (a.put d v) w → Q (.panic c) a w)
    (hi : (ops[i]?).map (fun o => (o.dst, o.op, o.type)) = some (d, x, ty)) (hg : (ops[i]?).map (fun o => Region.wanted o (yielded ops a.tmps)) = some true)
    (hv : ∀ w, S w → (execOp a.eval (opr d x ty)).run P w = .ok (.value v) w) (hS : S w)
    (h : ∀ K2 : Act → World → Prop, (∀ a w, wpAnyH P md ops Q S fuel (listed.setIfInBounds i true) a w → K2 a w) → K2 (a.put d v) w) : K a w := by
  obtain ⟨o, h1, rfl, h3, h4⟩ := opr_of hi hg
  simp only [Bool.and_eq_true] at hs
  exact hK a w (wpAnyH_take h1 hs.1.1 hs.1.2 hs.2 (fun c a w => hQ c o.dst v a w) (.inl ⟨h4, fun w hw => by rw [h3]; exact hv w hw⟩) hS (h _ fun _ _ h => h))

/-- Of several operations each may come up. -/
theorem any_pick {rs : List Nat} {fuel : Nat} {listed : Array Bool} {K : Act → World → Prop} {a : Act} {w : World} (hK : ∀ a w, wpAnyH P md ops Q S (fuel + 1) listed a w → K a w) (hr : (Region.ready md ops listed == rs && !rs.isEmpty) = true)
    (h : ∀ K2 : Nat → Act → World → Prop, (∀ i ∈ rs, ∀ a w, S w → wpAnyH P md ops Q S fuel (listed.setIfInBounds i true) a w → K2 i a w) → ∀ i ∈ rs, wpOp P ops Q i (K2 i) a w) : K a w := by
  simp only [Bool.and_eq_true, beq_iff_eq] at hr
  exact hK a w (wpAnyH_all hr.1 (by rintro rfl; simp at hr) fun i hi => h (fun i a' w' => S w' ∧ wpAnyH P md ops Q S fuel (listed.setIfInBounds i true) a' w') (fun _ _ _ _ h1 h2 => ⟨h1, h2⟩) i hi)

theorem any_done {fuel : Nat} {listed : Array Bool} {K : Act → World → Prop} {a : Act} {w : World} (hK : ∀ a w, wpAnyH P md ops Q S fuel listed a w → K a w) (hr : (Region.ready md ops listed).isEmpty = true) (h : Q .normal a w) : K a w :=
  hK a w (wpAnyH_done (by simpa using hr) h _)

/-- Any operation that comes in its one order. -/
theorem mix_chain {i : Nat} {σ : List (Nat × Bool)} {K : Act → World → Prop} {a : Act} {w : World} (hK : ∀ a w, wpMix P ops S Q ((i, false) :: σ) a w → K a w)
    (h : ∀ K2 : Act → World → Prop, (∀ a w, S w → wpMix P ops S Q σ a w → K2 a w) → wpOp P ops Q i K2 a w) : K a w :=
  hK a w (h (fun a' w' => S w' ∧ wpMix P ops S Q σ a' w') (fun _ _ h1 h2 => ⟨h1, h2⟩))

/-- What follows, behind a letter. -/
theorem any_more {fuel : Nat} {listed : Array Bool} {a : Act} {w : World} (h : ∀ K : Act → World → Prop, (∀ a w, wpAnyH P md ops Q S fuel listed a w → K a w) → K a w) : wpAnyH P md ops Q S fuel listed a w := h _ fun _ _ h => h

/-- An operation as a piece of a plain walk. -/
theorem op_plain {i : Nat} {K : Act → World → Prop} {a : Act} {w : World} (d : Option Tmp) (x : Op) (ty : TypeId) (hi : (ops[i]?).map (fun o => (o.dst, o.op, o.type)) = some (d, x, ty))
    (hg : (ops[i]?).map (fun o => Region.wanted o (yielded ops a.tmps)) = some true) (h : wpList P #[] (Exit.then K Q) [{ dst := d, op := x, type := ty, pos := "", after := #[], guard := none }] a w) : wpOp P ops Q i K a w := by
  obtain ⟨o, h1, h2, h3, h4⟩ := opr_of hi hg
  unfold wpOp
  simp only [h1, h4, if_true]
  unfold wpList at h
  rw [if_pos (by simp [Region.wanted])] at h
  have he : ∀ ρ, execOp ρ o = execOp ρ { dst := d, op := x, type := ty, pos := "", after := #[], guard := none } := h3
  rcases h with h | ⟨h5, h6⟩
  · left
    unfold Oper.wp at *
    rw [he]
    revert h
    generalize (execOp a.eval { dst := d, op := x, type := ty, pos := "", after := #[], guard := none }).run P w = r
    intro h
    subst h2
    cases r with
    | ok n w' =>
      cases n <;> first | exact h | skip
    | halt s w' => cases s <;> exact h
  · right
    refine ⟨?_, h6⟩
    unfold Oper.asks at *
    rw [he]
    exact h5

/-- A slice that holds a row of elements of several cells each, nil included. -/
def IsRowS (w : World) (size : Nat) (v : Value) (m : Nat) (news : List Value) : Prop :=
  (v = .slice none 0 0 ∧ m = 0 ∧ news = []) ∨ ∃ ad c, v = .slice (some ad) m c ∧ news.length = m * size ∧ ∀ j u, news[j]? = some u → w.cell? (ad.add j) = some u

theorem owns_newS (w : World) (c : Array Value) (e : TypeId) (size n : Nat) (hc : c.size = n * size) (hm : n ≤ maxLen) : (w.alloc (.cells c e)).ownsRow w.heap.size e size (.slice (some ⟨w.heap.size, 0, none⟩) n n) n c.toList :=
  ⟨by simpa using hc, .inr ⟨w.heap.size, n, c, rfl, Nat.le_refl _, heap_alloc_new w _, Nat.le_refl _, hm, hc, List.take_of_length_le (by simp [hc])⟩⟩

theorem isRowS_new (w : World) (c : Array Value) (t : TypeId) (size n : Nat) (hc : c.size = n * size) : IsRowS (w.alloc (.cells c t)) size (.slice (some ⟨w.heap.size, 0, none⟩) n n) n c.toList := by
  refine Or.inr ⟨_, _, rfl, by simpa using hc, fun j u hu => ?_⟩
  rw [addr_add]
  have hj : c[j]? = some u := by simpa using hu
  simp [hj]

theorem IsRowS.stay {S : Nat → Prop} {w w' : World} {size : Nat} {v : Value} {m : Nat} {news : List Value} (h : IsRowS w size v m news) (hs : Stay S w w') (hn : ∀ k, v.ownBlock = some k → ¬ S k) : IsRowS w' size v m news := by
  rcases h with h | ⟨ad, c, rfl, hm, hc⟩
  · exact .inl h
  · exact .inr ⟨ad, c, rfl, hm, fun j u hu => (hs.cell (p := ad.add j) (World.block_lt_of_cell? _ _ (hc j u hu)) (by rw [show (ad.add j).block = ad.block by unfold Addr.add; split <;> rfl]; exact hn ad.block rfl)).trans (hc j u hu)⟩

/-- A row is appended to an own row, whatever the elements' size: only its block may have turned; where the new row lies. -/
theorem appS {P : Program} {ops : Array Oper} {rest : List Oper} {o : Oper} {a : Act} {Q : Exit → Act → World → Prop} (hgd : o.guard = none) (s x : Operand) (t : TypeId)
    (ho : o.op = .call { callee := .builtin .append, args := #[s, x], argTypes := #[t, t] }) {w : World} {base n m size bytes : Nat} {e : TypeId} {z v sv : Value} {xs news : List Value} (hu : P.underlying t = some (.slice e))
    (hinfo : (P.info? e).map (fun i => (i.zero, i.size, i.bytes)) = some (some z, size, bytes)) (hz : z.cells.size = size) (hs0 : 0 < size) (hby : bytes ≤ 1000)
    (hown : w.ownsRow base e size v n xs) (hs : a.eval s = v) (hsrc : IsRowS w size sv m news) (hx : a.eval x = sv) (h1 : ∀ u ∈ news, u.oneCell' = true) (hn : n + m ≤ 1000000) (hbase : base ≤ w.heap.size)
    (h : ∀ v' w', w'.ownsRow base e size v' (n + m) (xs ++ news) → Stay (fun k => v.ownBlock = some k) w w' → (v'.ownBlock = v.ownBlock ∨ v'.ownBlock = some w.heap.size) → wpList P ops Q rest (a.put o.dst v') w') : wpList P ops Q (o :: rest) a w := by
  obtain ⟨i, hi, hzz⟩ := Option.map_eq_some_iff.1 hinfo
  simp only [Prod.mk.injEq] at hzz
  obtain ⟨g1, g2, g3⟩ := hzz
  rcases hsrc with ⟨rfl, rfl, rfl⟩ | ⟨ad, c, rfl, hm, hc⟩
  · exact wpList_append_own_none hgd s x t ho base e i size hu hi v n xs hs hown hx (h v w (by simpa using hown) (Stay.refl _ _) (.inl rfl))
  · have hb : (n + m) * bytes ≤ 140737488355328 := Nat.le_trans (Nat.mul_le_mul hn hby) (by decide)
    exact wpList_append_own_at _ hgd s x t ho base e i z size bytes hu hi g1 g2 g3 hz hs0 v n xs hs hown ad _ c news hx hm hc h1 (by unfold maxLen; omega) hb hbase
      (fun v' w' h2 h3 _ h5 => h v' w' h2 ((Stay.refl _ w).grown h3 fun k hk _ => hk) h5)

end

/-- What a slot is given, short. -/
theorem lA {α : Type} (l : List α) (i : Nat) (a : α) : l.toArray.setIfInBounds i a = (l.set i a).toArray := List.setIfInBounds_toArray ..

theorem lZ {α : Type} (a b : α) (l : List α) : (a :: l).set 0 b = b :: l := rfl

theorem lS {α : Type} (a b : α) (l : List α) (n : Nat) : (a :: l).set (n + 1) b = a :: l.set n b := rfl

end Go.Proofs.Ytefpifnfinkbaaa

namespace Go.Proofs.Ytefpifnfinkbaaa
open Go.RowKit

/-- A number of 64 bits. -/
def W64 (x : Int) : Prop := -9223372036854775808 ≤ x ∧ x ≤ 9223372036854775807

theorem bits_w64 (op : BinOp) (x y : Int) : W64 (bits op .i64 x y) := by
  unfold bits W64
  simp only [IntKind.wrap_i64]
  omega

theorem or_zero {x : Int} (h : W64 x) : bits .or .i64 x 0 = x := by
  have e : BitVec.ofInt 64 x ||| BitVec.ofInt 64 0 = BitVec.ofInt 64 x := by
    rw [show BitVec.ofInt 64 0 = 0#64 by decide]; simp
  show IntKind.i64.wrap ((BitVec.ofInt 64 x ||| BitVec.ofInt 64 0).toNat : Nat) = x
  rw [e, BitVec.toNat_ofInt, IntKind.wrap_i64]
  unfold W64 at h
  omega

theorem keep_cell {W w1 : World} {p : Addr} {v : Value} (hs : Stay (fun _ => False) W w1) (h : W.cell? p = some v) : w1.cell? p = some v := by
  rw [← h]; exact hs.cell (World.block_lt_of_cell? _ _ h) (fun h => h)

theorem keep_frozen {W w1 : World} {p : Addr} {v : Value} {b : Bool} (hs : Stay (fun _ => False) W w1) (h : W.cell? p = some v) (hf : W.frozen? p = b) : w1.frozen? p = b := by
  rw [← hf]; exact hs.frozen (World.block_lt_of_cell? _ _ h) (fun h => h)

theorem ret_bool {a b : Bool} (h : a = b) : Ending.returned (.bool a) = .returned (.bool b) := by rw [h]

theorem ret_int {a b : Int} (h : a = b) : Ending.returned (.int .i64 a) = .returned (.int .i64 b) := by rw [h]

/-- What a variable of a struct (or an array) of one-cell parts reads as. -/
theorem run_loadVar_cells {P : Program} (w : World) (g off : Nat) (ty : TypeId) (cs : List Value) (d : TypeDesc) (hc : ∀ j v, cs[j]? = some v → w.cell? ⟨g, off + j, none⟩ = some v)
    (hu : P.underlying ty = some d) (hd : (match d with | .struct _ | .array _ _ => true | _ => false) = true) (hi : (P.info? ty).map (·.size) = some cs.length) :
    (loadVar ty ⟨g, off, none⟩).run P w = .ok (.agg cs.toArray) w := by
  have hl : (loadCells ⟨g, off, none⟩ cs.length).run P w = .ok cs.toArray w :=
    run_loadCells_list (P := P) w ⟨g, off, none⟩ cs (fun j v hv => by
      have hadd : (⟨g, off, none⟩ : Addr).add j = ⟨g, off + j, none⟩ := by unfold Addr.add; split <;> simp_all
      rw [hadd]
      exact hc j v hv)
  cases hq : P.info? ty with
  | none => simp [hq] at hi
  | some i =>
    have hs : i.size = cs.length := by simpa [hq] using hi
    have hagg : (isAgg ty).run P w = .ok true w := by
      unfold isAgg
      rw [Sem.run_bind, run_underlying hu w]
      cases d <;> simp_all
    simp [loadVar, Sem.run_bind, hagg, sizeOf, typeInfo, hq, hs, hl]

/-- A result that lies in memory. -/
theorem results_cells {P : Program} {fn : Func} {p : Tmp} {ty : TypeId} (h : fn.results = #[.cell p ty]) (tmps : Array Value) (w : World) (g off : Nat) (cs : List Value) (d : TypeDesc)
    (hp : tmps.getD p undef = .pointer (some ⟨g, off, none⟩)) (hc : ∀ j v, cs[j]? = some v → w.cell? ⟨g, off + j, none⟩ = some v)
    (hu : P.underlying ty = some d) (hd : (match d with | .struct _ | .array _ _ => true | _ => false) = true) (hi : (P.info? ty).map (·.size) = some cs.length) :
    (results fn tmps).run P w = .ok (.agg cs.toArray) w := by
  have hp' : tmps[p]?.getD undef = .pointer (some ⟨g, off, none⟩) := by simpa using hp
  simp [results, h, hp', asAddr, run_loadVar_cells w g off ty cs d hc hu hd hi]

theorem and_255 (n : Int) : bits .and .i64 n 255 = n % 256 := by
  have h : (BitVec.ofInt 64 255).toNat = 2 ^ 8 - 1 := by decide
  have key : (BitVec.ofInt 64 n &&& BitVec.ofInt 64 255).toNat = (n % ((2 ^ 64 : Nat) : Int)).toNat % 2 ^ 8 := by
    rw [BitVec.toNat_and, BitVec.toNat_ofInt, h, Nat.and_two_pow_sub_one_eq_mod]
  show IntKind.i64.wrap ((BitVec.ofInt 64 n &&& BitVec.ofInt 64 255).toNat : Nat) = n % 256
  rw [key, IntKind.wrap_i64]
  omega

theorem ret_three {a b c x y z : Int} (h1 : a = x) (h2 : b = y) (h3 : c = z) : Ending.returned (.tuple #[.int .i64 a, .int .i64 b, .int .i64 c]) = .returned (.tuple #[.int .i64 x, .int .i64 y, .int .i64 z]) := by rw [h1, h2, h3]

theorem results_tmp4 {fn : Func} {t u v x : Tmp} (h : fn.results = #[.tmp t, .tmp u, .tmp v, .tmp x]) (tmps : Array Value) (P : Program) (w : World) :
    (results fn tmps).run P w = .ok (.tuple #[tmps.getD t undef, tmps.getD u undef, tmps.getD v undef, tmps.getD x undef]) w := by
  simp [results, h]

theorem or_add (k : Nat) (x y : Int) (hx : x % 2 ^ k = 0) (h0 : 0 ≤ x) (h1 : x < 4611686018427387904) (hy : 0 ≤ y) (hk : y < 2 ^ k) (h2 : y < 4611686018427387904) : bits .or .i64 x y = x + y := by
  obtain ⟨a, rfl⟩ := Int.eq_ofNat_of_zero_le h0
  obtain ⟨b, rfl⟩ := Int.eq_ofNat_of_zero_le hy
  have e1 : (BitVec.ofInt 64 ((a : Nat) : Int)).toNat = a := by rw [BitVec.toNat_ofInt]; omega
  have e2 : (BitVec.ofInt 64 ((b : Nat) : Int)).toNat = b := by rw [BitVec.toNat_ofInt]; omega
  have hb : b < 2 ^ k := by exact_mod_cast hk
  have ha : a % 2 ^ k = 0 := by exact_mod_cast hx
  have e3 : a ||| b = a + b := by
    have hm := Nat.div_add_mod a (2 ^ k)
    rw [ha, Nat.add_zero] at hm
    rw [← hm]
    exact (Nat.two_pow_add_eq_or_of_lt hb (a / 2 ^ k)).symm
  show IntKind.i64.wrap ((BitVec.ofInt 64 ((a : Nat) : Int) ||| BitVec.ofInt 64 ((b : Nat) : Int)).toNat : Nat) = _
  rw [BitVec.toNat_or, e1, e2, e3, IntKind.wrap_i64]
  omega

theorem ret_two {a b x y : Int} (h1 : a = x) (h2 : b = y) : Ending.returned (.tuple #[.int .i64 a, .int .i64 b]) = .returned (.tuple #[.int .i64 x, .int .i64 y]) := by rw [h1, h2]

theorem getD_mem {l : List Int} {j : Nat} (h : j < l.length) : l.getD j 0 ∈ l := by
  rw [List.getD_eq_getElem?_getD, List.getElem?_eq_getElem h]; exact List.getElem_mem h

theorem beq_f {x y : Int} (h : ¬ x = y) : (x == y) = false := by simpa using h

theorem beq_t {x y : Int} (h : x = y) : (x == y) = true := by simpa using h

theorem Ints.keep {k : IntKind} {W W' : World} {b off : Nat} {l : List Int} (h : Ints k W b off l) (hb : b < W.heap.size) (hs : Stay (fun _ => False) W W') : Ints k W' b off l := h.stay hb hs (fun h => h)

theorem drop_cons (l : List Int) (k : Nat) (h : k < l.length) : l.drop k = l.getD k 0 :: l.drop (k + 1) := by
  rw [List.getD_eq_getElem?_getD, List.getElem?_eq_getElem h]
  exact List.drop_eq_getElem_cons h

theorem Ints.drop {k : IntKind} {W : World} {b off : Nat} {l : List Int} (h : Ints k W b off l) (j : Nat) : Ints k W b (off + j) (l.drop j) := fun i hi => by
  rw [List.length_drop] at hi
  rw [Nat.add_assoc, h (j + i) (by omega)]
  simp [List.getD_eq_getElem?_getD, List.getElem?_drop]

theorem w64_wf {x : Int} (h : W64 x) : (Lit.int .i64 x).wf = true := by
  have z1 : IntKind.i64.min = -9223372036854775808 := by decide
  have z2 : IntKind.i64.max = 9223372036854775807 := by decide
  unfold W64 at h
  simp only [Lit.wf, decide_eq_true_eq, Bool.and_eq_true]
  omega

/-- A row of integers that can be read. -/
def Row (w : World) (t : Value) (l : List Int) : Prop := ∃ a cap, IArg .i64 w t l a cap

/-- A row of integers is handed back, and nothing that was there has turned. -/
def GivesRow (l : List Int) (w : World) (e : Ending) (w' : World) : Prop := ∃ t, e = .returned t ∧ Row w' t l ∧ Stay (fun _ => False) w w'

theorem Row.keep {w w' : World} {t : Value} {l : List Int} (h : Row w t l) (hs : Stay (fun _ => False) w w') : Row w' t l := by
  obtain ⟨a, cap, h⟩ := h
  exact ⟨a, cap, h.stay0 hs⟩

theorem row_nil (w : World) : Row w (.slice none 0 0) [] := ⟨none, 0, rfl, fun h => absurd rfl h, fun _ => rfl, Nat.le_refl _, by unfold maxLen; omega, fun x hx => by simp at hx⟩

theorem isRow_keep {w w' : World} {t : Value} {xs : List Value} (h : IsRow w t xs) (hs : Stay (fun _ => False) w w') : IsRow w' t xs := by
  rcases h with h | ⟨ad, m, c, h1, h2, h3⟩
  · exact .inl h
  · exact .inr ⟨ad, m, c, h1, h2, fun j u hu => keep_cell hs (h3 j u hu)⟩

/-- A block that an own row does not lie in. -/
def Apart (W : World) (v : Value) (k : Nat) : Prop := k < W.heap.size ∧ v.ownBlock ≠ some k

theorem Apart.alloc {W : World} {v : Value} {k : Nat} (h : Apart W v k) (o : Obj) : Apart (W.alloc o) v k := ⟨by have := h.1; simp; omega, h.2⟩

theorem Apart.fresh {W : World} {v : Value} {k : Nat} (h : Apart W v k) (o : Obj) : Apart (W.alloc o) (.slice (some ⟨W.heap.size, 0, none⟩) 0 0) k := ⟨by have := h.1; simp; omega, fun e => by have h1 := h.1; simp [Value.ownBlock] at e; omega⟩

theorem Apart.none (W : World) (o : Obj) : Apart (W.alloc o) (.slice Option.none 0 0) W.heap.size := ⟨by simp, fun e => by cases e⟩

theorem Apart.new {W : World} {v : Value} {base e s n : Nat} {xs : List Value} {o : Obj} (h : W.ownsRow base e s v n xs) : Apart (W.alloc o) v W.heap.size := ⟨by simp, fun hk => by have := (h.lt _ hk).2; omega⟩

theorem Apart.step {W W1 : World} {v v1 : Value} {k : Nat} {T : Nat → Prop} (h : Apart W v k) (hs : Stay T W W1) (hb : v1.ownBlock = v.ownBlock ∨ v1.ownBlock = some W.heap.size) : Apart W1 v1 k := by
  refine ⟨Nat.lt_of_lt_of_le h.1 hs.size, fun e => ?_⟩
  rcases hb with hb | hb
  · exact h.2 (hb ▸ e)
  · rw [e] at hb
    have := h.1
    cases hb
    omega

theorem isRowS_of {w : World} {v : Value} {news : List Value} (h : IsRow w v news) : IsRowS w 1 v news.length news := by
  rcases h with ⟨rfl, rfl⟩ | ⟨ad, m, c, rfl, rfl, hc⟩
  · exact .inl ⟨rfl, rfl, rfl⟩
  · exact .inr ⟨ad, c, rfl, by omega, hc⟩

theorem and_zero (f : Int) : bits .and .i64 f 0 = 0 := by
  show IntKind.i64.wrap ((BitVec.ofInt 64 f &&& BitVec.ofInt 64 0).toNat : Nat) = 0
  rw [show BitVec.ofInt 64 0 = 0#64 by decide]
  simp
  decide

theorem row_owned {w : World} {base e : Nat} {t : Value} {l : List Int} (h : w.ownsRow base e 1 t l.length (l.map (.int .i64 ·))) (hw : ∀ x ∈ l, W64 x) : Row w t l := by
  obtain ⟨a, cap, h, _⟩ := owned_arg h (fun x hx => w64_wf (hw x hx))
  exact ⟨a, cap, h⟩

theorem row_new (w : World) (cs : Array Value) (e : TypeId) (l : List Int) (n : Nat) (hn : cs.size = n) (hl : cs.toList = l.map (.int .i64 ·)) (hw : ∀ x ∈ l, W64 x) (hm : n ≤ maxLen) : Row (w.alloc (.cells cs e)) (.slice (some ⟨w.heap.size, 0, none⟩) n n) l := by
  subst hn
  have h := owns_new w cs e hm
  have ec : cs.size = l.length := by rw [← Array.length_toList, hl, List.length_map]
  rw [hl, ec] at h
  rw [ec]
  exact row_owned h hw

/-- The world behind a row that was made, and the own row in it. -/
theorem own_new {base e n : Nat} {t : Value} {vs : List Value} {w : World} (h : w.ownsRow base e 1 t n vs) (o : Obj) : (w.alloc o).ownsRow base e 1 t n vs := ((Stay.refl (fun _ => False) w).alloc o).owns h (fun _ _ h => h)

theorem own_base {base e n : Nat} {t : Value} {vs : List Value} {w : World} (h : w.ownsRow base e 1 t n vs) : ∀ k, t.ownBlock = some k → base ≤ k := fun k hk => (h.lt k hk).1

theorem row_joined {W : World} {base e n : Nat} {t : Value} {xs : List Value} {l : List Int} (h : W.ownsRow base e 1 t n xs) (hx : xs = l.map (.int .i64 ·)) (hw : ∀ x ∈ l, (Lit.int .i64 x).wf = true) : Row W t l := by
  have hn : n = l.length := by have := h.1; rw [hx] at this; simpa using this.symm
  subst hn hx
  obtain ⟨a, cap, h, _⟩ := owned_arg h hw
  exact ⟨a, cap, h⟩

end Go.Proofs.Ytefpifnfinkbaaa

namespace Go.Proofs.Ytefpifnfinkbaaa
open Go.ChangeShapes Go.WideShapes Go.ChangeAt Go.RowKit Go.Joins

theorem Try.laidOut : laidOutB Try.prog = true := by kernel_rfl
theorem Try.own : ownKnob Try.prog.godebug = none := by kernel_rfl

/-- Cells that are integers of these kinds, and fit. -/
def KInts : List IntKind → List Value → Prop
  | [], cs => cs = []
  | k :: ks, cs => ∃ n rest, cs = .int k n :: rest ∧ (Lit.int k n).wf = true ∧ KInts ks rest

theorem KInts.append : ∀ {a b : List IntKind} {xs ys : List Value}, KInts a xs → KInts b ys → KInts (a ++ b) (xs ++ ys)
  | [], _, xs, _, h, k => by
    have h' : xs = [] := h
    subst h'
    exact k
  | _ :: _, _, _, _, ⟨n, rest, e, hw, hr⟩, k => ⟨n, rest ++ _, by rw [e]; rfl, hw, KInts.append hr k⟩

def offsB (c : Field → Nat) : Nat → List Field → Bool
  | _, [] => true
  | o, f :: r => f.offset == o && offsB c (o + c f) r

theorem kints_go (c : Field → Nat) (K : Field → List IntKind) : ∀ (fs : List Field) (o : Nat) (cs : List Value), cs.length = o + (fs.map c).sum → offsB c o fs = true → (∀ f ∈ fs, KInts (K f) ((cs.drop f.offset).take (c f))) → KInts (fs.flatMap K) (cs.drop o)
  | [], o, cs, hl, _, _ => by
    simp at hl
    show cs.drop o = []
    rw [List.drop_of_length_le (by omega)]
  | f :: r, o, cs, hl, ho, h => by
    simp only [offsB, Bool.and_eq_true, beq_iff_eq] at ho
    have ih := kints_go c K r (o + c f) cs (by rw [hl, List.map_cons, List.sum_cons]; omega) ho.2 (fun g hg => h g (List.mem_cons_of_mem _ hg))
    have h0 := h f List.mem_cons_self
    rw [ho.1] at h0
    have := h0.append ih
    rw [← List.drop_drop, List.take_append_drop] at this
    rw [List.flatMap_cons]
    exact this

section
variable {H : Type} {enc : TypeId × Value → H} {P : Program} {w : World} {base : Nat} {sp : Nat → Bool} {held : Bool}

theorem kints_struct {t : TypeId} {fs : Array Field} (ht : P.underlying t = some (.struct fs)) (K : Field → List IntKind) (hl : P.cellsOf t = (fs.toList.map fun f => P.cellsOf f.type).sum) (ho : offsB (fun f => P.cellsOf f.type) 0 fs.toList = true)
    (hf : ∀ f ∈ fs.toList, ∀ (cs : List Value) (x : DataW H × List MemPlace) (fuel : Nat), DataW.trod enc P w base sp held fuel f.type cs = some x → KInts (K f) cs)
    (cs : List Value) (x : DataW H × List MemPlace) (fuel : Nat) (h : DataW.trod enc P w base sp held fuel t cs = some x) : KInts (fs.toList.flatMap K) cs := by
  obtain ⟨xs, n, _, _, hc, hn, hel⟩ := DataW.trod_struct ht h
  have := kints_go (fun f => P.cellsOf f.type) K fs.toList 0 cs (by rw [hc, hl]; omega) ho (fun f hm => by
    obtain ⟨i, hi⟩ := List.getElem?_of_mem hm
    have hi' : fs[i]? = some f := by simpa using hi
    have h1 := hel i f hi'
    have hlt : i < xs.length := by
      rw [hn]
      exact (Array.getElem?_eq_some_iff.1 hi').1
    rw [List.getElem?_eq_getElem hlt] at h1
    exact hf f hm _ _ _ h1)
  simpa using this

theorem kints_int {t : TypeId} {k : IntKind} (ht : P.underlying t = some (.int k)) (cs : List Value) (x : DataW H × List MemPlace) (fuel : Nat) (h : DataW.trod enc P w base sp held fuel t cs = some x) : KInts [k] cs := by
  obtain ⟨n, rfl, _, hw⟩ := DataW.trod_int ht h
  exact ⟨n, [], rfl, hw, rfl⟩

end

/-- The integer in a cell. -/
def intAt : Option Value → Int
  | some (.int _ n) => n
  | _ => 0

theorem kints_get : ∀ {ks : List IntKind} {cs : List Value}, KInts ks cs → ∀ (j : Nat) (k : IntKind), ks[j]? = some k → cs[j]? = some (.int k (intAt cs[j]?)) ∧ (Lit.int k (intAt cs[j]?)).wf = true
  | [], _, _, j, k, hj => by simp at hj
  | k0 :: ks, cs, ⟨n, rest, e, hw, hr⟩, 0, k, hj => by
    subst e
    cases hj
    exact ⟨rfl, hw⟩
  | k0 :: ks, cs, ⟨n, rest, e, hw, hr⟩, j + 1, k, hj => by
    subst e
    have := kints_get hr j k (by simpa using hj)
    simpa using this

/-- Structs of integers that came in, one by one. -/
structure Rows' (ks : List IntKind) (w : World) (ad : Option Addr) (n : Nat) (F : Nat → Nat → Int) : Prop where
  at' : ∀ i, i < n → ∃ b o, ad = some ⟨b, o, none⟩ ∧ ∀ (j : Nat) (k : IntKind), ks[j]? = some k → w.cell? ⟨b, o + i * ks.length + j, none⟩ = some (.int k (F i j))
  wf : ∀ i, i < n → ∀ (j : Nat) (k : IntKind), ks[j]? = some k → (Lit.int k (F i j)).wf = true
  le : (n : Int) ≤ 9223372036854775807

theorem Rows'.keep {ks : List IntKind} {w w1 : World} {ad : Option Addr} {n : Nat} {F : Nat → Nat → Int} (h : Rows' ks w ad n F) (hs : Stay (fun _ => False) w w1) : Rows' ks w1 ad n F :=
  ⟨fun i hi => by obtain ⟨b, o, h1, h2⟩ := h.at' i hi; exact ⟨b, o, h1, fun j k hj => keep_cell hs (h2 j k hj)⟩, h.wf, h.le⟩

theorem open_rows {H : Type} {enc : TypeId × Value → H} {P : Program} {W : World} {base : Nat} {v : Value} {d : DataW H} {p : List MemPlace} {t e : TypeId} {ks : List IntKind} {k0 : IntKind} (ht : P.underlying t = some (.slice e)) (hc : P.cellsOf e = ks.length) (h0 : ks[0]? = some k0)
    (kE : ∀ (cs : List Value) (x : DataW H × List MemPlace) (fuel : Nat), DataW.trod enc P W 0 (fun _ => true) true fuel e cs = some x → KInts ks cs)
    (hval : Value.okWide P W .any base t v) (h : DataW.Trod enc P W 0 (fun _ => true) true t v d p) : ∃ ad n cap F, v = .slice ad n cap ∧ Rows' ks W ad n F := by
  obtain ⟨a0, l0, c0, rfl⟩ := okWide_slice ht hval
  obtain ⟨fuel, hf⟩ := h
  rcases Go.Deep.open_slice ht hf with ⟨hcs, _⟩ | ⟨a, len, cap, m, n, D, Pl, hcs, _, hlc, hcm, hm, _, hx⟩
  · have e : (Value.slice a0 l0 c0) = .slice none 0 0 := by simpa [Value.cells] using hcs
    cases e
    exact ⟨none, 0, 0, fun _ _ => 0, rfl, fun i hi => absurd hi (Nat.not_lt_zero _), fun i hi => absurd hi (Nat.not_lt_zero _), by decide⟩
  · have e : (Value.slice a0 l0 c0) = .slice (some a) len cap := by simpa [Value.cells] using hcs
    cases e
    have hmm : l0 ≤ m := by rw [hm]; simpa using hlc
    have hlen : 0 < ks.length := (List.getElem?_eq_some_iff.1 h0).1
    obtain ⟨b, o, spo⟩ := a
    have hsp : 0 < l0 → spo = none := fun h1 => by
      obtain ⟨cs, g1, g2⟩ := hx 0 (by omega)
      rw [hc] at g1
      obtain ⟨_, hl, hcc⟩ := World.cells?_some g1
      have g3 := hcc 0 (by omega)
      rw [(kints_get (kE _ _ _ g2) 0 k0 h0).1] at g3
      simpa [Addr.add] using World.cell?_spot g3
    have key : ∀ i, i < l0 → ∃ f : Nat → Int, ∀ (j : Nat) (k : IntKind), ks[j]? = some k → W.cell? ((⟨b, o, spo⟩ : Addr).add (i * ks.length + j)) = some (.int k (f j)) ∧ (Lit.int k (f j)).wf = true := fun i hi => by
      obtain ⟨cs, g1, g2⟩ := hx i (by omega)
      rw [hc] at g1
      obtain ⟨_, hl, hcc⟩ := World.cells?_some g1
      refine ⟨fun j => intAt cs[j]?, fun j k hj => ?_⟩
      have hlt : j < ks.length := (List.getElem?_eq_some_iff.1 hj).1
      have g3 := hcc j (by omega)
      obtain ⟨g4, g5⟩ := kints_get (kE _ _ _ g2) j k hj
      rw [g4] at g3
      obtain rfl := hsp (by omega)
      rw [addr_add, addr_add] at g3
      rw [addr_add]
      exact ⟨by rw [← g3, Nat.add_assoc], g5⟩
    obtain ⟨F, hF⟩ := Go.Deep.choose_lt (α := Nat → Int) (p := fun i f => ∀ (j : Nat) (k : IntKind), ks[j]? = some k → W.cell? ((⟨b, o, spo⟩ : Addr).add (i * ks.length + j)) = some (.int k (f j)) ∧ (Lit.int k (f j)).wf = true) key
    refine ⟨some ⟨b, o, spo⟩, l0, c0, F, rfl, fun i hi => ?_, fun i hi j k hj => (hF i hi j k hj).2, by unfold maxLen at hcm; omega⟩
    obtain rfl := hsp (by omega)
    refine ⟨b, o, rfl, fun j k hj => ?_⟩
    have := (hF i hi j k hj).1
    rwa [addr_add, ← Nat.add_assoc] at this

theorem trodAll_five {H : Type} {enc : TypeId × Value → H} {P : Program} {w : World} {base : Nat} {spare : Nat → Bool} {held : Bool} {t t1 t2 t3 t4 : TypeId} {args : Array Value} {ds : List (DataW H)} {ps : List MemPlace} (h : DataW.TrodAll enc P w base spare held [t, t1, t2, t3, t4] args.toList ds ps) :
    ∃ v v1 v2 v3 v4 d d1 d2 d3 d4 p p1 p2 p3 p4, args = #[v, v1, v2, v3, v4] ∧ ds = [d, d1, d2, d3, d4] ∧ ps = p ++ p1 ++ p2 ++ p3 ++ p4 ∧ DataW.Trod enc P w base spare held t v d p ∧ DataW.Trod enc P w base spare held t1 v1 d1 p1 ∧ DataW.Trod enc P w base spare held t2 v2 d2 p2 ∧ DataW.Trod enc P w base spare held t3 v3 d3 p3 ∧ DataW.Trod enc P w base spare held t4 v4 d4 p4 := by
  obtain ⟨v, vs, d, ds', p, q, hargs, rfl, rfl, hd, hrest⟩ := trodAll_cons h
  obtain ⟨v1, vs', d1, ds'', p1, q', rfl, rfl, rfl, hd1, hrest1⟩ := trodAll_cons hrest
  obtain ⟨v2, vs'', d2, dsc, p2, q'', rfl, rfl, rfl, hd2, hrest2⟩ := trodAll_cons hrest1
  obtain ⟨v3, vs3, d3, ds3, p3, q3, rfl, rfl, rfl, hd3, hrest3⟩ := trodAll_cons hrest2
  obtain ⟨v4, vs4, d4, ds4, p4, q4, rfl, rfl, rfl, hd4, hrest4⟩ := trodAll_cons hrest3
  obtain ⟨rfl, rfl, rfl⟩ := trodAll_nil hrest4
  exact ⟨v, v1, v2, v3, v4, d, d1, d2, d3, d4, p, p1, p2, p3, p4, by cases args; simp_all, rfl, by simp, hd, hd1, hd2, hd3, hd4⟩

end Go.Proofs.Ytefpifnfinkbaaa

namespace Go.Proofs.Ytefpifnfinkbaaa
open Go.RowKit

theorem Stay.setCells {S : Nat → Prop} (b : Nat) : ∀ (vs : List Value) (o : Nat) {w w1 : World}, Stay S w w1 → S b → Stay S w (w1.setCells b o vs)
  | [], _, _, _, h, _ => h
  | _ :: r, o, _, _, h, hb => Stay.setCells b r (o + 1) (h.setCell (p := ⟨b, o, none⟩) hb _) hb

theorem Stay.trans2 {S T : Nat → Prop} {w w1 w2 : World} (h : Stay S w w1) (k : Stay T w1 w2) (e : ∀ j, j < w.heap.size → T j → S j) : Stay S w w2 :=
  ⟨k.os.trans h.os, k.tape.trans h.tape, k.output.trans h.output, Nat.le_trans h.size k.size, fun i hi hs => (k.block i (Nat.lt_of_lt_of_le hi h.size) (fun t => hs (e i hi t))).trans (h.block i hi hs)⟩

/-- A window of a block: elements of a size, room behind them. -/
def Win (w : World) (size : Nat) (v : Value) (n : Nat) (xs : List Value) : Prop :=
  xs.length = n * size ∧ ((v = .slice none 0 0 ∧ n = 0) ∨ ∃ g o cap, v = .slice (some ⟨g, o, none⟩) n cap ∧ n ≤ cap ∧ cap ≤ maxLen ∧ g < w.heap.size ∧ w.rangeAt g o xs ∧ w.there g o (cap * size))

theorem Win.nil (w : World) (size : Nat) : Win w size (.slice none 0 0) 0 [] := ⟨by simp, .inl ⟨rfl, rfl⟩⟩

theorem Win.lt {w : World} {size n : Nat} {v : Value} {xs : List Value} (h : Win w size v n xs) : ∀ j, v.ownBlock = some j → j < w.heap.size := by
  intro j hj
  rcases h.2 with ⟨rfl, _⟩ | ⟨g, o, cap, rfl, _, _, hg, _⟩
  · cases hj
  · cases hj; exact hg

theorem Win.stay {T : Nat → Prop} {w w1 : World} {size n : Nat} {v : Value} {xs : List Value} (h : Win w size v n xs) (hs : Stay T w w1) (hn : ∀ j, v.ownBlock = some j → ¬ T j) : Win w1 size v n xs := by
  refine ⟨h.1, ?_⟩
  rcases h.2 with h0 | ⟨g, o, cap, rfl, h1, h2, hg, h3, h4⟩
  · exact .inl h0
  · have hc : ∀ o, w1.cell? ⟨g, o, none⟩ = w.cell? ⟨g, o, none⟩ := fun o => hs.cell (p := ⟨g, o, none⟩) hg (hn g rfl)
    have hf : ∀ o, w1.frozen? ⟨g, o, none⟩ = w.frozen? ⟨g, o, none⟩ := fun o => hs.frozen (p := ⟨g, o, none⟩) hg (hn g rfl)
    exact .inr ⟨g, o, cap, rfl, h1, h2, Nat.lt_of_lt_of_le hg hs.size, fun j u hu => (hc _).trans (h3 j u hu), fun j hj => ⟨by rw [hc]; exact (h4 j hj).1, by rw [hf]; exact (h4 j hj).2⟩⟩

theorem Win.of_owns {w : World} {base e size n : Nat} {v : Value} {xs : List Value} (h : w.ownsRow base e size v n xs) (_hw : n * size = xs.length) : Win w size v n xs := by
  refine ⟨h.1, ?_⟩
  rcases h.2 with h0 | ⟨g, cap, cur, rfl, _, hg, h1, h2, h3, h4⟩
  · exact .inl h0
  · have hlt : g < w.heap.size := (Array.getElem?_eq_some_iff.1 hg).1
    refine .inr ⟨g, 0, cap, rfl, h1, h2, hlt, fun j u hu => ?_, fun j hj => ?_⟩
    · have := h.cells (g := g) rfl j u hu
      rwa [addr_add] at this
    · have hj' : j < cur.size := by omega
      constructor
      · rw [cell_of_row w g _ cur e (0, 0) hg, Nat.zero_add, Array.getElem?_eq_getElem hj']; rfl
      · simp [World.frozen?, hg]

/-- A window is a slice. -/
theorem Win.shape {w : World} {size n : Nat} {v : Value} {xs : List Value} (h : Win w size v n xs) : ∃ a cap, v = .slice a n cap ∧ n ≤ cap ∧ (a = none → cap = 0) := by
  rcases h.2 with ⟨rfl, rfl⟩ | ⟨g, o, cap, rfl, h1, _⟩
  · exact ⟨none, 0, rfl, Nat.le_refl _, fun _ => rfl⟩
  · exact ⟨_, cap, rfl, h1, (fun h => by cases h)⟩

/-- The first elements, to be read. -/
theorem Win.front {w : World} {size n k cap : Nat} {a : Option Addr} {xs : List Value} (h : Win w size (.slice a n cap) n xs) (hk : k ≤ n) : IsRowS w size (.slice a k cap) k (xs.take (k * size)) := by
  have hl := h.1
  rcases h.2 with ⟨h0, rfl⟩ | ⟨g, o, cap', h0, h1, _, hg, h3, _⟩
  · cases h0
    obtain rfl : k = 0 := by omega
    exact .inl ⟨rfl, rfl, by simp⟩
  · cases h0
    refine .inr ⟨_, _, rfl, ?_, fun j u hu => ?_⟩
    · rw [List.length_take, hl]
      exact Nat.min_eq_left (Nat.mul_le_mul_right _ hk)
    · rw [addr_add]
      rw [List.getElem?_take] at hu
      split at hu
      · exact h3 j u hu
      · cases hu

/-- What is left behind the first elements. -/
theorem Win.drop {w : World} {size n k cap : Nat} {a : Option Addr} {xs : List Value} (h : Win w size (.slice a n cap) n xs) (hk : k ≤ n) : Win w size (.slice (if cap = k then a else a.map (·.add (k * size))) (n - k) (cap - k)) (n - k) (xs.drop (k * size)) := by
  have hl := h.1
  refine ⟨by rw [List.length_drop, hl, Nat.sub_mul], ?_⟩
  rcases h.2 with ⟨h0, rfl⟩ | ⟨g, o, cap', h0, h1, h2, hg, h3, h4⟩
  · cases h0
    obtain rfl : k = 0 := by omega
    exact .inl ⟨rfl, rfl⟩
  · cases h0
    by_cases hc : cap = k
    · subst hc
      obtain rfl : n = cap := by omega
      rw [if_pos rfl]
      have hr : w.rangeAt g o (xs.drop (n * size)) := fun j u hu => by
        rw [List.getElem?_drop, List.getElem?_eq_none (by omega)] at hu
        cases hu
      have ht : w.there g o ((n - n) * size) := fun j hj => by
        rw [Nat.sub_self, Nat.zero_mul] at hj
        exact absurd hj (Nat.not_lt_zero j)
      exact .inr ⟨g, o, n - n, rfl, Nat.le_refl _, by omega, hg, hr, ht⟩
    · rw [if_neg hc]
      refine .inr ⟨g, o + k * size, cap - k, by simp [addr_add], by omega, by omega, hg, fun j u hu => ?_, fun j hj => ?_⟩
      · rw [List.getElem?_drop] at hu
        rw [Nat.add_assoc]
        exact h3 _ u hu
      · rw [Nat.sub_mul] at hj
        rw [Nat.add_assoc]
        exact h4 _ (by omega)

theorem Win.drop_block {n k cap size : Nat} {a : Option Addr} : ∀ j, (Value.slice (if cap = k then a else a.map (·.add (k * size))) (n - k) (cap - k)).ownBlock = some j → (Value.slice a n cap).ownBlock = some j := by
  intro j hj
  cases a with
  | none => split at hj <;> cases hj
  | some ad =>
    split at hj
    · exact hj
    · rw [← hj]
      show some ad.block = some (ad.add (k * size)).block
      rw [show (ad.add (k * size)).block = ad.block by unfold Addr.add; split <;> rfl]

section
variable {P : Program}

/-- Elements are appended to a window. -/
theorem run_append_win (w : World) (t ty e : TypeId) (size bytes : Nat) (z : Value) (ht : P.underlying t = some (.slice e)) (hinfo : (P.info? e).map (fun i => (i.zero, i.size, i.bytes)) = some (some z, size, bytes)) (hz : z.cells.size = size) (hs0 : 0 < size) (hby : bytes ≤ 1000)
    (v : Value) (n : Nat) (xs : List Value) (hwin : Win w size v n xs) (so : Option Addr) (m c : Nat) (news : List Value) (hl : news.length = m * size) (hsrc : ∀ ad, so = some ad → ∀ j u, news[j]? = some u → w.cell? (ad.add j) = some u) (h0 : so = none → m = 0) (h1 : ∀ u ∈ news, u.oneCell' = true) (hn : n + m ≤ 1000000) :
    ∃ v' w', (Builtin.append_ #[t, t] ty #[v, .slice so m c]).run P w = .ok v' w' ∧ Win w' size v' (n + m) (xs ++ news) ∧ Stay (fun j => v.ownBlock = some j) w w' ∧ (v'.ownBlock = v.ownBlock ∨ v'.ownBlock = some w.heap.size) := by
  obtain ⟨i, hi, hzz⟩ := Option.map_eq_some_iff.1 hinfo
  simp only [Prod.mk.injEq] at hzz
  obtain ⟨g1, rfl, rfl⟩ := hzz
  have hb : (n + m) * i.bytes ≤ 140737488355328 := Nat.le_trans (Nat.mul_le_mul hn hby) (by decide)
  have h63 : n + m ≤ maxLen := by unfold maxLen; omega
  have hlen : (xs ++ news).length = (n + m) * i.size := by rw [List.length_append, hwin.1, hl, Nat.add_mul]
  by_cases hm : m = 0
  · subst hm
    have : news = [] := List.eq_nil_of_length_eq_zero (by simpa using hl)
    subst this
    refine ⟨v, w, ?_, by simpa using hwin, Stay.refl _ _, .inl rfl⟩
    rcases hwin.2 with ⟨rfl, rfl⟩ | ⟨g, o, cap, rfl, hc, _⟩
    · cases so <;> simp [Builtin.append_, run_underlying ht, sizeOf, typeInfo, hi, Builtin.lenOf, Builtin.firstCells, loadCells, loadCellsFrom]
    · cases so <;> simp [Builtin.append_, run_underlying ht, sizeOf, typeInfo, hi, Builtin.lenOf, Builtin.firstCells, loadCells, loadCellsFrom, hc, storeCells]
  · obtain ⟨ad, rfl⟩ : ∃ ad, so = some ad := by
      cases so with
      | none => exact absurd (h0 rfl) hm
      | some ad => exact ⟨ad, rfl⟩
    have hnews := hsrc ad rfl
    rcases hwin.2 with ⟨rfl, rfl⟩ | ⟨g, o, cap, rfl, hc, hcm, hg, h3, h4⟩
    · obtain ⟨v', w', hr, h2, h3, _, h5⟩ := run_append_own_at (P := P) w w.heap.size t ty e i z i.size i.bytes ht hi g1 rfl rfl hz hs0 (.slice none 0 0) 0 [] (World.ownsRow_nil w _ e i.size) ad m c news hl hnews h1 h63 hb (Nat.le_refl _)
      have hx : xs = [] := List.eq_nil_of_length_eq_zero (by simpa using hwin.1)
      subst hx
      exact ⟨v', w', hr, Win.of_owns h2 h2.1.symm, (Stay.refl _ w).grown h3 (fun k hk _ => hk), h5⟩
    · by_cases hroom : n + m ≤ cap
      · have hth : w.there g (o + n * i.size) news.length := fun j hj => by
          have := h4 (n * i.size + j) (by
            have h6 := Nat.mul_le_mul_right i.size hroom
            rw [Nat.add_mul] at h6
            omega)
          rwa [← Nat.add_assoc] at this
        have hr := run_append_room_cells (P := P) w t ty e i ht hi g o n cap ad m c news hl hnews h1 hroom (fun j hj => (hth j hj).1) (fun j hj => (hth j hj).2)
        have hst : Stay (fun j => j = g) w (w.setCells g (o + n * i.size) news) := Stay.setCells g news _ (Stay.refl _ _) rfl
        refine ⟨_, _, hr, ⟨hlen, .inr ⟨g, o, cap, rfl, hroom, hcm, Nat.lt_of_lt_of_le hg hst.size, fun j u hu => ?_, World.there_setCells h4 _ _ _⟩⟩, hst.mono (fun j _ hj => by rw [hj]; rfl), .inl rfl⟩
        by_cases hj : j < xs.length
        · rw [List.getElem?_append_left hj] at hu
          exact World.rangeAt_setCells_apart h3 g _ news (.inr (.inl (by rw [hwin.1]; exact Nat.le_refl _))) j u hu
        · rw [List.getElem?_append_right (by omega)] at hu
          have := World.rangeAt_setCells_same w g (o + n * i.size) news hth (j - xs.length) u hu
          rwa [show o + n * i.size + (j - xs.length) = o + j by have := hwin.1; omega] at this
      · obtain ⟨v', w', hr, h2, h5⟩ := run_append_arg_grows (P := P) w t ty e i z i.size i.bytes ht hi g1 rfl rfl hz hs0 ⟨g, o, none⟩ n cap xs hwin.1 (fun j u hu => by rw [addr_add]; exact h3 j u hu) ad m c news hl hnews (by omega) h63 hb
        refine ⟨v', w', hr, Win.of_owns h2 h2.1.symm, (Stay.refl _ w).grown h5 (fun k hk _ => by cases hk), .inr ?_⟩
        obtain ⟨g', cap', hv', hb', _, hlt⟩ : ∃ g' cap', v' = .slice (some ⟨g', 0, none⟩) (n + m) cap' ∧ w.heap.size ≤ g' ∧ True ∧ g' = w.heap.size := by
          have hr2 := run_append_grow (P := P) w t ty e i z ht hi g1 ⟨g, o, none⟩ n cap xs hwin.1 (fun j u hu => by rw [addr_add]; exact h3 j u hu) ad m c news hl hnews (by omega) (by unfold maxLen at h63; omega) (growslice_fits (by omega) hb)
          rw [hr] at hr2
          simp only [Result.ok.injEq] at hr2
          exact ⟨w.heap.size, _, hr2.1, Nat.le_refl _, trivial, rfl⟩
        rw [hv', hlt]; rfl

theorem wpList_append_win {ops : Array Oper} {rest : List Oper} {o : Oper} {a : Act} {Q : Exit → Act → World → Prop} (hgd : o.guard = none) (s x : Operand) (t : TypeId)
    (ho : o.op = .call { callee := .builtin .append, args := #[s, x], argTypes := #[t, t] }) {w : World} {n m c size bytes : Nat} {e : TypeId} {z v : Value} {so : Option Addr} {xs news : List Value} (hu : P.underlying t = some (.slice e))
    (hinfo : (P.info? e).map (fun i => (i.zero, i.size, i.bytes)) = some (some z, size, bytes)) (hz : z.cells.size = size) (hs0 : 0 < size) (hby : bytes ≤ 1000)
    (hwin : Win w size v n xs) (hs : a.eval s = v) (hl : news.length = m * size) (hsrc : ∀ ad, so = some ad → ∀ j u, news[j]? = some u → w.cell? (ad.add j) = some u) (h0 : so = none → m = 0) (h1 : ∀ u ∈ news, u.oneCell' = true) (hn : n + m ≤ 1000000) (hx : a.eval x = .slice so m c)
    (h : ∀ v' w', Win w' size v' (n + m) (xs ++ news) → Stay (fun j => v.ownBlock = some j) w w' → (v'.ownBlock = v.ownBlock ∨ v'.ownBlock = some w.heap.size) → wpList P ops Q rest (a.put o.dst v') w') : wpList P ops Q (o :: rest) a w := by
  obtain ⟨v', w', hr, h2, h3, h4⟩ := run_append_win (P := P) w t o.type e size bytes z hu hinfo hz hs0 hby v n xs hwin so m c news hl hsrc h0 h1 hn
  refine wpList_plain hgd fun K hK => ?_
  unfold Oper.wp
  simp [execOp, ho, resolve, invoke, builtin, hs, hx, hr, Result.andThen]
  exact hK _ _ (h v' w' h2 h3 h4)

end

end Go.Proofs.Ytefpifnfinkbaaa

namespace Go.Proofs.Ytefpifnfinkbaaa
open Go.RowKit

theorem Pr.same {a0 a1 a2 a3 a4 a5 : _} {r : Pr} (h : r.pid = a0 ∧ r.par = a1 ∧ r.grp = a2 ∧ r.ses = a3 ∧ r.tty = a4 ∧ r.df = a5) : r = ⟨a0, a1, a2, a3, a4, a5⟩ := by
  obtain ⟨rfl, rfl, rfl, rfl, rfl, rfl⟩ := h
  rfl

theorem Pr.ret {a b : Pr} (h : a = b) : Ending.returned (.agg #[.int .i64 a.pid, .int .i64 a.par, .int .i64 a.grp, .int .i64 a.ses, .int .i64 a.tty, .bool a.df]) = .returned (.agg #[.int .i64 b.pid, .int .i64 b.par, .int .i64 b.grp, .int .i64 b.ses, .int .i64 b.tty, .bool b.df]) := by rw [h]

/-- A box that holds a Pr. -/
structure PBox (w : World) (b : Nat) (r : Pr) : Prop where
  c0 : w.cell? ⟨b, 0, none⟩ = some (.int .i64 r.pid)
  c1 : w.cell? ⟨b, 1, none⟩ = some (.int .i64 r.par)
  c2 : w.cell? ⟨b, 2, none⟩ = some (.int .i64 r.grp)
  c3 : w.cell? ⟨b, 3, none⟩ = some (.int .i64 r.ses)
  c4 : w.cell? ⟨b, 4, none⟩ = some (.int .i64 r.tty)
  c5 : w.cell? ⟨b, 5, none⟩ = some (.bool r.df)
  f0 : w.frozen? ⟨b, 0, none⟩ = false
  f1 : w.frozen? ⟨b, 1, none⟩ = false
  f2 : w.frozen? ⟨b, 2, none⟩ = false
  f3 : w.frozen? ⟨b, 3, none⟩ = false
  f4 : w.frozen? ⟨b, 4, none⟩ = false
  f5 : w.frozen? ⟨b, 5, none⟩ = false

theorem PBox.lt {w : World} {b : Nat} {r : Pr} (h : PBox w b r) : b < w.heap.size := World.block_lt_of_cell? _ _ h.c0

theorem PBox.stay {T : Nat → Prop} {W w1 : World} {b : Nat} {r : Pr} (h : PBox W b r) (hs : Stay T W w1) (hn : ¬ T b) : PBox w1 b r := by
  have hb : b < W.heap.size := h.lt
  have c : ∀ o, w1.cell? ⟨b, o, none⟩ = W.cell? ⟨b, o, none⟩ := fun o => hs.cell (p := ⟨b, o, none⟩) hb hn
  have f : ∀ o, w1.frozen? ⟨b, o, none⟩ = W.frozen? ⟨b, o, none⟩ := fun o => hs.frozen (p := ⟨b, o, none⟩) hb hn
  exact ⟨(c 0).trans h.c0, (c 1).trans h.c1, (c 2).trans h.c2, (c 3).trans h.c3, (c 4).trans h.c4, (c 5).trans h.c5, (f 0).trans h.f0, (f 1).trans h.f1, (f 2).trans h.f2, (f 3).trans h.f3, (f 4).trans h.f4, (f 5).trans h.f5⟩

theorem PBox.keep {W w1 : World} {b : Nat} {r : Pr} (h : PBox W b r) (hs : Stay (fun _ => False) W w1) : PBox w1 b r := h.stay hs (fun h => h)

theorem PBox.alloc {w : World} {b : Nat} {r : Pr} (h : PBox w b r) (o : Obj) : PBox (w.alloc o) b r := h.keep ((Stay.refl _ _).alloc o)

theorem PBox.new {w : World} {b : Nat} (r : Pr) (h : w.heap.size = b) : PBox (w.alloc (.cells #[.int .i64 r.pid, .int .i64 r.par, .int .i64 r.grp, .int .i64 r.ses, .int .i64 r.tty, .bool r.df] 40)) b r := by
  subst h
  constructor <;> simp

theorem PBox.cells {w : World} {b : Nat} {r : Pr} (h : PBox w b r) : ∀ (j : Nat) (v : Value), [Value.int .i64 r.pid, .int .i64 r.par, .int .i64 r.grp, .int .i64 r.ses, .int .i64 r.tty, .bool r.df][j]? = some v → w.cell? ⟨b, 0 + j, none⟩ = some v := by
  intro j v hj
  match j, hj with
  | 0, hj => cases hj; exact h.c0
  | 1, hj => cases hj; exact h.c1
  | 2, hj => cases hj; exact h.c2
  | 3, hj => cases hj; exact h.c3
  | 4, hj => cases hj; exact h.c4
  | 5, hj => cases hj; exact h.c5

theorem results_PBox {fn : Func} {p : Tmp} (h : fn.results = #[.cell p 40]) (tmps : Array Value) (w : World) (g : Nat) (r : Pr) (hp : tmps.getD p undef = .pointer (some ⟨g, 0, none⟩)) (hb : PBox w g r) :
    (results fn tmps).run Try.prog w = .ok (.agg #[.int .i64 r.pid, .int .i64 r.par, .int .i64 r.grp, .int .i64 r.ses, .int .i64 r.tty, .bool r.df]) w := results_cells h tmps w g 0 _ _ hp hb.cells Try.underlying40 rfl (by kernel_rfl)

/-- What a struct is behind a call, and nothing that was there has turned. -/
theorem PBox.ends {w W : World} {fn : Func} {p : Tmp} (h : fn.results = #[.cell p 40]) {tmps : Array Value} {r q : Pr} {g : Nat} (hp : tmps.getD p undef = .pointer (some ⟨g, 0, none⟩)) (hb : PBox W g r) (hq : r = q) (hs : Stay (fun _ => False) w W)
    {d : List Deferred} (hd : d = []) : bodyPost Try.prog fn (Gives (.agg #[.int .i64 q.pid, .int .i64 q.par, .int .i64 q.grp, .int .i64 q.ses, .int .i64 q.tty, .bool q.df]) w) Exit.ret { tmps := tmps, defers := d } W := by
  subst hq hd
  exact bodyPost_ret (results_PBox h _ _ _ r hp hb) rfl ⟨rfl, hs⟩

/-- The world in which a box holds another one. -/
theorem PBox.put {w : World} {b : Nat} {r0 : Pr} (h : PBox w b r0) (r : Pr) : PBox ((((((w.setCell ⟨b, 0, none⟩ (.int .i64 r.pid)).setCell ⟨b, 1, none⟩ (.int .i64 r.par)).setCell ⟨b, 2, none⟩ (.int .i64 r.grp)).setCell ⟨b, 3, none⟩ (.int .i64 r.ses)).setCell ⟨b, 4, none⟩ (.int .i64 r.tty)).setCell ⟨b, 5, none⟩ (.bool r.df)) b r := by
  obtain ⟨h0, h1, h2, h3, h4, h5, k0, k1, k2, k3, k4, k5⟩ := h
  constructor <;> simp [go_sem, *]

theorem PBox.stay_put {S : Nat → Prop} {w w1 : World} {b : Nat} (h : Stay S w w1) (hb : w.heap.size ≤ b) (v0 v1 v2 v3 v4 v5 : Value) : Stay S w ((((((w1.setCell ⟨b, 0, none⟩ v0).setCell ⟨b, 1, none⟩ v1).setCell ⟨b, 2, none⟩ v2).setCell ⟨b, 3, none⟩ v3).setCell ⟨b, 4, none⟩ v4).setCell ⟨b, 5, none⟩ v5) :=
  ((((((h.setNew hb v0).setNew hb v1).setNew hb v2).setNew hb v3).setNew hb v4).setNew hb v5)

theorem PBox.put0 {w : World} {b : Nat} {r : Pr} (h : PBox w b r) {x : Int} {q : Pr} (hq : q = ⟨x, r.par, r.grp, r.ses, r.tty, r.df⟩) : PBox (w.setCell ⟨b, 0, none⟩ (.int .i64 x)) b q := by
  subst hq
  obtain ⟨h0, h1, h2, h3, h4, h5, k0, k1, k2, k3, k4, k5⟩ := h
  constructor <;> simp [go_sem, *]

theorem PBox.put1 {w : World} {b : Nat} {r : Pr} (h : PBox w b r) {x : Int} {q : Pr} (hq : q = ⟨r.pid, x, r.grp, r.ses, r.tty, r.df⟩) : PBox (w.setCell ⟨b, 1, none⟩ (.int .i64 x)) b q := by
  subst hq
  obtain ⟨h0, h1, h2, h3, h4, h5, k0, k1, k2, k3, k4, k5⟩ := h
  constructor <;> simp [go_sem, *]

theorem PBox.put2 {w : World} {b : Nat} {r : Pr} (h : PBox w b r) {x : Int} {q : Pr} (hq : q = ⟨r.pid, r.par, x, r.ses, r.tty, r.df⟩) : PBox (w.setCell ⟨b, 2, none⟩ (.int .i64 x)) b q := by
  subst hq
  obtain ⟨h0, h1, h2, h3, h4, h5, k0, k1, k2, k3, k4, k5⟩ := h
  constructor <;> simp [go_sem, *]

theorem PBox.put3 {w : World} {b : Nat} {r : Pr} (h : PBox w b r) {x : Int} {q : Pr} (hq : q = ⟨r.pid, r.par, r.grp, x, r.tty, r.df⟩) : PBox (w.setCell ⟨b, 3, none⟩ (.int .i64 x)) b q := by
  subst hq
  obtain ⟨h0, h1, h2, h3, h4, h5, k0, k1, k2, k3, k4, k5⟩ := h
  constructor <;> simp [go_sem, *]

theorem PBox.put4 {w : World} {b : Nat} {r : Pr} (h : PBox w b r) {x : Int} {q : Pr} (hq : q = ⟨r.pid, r.par, r.grp, r.ses, x, r.df⟩) : PBox (w.setCell ⟨b, 4, none⟩ (.int .i64 x)) b q := by
  subst hq
  obtain ⟨h0, h1, h2, h3, h4, h5, k0, k1, k2, k3, k4, k5⟩ := h
  constructor <;> simp [go_sem, *]

theorem PBox.put5 {w : World} {b : Nat} {r : Pr} (h : PBox w b r) {x : Bool} {q : Pr} (hq : q = ⟨r.pid, r.par, r.grp, r.ses, r.tty, x⟩) : PBox (w.setCell ⟨b, 5, none⟩ (.bool x)) b q := by
  subst hq
  obtain ⟨h0, h1, h2, h3, h4, h5, k0, k1, k2, k3, k4, k5⟩ := h
  constructor <;> simp [go_sem, *]

theorem PBox.other {w : World} {b b' o : Nat} {r : Pr} {v : Value} (h : PBox w b r) (hb : b' ≠ b) : PBox (w.setCell ⟨b', o, none⟩ v) b r :=
  h.stay (T := fun k => k = b') ((Stay.refl (fun k => k = b') w).setCell (S := fun k => k = b') (p := ⟨b', o, none⟩) rfl v) (fun e => hb e.symm)

theorem run_load_PBox {a : Act} {o : Oper} {x : Operand} {w : World} {b : Nat} {r : Pr} (ho : o.op = .load 40 x) (hx : a.eval x = .pointer (some ⟨b, 0, none⟩)) (hb : PBox w b r) :
    (execOp a.eval o).run Try.prog w = .ok (.value (.agg #[.int .i64 r.pid, .int .i64 r.par, .int .i64 r.grp, .int .i64 r.ses, .int .i64 r.tty, .bool r.df])) w := by
  unfold execOp
  simp only [ho, hx, Instr.loadAt, Instr.sureAddr, Sem.run_bind, Sem.run_pure, Result.andThen_ok]
  rw [run_loadVar_cells w b 0 40 _ _ hb.cells Try.underlying40 rfl (by kernel_rfl)]
  rfl

/-- One in the midst of a block. -/
structure PBoxAt (w : World) (g o : Nat) (r : Pr) : Prop where
  c0 : w.cell? ⟨g, o, none⟩ = some (.int .i64 r.pid)
  c1 : w.cell? ⟨g, o + 1, none⟩ = some (.int .i64 r.par)
  c2 : w.cell? ⟨g, o + 2, none⟩ = some (.int .i64 r.grp)
  c3 : w.cell? ⟨g, o + 3, none⟩ = some (.int .i64 r.ses)
  c4 : w.cell? ⟨g, o + 4, none⟩ = some (.int .i64 r.tty)
  c5 : w.cell? ⟨g, o + 5, none⟩ = some (.bool r.df)

theorem PBoxAt.keep {W w1 : World} {g o : Nat} {r : Pr} (h : PBoxAt W g o r) (hs : Stay (fun _ => False) W w1) : PBoxAt w1 g o r := ⟨keep_cell hs h.c0, keep_cell hs h.c1, keep_cell hs h.c2, keep_cell hs h.c3, keep_cell hs h.c4, keep_cell hs h.c5⟩

theorem PBoxAt.cells {w : World} {g o : Nat} {r : Pr} (h : PBoxAt w g o r) : ∀ (j : Nat) (v : Value), [Value.int .i64 r.pid, .int .i64 r.par, .int .i64 r.grp, .int .i64 r.ses, .int .i64 r.tty, .bool r.df][j]? = some v → w.cell? ⟨g, o + j, none⟩ = some v := by
  intro j v hj
  match j, hj with
  | 0, hj => cases hj; exact h.c0
  | 1, hj => cases hj; exact h.c1
  | 2, hj => cases hj; exact h.c2
  | 3, hj => cases hj; exact h.c3
  | 4, hj => cases hj; exact h.c4
  | 5, hj => cases hj; exact h.c5

theorem run_load_PBoxAt {a : Act} {p : Oper} {x : Operand} {w : World} {g o : Nat} {r : Pr} (ho : p.op = .load 40 x) (hx : a.eval x = .pointer (some ⟨g, o, none⟩)) (hb : PBoxAt w g o r) :
    (execOp a.eval p).run Try.prog w = .ok (.value (.agg #[.int .i64 r.pid, .int .i64 r.par, .int .i64 r.grp, .int .i64 r.ses, .int .i64 r.tty, .bool r.df])) w := by
  unfold execOp
  simp only [ho, hx, Instr.loadAt, Instr.sureAddr, Sem.run_bind, Sem.run_pure, Result.andThen_ok]
  rw [run_loadVar_cells w g o 40 _ _ hb.cells Try.underlying40 rfl (by kernel_rfl)]
  rfl


/-- Tb, as a value. -/
structure Tb where
  v : Value
  md : Int
  fm : Value

theorem Tb.same {a0 a1 a2 : _} {r : Tb} (h : r.v = a0 ∧ r.md = a1 ∧ r.fm = a2) : r = ⟨a0, a1, a2⟩ := by
  obtain ⟨rfl, rfl, rfl⟩ := h
  rfl

theorem Tb.ret {a b : Tb} (h : a = b) : Ending.returned (.agg #[a.v, .int .i64 a.md, a.fm]) = .returned (.agg #[b.v, .int .i64 b.md, b.fm]) := by rw [h]

/-- A box that holds a Tb. -/
structure TBox (w : World) (b : Nat) (r : Tb) : Prop where
  c0 : w.cell? ⟨b, 0, none⟩ = some (r.v)
  c1 : w.cell? ⟨b, 1, none⟩ = some (.int .i64 r.md)
  c2 : w.cell? ⟨b, 2, none⟩ = some (r.fm)
  f0 : w.frozen? ⟨b, 0, none⟩ = false
  f1 : w.frozen? ⟨b, 1, none⟩ = false
  f2 : w.frozen? ⟨b, 2, none⟩ = false

theorem TBox.lt {w : World} {b : Nat} {r : Tb} (h : TBox w b r) : b < w.heap.size := World.block_lt_of_cell? _ _ h.c0

theorem TBox.stay {T : Nat → Prop} {W w1 : World} {b : Nat} {r : Tb} (h : TBox W b r) (hs : Stay T W w1) (hn : ¬ T b) : TBox w1 b r := by
  have hb : b < W.heap.size := h.lt
  have c : ∀ o, w1.cell? ⟨b, o, none⟩ = W.cell? ⟨b, o, none⟩ := fun o => hs.cell (p := ⟨b, o, none⟩) hb hn
  have f : ∀ o, w1.frozen? ⟨b, o, none⟩ = W.frozen? ⟨b, o, none⟩ := fun o => hs.frozen (p := ⟨b, o, none⟩) hb hn
  exact ⟨(c 0).trans h.c0, (c 1).trans h.c1, (c 2).trans h.c2, (f 0).trans h.f0, (f 1).trans h.f1, (f 2).trans h.f2⟩

theorem TBox.keep {W w1 : World} {b : Nat} {r : Tb} (h : TBox W b r) (hs : Stay (fun _ => False) W w1) : TBox w1 b r := h.stay hs (fun h => h)

theorem TBox.alloc {w : World} {b : Nat} {r : Tb} (h : TBox w b r) (o : Obj) : TBox (w.alloc o) b r := h.keep ((Stay.refl _ _).alloc o)

theorem TBox.new {w : World} {b : Nat} (r : Tb) (h : w.heap.size = b) : TBox (w.alloc (.cells #[r.v, .int .i64 r.md, r.fm] 64)) b r := by
  subst h
  constructor <;> simp

theorem TBox.cells {w : World} {b : Nat} {r : Tb} (h : TBox w b r) : ∀ (j : Nat) (v : Value), [r.v, .int .i64 r.md, r.fm][j]? = some v → w.cell? ⟨b, 0 + j, none⟩ = some v := by
  intro j v hj
  match j, hj with
  | 0, hj => cases hj; exact h.c0
  | 1, hj => cases hj; exact h.c1
  | 2, hj => cases hj; exact h.c2

theorem results_TBox {fn : Func} {p : Tmp} (h : fn.results = #[.cell p 64]) (tmps : Array Value) (w : World) (g : Nat) (r : Tb) (hp : tmps.getD p undef = .pointer (some ⟨g, 0, none⟩)) (hb : TBox w g r) :
    (results fn tmps).run Try.prog w = .ok (.agg #[r.v, .int .i64 r.md, r.fm]) w := results_cells h tmps w g 0 _ _ hp hb.cells Try.underlying64 rfl (by kernel_rfl)

/-- What a struct is behind a call, and nothing that was there has turned. -/
theorem TBox.ends {w W : World} {fn : Func} {p : Tmp} (h : fn.results = #[.cell p 64]) {tmps : Array Value} {r q : Tb} {g : Nat} (hp : tmps.getD p undef = .pointer (some ⟨g, 0, none⟩)) (hb : TBox W g r) (hq : r = q) (hs : Stay (fun _ => False) w W)
    {d : List Deferred} (hd : d = []) : bodyPost Try.prog fn (Gives (.agg #[q.v, .int .i64 q.md, q.fm]) w) Exit.ret { tmps := tmps, defers := d } W := by
  subst hq hd
  exact bodyPost_ret (results_TBox h _ _ _ r hp hb) rfl ⟨rfl, hs⟩

/-- The world in which a box holds another one. -/
theorem TBox.put {w : World} {b : Nat} {r0 : Tb} (h : TBox w b r0) (r : Tb) : TBox (((w.setCell ⟨b, 0, none⟩ (r.v)).setCell ⟨b, 1, none⟩ (.int .i64 r.md)).setCell ⟨b, 2, none⟩ (r.fm)) b r := by
  obtain ⟨h0, h1, h2, k0, k1, k2⟩ := h
  constructor <;> simp [go_sem, *]

theorem TBox.stay_put {S : Nat → Prop} {w w1 : World} {b : Nat} (h : Stay S w w1) (hb : w.heap.size ≤ b) (v0 v1 v2 : Value) : Stay S w (((w1.setCell ⟨b, 0, none⟩ v0).setCell ⟨b, 1, none⟩ v1).setCell ⟨b, 2, none⟩ v2) :=
  (((h.setNew hb v0).setNew hb v1).setNew hb v2)

theorem TBox.put0 {w : World} {b : Nat} {r : Tb} (h : TBox w b r) {x : Value} {q : Tb} (hq : q = ⟨x, r.md, r.fm⟩) : TBox (w.setCell ⟨b, 0, none⟩ (x)) b q := by
  subst hq
  obtain ⟨h0, h1, h2, k0, k1, k2⟩ := h
  constructor <;> simp [go_sem, *]

theorem TBox.put1 {w : World} {b : Nat} {r : Tb} (h : TBox w b r) {x : Int} {q : Tb} (hq : q = ⟨r.v, x, r.fm⟩) : TBox (w.setCell ⟨b, 1, none⟩ (.int .i64 x)) b q := by
  subst hq
  obtain ⟨h0, h1, h2, k0, k1, k2⟩ := h
  constructor <;> simp [go_sem, *]

theorem TBox.put2 {w : World} {b : Nat} {r : Tb} (h : TBox w b r) {x : Value} {q : Tb} (hq : q = ⟨r.v, r.md, x⟩) : TBox (w.setCell ⟨b, 2, none⟩ (x)) b q := by
  subst hq
  obtain ⟨h0, h1, h2, k0, k1, k2⟩ := h
  constructor <;> simp [go_sem, *]

theorem TBox.other {w : World} {b b' o : Nat} {r : Tb} {v : Value} (h : TBox w b r) (hb : b' ≠ b) : TBox (w.setCell ⟨b', o, none⟩ v) b r :=
  h.stay (T := fun k => k = b') ((Stay.refl (fun k => k = b') w).setCell (S := fun k => k = b') (p := ⟨b', o, none⟩) rfl v) (fun e => hb e.symm)

theorem run_load_TBox {a : Act} {o : Oper} {x : Operand} {w : World} {b : Nat} {r : Tb} (ho : o.op = .load 64 x) (hx : a.eval x = .pointer (some ⟨b, 0, none⟩)) (hb : TBox w b r) :
    (execOp a.eval o).run Try.prog w = .ok (.value (.agg #[r.v, .int .i64 r.md, r.fm])) w := by
  unfold execOp
  simp only [ho, hx, Instr.loadAt, Instr.sureAddr, Sem.run_bind, Sem.run_pure, Result.andThen_ok]
  rw [run_loadVar_cells w b 0 64 _ _ hb.cells Try.underlying64 rfl (by kernel_rfl)]
  rfl

/-- One in the midst of a block. -/
structure TBoxAt (w : World) (g o : Nat) (r : Tb) : Prop where
  c0 : w.cell? ⟨g, o, none⟩ = some (r.v)
  c1 : w.cell? ⟨g, o + 1, none⟩ = some (.int .i64 r.md)
  c2 : w.cell? ⟨g, o + 2, none⟩ = some (r.fm)

theorem TBoxAt.keep {W w1 : World} {g o : Nat} {r : Tb} (h : TBoxAt W g o r) (hs : Stay (fun _ => False) W w1) : TBoxAt w1 g o r := ⟨keep_cell hs h.c0, keep_cell hs h.c1, keep_cell hs h.c2⟩

theorem TBoxAt.cells {w : World} {g o : Nat} {r : Tb} (h : TBoxAt w g o r) : ∀ (j : Nat) (v : Value), [r.v, .int .i64 r.md, r.fm][j]? = some v → w.cell? ⟨g, o + j, none⟩ = some v := by
  intro j v hj
  match j, hj with
  | 0, hj => cases hj; exact h.c0
  | 1, hj => cases hj; exact h.c1
  | 2, hj => cases hj; exact h.c2

theorem run_load_TBoxAt {a : Act} {p : Oper} {x : Operand} {w : World} {g o : Nat} {r : Tb} (ho : p.op = .load 64 x) (hx : a.eval x = .pointer (some ⟨g, o, none⟩)) (hb : TBoxAt w g o r) :
    (execOp a.eval p).run Try.prog w = .ok (.value (.agg #[r.v, .int .i64 r.md, r.fm])) w := by
  unfold execOp
  simp only [ho, hx, Instr.loadAt, Instr.sureAddr, Sem.run_bind, Sem.run_pure, Result.andThen_ok]
  rw [run_loadVar_cells w g o 64 _ _ hb.cells Try.underlying64 rfl (by kernel_rfl)]
  rfl


/-- Xs, as a value. -/
structure Xs where
  l : Value
  nx : Int
  fr : Value

theorem Xs.same {a0 a1 a2 : _} {r : Xs} (h : r.l = a0 ∧ r.nx = a1 ∧ r.fr = a2) : r = ⟨a0, a1, a2⟩ := by
  obtain ⟨rfl, rfl, rfl⟩ := h
  rfl

theorem Xs.ret {a b : Xs} (h : a = b) : Ending.returned (.agg #[a.l, .int .i64 a.nx, a.fr]) = .returned (.agg #[b.l, .int .i64 b.nx, b.fr]) := by rw [h]

/-- A box that holds a Xs. -/
structure XBox (w : World) (b : Nat) (r : Xs) : Prop where
  c0 : w.cell? ⟨b, 0, none⟩ = some (r.l)
  c1 : w.cell? ⟨b, 1, none⟩ = some (.int .i64 r.nx)
  c2 : w.cell? ⟨b, 2, none⟩ = some (r.fr)
  f0 : w.frozen? ⟨b, 0, none⟩ = false
  f1 : w.frozen? ⟨b, 1, none⟩ = false
  f2 : w.frozen? ⟨b, 2, none⟩ = false

theorem XBox.lt {w : World} {b : Nat} {r : Xs} (h : XBox w b r) : b < w.heap.size := World.block_lt_of_cell? _ _ h.c0

theorem XBox.stay {T : Nat → Prop} {W w1 : World} {b : Nat} {r : Xs} (h : XBox W b r) (hs : Stay T W w1) (hn : ¬ T b) : XBox w1 b r := by
  have hb : b < W.heap.size := h.lt
  have c : ∀ o, w1.cell? ⟨b, o, none⟩ = W.cell? ⟨b, o, none⟩ := fun o => hs.cell (p := ⟨b, o, none⟩) hb hn
  have f : ∀ o, w1.frozen? ⟨b, o, none⟩ = W.frozen? ⟨b, o, none⟩ := fun o => hs.frozen (p := ⟨b, o, none⟩) hb hn
  exact ⟨(c 0).trans h.c0, (c 1).trans h.c1, (c 2).trans h.c2, (f 0).trans h.f0, (f 1).trans h.f1, (f 2).trans h.f2⟩

theorem XBox.keep {W w1 : World} {b : Nat} {r : Xs} (h : XBox W b r) (hs : Stay (fun _ => False) W w1) : XBox w1 b r := h.stay hs (fun h => h)

theorem XBox.alloc {w : World} {b : Nat} {r : Xs} (h : XBox w b r) (o : Obj) : XBox (w.alloc o) b r := h.keep ((Stay.refl _ _).alloc o)

theorem XBox.new {w : World} {b : Nat} (r : Xs) (h : w.heap.size = b) : XBox (w.alloc (.cells #[r.l, .int .i64 r.nx, r.fr] 29)) b r := by
  subst h
  constructor <;> simp

theorem XBox.cells {w : World} {b : Nat} {r : Xs} (h : XBox w b r) : ∀ (j : Nat) (v : Value), [r.l, .int .i64 r.nx, r.fr][j]? = some v → w.cell? ⟨b, 0 + j, none⟩ = some v := by
  intro j v hj
  match j, hj with
  | 0, hj => cases hj; exact h.c0
  | 1, hj => cases hj; exact h.c1
  | 2, hj => cases hj; exact h.c2

theorem results_XBox {fn : Func} {p : Tmp} (h : fn.results = #[.cell p 29]) (tmps : Array Value) (w : World) (g : Nat) (r : Xs) (hp : tmps.getD p undef = .pointer (some ⟨g, 0, none⟩)) (hb : XBox w g r) :
    (results fn tmps).run Try.prog w = .ok (.agg #[r.l, .int .i64 r.nx, r.fr]) w := results_cells h tmps w g 0 _ _ hp hb.cells Try.underlying29 rfl (by kernel_rfl)

/-- What a struct is behind a call, and nothing that was there has turned. -/
theorem XBox.ends {w W : World} {fn : Func} {p : Tmp} (h : fn.results = #[.cell p 29]) {tmps : Array Value} {r q : Xs} {g : Nat} (hp : tmps.getD p undef = .pointer (some ⟨g, 0, none⟩)) (hb : XBox W g r) (hq : r = q) (hs : Stay (fun _ => False) w W)
    {d : List Deferred} (hd : d = []) : bodyPost Try.prog fn (Gives (.agg #[q.l, .int .i64 q.nx, q.fr]) w) Exit.ret { tmps := tmps, defers := d } W := by
  subst hq hd
  exact bodyPost_ret (results_XBox h _ _ _ r hp hb) rfl ⟨rfl, hs⟩

/-- The world in which a box holds another one. -/
theorem XBox.put {w : World} {b : Nat} {r0 : Xs} (h : XBox w b r0) (r : Xs) : XBox (((w.setCell ⟨b, 0, none⟩ (r.l)).setCell ⟨b, 1, none⟩ (.int .i64 r.nx)).setCell ⟨b, 2, none⟩ (r.fr)) b r := by
  obtain ⟨h0, h1, h2, k0, k1, k2⟩ := h
  constructor <;> simp [go_sem, *]

theorem XBox.stay_put {S : Nat → Prop} {w w1 : World} {b : Nat} (h : Stay S w w1) (hb : w.heap.size ≤ b) (v0 v1 v2 : Value) : Stay S w (((w1.setCell ⟨b, 0, none⟩ v0).setCell ⟨b, 1, none⟩ v1).setCell ⟨b, 2, none⟩ v2) :=
  (((h.setNew hb v0).setNew hb v1).setNew hb v2)

theorem XBox.put0 {w : World} {b : Nat} {r : Xs} (h : XBox w b r) {x : Value} {q : Xs} (hq : q = ⟨x, r.nx, r.fr⟩) : XBox (w.setCell ⟨b, 0, none⟩ (x)) b q := by
  subst hq
  obtain ⟨h0, h1, h2, k0, k1, k2⟩ := h
  constructor <;> simp [go_sem, *]

theorem XBox.put1 {w : World} {b : Nat} {r : Xs} (h : XBox w b r) {x : Int} {q : Xs} (hq : q = ⟨r.l, x, r.fr⟩) : XBox (w.setCell ⟨b, 1, none⟩ (.int .i64 x)) b q := by
  subst hq
  obtain ⟨h0, h1, h2, k0, k1, k2⟩ := h
  constructor <;> simp [go_sem, *]

theorem XBox.put2 {w : World} {b : Nat} {r : Xs} (h : XBox w b r) {x : Value} {q : Xs} (hq : q = ⟨r.l, r.nx, x⟩) : XBox (w.setCell ⟨b, 2, none⟩ (x)) b q := by
  subst hq
  obtain ⟨h0, h1, h2, k0, k1, k2⟩ := h
  constructor <;> simp [go_sem, *]

theorem XBox.other {w : World} {b b' o : Nat} {r : Xs} {v : Value} (h : XBox w b r) (hb : b' ≠ b) : XBox (w.setCell ⟨b', o, none⟩ v) b r :=
  h.stay (T := fun k => k = b') ((Stay.refl (fun k => k = b') w).setCell (S := fun k => k = b') (p := ⟨b', o, none⟩) rfl v) (fun e => hb e.symm)

theorem run_load_XBox {a : Act} {o : Oper} {x : Operand} {w : World} {b : Nat} {r : Xs} (ho : o.op = .load 29 x) (hx : a.eval x = .pointer (some ⟨b, 0, none⟩)) (hb : XBox w b r) :
    (execOp a.eval o).run Try.prog w = .ok (.value (.agg #[r.l, .int .i64 r.nx, r.fr])) w := by
  unfold execOp
  simp only [ho, hx, Instr.loadAt, Instr.sureAddr, Sem.run_bind, Sem.run_pure, Result.andThen_ok]
  rw [run_loadVar_cells w b 0 29 _ _ hb.cells Try.underlying29 rfl (by kernel_rfl)]
  rfl

/-- One in the midst of a block. -/
structure XBoxAt (w : World) (g o : Nat) (r : Xs) : Prop where
  c0 : w.cell? ⟨g, o, none⟩ = some (r.l)
  c1 : w.cell? ⟨g, o + 1, none⟩ = some (.int .i64 r.nx)
  c2 : w.cell? ⟨g, o + 2, none⟩ = some (r.fr)

theorem XBoxAt.keep {W w1 : World} {g o : Nat} {r : Xs} (h : XBoxAt W g o r) (hs : Stay (fun _ => False) W w1) : XBoxAt w1 g o r := ⟨keep_cell hs h.c0, keep_cell hs h.c1, keep_cell hs h.c2⟩

theorem XBoxAt.cells {w : World} {g o : Nat} {r : Xs} (h : XBoxAt w g o r) : ∀ (j : Nat) (v : Value), [r.l, .int .i64 r.nx, r.fr][j]? = some v → w.cell? ⟨g, o + j, none⟩ = some v := by
  intro j v hj
  match j, hj with
  | 0, hj => cases hj; exact h.c0
  | 1, hj => cases hj; exact h.c1
  | 2, hj => cases hj; exact h.c2

theorem run_load_XBoxAt {a : Act} {p : Oper} {x : Operand} {w : World} {g o : Nat} {r : Xs} (ho : p.op = .load 29 x) (hx : a.eval x = .pointer (some ⟨g, o, none⟩)) (hb : XBoxAt w g o r) :
    (execOp a.eval p).run Try.prog w = .ok (.value (.agg #[r.l, .int .i64 r.nx, r.fr])) w := by
  unfold execOp
  simp only [ho, hx, Instr.loadAt, Instr.sureAddr, Sem.run_bind, Sem.run_pure, Result.andThen_ok]
  rw [run_loadVar_cells w g o 29 _ _ hb.cells Try.underlying29 rfl (by kernel_rfl)]
  rfl


/-- Ac, as a value. -/
structure Ac where
  dn : Int
  pid : Int
  who : Int
  grp : Int
  tty : Int
  df : Bool

theorem Ac.same {a0 a1 a2 a3 a4 a5 : _} {r : Ac} (h : r.dn = a0 ∧ r.pid = a1 ∧ r.who = a2 ∧ r.grp = a3 ∧ r.tty = a4 ∧ r.df = a5) : r = ⟨a0, a1, a2, a3, a4, a5⟩ := by
  obtain ⟨rfl, rfl, rfl, rfl, rfl, rfl⟩ := h
  rfl

theorem Ac.ret {a b : Ac} (h : a = b) : Ending.returned (.agg #[.int .i64 a.dn, .int .i64 a.pid, .int .i64 a.who, .int .i64 a.grp, .int .i64 a.tty, .bool a.df]) = .returned (.agg #[.int .i64 b.dn, .int .i64 b.pid, .int .i64 b.who, .int .i64 b.grp, .int .i64 b.tty, .bool b.df]) := by rw [h]

/-- A box that holds a Ac. -/
structure ABox (w : World) (b : Nat) (r : Ac) : Prop where
  c0 : w.cell? ⟨b, 0, none⟩ = some (.int .i64 r.dn)
  c1 : w.cell? ⟨b, 1, none⟩ = some (.int .i64 r.pid)
  c2 : w.cell? ⟨b, 2, none⟩ = some (.int .i64 r.who)
  c3 : w.cell? ⟨b, 3, none⟩ = some (.int .i64 r.grp)
  c4 : w.cell? ⟨b, 4, none⟩ = some (.int .i64 r.tty)
  c5 : w.cell? ⟨b, 5, none⟩ = some (.bool r.df)
  f0 : w.frozen? ⟨b, 0, none⟩ = false
  f1 : w.frozen? ⟨b, 1, none⟩ = false
  f2 : w.frozen? ⟨b, 2, none⟩ = false
  f3 : w.frozen? ⟨b, 3, none⟩ = false
  f4 : w.frozen? ⟨b, 4, none⟩ = false
  f5 : w.frozen? ⟨b, 5, none⟩ = false

theorem ABox.lt {w : World} {b : Nat} {r : Ac} (h : ABox w b r) : b < w.heap.size := World.block_lt_of_cell? _ _ h.c0

theorem ABox.stay {T : Nat → Prop} {W w1 : World} {b : Nat} {r : Ac} (h : ABox W b r) (hs : Stay T W w1) (hn : ¬ T b) : ABox w1 b r := by
  have hb : b < W.heap.size := h.lt
  have c : ∀ o, w1.cell? ⟨b, o, none⟩ = W.cell? ⟨b, o, none⟩ := fun o => hs.cell (p := ⟨b, o, none⟩) hb hn
  have f : ∀ o, w1.frozen? ⟨b, o, none⟩ = W.frozen? ⟨b, o, none⟩ := fun o => hs.frozen (p := ⟨b, o, none⟩) hb hn
  exact ⟨(c 0).trans h.c0, (c 1).trans h.c1, (c 2).trans h.c2, (c 3).trans h.c3, (c 4).trans h.c4, (c 5).trans h.c5, (f 0).trans h.f0, (f 1).trans h.f1, (f 2).trans h.f2, (f 3).trans h.f3, (f 4).trans h.f4, (f 5).trans h.f5⟩

theorem ABox.keep {W w1 : World} {b : Nat} {r : Ac} (h : ABox W b r) (hs : Stay (fun _ => False) W w1) : ABox w1 b r := h.stay hs (fun h => h)

theorem ABox.alloc {w : World} {b : Nat} {r : Ac} (h : ABox w b r) (o : Obj) : ABox (w.alloc o) b r := h.keep ((Stay.refl _ _).alloc o)

theorem ABox.new {w : World} {b : Nat} (r : Ac) (h : w.heap.size = b) : ABox (w.alloc (.cells #[.int .i64 r.dn, .int .i64 r.pid, .int .i64 r.who, .int .i64 r.grp, .int .i64 r.tty, .bool r.df] 32)) b r := by
  subst h
  constructor <;> simp

theorem ABox.cells {w : World} {b : Nat} {r : Ac} (h : ABox w b r) : ∀ (j : Nat) (v : Value), [Value.int .i64 r.dn, .int .i64 r.pid, .int .i64 r.who, .int .i64 r.grp, .int .i64 r.tty, .bool r.df][j]? = some v → w.cell? ⟨b, 0 + j, none⟩ = some v := by
  intro j v hj
  match j, hj with
  | 0, hj => cases hj; exact h.c0
  | 1, hj => cases hj; exact h.c1
  | 2, hj => cases hj; exact h.c2
  | 3, hj => cases hj; exact h.c3
  | 4, hj => cases hj; exact h.c4
  | 5, hj => cases hj; exact h.c5

theorem results_ABox {fn : Func} {p : Tmp} (h : fn.results = #[.cell p 32]) (tmps : Array Value) (w : World) (g : Nat) (r : Ac) (hp : tmps.getD p undef = .pointer (some ⟨g, 0, none⟩)) (hb : ABox w g r) :
    (results fn tmps).run Try.prog w = .ok (.agg #[.int .i64 r.dn, .int .i64 r.pid, .int .i64 r.who, .int .i64 r.grp, .int .i64 r.tty, .bool r.df]) w := results_cells h tmps w g 0 _ _ hp hb.cells Try.underlying32 rfl (by kernel_rfl)

/-- What a struct is behind a call, and nothing that was there has turned. -/
theorem ABox.ends {w W : World} {fn : Func} {p : Tmp} (h : fn.results = #[.cell p 32]) {tmps : Array Value} {r q : Ac} {g : Nat} (hp : tmps.getD p undef = .pointer (some ⟨g, 0, none⟩)) (hb : ABox W g r) (hq : r = q) (hs : Stay (fun _ => False) w W)
    {d : List Deferred} (hd : d = []) : bodyPost Try.prog fn (Gives (.agg #[.int .i64 q.dn, .int .i64 q.pid, .int .i64 q.who, .int .i64 q.grp, .int .i64 q.tty, .bool q.df]) w) Exit.ret { tmps := tmps, defers := d } W := by
  subst hq hd
  exact bodyPost_ret (results_ABox h _ _ _ r hp hb) rfl ⟨rfl, hs⟩

/-- The world in which a box holds another one. -/
theorem ABox.put {w : World} {b : Nat} {r0 : Ac} (h : ABox w b r0) (r : Ac) : ABox ((((((w.setCell ⟨b, 0, none⟩ (.int .i64 r.dn)).setCell ⟨b, 1, none⟩ (.int .i64 r.pid)).setCell ⟨b, 2, none⟩ (.int .i64 r.who)).setCell ⟨b, 3, none⟩ (.int .i64 r.grp)).setCell ⟨b, 4, none⟩ (.int .i64 r.tty)).setCell ⟨b, 5, none⟩ (.bool r.df)) b r := by
  obtain ⟨h0, h1, h2, h3, h4, h5, k0, k1, k2, k3, k4, k5⟩ := h
  constructor <;> simp [go_sem, *]

theorem ABox.stay_put {S : Nat → Prop} {w w1 : World} {b : Nat} (h : Stay S w w1) (hb : w.heap.size ≤ b) (v0 v1 v2 v3 v4 v5 : Value) : Stay S w ((((((w1.setCell ⟨b, 0, none⟩ v0).setCell ⟨b, 1, none⟩ v1).setCell ⟨b, 2, none⟩ v2).setCell ⟨b, 3, none⟩ v3).setCell ⟨b, 4, none⟩ v4).setCell ⟨b, 5, none⟩ v5) :=
  ((((((h.setNew hb v0).setNew hb v1).setNew hb v2).setNew hb v3).setNew hb v4).setNew hb v5)

theorem ABox.put0 {w : World} {b : Nat} {r : Ac} (h : ABox w b r) {x : Int} {q : Ac} (hq : q = ⟨x, r.pid, r.who, r.grp, r.tty, r.df⟩) : ABox (w.setCell ⟨b, 0, none⟩ (.int .i64 x)) b q := by
  subst hq
  obtain ⟨h0, h1, h2, h3, h4, h5, k0, k1, k2, k3, k4, k5⟩ := h
  constructor <;> simp [go_sem, *]

theorem ABox.put1 {w : World} {b : Nat} {r : Ac} (h : ABox w b r) {x : Int} {q : Ac} (hq : q = ⟨r.dn, x, r.who, r.grp, r.tty, r.df⟩) : ABox (w.setCell ⟨b, 1, none⟩ (.int .i64 x)) b q := by
  subst hq
  obtain ⟨h0, h1, h2, h3, h4, h5, k0, k1, k2, k3, k4, k5⟩ := h
  constructor <;> simp [go_sem, *]

theorem ABox.put2 {w : World} {b : Nat} {r : Ac} (h : ABox w b r) {x : Int} {q : Ac} (hq : q = ⟨r.dn, r.pid, x, r.grp, r.tty, r.df⟩) : ABox (w.setCell ⟨b, 2, none⟩ (.int .i64 x)) b q := by
  subst hq
  obtain ⟨h0, h1, h2, h3, h4, h5, k0, k1, k2, k3, k4, k5⟩ := h
  constructor <;> simp [go_sem, *]

theorem ABox.put3 {w : World} {b : Nat} {r : Ac} (h : ABox w b r) {x : Int} {q : Ac} (hq : q = ⟨r.dn, r.pid, r.who, x, r.tty, r.df⟩) : ABox (w.setCell ⟨b, 3, none⟩ (.int .i64 x)) b q := by
  subst hq
  obtain ⟨h0, h1, h2, h3, h4, h5, k0, k1, k2, k3, k4, k5⟩ := h
  constructor <;> simp [go_sem, *]

theorem ABox.put4 {w : World} {b : Nat} {r : Ac} (h : ABox w b r) {x : Int} {q : Ac} (hq : q = ⟨r.dn, r.pid, r.who, r.grp, x, r.df⟩) : ABox (w.setCell ⟨b, 4, none⟩ (.int .i64 x)) b q := by
  subst hq
  obtain ⟨h0, h1, h2, h3, h4, h5, k0, k1, k2, k3, k4, k5⟩ := h
  constructor <;> simp [go_sem, *]

theorem ABox.put5 {w : World} {b : Nat} {r : Ac} (h : ABox w b r) {x : Bool} {q : Ac} (hq : q = ⟨r.dn, r.pid, r.who, r.grp, r.tty, x⟩) : ABox (w.setCell ⟨b, 5, none⟩ (.bool x)) b q := by
  subst hq
  obtain ⟨h0, h1, h2, h3, h4, h5, k0, k1, k2, k3, k4, k5⟩ := h
  constructor <;> simp [go_sem, *]

theorem ABox.other {w : World} {b b' o : Nat} {r : Ac} {v : Value} (h : ABox w b r) (hb : b' ≠ b) : ABox (w.setCell ⟨b', o, none⟩ v) b r :=
  h.stay (T := fun k => k = b') ((Stay.refl (fun k => k = b') w).setCell (S := fun k => k = b') (p := ⟨b', o, none⟩) rfl v) (fun e => hb e.symm)

theorem run_load_ABox {a : Act} {o : Oper} {x : Operand} {w : World} {b : Nat} {r : Ac} (ho : o.op = .load 32 x) (hx : a.eval x = .pointer (some ⟨b, 0, none⟩)) (hb : ABox w b r) :
    (execOp a.eval o).run Try.prog w = .ok (.value (.agg #[.int .i64 r.dn, .int .i64 r.pid, .int .i64 r.who, .int .i64 r.grp, .int .i64 r.tty, .bool r.df])) w := by
  unfold execOp
  simp only [ho, hx, Instr.loadAt, Instr.sureAddr, Sem.run_bind, Sem.run_pure, Result.andThen_ok]
  rw [run_loadVar_cells w b 0 32 _ _ hb.cells Try.underlying32 rfl (by kernel_rfl)]
  rfl

/-- One in the midst of a block. -/
structure ABoxAt (w : World) (g o : Nat) (r : Ac) : Prop where
  c0 : w.cell? ⟨g, o, none⟩ = some (.int .i64 r.dn)
  c1 : w.cell? ⟨g, o + 1, none⟩ = some (.int .i64 r.pid)
  c2 : w.cell? ⟨g, o + 2, none⟩ = some (.int .i64 r.who)
  c3 : w.cell? ⟨g, o + 3, none⟩ = some (.int .i64 r.grp)
  c4 : w.cell? ⟨g, o + 4, none⟩ = some (.int .i64 r.tty)
  c5 : w.cell? ⟨g, o + 5, none⟩ = some (.bool r.df)

theorem ABoxAt.keep {W w1 : World} {g o : Nat} {r : Ac} (h : ABoxAt W g o r) (hs : Stay (fun _ => False) W w1) : ABoxAt w1 g o r := ⟨keep_cell hs h.c0, keep_cell hs h.c1, keep_cell hs h.c2, keep_cell hs h.c3, keep_cell hs h.c4, keep_cell hs h.c5⟩

theorem ABoxAt.cells {w : World} {g o : Nat} {r : Ac} (h : ABoxAt w g o r) : ∀ (j : Nat) (v : Value), [Value.int .i64 r.dn, .int .i64 r.pid, .int .i64 r.who, .int .i64 r.grp, .int .i64 r.tty, .bool r.df][j]? = some v → w.cell? ⟨g, o + j, none⟩ = some v := by
  intro j v hj
  match j, hj with
  | 0, hj => cases hj; exact h.c0
  | 1, hj => cases hj; exact h.c1
  | 2, hj => cases hj; exact h.c2
  | 3, hj => cases hj; exact h.c3
  | 4, hj => cases hj; exact h.c4
  | 5, hj => cases hj; exact h.c5

theorem run_load_ABoxAt {a : Act} {p : Oper} {x : Operand} {w : World} {g o : Nat} {r : Ac} (ho : p.op = .load 32 x) (hx : a.eval x = .pointer (some ⟨g, o, none⟩)) (hb : ABoxAt w g o r) :
    (execOp a.eval p).run Try.prog w = .ok (.value (.agg #[.int .i64 r.dn, .int .i64 r.pid, .int .i64 r.who, .int .i64 r.grp, .int .i64 r.tty, .bool r.df])) w := by
  unfold execOp
  simp only [ho, hx, Instr.loadAt, Instr.sureAddr, Sem.run_bind, Sem.run_pure, Result.andThen_ok]
  rw [run_loadVar_cells w g o 32 _ _ hb.cells Try.underlying32 rfl (by kernel_rfl)]
  rfl


/-- Sg, as a value. -/
structure Sg where
  grp : Int
  sig : Int

theorem Sg.same {a0 a1 : _} {r : Sg} (h : r.grp = a0 ∧ r.sig = a1) : r = ⟨a0, a1⟩ := by
  obtain ⟨rfl, rfl⟩ := h
  rfl

theorem Sg.ret {a b : Sg} (h : a = b) : Ending.returned (.agg #[.int .i64 a.grp, .int .i64 a.sig]) = .returned (.agg #[.int .i64 b.grp, .int .i64 b.sig]) := by rw [h]

/-- A box that holds a Sg. -/
structure SBox (w : World) (b : Nat) (r : Sg) : Prop where
  c0 : w.cell? ⟨b, 0, none⟩ = some (.int .i64 r.grp)
  c1 : w.cell? ⟨b, 1, none⟩ = some (.int .i64 r.sig)
  f0 : w.frozen? ⟨b, 0, none⟩ = false
  f1 : w.frozen? ⟨b, 1, none⟩ = false

theorem SBox.lt {w : World} {b : Nat} {r : Sg} (h : SBox w b r) : b < w.heap.size := World.block_lt_of_cell? _ _ h.c0

theorem SBox.stay {T : Nat → Prop} {W w1 : World} {b : Nat} {r : Sg} (h : SBox W b r) (hs : Stay T W w1) (hn : ¬ T b) : SBox w1 b r := by
  have hb : b < W.heap.size := h.lt
  have c : ∀ o, w1.cell? ⟨b, o, none⟩ = W.cell? ⟨b, o, none⟩ := fun o => hs.cell (p := ⟨b, o, none⟩) hb hn
  have f : ∀ o, w1.frozen? ⟨b, o, none⟩ = W.frozen? ⟨b, o, none⟩ := fun o => hs.frozen (p := ⟨b, o, none⟩) hb hn
  exact ⟨(c 0).trans h.c0, (c 1).trans h.c1, (f 0).trans h.f0, (f 1).trans h.f1⟩

theorem SBox.keep {W w1 : World} {b : Nat} {r : Sg} (h : SBox W b r) (hs : Stay (fun _ => False) W w1) : SBox w1 b r := h.stay hs (fun h => h)

theorem SBox.alloc {w : World} {b : Nat} {r : Sg} (h : SBox w b r) (o : Obj) : SBox (w.alloc o) b r := h.keep ((Stay.refl _ _).alloc o)

theorem SBox.new {w : World} {b : Nat} (r : Sg) (h : w.heap.size = b) : SBox (w.alloc (.cells #[.int .i64 r.grp, .int .i64 r.sig] 60)) b r := by
  subst h
  constructor <;> simp

theorem SBox.cells {w : World} {b : Nat} {r : Sg} (h : SBox w b r) : ∀ (j : Nat) (v : Value), [Value.int .i64 r.grp, .int .i64 r.sig][j]? = some v → w.cell? ⟨b, 0 + j, none⟩ = some v := by
  intro j v hj
  match j, hj with
  | 0, hj => cases hj; exact h.c0
  | 1, hj => cases hj; exact h.c1

theorem results_SBox {fn : Func} {p : Tmp} (h : fn.results = #[.cell p 60]) (tmps : Array Value) (w : World) (g : Nat) (r : Sg) (hp : tmps.getD p undef = .pointer (some ⟨g, 0, none⟩)) (hb : SBox w g r) :
    (results fn tmps).run Try.prog w = .ok (.agg #[.int .i64 r.grp, .int .i64 r.sig]) w := results_cells h tmps w g 0 _ _ hp hb.cells Try.underlying60 rfl (by kernel_rfl)

/-- What a struct is behind a call, and nothing that was there has turned. -/
theorem SBox.ends {w W : World} {fn : Func} {p : Tmp} (h : fn.results = #[.cell p 60]) {tmps : Array Value} {r q : Sg} {g : Nat} (hp : tmps.getD p undef = .pointer (some ⟨g, 0, none⟩)) (hb : SBox W g r) (hq : r = q) (hs : Stay (fun _ => False) w W)
    {d : List Deferred} (hd : d = []) : bodyPost Try.prog fn (Gives (.agg #[.int .i64 q.grp, .int .i64 q.sig]) w) Exit.ret { tmps := tmps, defers := d } W := by
  subst hq hd
  exact bodyPost_ret (results_SBox h _ _ _ r hp hb) rfl ⟨rfl, hs⟩

/-- The world in which a box holds another one. -/
theorem SBox.put {w : World} {b : Nat} {r0 : Sg} (h : SBox w b r0) (r : Sg) : SBox ((w.setCell ⟨b, 0, none⟩ (.int .i64 r.grp)).setCell ⟨b, 1, none⟩ (.int .i64 r.sig)) b r := by
  obtain ⟨h0, h1, k0, k1⟩ := h
  constructor <;> simp [go_sem, *]

theorem SBox.stay_put {S : Nat → Prop} {w w1 : World} {b : Nat} (h : Stay S w w1) (hb : w.heap.size ≤ b) (v0 v1 : Value) : Stay S w ((w1.setCell ⟨b, 0, none⟩ v0).setCell ⟨b, 1, none⟩ v1) :=
  ((h.setNew hb v0).setNew hb v1)

theorem SBox.put0 {w : World} {b : Nat} {r : Sg} (h : SBox w b r) {x : Int} {q : Sg} (hq : q = ⟨x, r.sig⟩) : SBox (w.setCell ⟨b, 0, none⟩ (.int .i64 x)) b q := by
  subst hq
  obtain ⟨h0, h1, k0, k1⟩ := h
  constructor <;> simp [go_sem, *]

theorem SBox.put1 {w : World} {b : Nat} {r : Sg} (h : SBox w b r) {x : Int} {q : Sg} (hq : q = ⟨r.grp, x⟩) : SBox (w.setCell ⟨b, 1, none⟩ (.int .i64 x)) b q := by
  subst hq
  obtain ⟨h0, h1, k0, k1⟩ := h
  constructor <;> simp [go_sem, *]

theorem SBox.other {w : World} {b b' o : Nat} {r : Sg} {v : Value} (h : SBox w b r) (hb : b' ≠ b) : SBox (w.setCell ⟨b', o, none⟩ v) b r :=
  h.stay (T := fun k => k = b') ((Stay.refl (fun k => k = b') w).setCell (S := fun k => k = b') (p := ⟨b', o, none⟩) rfl v) (fun e => hb e.symm)

theorem run_load_SBox {a : Act} {o : Oper} {x : Operand} {w : World} {b : Nat} {r : Sg} (ho : o.op = .load 60 x) (hx : a.eval x = .pointer (some ⟨b, 0, none⟩)) (hb : SBox w b r) :
    (execOp a.eval o).run Try.prog w = .ok (.value (.agg #[.int .i64 r.grp, .int .i64 r.sig])) w := by
  unfold execOp
  simp only [ho, hx, Instr.loadAt, Instr.sureAddr, Sem.run_bind, Sem.run_pure, Result.andThen_ok]
  rw [run_loadVar_cells w b 0 60 _ _ hb.cells Try.underlying60 rfl (by kernel_rfl)]
  rfl

/-- One in the midst of a block. -/
structure SBoxAt (w : World) (g o : Nat) (r : Sg) : Prop where
  c0 : w.cell? ⟨g, o, none⟩ = some (.int .i64 r.grp)
  c1 : w.cell? ⟨g, o + 1, none⟩ = some (.int .i64 r.sig)

theorem SBoxAt.keep {W w1 : World} {g o : Nat} {r : Sg} (h : SBoxAt W g o r) (hs : Stay (fun _ => False) W w1) : SBoxAt w1 g o r := ⟨keep_cell hs h.c0, keep_cell hs h.c1⟩

theorem SBoxAt.cells {w : World} {g o : Nat} {r : Sg} (h : SBoxAt w g o r) : ∀ (j : Nat) (v : Value), [Value.int .i64 r.grp, .int .i64 r.sig][j]? = some v → w.cell? ⟨g, o + j, none⟩ = some v := by
  intro j v hj
  match j, hj with
  | 0, hj => cases hj; exact h.c0
  | 1, hj => cases hj; exact h.c1

theorem run_load_SBoxAt {a : Act} {p : Oper} {x : Operand} {w : World} {g o : Nat} {r : Sg} (ho : p.op = .load 60 x) (hx : a.eval x = .pointer (some ⟨g, o, none⟩)) (hb : SBoxAt w g o r) :
    (execOp a.eval p).run Try.prog w = .ok (.value (.agg #[.int .i64 r.grp, .int .i64 r.sig])) w := by
  unfold execOp
  simp only [ho, hx, Instr.loadAt, Instr.sureAddr, Sem.run_bind, Sem.run_pure, Result.andThen_ok]
  rw [run_loadVar_cells w g o 60 _ _ hb.cells Try.underlying60 rfl (by kernel_rfl)]
  rfl


end Go.Proofs.Ytefpifnfinkbaaa
