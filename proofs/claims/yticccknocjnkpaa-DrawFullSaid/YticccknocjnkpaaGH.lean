/-
  Is there too much; the document's example: walked. No conditions.
  What is written is the window's. No conditions.
-/
import Derived.Test.YticccknocjnkpaaZ1
import Derived.Test.YticccknocjnkpaaZ3
namespace Go.Proofs.Yticccknocjnkpaa
open Go.RowKit

/-- Drawings that can be read. -/
def DRd (w : World) (da : Option Addr) (k : Nat) (dr : Nat → Dr) : Prop := ∀ i, i < k → ∃ g o, da = some ⟨g, o, none⟩ ∧ DBoxAt w g (o + i * 9) (dr i)

theorem DRd.keep {w w1 : World} {da : Option Addr} {k : Nat} {dr : Nat → Dr} (h : DRd w da k dr) (hs : Stay (fun _ => False) w w1) : DRd w1 da k dr := fun i hi => by
  obtain ⟨g, o, e, hb⟩ := h i hi
  exact ⟨g, o, e, hb.keep hs⟩

/-- The cells of a drawing. -/
structure Ll where
  a : Option Addr
  n : Nat
  c : Nat

/-- What is told of too much. -/
def GreatO (n k : Nat) (ll : Nat → Ll) (w : World) (e : Ending) (w' : World) : Prop := ∃ b, e = .returned (.bool b) ∧ Stay (fun _ => False) w w' ∧ (b = false → n ≤ 20 ∧ k ≤ 20 ∧ ∀ i, i < k → (ll i).n ≤ 20)

theorem great6 (aa : Option Addr) (n ac : Nat) (da : Option Addr) (k dc : Nat) (dr : Nat → Dr) (ll : Nat → Ll) (w : World) (hd : DRd w da k dr) (hl : ∀ i, i < k → (dr i).l = .slice (ll i).a (ll i).n (ll i).c) (hn : n ≤ 9223372036854775807) (hk : k ≤ 9223372036854775807) (hb : ∀ i, i < k → (ll i).n ≤ 9223372036854775807) :
    Calls Try.prog 6 #[.slice aa n ac, .slice da k dc] w (GreatO n k ll w) := by
  have HD := hide' hd
  have HL := hide' hl
  have HB := hide' hb
  have HS0 := hide' (Stay.refl (fun _ => False) w)
  have HA0 : Hid (∀ i, i < 0 → (ll i).n ≤ 20) := hide' (fun i hi => by omega)
  clear hd hl hb
  go_enter Try.func6, Try.ntmps6
  go_wp2
  go_loopg [5] k (fun gg v5 wr => ∃ i : Nat, i ≤ k ∧ i ≤ 20 ∧ gg = k - i ∧ v5 = .int .i64 (i : Int) ∧ Hid (Stay (fun _ => False) w wr) ∧ Hid (∀ j, j < i → (ll j).n ≤ 20))
  case atStart => exact ⟨0, Nat.zero_le _, by omega, rfl, rfl, HS0, HA0⟩
  case round =>
    clear HS0 HA0
    obtain ⟨i, hik, hi2, rfl, rfl, HS, HA⟩ := hrel
    by_cases hlt : i < k
    · have hz1 : (i : Int) < (k : Nat) := by omega
      by_cases h20 : i < 20
      · have hz2 : (i : Int) < 20 := by omega
        obtain ⟨g, o, e, hb⟩ := HD.out i hlt
        subst e
        have b8 := (hb.keep HS.out).c8
        rw [HL.out i hlt] at b8
        obtain ⟨m, hm⟩ : ∃ m, m = (ll i).n := ⟨_, rfl⟩
        rw [← hm] at b8
        have hmb : (m : Int) ≤ 9223372036854775807 := by have := HB.out i hlt; omega
        have HM := hide' hm
        clear hb hm
        by_cases hg : m ≤ 20
        · have hz3 : ¬ (20 : Int) < (m : Nat) := by omega
          have hz4 : decide ((20 : Int) < (m : Nat)) = false := decide_eq_false hz3
          have HA2 : Hid (∀ j, j < i + 1 → (ll j).n ≤ 20) := hide' (fun j hj => by
            by_cases e : j = i
            · rw [e, ← HM.out]; exact hg
            · exact HA.out j (by omega))
          go_wp2
          go_roundg (k - (i + 1))
          case measure => omega
          case rel => exact ⟨i + 1, by omega, by omega, rfl, by go_num, HS, HA2⟩
        · have hz3 : (20 : Int) < (m : Nat) := by omega
          have hz4 : decide ((20 : Int) < (m : Nat)) = true := decide_eq_true hz3
          go_wp2
          go_ret
          exact ⟨true, rfl, HS.out, fun e => by cases e⟩
      · have hz2 : ¬ (i : Int) < 20 := by omega
        have hz3 : decide ((i : Int) < 20) = false := decide_eq_false hz2
        by_cases hn2 : n ≤ 20
        · have hz4 : ¬ (20 : Int) < (n : Nat) := by omega
          have hz5 : decide ((20 : Int) < (n : Nat)) = false := decide_eq_false hz4
          go_wp2
          go_ret
          refine ⟨decide ((20 : Int) < (k : Nat)), rfl, HS.out, fun e => ?_⟩
          simp only [decide_eq_false_iff_not] at e
          exact absurd hlt (by omega)
        · have hz4 : (20 : Int) < (n : Nat) := by omega
          have hz5 : decide ((20 : Int) < (n : Nat)) = true := decide_eq_true hz4
          go_wp2
          go_ret
          exact ⟨true, rfl, HS.out, fun e => by cases e⟩
    · have hkk : i = k := by omega
      subst hkk
      by_cases hn2 : n ≤ 20
      · have hz4 : ¬ (20 : Int) < (n : Nat) := by omega
        have hz5 : decide ((20 : Int) < (n : Nat)) = false := decide_eq_false hz4
        have hz6 : ¬ (20 : Int) < (i : Nat) := by omega
        have hz7 : decide ((20 : Int) < (i : Nat)) = false := decide_eq_false hz6
        go_wp2
        go_ret
        exact ⟨_, rfl, HS.out, fun _ => ⟨hn2, hi2, HA.out⟩⟩
      · have hz4 : (20 : Int) < (n : Nat) := by omega
        have hz5 : decide ((20 : Int) < (n : Nat)) = true := decide_eq_true hz4
        go_wp2
        go_ret
        exact ⟨true, rfl, HS.out, fun e => by cases e⟩

/-- A frame and a stack within a call. -/
structure TwIn (w0 w : World) (fb sb a h : Nat) (fq : Fm) (f : Nat → Cl) (N : List Wr) (v : Value) (m : Int) (L : List Wn) : Prop where
  fi : FIn w0 w fb a h fq f N
  sa : SAt w ⟨sb, v⟩ a h m L
  so : ∀ j, (⟨sb, v⟩ : Sm).own j → w0.heap.size ≤ j ∧ ¬ fq.own j

variable {w0 w w1 : World} {fb sb a h : Nat} {fq fq2 : Fm} {f f2 : Nat → Cl} {N N2 M : List Wr} {v v2 : Value} {m m2 : Int} {L L2 : List Wn}

theorem TwIn.keep (H : TwIn w0 w fb sb a h fq f N v m L) (hs : Stay (fun _ => False) w w1) : TwIn w0 w1 fb sb a h fq f N v m L := ⟨H.fi.keep hs, H.sa.keep hs, H.so⟩

/-- The stack has turned. -/
theorem TwIn.stack (H : TwIn w0 w fb sb a h fq f N v m L) (hs : SAt w1 ⟨sb, v2⟩ a h m2 L2) (hm : SMoved ⟨sb, v⟩ ⟨sb, v2⟩ w w1) : TwIn w0 w1 fb sb a h fq f N v2 m2 L2 := by
  refine ⟨H.fi.other hm.1 (fun j e => H.so j e), hs, fun j hj => ?_⟩
  rcases hm.2 j hj with h1 | h1
  · exact H.so j h1
  · exact ⟨Nat.le_trans H.fi.stay.size h1, H.fi.at'.fresh h1⟩

/-- The frame has turned. -/
theorem TwIn.frame (H : TwIn w0 w fb sb a h fq f N v m L) (hf : FAt w1 fq2 f2 N2) (hm : Moved fq fq2 w w1) (e1 : fq2.b = fb) (e2 : fq2.G.w = a) (e3 : fq2.G.h = h) : TwIn w0 w1 fb sb a h fq2 f2 N2 v m L := by
  refine ⟨H.fi.moved hm hf e1 e2 e3, H.sa.stay hm.1 (fun j hj e => (H.so j hj).2 e), fun j hj => ⟨(H.so j hj).1, fun e => ?_⟩⟩
  rcases hm.2 j e with h1 | h1
  · exact (H.so j hj).2 h1
  · have := H.sa.lt j hj
    omega

theorem TwIn.pair (H : TwIn w0 w fb sb a h fq f N v m L) (hok : ∀ p ∈ L, OkW a h p) (ha : a ≤ 512) (hh : h ≤ 512) (hn : N.length ≤ 10000) : Pair w fq f N ⟨sb, v⟩ a h m L :=
  ⟨H.fi.at', H.sa, fun j hj e => (H.so j e).2 hj, H.fi.ew, H.fi.eh, hok, ⟨ha, hh⟩, hn⟩

theorem TwIn.drew {er : Int} {e : Ending} (H : TwIn w0 w fb sb a h fq f N v m L) (hd : DrewS fq f N M er w e w1) : ∃ fq2, e = .returned (.tuple #[.int .i64 (M.length : Nat), .int .i64 er]) ∧ TwIn w0 w1 fb sb a h fq2 (applyW a h f M) (N ++ M) v m L ∧ Stay fq.own w w1 := by
  obtain ⟨vn, rfl, hf, hm⟩ := hd
  rw [H.fi.ew, H.fi.eh] at hf
  exact ⟨_, rfl, H.frame hf hm H.fi.eb H.fi.ew H.fi.eh, hm.1⟩

theorem TwIn.begin {fq : Fm} {sq : Sm} (hf : FIn w0 w fq.b a h fq f N) (hs : SAt w1 sq a h m L) (hst : Stay (fun _ => False) w w1) (hn : ∀ j, sq.own j → w.heap.size ≤ j) : TwIn w0 w1 fq.b sq.b a h fq f N sq.v m L :=
  ⟨hf.keep hst, hs, fun j hj => ⟨Nat.le_trans hf.stay.size (hn j hj), hf.at'.fresh (hn j hj)⟩⟩

set_option maxRecDepth 100000 in
theorem field53_0 (x0 x1 x2 x3 : Value) (W : World) : (Instr.field 53 (.agg #[x0, x1, x2, x3]) 0).run Try.prog W = .ok x0 W := by
  have hu := run_underlying Try.underlying53 W
  rfl

attribute [local go_sem] field53_0

/-- The windows of the document's example. -/
def exL : List Wn := [⟨2, 2, 0, 0, 2, 1, false⟩, ⟨1, 1, 0, 0, 4, 1, false⟩]

set_option maxRecDepth 100000 in
theorem awake7 (D : DrawC) (w : World) : Calls Try.prog 7 #[] w (LawTrue w) := by
  have HN := hide' (new_in (w0 := w) (a := 4) (h := 1) (Stay.refl _ w) (by decide) (by decide) (by decide) (by decide))
  go_enter Try.func7, Try.ntmps7
  go_wp2_with fail
  refine HN.out.mono ?_
  rintro e w1 ⟨q0, rfl, hi, _⟩
  have HI := hide' hi
  have HM := hide' (news9 4 1 w1 (by decide) (by decide))
  obtain ⟨fb, hfb⟩ : ∃ b, b = q0.b := ⟨_, rfl⟩
  rw [← hfb]
  have HFB := hide' hfb
  clear hi HN hfb
  go_wp2_with fail
  refine HM.out.mono ?_
  rintro e w2 ⟨sq, rfl, hs2, hsa, hsn⟩
  obtain ⟨sb, sv⟩ := sq
  have HT : Hid (TwIn w w2 fb sb 4 1 q0 (fun _ => Cl.zero) [] sv 0 []) := hide' (by rw [HFB.out]; exact TwIn.begin HI.out hsa hs2 hsn)
  have HA1 := hide' (add21 ⟨sb, sv⟩ 4 1 0 [] 1 ⟨0, 0, 4, 1⟩ w2 HT.out.sa (by decide) (by decide) (by omega) (by omega))
  rw [show addR 4 1 0 [] 1 ⟨0, 0, 4, 1⟩ = (1, [⟨1, 1, 0, 0, 4, 1, false⟩], 1, 0) from by kernel_rfl] at HA1
  clear hs2 hsa hsn HM HI HFB
  simp only at HA1
  go_wp2_with fail
  refine HA1.out.mono ?_
  rintro e w3 ⟨v2, rfl, hsa, hm⟩
  have HT2 := hide' (HT.out.stack hsa hm)
  have HA2 := hide' (add21 ⟨sb, v2⟩ 4 1 1 [⟨1, 1, 0, 0, 4, 1, false⟩] 2 ⟨0, 0, 2, 1⟩ w3 HT2.out.sa (by decide) (by decide) (by omega) (by omega))
  rw [show addR 4 1 1 [⟨1, 1, 0, 0, 4, 1, false⟩] 2 ⟨0, 0, 2, 1⟩ = (2, exL, 2, 0) from by kernel_rfl] at HA2
  clear hsa hm HT HA1
  simp only at HA2
  go_wp2_with fail
  refine HA2.out.mono ?_
  rintro e w4 ⟨v3, rfl, hsa, hm⟩
  have HT3 := hide' (HT2.out.stack hsa hm)
  have HPR := hide' (HT3.out.pair (fun p hp => by
    simp only [exL, List.mem_cons, List.not_mem_nil, or_false] at hp
    rcases hp with rfl | rfl <;> (unfold OkW; simp)) (by decide) (by decide) (Nat.zero_le _))
  have HFI := hide' (D.fill q0 (fun _ => Cl.zero) [] ⟨sb, v3⟩ 4 1 2 exL 1 ⟨0, 0, 4, 1⟩ ⟨120, 0, 0, 0⟩ w4 HPR.out (by unfold I64R I64; simp))
  rw [show drawn exL 1 (fun p => fillA exL p ⟨0, 0, 4, 1⟩ ⟨120, 0, 0, 0⟩) = [Wr.of 2 0 ⟨120, 0, 0, 0⟩, Wr.of 3 0 ⟨120, 0, 0, 0⟩] from by kernel_rfl, show errW exL 1 = 0 from by kernel_rfl, HT3.out.fi.eb] at HFI
  clear hsa hm HT2 HA2 HPR
  simp only at HFI
  go_wp2_with fail
  refine HFI.out.mono ?_
  rintro e w5 hd
  obtain ⟨fq2, rfl, ht, _⟩ := HT3.out.drew hd
  have HT5 := hide' ht
  have HS5 := hide' ht.fi.stay
  have HZ1 := hide' (at_in 0 0 Cl.zero ht.fi (by kernel_rfl) i64_zero i64_zero)
  have HZ2 := hide' (fun W (hs : Stay (fun _ => False) w5 W) => at_in (w := W) 2 0 ⟨120, 0, 0, 0⟩ (HT5.out.fi.keep hs) (by kernel_rfl) (by unfold I64; omega) i64_zero)
  clear hd ht HT3 HFI HT5
  unfold Cl.zero at HZ1
  simp only at HZ1 HZ2
  go_wp2_with fail
  refine HZ1.out.mono ?_
  rintro e w6 ⟨rfl, hs⟩
  have HS6 := hide' (HS5.out.trans hs)
  have HZ := hide' (HZ2.out w6 hs)
  clear hs HZ1 HZ2 HS5
  go_wp2_with fail
  refine HZ.out.mono ?_
  rintro e w7 ⟨rfl, hs⟩
  have HS7 := hide' (HS6.out.trans hs)
  clear hs HZ HS6
  go_wp2
  go_ret
  exact ⟨rfl, HS7.out⟩

end Go.Proofs.Yticccknocjnkpaa

namespace Go.Proofs.Yticccknocjnkpaa
open Go.RowKit

/-- A write into a window's own cell. -/
def GoodW (L : List Wn) (id : Int) (q : Wr) : Prop := ownerL L q.x q.y = id ∧ 0 ≤ q.x ∧ q.x ≤ 1024 ∧ 0 ≤ q.y ∧ q.y ≤ 1024

theorem own_good {L : List Wn} {p : Wn} {x y : Int} (hp : OkP p) (h : ownB L p x y = true) (c : Cl) : GoodW L p.id (Wr.of (p.x + x) (p.y + y) c) := by
  unfold ownB at h
  simp only [Bool.and_eq_true, decide_eq_true_eq, beq_iff_eq] at h
  obtain ⟨⟨⟨⟨h1, h2⟩, h3⟩, h4⟩, h5⟩ := h
  unfold OkP at hp
  refine ⟨h5, ?_⟩
  show 0 ≤ p.x + x ∧ p.x + x ≤ 1024 ∧ 0 ≤ p.y + y ∧ p.y + y ≤ 1024
  omega

theorem cellsN_good {L : List Wn} {p : Wn} (hp : OkP p) (x y : Int) (l : Nat → Cl) : ∀ k, ∀ q ∈ cellsN L p x y l k, GoodW L p.id q
  | 0, q, h => by cases h
  | k + 1, q, h => by
    rcases List.mem_append.1 (show q ∈ cellsN L p x y l k ++ _ from h) with h | h
    · exact cellsN_good hp x y l k q h
    · split at h
      · rename_i ho
        rw [List.mem_singleton] at h
        subst h
        rw [show p.x + x + (k : Int) = p.x + (x + k) by omega]
        exact own_good hp ho _
      · cases h

theorem rowN_good {P : Nat → Nat → Bool} {Q : Nat → Nat → Wr} {G : Wr → Prop} (h : ∀ j k, P j k = true → G (Q j k)) (j : Nat) : ∀ k, ∀ q ∈ rowN P Q j k, G q
  | 0, q, hq => by cases hq
  | k + 1, q, hq => by
    rcases List.mem_append.1 (show q ∈ rowN P Q j k ++ _ from hq) with hq | hq
    · exact rowN_good h j k q hq
    · split at hq
      · rename_i hp
        rw [List.mem_singleton] at hq
        subst hq
        exact h j k hp
      · cases hq

theorem allN_good {P : Nat → Nat → Bool} {Q : Nat → Nat → Wr} {G : Wr → Prop} (h : ∀ j k, P j k = true → G (Q j k)) (n : Nat) : ∀ j, ∀ q ∈ allN P Q n j, G q
  | 0, q, hq => by cases hq
  | j + 1, q, hq => by
    rcases List.mem_append.1 (show q ∈ allN P Q n j ++ _ from hq) with hq | hq
    · exact allN_good h n j q hq
    · exact rowN_good h j n q hq

theorem drawW_good {L : List Wn} {p : Wn} (hp : OkP p) (a h : Nat) (f : Nat → Cl) (d x y : Int) (r : R) (l : Nat → Cl) (n : Nat) : ∀ q ∈ drawW L a h f d x y r l n p, GoodW L p.id q := by
  intro q hq
  unfold drawW at hq
  split at hq
  · unfold cellsA at hq
    split at hq
    · cases hq
    · exact cellsN_good hp x y l n q hq
  · split at hq
    · unfold fillA at hq
      split at hq
      · exact allN_good (fun j k hP => own_good hp (by unfold fillP at hP; simp only [Bool.and_eq_true] at hP; exact hP.2) _) _ _ q hq
      · cases hq
    · unfold copyA at hq
      split at hq
      · exact allN_good (fun j k hP => own_good hp (by unfold copyP at hP; simp only [Bool.and_eq_true] at hP; exact hP.2) _) _ _ q hq
      · cases hq

theorem drawn_good {L : List Wn} (hok : ∀ p ∈ L, OkP p) (a h : Nat) (f : Nat → Cl) (id d x y : Int) (r : R) (l : Nat → Cl) (n : Nat) : ∀ q ∈ drawn L id (fun p => drawW L a h f d x y r l n p), GoodW L id q := by
  intro q hq
  unfold drawn at hq
  cases hp : L[plN L id]? with
  | none => rw [hp] at hq; cases hq
  | some p =>
    rw [hp] at hq
    have hi : plN L id < L.length := (List.getElem?_eq_some_iff.1 hp).1
    obtain ⟨p', h1, h2⟩ := plN_hit L id hi
    rw [hp] at h1
    cases h1
    rw [← h2]
    exact drawW_good (hok p (List.mem_of_getElem? hp)) a h f d x y r l n q hq

theorem drawW_len {L : List Wn} {p : Wn} (hp : OkW 10 10 p) (a h : Nat) (f : Nat → Cl) (d x y : Int) (r : R) (l : Nat → Cl) (n : Nat) (hn : n ≤ 20) : (drawW L a h f d x y r l n p).length ≤ 100 := by
  unfold OkW at hp
  have hm : p.h.toNat * p.w.toNat ≤ 10 * 10 := Nat.mul_le_mul (by omega) (by omega)
  unfold drawW
  split
  · unfold cellsA
    split
    · exact Nat.zero_le _
    · have := cellsN_len L p x y l n
      omega
  · split
    · unfold fillA
      split
      · have := allN_len (fillP L p r) (fillQ p (if 0 < n then l 0 else Cl.zero)) p.w.toNat p.h.toNat
        omega
      · exact Nat.zero_le _
    · unfold copyA
      split
      · have := allN_len (copyP L p r x y) (copyQ p r x y a h f) p.w.toNat p.h.toNat
        omega
      · exact Nat.zero_le _

theorem drawn_len {L : List Wn} (hok : ∀ p ∈ L, OkW 10 10 p) (a h : Nat) (f : Nat → Cl) (id d x y : Int) (r : R) (l : Nat → Cl) (n : Nat) (hn : n ≤ 20) : (drawn L id (fun p => drawW L a h f d x y r l n p)).length ≤ 100 := by
  unfold drawn
  cases hp : L[plN L id]? with
  | none => exact Nat.zero_le _
  | some p => exact drawW_len (hok p (List.mem_of_getElem? hp)) a h f d x y r l n hn

/-- The notes were taken. -/
theorem TwIn.took {w0 w w1 : World} {fb sb a h : Nat} {fq fq2 : Fm} {f f2 : Nat → Cl} {N N2 : List Wr} {v : Value} {m : Int} {L : List Wn} (H : TwIn w0 w fb sb a h fq f N v m L) (hf : FIn w0 w1 fb a h fq2 f2 N2) (hm : Moved fq fq2 w w1) : TwIn w0 w1 fb sb a h fq2 f2 N2 v m L := by
  refine ⟨hf, H.sa.stay hm.1 (fun j hj e => (H.so j hj).2 e), fun j hj => ⟨(H.so j hj).1, fun e => ?_⟩⟩
  rcases hm.2 j e with h1 | h1
  · exact (H.so j hj).2 h1
  · have := H.sa.lt j hj
    omega

/-- A drawing's parts, as they came. -/
structure DrOk (w : World) (k : Nat) (dr : Nat → Dr) (ll : Nat → Ll) (lf : Nat → Nat → Cl) : Prop where
  l : ∀ i, i < k → (dr i).l = .slice (ll i).a (ll i).n (ll i).c
  rd : ∀ i, i < k → CRd w (ll i).a (ll i).n (lf i)
  lt : ∀ i, i < k → 0 < (ll i).n → ∀ j, (ll i).a.map Addr.block = some j → j < w.heap.size
  nc : ∀ i, i < k → (ll i).n ≤ (ll i).c
  num : ∀ i, i < k → I64 (dr i).x ∧ I64 (dr i).y ∧ I64R ⟨(dr i).p, (dr i).q, (dr i).w, (dr i).h⟩

/-- What a drawing writes, as it came. -/
def drN (L : List Wn) (f : Nat → Cl) (D : Dr) (n : Nat) (l : Nat → Cl) : List Wr := drawn L D.i fun p => drawW L 10 10 f D.d D.x D.y ⟨D.p, D.q, D.w, D.h⟩ l n p

end Go.Proofs.Yticccknocjnkpaa
