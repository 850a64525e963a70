/-
  Is there too much; the document's example: walked. No conditions.
  The document's example: walked. No conditions.
-/
import Derived.Test.YticccknocjnkpaaDoorR6
namespace Go.Proofs.YticccknocjnkpaaDoor
open Go.RowKit

/-- The cells of a drawing. -/
structure Ll where
  a : Option Addr
  n : Nat
  c : Nat

/-- What is told of too much. -/
def GreatO (n k : Nat) (ll : Nat → Ll) (w : World) (e : Ending) (w' : World) : Prop := ∃ b, e = .returned (.bool b) ∧ Stay (fun _ => False) w w' ∧ (b = false → n ≤ 20 ∧ k ≤ 20 ∧ ∀ i, i < k → (ll i).n ≤ 20)

/-- A frame and a stack within a call. -/
structure TwIn (w0 w : World) (fb sb a h : Nat) (fq : Fm) (f : Nat → Cl) (N : List Wr) (v : Value) (m : Int) (L : List Wn) : Prop where
  fi : FIn w0 w fb a h fq f N
  sa : SAt w ⟨sb, v⟩ a h m L
  so : ∀ j, (⟨sb, v⟩ : Sm).own j → w0.heap.size ≤ j ∧ ¬ fq.own j

variable {w0 w w1 : World} {fb sb a h : Nat} {fq fq2 : Fm} {f f2 : Nat → Cl} {N N2 M : List Wr} {v v2 : Value} {m m2 : Int} {L L2 : List Wn}

theorem TwIn.keep (H : TwIn w0 w fb sb a h fq f N v m L) (hs : Stay (fun _ => False) w w1) : TwIn w0 w1 fb sb a h fq f N v m L := ⟨H.fi.keep hs, H.sa.keep hs, H.so⟩

/-- The stack has turned. -/
theorem TwIn.stack (H : TwIn w0 w fb sb a h fq f N v m L) (hs : SAt w1 ⟨sb, v2⟩ a h m2 L2) (hm : SMoved ⟨sb, v⟩ ⟨sb, v2⟩ w w1) : TwIn w0 w1 fb sb a h fq f N v2 m2 L2 := by
  refine ⟨H.fi.other hm.1 (fun j e => H.so j e), hs, fun j hj => ?_⟩
  rcases hm.2 j hj with h1 | h1
  · exact H.so j h1
  · exact ⟨Nat.le_trans H.fi.stay.size h1, H.fi.at'.fresh h1⟩

/-- The frame has turned. -/
theorem TwIn.frame (H : TwIn w0 w fb sb a h fq f N v m L) (hf : FAt w1 fq2 f2 N2) (hm : Moved fq fq2 w w1) (e1 : fq2.b = fb) (e2 : fq2.G.w = a) (e3 : fq2.G.h = h) : TwIn w0 w1 fb sb a h fq2 f2 N2 v m L := by
  refine ⟨H.fi.moved hm hf e1 e2 e3, H.sa.stay hm.1 (fun j hj e => (H.so j hj).2 e), fun j hj => ⟨(H.so j hj).1, fun e => ?_⟩⟩
  rcases hm.2 j e with h1 | h1
  · exact (H.so j hj).2 h1
  · have := H.sa.lt j hj
    omega

theorem TwIn.pair (H : TwIn w0 w fb sb a h fq f N v m L) (hok : ∀ p ∈ L, OkW a h p) (ha : a ≤ 512) (hh : h ≤ 512) (hn : N.length ≤ 10000) : Pair w fq f N ⟨sb, v⟩ a h m L :=
  ⟨H.fi.at', H.sa, fun j hj e => (H.so j e).2 hj, H.fi.ew, H.fi.eh, hok, ⟨ha, hh⟩, hn⟩

theorem TwIn.drew {er : Int} {e : Ending} (H : TwIn w0 w fb sb a h fq f N v m L) (hd : DrewS fq f N M er w e w1) : ∃ fq2, e = .returned (.tuple #[.int .i64 (M.length : Nat), .int .i64 er]) ∧ TwIn w0 w1 fb sb a h fq2 (applyW a h f M) (N ++ M) v m L ∧ Stay fq.own w w1 := by
  obtain ⟨vn, rfl, hf, hm⟩ := hd
  rw [H.fi.ew, H.fi.eh] at hf
  exact ⟨_, rfl, H.frame hf hm H.fi.eb H.fi.ew H.fi.eh, hm.1⟩

theorem TwIn.begin {fq : Fm} {sq : Sm} (hf : FIn w0 w fq.b a h fq f N) (hs : SAt w1 sq a h m L) (hst : Stay (fun _ => False) w w1) (hn : ∀ j, sq.own j → w.heap.size ≤ j) : TwIn w0 w1 fq.b sq.b a h fq f N sq.v m L :=
  ⟨hf.keep hst, hs, fun j hj => ⟨Nat.le_trans hf.stay.size (hn j hj), hf.at'.fresh (hn j hj)⟩⟩

set_option maxRecDepth 100000 in
theorem field53_0 (x0 x1 x2 x3 : Value) (W : World) : (Instr.field 40 (.agg #[x0, x1, x2, x3]) 0).run Tryd.prog W = .ok x0 W := by
  have hu := run_underlying Tryd.underlying40 W
  rfl

attribute [local go_sem] field53_0

/-- The windows of the document's example. -/
def exL : List Wn := [⟨2, 2, 0, 0, 2, 1, false⟩, ⟨1, 1, 0, 0, 4, 1, false⟩]

end Go.Proofs.YticccknocjnkpaaDoor

namespace Go.Proofs.YticccknocjnkpaaDoor
open Go.RowKit

attribute [local go_sem] field53_0

set_option maxRecDepth 100000 in
theorem awake4 (w : World) : Calls Tryd.prog 4 #[] w (LawTrue w) := by
  have HN := hide' (new_in (w0 := w) (a := 4) (h := 1) (Stay.refl _ w) (by decide) (by decide) (by decide) (by decide))
  go_enter Tryd.func4, Tryd.ntmps4
  go_wp2_with fail
  refine HN.out.mono ?_
  rintro e w1 ⟨q0, rfl, hi, _⟩
  have HI := hide' hi
  have HM := hide' (news9 4 1 w1 (by decide) (by decide))
  obtain ⟨fb, hfb⟩ : ∃ b, b = q0.b := ⟨_, rfl⟩
  rw [← hfb]
  have HFB := hide' hfb
  clear hi HN hfb
  go_wp2_with fail
  refine HM.out.mono ?_
  rintro e w2 ⟨sq, rfl, hs2, hsa, hsn⟩
  obtain ⟨sb, sv⟩ := sq
  have HT : Hid (TwIn w w2 fb sb 4 1 q0 (fun _ => Cl.zero) [] sv 0 []) := hide' (by rw [HFB.out]; exact TwIn.begin HI.out hsa hs2 hsn)
  have HA1 := hide' (add10 ⟨sb, sv⟩ 4 1 0 [] 1 ⟨0, 0, 4, 1⟩ w2 HT.out.sa (by decide) (by decide) (by omega) (by omega))
  rw [show addR 4 1 0 [] 1 ⟨0, 0, 4, 1⟩ = (1, [⟨1, 1, 0, 0, 4, 1, false⟩], 1, 0) from by kernel_rfl] at HA1
  clear hs2 hsa hsn HM HI HFB
  simp only at HA1
  go_wp2_with fail
  refine HA1.out.mono ?_
  rintro e w3 ⟨v2, rfl, hsa, hm⟩
  have HT2 := hide' (HT.out.stack hsa hm)
  have HA2 := hide' (add10 ⟨sb, v2⟩ 4 1 1 [⟨1, 1, 0, 0, 4, 1, false⟩] 2 ⟨0, 0, 2, 1⟩ w3 HT2.out.sa (by decide) (by decide) (by omega) (by omega))
  rw [show addR 4 1 1 [⟨1, 1, 0, 0, 4, 1, false⟩] 2 ⟨0, 0, 2, 1⟩ = (2, exL, 2, 0) from by kernel_rfl] at HA2
  clear hsa hm HT HA1
  simp only at HA2
  go_wp2_with fail
  refine HA2.out.mono ?_
  rintro e w4 ⟨v3, rfl, hsa, hm⟩
  have HT3 := hide' (HT2.out.stack hsa hm)
  have HPR := hide' (HT3.out.pair (fun p hp => by
    simp only [exL, List.mem_cons, List.not_mem_nil, or_false] at hp
    rcases hp with rfl | rfl <;> (unfold OkW; simp)) (by decide) (by decide) (Nat.zero_le _))
  have HFI := hide' (fill11 q0 (fun _ => Cl.zero) [] ⟨sb, v3⟩ 4 1 2 exL 1 ⟨0, 0, 4, 1⟩ ⟨120, 0, 0, 0⟩ w4 HPR.out)
  rw [show drawn exL 1 (fun p => fillA exL p ⟨0, 0, 4, 1⟩ ⟨120, 0, 0, 0⟩) = [Wr.of 2 0 ⟨120, 0, 0, 0⟩, Wr.of 3 0 ⟨120, 0, 0, 0⟩] from by kernel_rfl, show errW exL 1 = 0 from by kernel_rfl, HT3.out.fi.eb] at HFI
  clear hsa hm HT2 HA2 HPR
  simp only at HFI
  go_wp2_with fail
  refine HFI.out.mono ?_
  rintro e w5 hd
  obtain ⟨fq2, rfl, ht, _⟩ := HT3.out.drew hd
  have HT5 := hide' ht
  have HS5 := hide' ht.fi.stay
  have HZ1 := hide' (at_in 0 0 Cl.zero ht.fi (by kernel_rfl) i64_zero i64_zero)
  have HZ2 := hide' (fun W (hs : Stay (fun _ => False) w5 W) => at_in (w := W) 2 0 ⟨120, 0, 0, 0⟩ (HT5.out.fi.keep hs) (by kernel_rfl) (by unfold I64; omega) i64_zero)
  clear hd ht HT3 HFI HT5
  unfold Cl.zero at HZ1
  simp only at HZ1 HZ2
  go_wp2_with fail
  refine HZ1.out.mono ?_
  rintro e w6 ⟨rfl, hs⟩
  have HS6 := hide' (HS5.out.trans hs)
  have HZ := hide' (HZ2.out w6 hs)
  clear hs HZ1 HZ2 HS5
  go_wp2_with fail
  refine HZ.out.mono ?_
  rintro e w7 ⟨rfl, hs⟩
  have HS7 := hide' (HS6.out.trans hs)
  clear hs HZ HS6
  go_wp2
  go_ret
  exact ⟨rfl, HS7.out⟩

end Go.Proofs.YticccknocjnkpaaDoor
