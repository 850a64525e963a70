/-
  The cells of a rectangle that a window owns, handed out: walked. No conditions.
  The cells of a rectangle that a window owns, handed out: walked. No conditions.
-/
import Derived.Test.YticccknocjnkpaaG9
import Derived.Test.YticccknocjnkpaaGC
namespace Go.Proofs.Yticccknocjnkpaa
open Go.RowKit Go.Shelf

/-- What of a rectangle lies on the screen and in the window. -/
theorem both_scr {L : List Wn} {p : Wn} {r : R} (hp : OkP p) : ∃ X Y A H : Nat, ∃ x0 y0 : Int, bothR (scrR p r) ⟨p.x, p.y, p.w, p.h⟩ = ⟨x0, y0, A, H⟩ ∧ (0 ≤ x0 ∧ x0 ≤ 512 ∧ 0 ≤ y0 ∧ y0 ≤ 512) ∧ X + A ≤ p.w.toNat ∧ Y + H ≤ p.h.toNat ∧ allS (fillP L p r) p.w.toNat Y = [] ∧ ownS L p r = allS (fillP L p r) p.w.toNat (Y + H) ∧
    (0 < H → x0 = p.x + X ∧ y0 = p.y + Y ∧ rightB r = true ∧ (∀ j k, fillP L p r j k = true → Y ≤ j ∧ j < Y + H ∧ X ≤ k ∧ k < X + A) ∧ (∀ j k, Y ≤ j → j < Y + H → X ≤ k → k < X + A → inB r k j = true)) := by
  have hp0 := hp
  unfold OkP at hp
  have hfill : ∀ j k : Nat, fillP L p r j k = true → (1 ≤ r.w ∧ 1 ≤ r.h ∧ r.x ≤ k ∧ (k : Int) - r.x < r.w ∧ r.y ≤ j ∧ (j : Int) - r.y < r.h) ∧ (k : Int) < p.w ∧ (j : Int) < p.h := fun j k h => by
    unfold fillP ownB inB at h
    simp only [Bool.and_eq_true, decide_eq_true_eq] at h
    obtain ⟨⟨⟨⟨⟨⟨h1, h2⟩, h3⟩, h4⟩, h5⟩, h6⟩, ⟨⟨⟨⟨_, h7⟩, _⟩, h8⟩, _⟩⟩ := h
    exact ⟨⟨h1, h2, h3, h4, h5, h6⟩, h7, h8⟩
  have hwin : rightB ⟨p.x, p.y, p.w, p.h⟩ = true := by
    unfold rightB nearB
    simp only [Bool.and_eq_true, decide_eq_true_eq]
    omega
  have none : bothR (scrR p r) ⟨p.x, p.y, p.w, p.h⟩ = ⟨0, 0, 0, 0⟩ → ownS L p r = [] → ∃ X Y A H : Nat, ∃ x0 y0 : Int, bothR (scrR p r) ⟨p.x, p.y, p.w, p.h⟩ = ⟨x0, y0, A, H⟩ ∧ (0 ≤ x0 ∧ x0 ≤ 512 ∧ 0 ≤ y0 ∧ y0 ≤ 512) ∧ X + A ≤ p.w.toNat ∧ Y + H ≤ p.h.toNat ∧ allS (fillP L p r) p.w.toNat Y = [] ∧ ownS L p r = allS (fillP L p r) p.w.toNat (Y + H) ∧
    (0 < H → x0 = p.x + X ∧ y0 = p.y + Y ∧ rightB r = true ∧ (∀ j k, fillP L p r j k = true → Y ≤ j ∧ j < Y + H ∧ X ≤ k ∧ k < X + A) ∧ (∀ j k, Y ≤ j → j < Y + H → X ≤ k → k < X + A → inB r k j = true)) := fun h1 h2 =>
    ⟨0, 0, 0, 0, 0, 0, h1, by omega, by omega, by omega, rfl, h2, fun h => absurd h (Nat.lt_irrefl _)⟩
  by_cases hr : rightB r = true
  · have hrb := right_bd hr
    have hsc : scrR p r = ⟨r.x + p.x, r.y + p.y, r.w, r.h⟩ := by unfold scrR; rw [if_pos hr]
    have nil : (∀ j k : Nat, ¬ fillP L p r j k = true) → ownS L p r = [] := fun h => by
      unfold ownS
      rw [if_pos hr]
      exact allS_nil _ (fun i k _ => h i k)
    by_cases hs : rightB ⟨r.x + p.x, r.y + p.y, r.w, r.h⟩ = true
    · have hb : bothR (scrR p r) ⟨p.x, p.y, p.w, p.h⟩ = orNoneR (interR ⟨r.x + p.x, r.y + p.y, r.w, r.h⟩ ⟨p.x, p.y, p.w, p.h⟩) := by
        rw [hsc]
        unfold bothR
        rw [if_pos (by rw [hs, hwin]; rfl)]
      unfold orNoneR interR at hb
      simp only at hb
      by_cases he : emptyB ⟨max (r.x + p.x) p.x, max (r.y + p.y) p.y, min (r.x + p.x + r.w) (p.x + p.w) - max (r.x + p.x) p.x, min (r.y + p.y + r.h) (p.y + p.h) - max (r.y + p.y) p.y⟩ = true
      · rw [if_pos he] at hb
        unfold emptyB at he
        simp only [Bool.or_eq_true, decide_eq_true_eq] at he
        refine none hb (nil fun j k h => ?_)
        have := hfill j k h
        omega
      · rw [if_neg he] at hb
        unfold emptyB at he
        simp only [Bool.or_eq_true, decide_eq_true_eq] at he
        have hF : ∀ j k, fillP L p r j k = true → (max r.y 0).toNat ≤ j ∧ j < (max r.y 0).toNat + (min (r.y + p.y + r.h) (p.y + p.h) - max (r.y + p.y) p.y).toNat ∧ (max r.x 0).toNat ≤ k ∧ k < (max r.x 0).toNat + (min (r.x + p.x + r.w) (p.x + p.w) - max (r.x + p.x) p.x).toNat := fun j k h => by
          have := hfill j k h
          omega
        refine ⟨(max r.x 0).toNat, (max r.y 0).toNat, (min (r.x + p.x + r.w) (p.x + p.w) - max (r.x + p.x) p.x).toNat, (min (r.y + p.y + r.h) (p.y + p.h) - max (r.y + p.y) p.y).toNat, max (r.x + p.x) p.x, max (r.y + p.y) p.y, ?_, by omega, by omega, by omega, ?_, ?_, fun _ => ⟨by omega, by omega, hr, hF, fun j k h1 h2 h3 h4 => ?_⟩⟩
        · rw [hb]
          congr 1 <;> omega
        · exact allS_nil _ (fun i k hi h => by have := hF i k h; omega)
        · unfold ownS
          rw [if_pos hr]
          have hle : (max r.y 0).toNat + (min (r.y + p.y + r.h) (p.y + p.h) - max (r.y + p.y) p.y).toNat ≤ p.h.toNat := by omega
          have := allS_end (P := fillP L p r) (n := p.w.toNat) (a := (max r.y 0).toNat + (min (r.y + p.y + r.h) (p.y + p.h) - max (r.y + p.y) p.y).toNat) (p.h.toNat - ((max r.y 0).toNat + (min (r.y + p.y + r.h) (p.y + p.h) - max (r.y + p.y) p.y).toNat)) (fun i k hi h => by have := hF i k h; omega)
          rw [← this]
          congr 1
          omega
        · unfold inB
          simp only [Bool.and_eq_true, decide_eq_true_eq]
          omega
    · refine none ?_ (nil fun j k h => ?_)
      · rw [hsc]
        unfold bothR
        rw [if_neg (by rw [Bool.and_eq_true]; exact fun h => hs h.1)]
      · have := hfill j k h
        apply hs
        unfold rightB nearB
        simp only [Bool.and_eq_true, decide_eq_true_eq]
        omega
  · refine none ?_ (by unfold ownS; rw [if_neg hr])
    have hsc : scrR p r = ⟨0, 0, 0, 0⟩ := by unfold scrR; rw [if_neg hr]
    rw [hsc]
    unfold bothR
    rw [if_pos (by rw [hwin]; rfl)]
    unfold orNoneR interR
    simp only
    rw [if_pos]
    unfold emptyB
    simp only [Bool.or_eq_true, decide_eq_true_eq]
    omega

/-- A place on the screen, as it is handed out. -/
def encV (p : Wn) {P : Nat → Nat → Bool} (x : { q : Nat × Nat // P q.1 q.2 = true }) : Array Value := #[.int .i64 (p.x + (x.1.2 : Nat)), .int .i64 (p.y + (x.1.1 : Nat))]

/-- What an iterator looks at: its rectangle, the view, the stack. -/
structure OVt (T : Nat → Prop) (n₀ br bv : Nat) (I : R) (p : Wn) (sq : Sm) (sw sh m : Int) (L : List Wn) (w : World) : Prop where
  bx : Box w br I
  vw : VBox w bv ⟨.pointer (some ⟨sq.b, 0, none⟩), p.id, p.env, p.x, p.y, p.w, p.h, p.hid, p.x, p.y, p.w, p.h⟩
  sa : SAt w sq sw sh m L
  br0 : br < n₀ ∧ ¬ T br
  bv0 : bv < n₀ ∧ ¬ T bv
  sq0 : ∀ j, sq.own j → j < n₀ ∧ ¬ T j

section
variable {T : Nat → Prop} {n₀ br bv : Nat} {I : R} {p : Wn} {sq : Sm} {sw sh m : Int} {L : List Wn} {w w1 : World}

theorem OVt.kp (h : OVt T n₀ br bv I p sq sw sh m L w) (hk : Stay (fun j => j < n₀ → T j) w w1) : OVt T n₀ br bv I p sq sw sh m L w1 := by
  have ho : ∀ j, j < n₀ → ¬ T j → ¬ (j < n₀ → T j) := fun j h1 h2 t => h2 (t h1)
  exact ⟨boxR_stay h.bx hk (ho _ h.br0.1 h.br0.2), h.vw.stay hk (ho _ h.bv0.1 h.bv0.2), h.sa.stay hk (fun j hj => ho j (h.sq0 j hj).1 (h.sq0 j hj).2), h.br0, h.bv0, h.sq0⟩

theorem OVt.keep (h : OVt T n₀ br bv I p sq sw sh m L w) (hs : Stay (fun _ => False) w w1) : OVt T n₀ br bv I p sq sw sh m L w1 := h.kp (hs.mono (fun _ _ h => h.elim))

end

end Go.Proofs.Yticccknocjnkpaa

namespace Go.Proofs.Yticccknocjnkpaa
open Go.RowKit Go.Shelf

set_option maxRecDepth 100000 in
set_option maxHeartbeats 2000000 in
/-- The iterator. -/
theorem owned66 (T : Nat → Prop) (Kq : World → World → Prop) (n B br bv : Nat) (r : R) (p : Wn) (sq : Sm) (sw sh m : Int) (L : List Wn) (w : World) (hr : Box w br (bothR (scrR p r) ⟨p.x, p.y, p.w, p.h⟩)) (hw : VBox w bv ⟨.pointer (some ⟨sq.b, 0, none⟩), p.id, p.env, p.x, p.y, p.w, p.h, p.hid, p.x, p.y, p.w, p.h⟩) (hs : SAt w sq sw sh m L)
    (hTr : ¬ T br) (hTw : ¬ T bv) (hTs : ∀ j, sq.own j → ¬ T j) (hok : ∀ p ∈ L, OkP p) (hp : OkP p) (hB : rightB r = true → 262145 ≤ B) (hKq : ∀ A B, Kq A B → Stay (fun j => j < w.heap.size → T j) A B) :
    SeqAll n Try.prog 66 #[.pointer (some ⟨br, 0, none⟩), .pointer (some ⟨bv, 0, none⟩)] (encV p) Kq (fun xs => xs = ownS L p r) B w := by
  intro l J W hW hJ hY h0
  refine callsIn_wide.2 ?_
  have hst := stay_below hW
  obtain ⟨X, Y, A, H, x0, y0, hI, hx0, hXA, hYH, hn0, hn1, hI1⟩ := both_scr (L := L) (r := r) hp
  rw [hI] at hr
  obtain ⟨I, hIe⟩ : ∃ I : R, I = ⟨x0, y0, (A : Nat), (H : Nat)⟩ := ⟨_, rfl⟩
  rw [← hIe] at hr
  have HO : Hid (OVt T w.heap.size br bv I p sq sw sh m L W) := hide' ⟨hr.keep hst, hw.keep hst, hs.keep hst, ⟨World.block_lt_of_cell? _ _ hr.c0, hTr⟩, ⟨hw.lt, hTw⟩, fun j hj => ⟨hs.lt j hj, hTs j hj⟩⟩
  have HPB : Hid (0 ≤ p.x ∧ 0 ≤ p.y ∧ 0 < p.w ∧ 0 < p.h ∧ p.x + p.w ≤ 512 ∧ p.y + p.h ≤ 512) := hide' hp
  have HI1 := hide' hI1
  have HBB := hide' hB
  have HN1 := hide' hn1
  have HIE := hide' hIe
  have HJ0 : Hid (J (allS (fillP L p r) p.w.toNat (Y + 0)) W) := hide' (by rw [Nat.add_zero, hn0]; exact h0)
  have HOWN := hide' (fun (x y : Int) (z : Bool) (hz : z = (inB ⟨p.x, p.y, p.w, p.h⟩ x y && (ownerL L x y == p.id))) W2 (h : SAt W2 sq sw sh m L) => fun (hx : I64 x) (hy : I64 y) => owns45 sq sw sh m L p x y z hz W2 h hok hp hx hy)
  have HYY := hide' hY
  have HKQ := hide' hKq
  have HJJ := hide' hJ
  have hXb : (A : Int) ≤ 512 ∧ (H : Int) ≤ 512 := by have := HPB.out; omega
  have HQA : Hid (Box W br I) := hide' HO.out.bx
  obtain ⟨q0, q1, q2, q3, _⟩ := HQA.out
  rw [HIE.out] at q0 q1 q2 q3
  simp only at q0 q1 q2 q3
  clear hr hw hs hst hI hI1 hok hp h0 hTr hTw hTs hW hB hn0 hn1 hY hJ hKq
  show Calls Try.prog 66 #[.func (.yield l) #[] #[], .pointer (some ⟨br, 0, none⟩), .pointer (some ⟨bv, 0, none⟩)] W _
  go_enter Try.func66, Try.ntmps66
  go_wp2
  clear q0 q1 q2 q3
  go_loopg [4] H (fun gg v4 wr => ∃ i : Nat, i ≤ H ∧ gg = H - i ∧ v4 = .int .i64 (y0 + (i : Int)) ∧ Hid (J (allS (fillP L p r) p.w.toNat (Y + i)) wr) ∧ Hid (OVt T w.heap.size br bv I p sq sw sh m L wr))
  case atStart => exact ⟨0, Nat.zero_le _, by omega, by go_num, HJ0, HO⟩
  case round =>
    clear HJ0 HO HQA
    obtain ⟨i, hiH, rfl, rfl, HJ, HO⟩ := hrel
    obtain ⟨q0, q1, q2, q3, _⟩ := HO.out.bx
    rw [HIE.out] at q0 q1 q2 q3
    simp only at q0 q1 q2 q3
    by_cases hlt : i < H
    · have hz1 : y0 + (i : Int) < y0 + (H : Nat) := by omega
      have HX0 : Hid (J (allS (fillP L p r) p.w.toNat (Y + i) ++ rowS (fillP L p r) (Y + i) (X + 0)) wr) := hide' (by
        have h := HI1.out (by omega)
        rw [Nat.add_zero, rowS_nil X (fun k hk e => by have := h.2.2.2.1 _ _ e; omega), List.append_nil]
        exact HJ.out)
      clear HJ
      go_wp2
      clear q0 q1 q2 q3
      go_loopg [5] A (fun gg v5 wr => ∃ k : Nat, k ≤ A ∧ gg = A - k ∧ v5 = .int .i64 (x0 + (k : Int)) ∧ Hid (J (allS (fillP L p r) p.w.toNat (Y + i) ++ rowS (fillP L p r) (Y + i) (X + k)) wr) ∧ Hid (OVt T w.heap.size br bv I p sq sw sh m L wr))
      case atStart => exact ⟨0, Nat.zero_le _, by omega, by go_num, HX0, HO⟩
      case round =>
        clear HX0 HO
        obtain ⟨k, hkA, rfl, rfl, HJ, HO⟩ := hrel
        obtain ⟨q0, q1, q2, q3, _⟩ := HO.out.bx
        rw [HIE.out] at q0 q1 q2 q3
        simp only at q0 q1 q2 q3
        by_cases hlk : k < A
        · have hz2 : x0 + (k : Int) < x0 + (A : Nat) := by omega
          obtain ⟨j', hj'⟩ : ∃ j', j' = Y + i := ⟨_, rfl⟩
          obtain ⟨k', hk'⟩ : ∃ k', k' = X + k := ⟨_, rfl⟩
          have HE : Hid (x0 + (k : Int) = p.x + (k' : Nat) ∧ y0 + (i : Int) = p.y + (j' : Nat) ∧ inB r k' j' = true ∧ rightB r = true ∧ (k' : Int) < p.w ∧ (j' : Int) < p.h) := hide' (by
            have h := HI1.out (by omega)
            have h2 := HPB.out
            refine ⟨by omega, by omega, h.2.2.2.2 j' k' (by omega) (by omega) (by omega) (by omega), h.2.2.1, by omega, by omega⟩)
          have HPE : Hid (fillP L p r j' k' = (inB ⟨p.x, p.y, p.w, p.h⟩ (x0 + (k : Int)) (y0 + (i : Int)) && (ownerL L (x0 + (k : Int)) (y0 + (i : Int)) == p.id))) := hide' (by
            have h := HE.out
            have h0 := HPB.out
            have h1 : decide ((0 : Int) ≤ (k' : Nat)) = true := decide_eq_true (by omega)
            have h2 : decide ((k' : Int) < p.w) = true := decide_eq_true (by omega)
            have h3 : decide ((0 : Int) ≤ (j' : Nat)) = true := decide_eq_true (by omega)
            have h4 : decide ((j' : Int) < p.h) = true := decide_eq_true (by omega)
            have h5 : inB ⟨p.x, p.y, p.w, p.h⟩ (p.x + (k' : Nat)) (p.y + (j' : Nat)) = true := by
              unfold inB
              simp only [Bool.and_eq_true, decide_eq_true_eq]
              omega
            rw [h.1, h.2.1, h5]
            unfold fillP ownB
            rw [h.2.2.1, h1, h2, h3, h4]
            rfl)
          have HLN : Hid ((allS (fillP L p r) p.w.toNat (Y + i) ++ rowS (fillP L p r) (Y + i) (X + k)).length < B) := hide' (by
            have hB := HBB.out HE.out.2.2.2.1
            have h1 := allS_len (P := fillP L p r) p.w.toNat (Y + i)
            have h2 := rowS_len (P := fillP L p r) (Y + i) (X + k)
            have h4 := HE.out
            have h3 : (Y + i) * p.w.toNat ≤ 511 * 512 := Nat.mul_le_mul (by have := HPB.out; omega) (by have := HPB.out; omega)
            rw [List.length_append]
            have := HPB.out
            omega)
          have HO1 := hide' (fun W2 (h : SAt W2 sq sw sh m L) => HOWN.out (x0 + (k : Int)) (y0 + (i : Int)) (fillP L p r j' k') HPE.out W2 h (by unfold I64; omega) (by unfold I64; omega))
          obtain ⟨v0, v1, v2, v3, v4, v5, v6, v7, v8, v9, va, vb, _⟩ := HO.out.vw
          simp only at v0 v1 v2 v3 v4 v5 v6 v7 v8 v9 va vb
          by_cases hP : fillP L p r j' k' = true
          · rw [hP] at HO1
            go_upto_region 6 with fail
            clear q0 q1 q2 q3
            refine (wpIn_wide (n := n)).1 ?_
            gi_wp2_with fail
            refine ⟨trivial, fun h => (by cases h), ?_⟩
            refine (callsIn_wide.2 (HO1.out _ HO.out.sa)).mono ?_
            rintro _ w1 ⟨rfl, hs⟩
            have HY1 : Hid (YieldAt Fence.wide (n - 1) Try.prog l #[.int .i64 (x0 + (k : Int)), .int .i64 (y0 + (i : Int))] w1 fun e W' => e = .returned (.bool true) ∧ J (allS (fillP L p r) p.w.toNat (Y + i) ++ rowS (fillP L p r) (Y + i) (X + k) ++ [⟨(j', k'), hP⟩]) W' ∧ Kq w1 W') := hide' (by
              have h := HYY.out _ ⟨(j', k'), hP⟩ w1 (abides_stay HJJ.out HJ.out hs) HLN.out
              unfold encV at h
              simp only at h
              rw [← HE.out.1, ← HE.out.2.1] at h
              exact h)
            have HS1 := hide' (HO.out.keep hs)
            clear hs v0 v1 v2 v3 v4 v5 v6 v7 v8 v9 va vb HO1 HO HJ
            obtain ⟨fn, tmps, assign, body, hy, hR⟩ := HY1.out
            have HRR := hide' hR
            clear hR HY1
            simp only
            gi_wp2
            refine ⟨fun h => (by cases h), HRR.out.mono ?_⟩
            rintro e wy ⟨rfl, hj2, hk2⟩
            have HO3 := hide' (HS1.out.kp (HKQ.out _ _ hk2))
            have HJ3 : Hid (J (allS (fillP L p r) p.w.toNat (Y + i) ++ rowS (fillP L p r) (Y + i) (X + (k + 1))) wy) := hide' (by
              subst hj' hk'
              rw [show X + (k + 1) = X + k + 1 from rfl, rowS_hit hP, ← List.append_assoc]
              exact hj2)
            clear hj2 hk2 HRR hy HS1 HPE HLN
            gi_wp2
            go_wp2
            go_roundg (A - (k + 1))
            case measure => omega
            case rel => exact ⟨k + 1, by omega, by omega, by go_num, HJ3, HO3⟩
          · have hPf : fillP L p r j' k' = false := by simpa using hP
            rw [hPf] at HO1
            go_upto_region 6 with fail
            clear q0 q1 q2 q3
            go_wp2_with fail
            refine (HO1.out _ HO.out.sa).mono ?_
            rintro _ w1 ⟨rfl, hs⟩
            have HO3 := hide' (HO.out.keep hs)
            have HJ3 : Hid (J (allS (fillP L p r) p.w.toNat (Y + i) ++ rowS (fillP L p r) (Y + i) (X + (k + 1))) w1) := hide' (by
              subst hj' hk'
              rw [show X + (k + 1) = X + k + 1 from rfl, rowS_miss hP]
              exact abides_stay HJJ.out HJ.out hs)
            clear hs v0 v1 v2 v3 v4 v5 v6 v7 v8 v9 va vb HO1 HO HJ HPE HLN
            go_wp2
            go_roundg (A - (k + 1))
            case measure => omega
            case rel => exact ⟨k + 1, by omega, by omega, by go_num, HJ3, HO3⟩
        · have hkk : k = A := by omega
          subst hkk
          have HJ3 : Hid (J (allS (fillP L p r) p.w.toNat (Y + (i + 1))) wr) := hide' (by
            have h := HI1.out (by omega)
            have e := rowS_end (P := fillP L p r) (j := Y + i) (a := X + k) (p.w.toNat - (X + k)) (fun c hc e => by have := h.2.2.2.1 _ _ e; omega)
            rw [show X + k + (p.w.toNat - (X + k)) = p.w.toNat by omega] at e
            show J (allS (fillP L p r) p.w.toNat (Y + i) ++ rowS (fillP L p r) (Y + i) p.w.toNat) wr
            rw [e]
            exact HJ.out)
          clear HJ
          go_wp2
          go_roundg (H - (i + 1))
          case measure => omega
          case rel => exact ⟨i + 1, by omega, by omega, by go_num, HJ3, HO⟩
    · have hii : i = H := by omega
      subst hii
      have HFN : Hid (∃ xs, xs = ownS L p r ∧ J xs wr) := hide' ⟨_, HN1.out.symm, HJ.out⟩
      clear HO HJ
      go_wp2
      go_end0
      exact ⟨⟨_, rfl⟩, HFN.out⟩

end Go.Proofs.Yticccknocjnkpaa
