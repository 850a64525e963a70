/-
  What the slave writes, and reads: walked. No conditions.
-/
import Derived.Test.YtjfhmpjpdcckhaaC2
import Derived.BigQuiet
import Derived.Lib.MinMax
import Derived.Deep.CutBlock
namespace Go.Proofs.Ytjfhmpjpdcckhaa
open Go.RowKit
open L17 L18

theorem fits_cons (c : Int) (l : List Int) (s : Pq) : Pq.Fits (c :: l) s = (s.ok c = true ∧ Pq.Fits l (s.put c)) := rfl

theorem puts_cons (c : Int) (l : List Int) (s : Pq) : Pq.puts (c :: l) s = Pq.puts l (s.put c) := rfl

theorem fits_at : ∀ (l : List Int) (s : Pq) (j : Nat), Pq.Fits l s → j < l.length → (Pq.puts (l.take j) s).ok (l.getD j 0) = true := by
  intro l
  induction l with
  | nil => intro s j _ hj; simp at hj
  | cons c l ih =>
    intro s j h hj
    rw [fits_cons] at h
    cases j with
    | zero => rw [List.take_zero, List.getD_cons_zero]; exact h.1
    | succ j =>
      rw [List.take_succ_cons, List.getD_cons_succ, puts_cons]
      exact ih (s.put c) j h.2 (by simpa using hj)

section
variable {w : World} {g p : Nat} {U : Nat → Prop} {s : Pq}

theorem PAt.cell0 (h : PAt w g p U s) : w.cell? ⟨g, 0, none⟩ = some (.pointer (some ⟨p, 0, none⟩)) := by
  obtain ⟨O, v, hb, _⟩ := h
  exact hb.box.c0

theorem PAt.stopped (h : PAt w g p U s) : Calls Try.prog 20 #[.pointer (some ⟨p, 0, none⟩)] w (Gives (.bool s.d.stp) w) := by
  obtain ⟨O, v, hb, _⟩ := h
  exact a_stopped hb.dat

set_option maxRecDepth 100000 in
theorem sread10 {N : Nat} (n : Int) (h : PAt w g p U s) (hO : Ok N s.d) (hN : N ≤ 50000) (hn : 1 ≤ n) (hm : n ≤ 9223372036854775807) (he : (s.d.rd n).2 = false) :
    Calls Try.prog 10 #[.pointer (some ⟨g, 0, none⟩), .int .i64 n] w (ReadQ g p U (s.setD (s.d.rdS n)) (s.d.rd n).1 (if (s.d.rd n).1 = [] then 12 else 0) w) := by
  have HP := hide' h
  obtain ⟨O, v, hb, hU, _⟩ := h
  have HU := hide' hU
  have HB := hide' hb
  have HR : Hid (∀ w', Stay (fun _ => False) w w' → Calls Try.prog 22 #[.pointer (some ⟨p, 0, none⟩), .int .i64 n] w' (fun e w'' => ∃ v O', e = .returned (.tuple #[v, .bool false]) ∧ BR w'' v (s.d.rd n).1 ∧ At w'' p O' (s.d.rdS n) ∧ Stay O w' w'' ∧ Grown O O' w')) := fun w' hs => by
    have h1 := a_read n (hb.dat.keep hs (fun _ h => h.elim)) hO (by omega) hm
    unfold RdP at h1
    rw [he] at h1
    exact h1
  have HS0 := hide' (Stay.refl (fun _ => False) w)
  have HEN : Hid (∀ w', Stay (fun _ => False) w w' → Calls Try.prog 17 #[.pointer (some ⟨g, 0, none⟩)] w' (Gives (.tuple #[.bool true, .bool true]) w')) := fun w' hs => ends17 (HP.out.keep hs)
  have d1 : decide (n < 1) = false := decide_eq_false (by omega)
  obtain ⟨l, hl⟩ : ∃ l, l = (s.d.rd n).1 := ⟨_, rfl⟩
  obtain ⟨d', hd⟩ : ∃ l, l = s.d.rdS n := ⟨_, rfl⟩
  rw [← hl, ← hd] at HR ⊢
  obtain ⟨er, her⟩ : ∃ x : Int, x = (if l = [] then 12 else 0) := ⟨_, rfl⟩
  rw [← her]
  have HER : Hid (er = if l = [] then 12 else 0) := her
  clear her hb hU hO hN hn hm he hl hd
  go_enter Try.func10, Try.ntmps10
  go_wp2_with fail
  refine (HEN.out _ HS0.out).mono ?_
  rintro e w1 ⟨rfl, hs⟩
  have HS1 := hide' (HS0.out.trans hs)
  clear hs HEN
  have c0 := (HP.out.keep HS1.out).cell0
  go_wp2_with fail
  refine (HR.out _ HS1.out).mono ?_
  rintro e w2 ⟨v2, O', rfl, hbr, hat, hs, hg⟩
  obtain ⟨va, vc, hv⟩ := hbr.shape
  obtain ⟨m, hm⟩ : ∃ n, n = l.length := ⟨_, rfl⟩
  rw [← hm] at hv
  subst hv
  have HBR := hide' hbr
  have hb2 := (HB.out.keep HS1.out).disc hat hs hg
  have HQ2 : Hid (PAt w2 g p (PU g O' v) (s.setD d')) := ⟨O', v, hb2, fun _ h => h, hb2.lt⟩
  have HF2 : Hid (From w U w2 (PU g O' v)) := ⟨(HS1.out.mono (T := U) (fun _ _ h => h.elim)).trans (hs.mono (fun k _ hk => HU.out k (.inr (.inl hk)))), fun k hk => by
    rcases PB.disc_grown HU.out hg k hk with e | e
    · exact .inl e
    · exact .inr (Nat.le_trans HS1.out.size e)⟩
  have HM := hide' hm
  clear hbr hat hs hg hm HR HB HP c0 hb2
  by_cases hz : m = 0
  · have HL : Hid (l = []) := List.eq_nil_of_length_eq_zero (by rw [← HM.out]; exact hz)
    subst hz
    go_wp2
    go_returns
    rw [HER.out, if_pos HL.out, HL.out]
    exact ⟨_, _, rfl, (BRow.nil w2 ⟨0, fun _ => True, trivial⟩).br, HQ2.out, HF2.out.stay, HF2.out.own⟩
  · have HL : Hid (l ≠ []) := fun e => hz (by rw [HM.out, e]; rfl)
    have k1 : decide ((0 : Int) < (m : Int)) = true := by simp; omega
    go_wp2
    go_returns
    rw [HER.out, if_neg HL.out]
    exact ⟨_, _, rfl, HBR.out, HQ2.out, HF2.out.stay, HF2.out.own⟩

set_option maxRecDepth 100000 in
set_option maxHeartbeats 2000000 in
theorem swrite9 {n vc : Nat} {va : Option Addr} (l : List Int) (h : PAt w g p U s) (hF : Free w U (.slice va n vc) l) (hn : n = l.length) (hq : s.q.length ≤ 4096) (hC : Pq.Fits l s) (hp : s.d.stp = false) :
    Calls Try.prog 9 #[.pointer (some ⟨g, 0, none⟩), .slice va n vc] w (TurnQ g p U (Pq.puts l s) (.tuple #[.int .i64 (n : Nat), .int .i64 0]) w) := by
  have HP := hide' h
  have HFR := hide' hF
  have HN := hide' hn
  have HQ := hide' hq
  have HC := hide' hC
  have HPP := hide' hp
  have hnz := hF.len
  rw [← hn] at hnz
  have HS0 := hide' (Stay.refl (fun _ => False) w)
  have HEN : Hid (∀ w', Stay (fun _ => False) w w' → Calls Try.prog 17 #[.pointer (some ⟨g, 0, none⟩)] w' (Gives (.tuple #[.bool true, .bool true]) w')) := fun w' hs => ends17 (HP.out.keep hs)
  have HMY := hide' mayWrite18
  clear h hF hn hq hC hp
  go_enter Try.func9, Try.ntmps9
  go_wp2_with fail
  refine (HEN.out _ HS0.out).mono ?_
  rintro e w1 ⟨rfl, hs⟩
  have HS1 := hide' (HS0.out.trans hs)
  clear hs HEN
  go_wp2_with fail
  refine (HMY.out _).mono ?_
  rintro e w2 ⟨rfl, hs⟩
  have HS2 := hide' (HS1.out.trans hs)
  have HP2 := hide' (HP.out.keep HS2.out)
  have HF2 := hide' (HFR.out.keep HS2.out)
  have HM2 := hide' ((From.refl w U).calm HS2.out)
  clear hs HMY HP HFR HS0 HS1
  go_wp2
  go_loopg [9] n (fun gg v6 wr => ∃ j : Nat, j ≤ n ∧ gg = n - j ∧ v6 = .int .i64 (j : Int) ∧ ∃ U' : Nat → Prop, Hid (PAt wr g p U' (Pq.puts (l.take j) s) ∧ From w U wr U' ∧ Free wr U' (.slice va n vc) l))
  case atStart => exact ⟨0, Nat.zero_le _, rfl, rfl, U, HP2.out, HM2.out, HF2.out⟩
  case round =>
    clear HP2 HM2 HF2
    obtain ⟨j, hj, rfl, rfl, U', HRL⟩ := hrel
    obtain ⟨w3, hw3⟩ : ∃ W, W = wr := ⟨_, rfl⟩
    rw [← hw3] at HRL ⊢
    clear hw3
    by_cases hlt : j < n
    · have kj : decide ((j : Int) < n) = true := by simp; omega
      have kj2 : (j : Int) < n := by omega
      obtain ⟨gb, ob, eb, hby, y0, y1⟩ := HRL.out.2.2.byte HN.out j hlt
      subst eb
      have hjl : j < l.length := by rw [← HN.out]; exact hlt
      have HTS := hide' (take_snoc l j hjl)
      have HOK := hide' (fits_at l s j HC.out hjl)
      obtain ⟨y, hy⟩ : ∃ y, y = l.getD j 0 := ⟨_, rfl⟩
      rw [← hy] at hby y0 y1 HTS HOK
      have HY : Hid (y = l.getD j 0) := hy
      have HQL : Hid ((Pq.puts (l.take j) s).q.length ≤ 4096) := Pq.puts_len _ HQ.out
      have HPD := hide' (HRL.out.1.keep ((Stay.refl (fun _ => False) w3).drew))
      have HMD := hide' (HRL.out.2.1.calm ((Stay.refl (fun _ => False) w3).drew))
      have HFD := hide' (HRL.out.2.2.keep ((Stay.refl (fun _ => False) w3).drew))
      have HST : Hid (Calls Try.prog 20 #[.pointer (some ⟨p, 0, none⟩)] w3.drew (Gives (.bool false) w3.drew)) := by rw [← HPP.out, ← Pq.puts_d (l.take j) s]; exact HPD.out.stopped
      have hS : w3.drew.cell? ⟨g, 0, none⟩ = some (.pointer (some ⟨p, 0, none⟩)) ∧ w3.drew.cell? ⟨gb, ob + j, none⟩ = some (.int .u8 y) := ⟨HPD.out.cell0, keep_cell ((Stay.refl _ _).drew) hby⟩
      clear hy hjl hby HRL
      go_upto_region 6 with fail
      refine wp_region_mix (fun w' => w'.cell? ⟨g, 0, none⟩ = some (.pointer (some ⟨p, 0, none⟩)) ∧ w'.cell? ⟨gb, ob + j, none⟩ = some (.int .u8 y)) [(0, true), (1, true), (2, true), (3, true), (4, true), (5, true), (6, true), (7, true), (8, true), (9, true), (10, false), (11, true), (12, true), (13, true), (14, true), (15, true), (16, true), (17, true), (18, true), (19, true), (20, true), (21, false), (22, true)] (by kernel_rfl) (by kernel_rfl) (fun _ d _ _ _ h => by cases d <;> exact h) hS ?_
      refine mix_begin (fun K0 hK0 => ?_)
      refine mix_take hK0 (some 21) (.move (.tmp 9)) 3 _ (by kernel_rfl) (by kernel_rfl) (fun w' hS' => by simp only [opr]; go_simp; try with_reducible rfl) (fun K1 hK1 => ?_)
      clear hK0 K0
      simp only [Act.put, List.setIfInBounds_toArray, List.set_cons_zero, List.set_cons_succ]
      refine mix_take hK1 (some 22) (.move (.tmp 1)) 22 _ (by kernel_rfl) (by kernel_rfl) (fun w' hS' => by simp only [opr]; go_simp; try with_reducible rfl) (fun K2 hK2 => ?_)
      clear hK1 K1
      simp only [Act.put, List.setIfInBounds_toArray, List.set_cons_zero, List.set_cons_succ]
      refine mix_take hK2 (some 23) (.call { callee := Callee.builtin Builtin.len, args := #[.tmp 22], argTypes := #[22] }) 3 _ (by kernel_rfl) (by kernel_rfl) (fun w' hS' => by simp only [opr]; go_simp; try with_reducible rfl) (fun K3 hK3 => ?_)
      clear hK2 K2
      simp only [Act.put, List.setIfInBounds_toArray, List.set_cons_zero, List.set_cons_succ]
      refine mix_take hK3 (some 24) (.binOp BinOp.lss 3 (.tmp 21) (.tmp 23) 3) 4 _ (by kernel_rfl) (by kernel_rfl) (fun w' hS' => by simp only [opr]; go_simp; try with_reducible rfl) (fun K4 hK4 => ?_)
      clear hK3 K3
      simp only [Act.put, List.setIfInBounds_toArray, List.set_cons_zero, List.set_cons_succ]
      refine mix_take hK4 (some 25) (.move (.tmp 24)) 4 _ (by kernel_rfl) (by kernel_rfl) (fun w' hS' => by simp only [opr]; go_simp; try with_reducible rfl) (fun K5 hK5 => ?_)
      clear hK4 K4
      simp only [Act.put, List.setIfInBounds_toArray, List.set_cons_zero, List.set_cons_succ]
      refine mix_take hK5 (some 26) (.move (.tmp 0)) 24 _ (by kernel_rfl) (by kernel_rfl) (fun w' hS' => by simp only [opr]; go_simp; try with_reducible rfl) (fun K6 hK6 => ?_)
      clear hK5 K5
      simp only [Act.put, List.setIfInBounds_toArray, List.set_cons_zero, List.set_cons_succ]
      refine mix_take hK6 (some 27) (.nilCheck (.tmp 26)) 0 _ (by kernel_rfl) (by kernel_rfl) (fun w' hS' => by simp only [opr]; go_simp; try with_reducible rfl) (fun K7 hK7 => ?_)
      clear hK6 K6
      simp only [Act.put, List.setIfInBounds_toArray, List.set_cons_zero, List.set_cons_succ]
      refine mix_take hK7 (some 28) (.fieldAddr 53 (.tmp 27) 0) 0 _ (by kernel_rfl) (by kernel_rfl) (fun w' hS' => by simp only [opr]; go_simp; try with_reducible rfl) (fun K8 hK8 => ?_)
      clear hK7 K7
      simp only [Act.put, List.setIfInBounds_toArray, List.set_cons_zero, List.set_cons_succ]
      refine mix_take hK8 (some 29) (.fieldAddr 49 (.tmp 28) 0) 0 _ (by kernel_rfl) (by kernel_rfl) (fun w' hS' => by simp only [opr]; go_simp; try with_reducible rfl) (fun K9 hK9 => ?_)
      clear hK8 K8
      simp only [Act.put, List.setIfInBounds_toArray, List.set_cons_zero, List.set_cons_succ]
      refine mix_take hK9 (some 30) (.load 47 (.tmp 29)) 47 _ (by kernel_rfl) (by kernel_rfl) (fun w' hS' => by have c0 := hS'.1; simp only [opr]; go_simp; try with_reducible rfl) (fun K10 hK10 => ?_)
      clear hK9 K9
      simp only [Act.put, List.setIfInBounds_toArray, List.set_cons_zero, List.set_cons_succ]
      refine mix_call hK10 (some 31) 20 #[.tmp 30] #[47] 4 _ (by kernel_rfl) (by kernel_rfl) (enters Try.func20 (by kernel_rfl) (by kernel_rfl)) (by go_simp; try with_reducible rfl) (fun K11 hK11 => ?_)
      clear hK10 K10
      refine (HST.out).mono ?_
      rintro e wm1 ⟨rfl, hs1⟩
      have hS1 : _ := And.intro (keep_cell hs1 hS.1) (keep_cell hs1 hS.2)
      refine ⟨_, rfl, hS1, ?_⟩
      have HPM := hide' (HPD.out.keep hs1)
      have HFM := hide' (HFD.out.keep hs1)
      have HMM := hide' (HMD.out.calm hs1)
      have HPU := hide' (put21 y HPM.out HQL.out y0 y1)
      rw [HOK.out] at HPU
      clear hs1
      simp only [Act.put, List.setIfInBounds_toArray, List.set_cons_zero, List.set_cons_succ]
      refine mix_take hK11 (some 32) (.unOp UnOp.not 4 (.tmp 31)) 4 _ (by kernel_rfl) (by kernel_rfl) (fun w' hS' => by simp only [opr]; go_simp; try with_reducible rfl) (fun K12 hK12 => ?_)
      clear hK11 K11
      simp only [Act.put, List.setIfInBounds_toArray, List.set_cons_zero, List.set_cons_succ]
      refine mix_take hK12 (some 33) (.pick (.tmp 25) (.tmp 32) (.const (Value.bool false))) 4 _ (by kernel_rfl) (by kernel_rfl) (fun w' hS' => by simp only [opr]; go_simp; try with_reducible rfl) (fun K13 hK13 => ?_)
      clear hK12 K12
      simp only [Act.put, List.setIfInBounds_toArray, List.set_cons_zero, List.set_cons_succ]
      refine mix_take hK13 (some 34) (.move (.tmp 33)) 4 _ (by kernel_rfl) (by kernel_rfl) (fun w' hS' => by simp only [opr]; go_simp; try with_reducible rfl) (fun K14 hK14 => ?_)
      clear hK13 K13
      simp only [Act.put, List.setIfInBounds_toArray, List.set_cons_zero, List.set_cons_succ]
      refine mix_take hK14 (some 35) (.move (.tmp 0)) 24 _ (by kernel_rfl) (by kernel_rfl) (fun w' hS' => by simp only [opr]; go_simp; try with_reducible rfl) (fun K15 hK15 => ?_)
      clear hK14 K14
      simp only [Act.put, List.setIfInBounds_toArray, List.set_cons_zero, List.set_cons_succ]
      refine mix_take hK15 (some 36) (.nilCheck (.tmp 35)) 0 _ (by kernel_rfl) (by kernel_rfl) (fun w' hS' => by simp only [opr]; go_simp; try with_reducible rfl) (fun K16 hK16 => ?_)
      clear hK15 K15
      simp only [Act.put, List.setIfInBounds_toArray, List.set_cons_zero, List.set_cons_succ]
      refine mix_take hK16 (some 37) (.fieldAddr 53 (.tmp 36) 0) 0 _ (by kernel_rfl) (by kernel_rfl) (fun w' hS' => by simp only [opr]; go_simp; try with_reducible rfl) (fun K17 hK17 => ?_)
      clear hK16 K16
      simp only [Act.put, List.setIfInBounds_toArray, List.set_cons_zero, List.set_cons_succ]
      refine mix_take hK17 (some 38) (.move (.tmp 1)) 22 _ (by kernel_rfl) (by kernel_rfl) (fun w' hS' => by simp only [opr]; go_simp; try with_reducible rfl) (fun K18 hK18 => ?_)
      clear hK17 K17
      simp only [Act.put, List.setIfInBounds_toArray, List.set_cons_zero, List.set_cons_succ]
      refine mix_take hK18 (some 39) (.move (.tmp 9)) 3 _ (by kernel_rfl) (by kernel_rfl) (fun w' hS' => by simp only [opr]; go_simp; try with_reducible rfl) (fun K19 hK19 => ?_)
      clear hK18 K18
      simp only [Act.put, List.setIfInBounds_toArray, List.set_cons_zero, List.set_cons_succ]
      refine mix_take hK19 (some 40) (.indexAddr 22 (.tmp 38) (.tmp 39)) 0 _ (by kernel_rfl) (by kernel_rfl) (fun w' hS' => by simp only [opr]; go_simp; try with_reducible rfl) (fun K20 hK20 => ?_)
      clear hK19 K19
      simp only [Act.put, List.setIfInBounds_toArray, List.set_cons_zero, List.set_cons_succ]
      refine mix_take hK20 (some 41) (.load 5 (.tmp 40)) 5 _ (by kernel_rfl) (by kernel_rfl) (fun w' hS' => by have c1 := hS'.2; simp only [opr]; go_simp; try with_reducible rfl) (fun K21 hK21 => ?_)
      clear hK20 K20
      simp only [Act.put, List.setIfInBounds_toArray, List.set_cons_zero, List.set_cons_succ]
      refine mix_call hK21 (some 42) 21 #[.tmp 37, .tmp 41] #[49, 5] 4 _ (by kernel_rfl) (by kernel_rfl) (enters Try.func21 (by kernel_rfl) (by kernel_rfl)) (by go_simp; try with_reducible rfl) (fun K22 hK22 => ?_)
      clear hK21 K21
      refine (HPU.out).mono ?_
      rintro e wm2 ⟨U2, rfl, hat, hs2, hg⟩
      have hS2 : _ := And.intro hat.cell0 (show wm2.cell? ⟨gb, ob + j, none⟩ = some (.int .u8 y) from by obtain ⟨_, _, e, h, _⟩ := (HFM.out.step hs2 hg).byte HN.out j hlt; cases e; rw [HY.out]; exact h)
      refine ⟨_, rfl, hS2, ?_⟩
      have HA4 := hide' hat
      have HF4 := hide' (HMM.out.step hs2 hg)
      have HR4 := hide' (HFM.out.step hs2 hg)
      clear hat hg
      clear hs2
      simp only [Act.put, List.setIfInBounds_toArray, List.set_cons_zero, List.set_cons_succ]
      refine mix_take hK22 (some 43) (.pick (.tmp 34) (.tmp 42) (.const (Value.bool false))) 4 _ (by kernel_rfl) (by kernel_rfl) (fun w' hS' => by simp only [opr]; go_simp; try with_reducible rfl) (fun K23 hK23 => ?_)
      clear hK22 K22
      simp only [Act.put, List.setIfInBounds_toArray, List.set_cons_zero, List.set_cons_succ]
      refine hK23 _ _ (mix_nil ?_)
      clear hK23 K23
      have HA5 : Hid (PAt wm2 g p U2 (Pq.puts (l.take (j + 1)) s)) := by rw [HTS.out, Pq.puts_append]; exact HA4.out
      have ej : wrap64 ((j : Int) + 1) = ((j + 1 : Nat) : Int) := by unfold wrap64; omega
      clear hS hS1 hS2 HPU HPM HFM HMM HPD HFD HMD HST HTS HOK HA4 HQL HY
      go_wp2
      go_roundg (n - (j + 1))
      case measure => omega
      case rel => exact ⟨j + 1, by omega, rfl, by go_num, U2, HA5.out, HF4.out, HR4.out⟩
    · have kj : decide ((j : Int) < n) = false := by simp; omega
      have hjn : j = n := by omega
      have HA3 : Hid (PAt w3.drew g p U' (Pq.puts l s)) := by
        have h := HRL.out.1.keep ((Stay.refl (fun _ => False) w3).drew)
        rw [List.take_of_length_le (by rw [← HN.out]; omega)] at h
        exact h
      have HF3 := hide' (HRL.out.2.1.calm ((Stay.refl (fun _ => False) w3).drew))
      clear HRL
      subst hjn
      go_upto_region 6 with fail
      have hS : True := trivial
      refine wp_region_mix (fun _ => True) [(0, true), (1, true), (2, true), (3, true), (4, true), (5, true), (6, true), (7, true), (8, true), (9, true), (10, false), (11, true), (12, true), (13, true), (14, true), (15, true), (16, true), (17, true), (18, true), (19, true), (20, true), (21, false), (22, true)] (by kernel_rfl) (by kernel_rfl) (fun _ d _ _ _ h => by cases d <;> exact h) hS ?_
      refine mix_begin (fun K0 hK0 => ?_)
      refine mix_take hK0 (some 21) (.move (.tmp 9)) 3 _ (by kernel_rfl) (by kernel_rfl) (fun w' hS' => by simp only [opr]; go_simp; try with_reducible rfl) (fun K1 hK1 => ?_)
      clear hK0 K0
      simp only [Act.put, List.setIfInBounds_toArray, List.set_cons_zero, List.set_cons_succ]
      refine mix_take hK1 (some 22) (.move (.tmp 1)) 22 _ (by kernel_rfl) (by kernel_rfl) (fun w' hS' => by simp only [opr]; go_simp; try with_reducible rfl) (fun K2 hK2 => ?_)
      clear hK1 K1
      simp only [Act.put, List.setIfInBounds_toArray, List.set_cons_zero, List.set_cons_succ]
      refine mix_take hK2 (some 23) (.call { callee := Callee.builtin Builtin.len, args := #[.tmp 22], argTypes := #[22] }) 3 _ (by kernel_rfl) (by kernel_rfl) (fun w' hS' => by simp only [opr]; go_simp; try with_reducible rfl) (fun K3 hK3 => ?_)
      clear hK2 K2
      simp only [Act.put, List.setIfInBounds_toArray, List.set_cons_zero, List.set_cons_succ]
      refine mix_take hK3 (some 24) (.binOp BinOp.lss 3 (.tmp 21) (.tmp 23) 3) 4 _ (by kernel_rfl) (by kernel_rfl) (fun w' hS' => by simp only [opr]; go_simp; try with_reducible rfl) (fun K4 hK4 => ?_)
      clear hK3 K3
      simp only [Act.put, List.setIfInBounds_toArray, List.set_cons_zero, List.set_cons_succ]
      refine mix_take hK4 (some 25) (.move (.tmp 24)) 4 _ (by kernel_rfl) (by kernel_rfl) (fun w' hS' => by simp only [opr]; go_simp; try with_reducible rfl) (fun K5 hK5 => ?_)
      clear hK4 K4
      simp only [Act.put, List.setIfInBounds_toArray, List.set_cons_zero, List.set_cons_succ]
      refine mix_skip hK5 (some 26) (by kernel_rfl) (by kernel_rfl) hS (fun K6 hK6 => ?_)
      clear hK5 K5
      simp only [Act.put, List.setIfInBounds_toArray, List.set_cons_zero, List.set_cons_succ]
      refine mix_skip hK6 (some 27) (by kernel_rfl) (by kernel_rfl) hS (fun K7 hK7 => ?_)
      clear hK6 K6
      simp only [Act.put, List.setIfInBounds_toArray, List.set_cons_zero, List.set_cons_succ]
      refine mix_skip hK7 (some 28) (by kernel_rfl) (by kernel_rfl) hS (fun K8 hK8 => ?_)
      clear hK7 K7
      simp only [Act.put, List.setIfInBounds_toArray, List.set_cons_zero, List.set_cons_succ]
      refine mix_skip hK8 (some 29) (by kernel_rfl) (by kernel_rfl) hS (fun K9 hK9 => ?_)
      clear hK8 K8
      simp only [Act.put, List.setIfInBounds_toArray, List.set_cons_zero, List.set_cons_succ]
      refine mix_skip hK9 (some 30) (by kernel_rfl) (by kernel_rfl) hS (fun K10 hK10 => ?_)
      clear hK9 K9
      simp only [Act.put, List.setIfInBounds_toArray, List.set_cons_zero, List.set_cons_succ]
      refine mix_skip hK10 (some 31) (by kernel_rfl) (by kernel_rfl) hS (fun K11 hK11 => ?_)
      clear hK10 K10
      simp only [Act.put, List.setIfInBounds_toArray, List.set_cons_zero, List.set_cons_succ]
      refine mix_skip hK11 (some 32) (by kernel_rfl) (by kernel_rfl) hS (fun K12 hK12 => ?_)
      clear hK11 K11
      simp only [Act.put, List.setIfInBounds_toArray, List.set_cons_zero, List.set_cons_succ]
      refine mix_take hK12 (some 33) (.pick (.tmp 25) (.tmp 32) (.const (Value.bool false))) 4 _ (by kernel_rfl) (by kernel_rfl) (fun w' hS' => by simp only [opr]; go_simp; try with_reducible rfl) (fun K13 hK13 => ?_)
      clear hK12 K12
      simp only [Act.put, List.setIfInBounds_toArray, List.set_cons_zero, List.set_cons_succ]
      refine mix_take hK13 (some 34) (.move (.tmp 33)) 4 _ (by kernel_rfl) (by kernel_rfl) (fun w' hS' => by simp only [opr]; go_simp; try with_reducible rfl) (fun K14 hK14 => ?_)
      clear hK13 K13
      simp only [Act.put, List.setIfInBounds_toArray, List.set_cons_zero, List.set_cons_succ]
      refine mix_skip hK14 (some 35) (by kernel_rfl) (by kernel_rfl) hS (fun K15 hK15 => ?_)
      clear hK14 K14
      simp only [Act.put, List.setIfInBounds_toArray, List.set_cons_zero, List.set_cons_succ]
      refine mix_skip hK15 (some 36) (by kernel_rfl) (by kernel_rfl) hS (fun K16 hK16 => ?_)
      clear hK15 K15
      simp only [Act.put, List.setIfInBounds_toArray, List.set_cons_zero, List.set_cons_succ]
      refine mix_skip hK16 (some 37) (by kernel_rfl) (by kernel_rfl) hS (fun K17 hK17 => ?_)
      clear hK16 K16
      simp only [Act.put, List.setIfInBounds_toArray, List.set_cons_zero, List.set_cons_succ]
      refine mix_skip hK17 (some 38) (by kernel_rfl) (by kernel_rfl) hS (fun K18 hK18 => ?_)
      clear hK17 K17
      simp only [Act.put, List.setIfInBounds_toArray, List.set_cons_zero, List.set_cons_succ]
      refine mix_skip hK18 (some 39) (by kernel_rfl) (by kernel_rfl) hS (fun K19 hK19 => ?_)
      clear hK18 K18
      simp only [Act.put, List.setIfInBounds_toArray, List.set_cons_zero, List.set_cons_succ]
      refine mix_skip hK19 (some 40) (by kernel_rfl) (by kernel_rfl) hS (fun K20 hK20 => ?_)
      clear hK19 K19
      simp only [Act.put, List.setIfInBounds_toArray, List.set_cons_zero, List.set_cons_succ]
      refine mix_skip hK20 (some 41) (by kernel_rfl) (by kernel_rfl) hS (fun K21 hK21 => ?_)
      clear hK20 K20
      simp only [Act.put, List.setIfInBounds_toArray, List.set_cons_zero, List.set_cons_succ]
      refine mix_skip hK21 (some 42) (by kernel_rfl) (by kernel_rfl) hS (fun K22 hK22 => ?_)
      clear hK21 K21
      simp only [Act.put, List.setIfInBounds_toArray, List.set_cons_zero, List.set_cons_succ]
      refine mix_take hK22 (some 43) (.pick (.tmp 34) (.tmp 42) (.const (Value.bool false))) 4 _ (by kernel_rfl) (by kernel_rfl) (fun w' hS' => by simp only [opr]; go_simp; try with_reducible rfl) (fun K23 hK23 => ?_)
      clear hK22 K22
      simp only [Act.put, List.setIfInBounds_toArray, List.set_cons_zero, List.set_cons_succ]
      refine hK23 _ _ (mix_nil ?_)
      clear hK23 K23
      clear hS
      by_cases hz : j = 0
      · subst hz
        go_wp2
        go_returns
        exact ⟨U', rfl, HA3.out, HF3.out.stay, HF3.out.own⟩
      · have hz2 : ((j : Int) == 0) = false := by simp; omega
        go_wp2
        go_returns
        exact ⟨U', rfl, HA3.out, HF3.out.stay, HF3.out.own⟩

end

end Go.Proofs.Ytjfhmpjpdcckhaa
