/-
  LdiscErase walked: true of any bytes. No conditions.
-/
import Derived.Test.YtkggmjjjopfdbaaM2
namespace Go.Proofs.Ytkggmjjjopfdbaa
open Go.RowKit
open L17

/-- What stands since w1: blocks of O1 alone may have turned, and what is the discipline's is one of them, or new. -/
structure From (w1 : World) (O1 : Nat → Prop) (wr : World) (O : Nat → Prop) : Prop where
  stay : Stay O1 w1 wr
  own : ∀ k, O k → O1 k ∨ w1.heap.size ≤ k

theorem From.refl (w : World) (O : Nat → Prop) : From w O w O := ⟨Stay.refl _ _, fun _ h => .inl h⟩

theorem From.step {w1 wr w2 : World} {O1 O O2 : Nat → Prop} (h : From w1 O1 wr O) (hs : Stay O wr w2) (hg : Grown O O2 wr) : From w1 O1 w2 O2 :=
  ⟨h.stay.trans2 hs (fun j hj e => by
    rcases h.own j e with h | h
    · exact h
    · omega), fun k hk => by
    rcases hg k hk with e | e
    · exact h.own k e
    · exact .inr (Nat.le_trans h.stay.size e)⟩

theorem From.calm {w1 wr w2 : World} {O1 O : Nat → Prop} (h : From w1 O1 wr O) (hs : Stay (fun _ => False) wr w2) : From w1 O1 w2 O :=
  ⟨h.stay.trans (hs.mono (fun _ _ h => h.elim)), h.own⟩

theorem From.made {w w2 : World} {O : Nat → Prop} (hs : Stay (fun _ => False) w w2) (hO : ∀ k, O k → w.heap.size ≤ k) : From w (fun _ => False) w2 O := ⟨hs, fun k hk => .inr (hO k hk)⟩

/-- A letter for a byte. -/
def ltr (x : Int) : Int := 97 + x % 26

theorem ltr_range (x : Int) : 97 ≤ ltr x ∧ ltr x < 123 := by unfold ltr; omega

theorem ltr_step (l : List Int) (k : Nat) (h : k < l.length) : (l.take (k + 1)).map ltr = (l.take k).map ltr ++ [ltr (l.getD k 0)] := by
  rw [List.take_add_one, List.getElem?_eq_getElem h, List.map_append, List.getD_eq_getElem?_getD, List.getElem?_eq_getElem h]
  rfl

/-- Bytes that came in, one of them. -/
theorem iarg_byte {w wr : World} {a : Option Addr} {n cap : Nat} {l : List Int} (h : IArg .u8 w (.slice a n cap) l a cap) (hs : Stay (fun _ => False) w wr) (k : Nat) (hk : k < n) : ∃ g o, a = some ⟨g, o, none⟩ ∧ wr.cell? ⟨g, o + k, none⟩ = some (.int .u8 (l.getD k 0)) ∧ 0 ≤ l.getD k 0 ∧ l.getD k 0 < 256 := by
  have hn : n = l.length := by have := h.shape; injection this
  obtain ⟨g, o, e, hg, hi⟩ := h.cells (fun e => by rw [e] at hn; simp at hn; omega)
  have hw := wf_u8 (h.wf (l.getD k 0) (getD_mem (by omega)))
  refine ⟨g, o, e, ?_, hw.1, by have := hw.2; omega⟩
  exact keep_cell hs (hi k (by omega))

section
variable {At : World → Nat → (Nat → Prop) → DS → Prop}

theorem Impl.at_ec (HI : Impl At) {w : World} {p : Nat} {O : Nat → Prop} {f : Int} {L : List Int} {Ls : List (List Int)} {x : Bool} {e : List Int} (h : At w p O (pd f L Ls x e)) : At w p O (pd f L Ls x []) := HI.noEc [] h

theorem ok_pd (f : Int) (hf : Fl f) (hr : rightB (pl f) = true) (L : List Int) (Ls : List (List Int)) (x : Bool) (e : List Int) (N : Nat) (hl : L.length ≤ 255) (h1 : Ls.flatten.length ≤ 1024) (h2 : Ls.length ≤ N) : Ok N (pd f L Ls x e) :=
  ⟨hr, hl, by show 0 ≤ 1279; omega, h1, h2, fun _ => rfl, fun k => by
    have k : hasB f 1 = false := k
    rw [hf.a1] at k; cases k⟩

theorem right_623 : rightB (pl 623) = true := by decide +kernel
theorem right_751 : rightB (pl 751) = true := by decide +kernel

set_option maxHeartbeats 1000000 in
theorem erase_long (HI : Impl At) (aa ab : Option Addr) (na nb ca cb : Nat) (w : World) (ha : (na : Int) ≤ 9223372036854775807) (hb : (nb : Int) ≤ 9223372036854775807) (h : 40 < na ∨ 40 < nb) : Calls Try.prog 8 #[.slice aa na ca, .slice ab nb cb] w (LawTrue w) := by
  have HAW := hide' (fun w => awake_walk HI w)
  have HS := hide' (Stay.refl (fun _ => False) w)
  by_cases h1 : 40 < na
  · have k1 : decide ((40 : Int) < na) = true := by simp; omega
    clear h HI
    go_enter Try.func8, Try.ntmps8
    go_wp2_with fail
    refine (HAW.out _).mono ?_
    rintro e w1 ⟨rfl, hs⟩
    have HS1 := hide' (HS.out.trans hs)
    clear hs
    go_wp2
    go_ret
    exact ⟨by simp, HS1.out⟩
  · have k1 : decide ((40 : Int) < na) = false := by simp; omega
    have k2 : decide ((40 : Int) < nb) = true := by simp; omega
    have h2 : 40 < nb := by omega
    clear h HI
    go_enter Try.func8, Try.ntmps8
    go_wp2_with fail
    refine (HAW.out _).mono ?_
    rintro e w1 ⟨rfl, hs⟩
    have HS1 := hide' (HS.out.trans hs)
    clear hs
    go_wp2
    go_ret
    exact ⟨by simp, HS1.out⟩

attribute [local go_sem] eqlP_nil

set_option maxRecDepth 100000 in
set_option maxHeartbeats 2000000 in
theorem erase_walk (HI : Impl At) (A B : List Int) (aa ab : Option Addr) (na nb ca cb : Nat) (w : World) (hA : IArg .u8 w (.slice aa na ca) A aa ca) (hB : IArg .u8 w (.slice ab nb cb) B ab cb) (ha : na ≤ 40) (hb : nb ≤ 40) : Calls Try.prog 8 #[.slice aa na ca, .slice ab nb cb] w (LawTrue w) := by
  have HIM := hide' HI
  have HAW := hide' (fun w => awake_walk HI w)
  have HPL := hide' L17.plain26
  have HNW := hide' (fun w => HI.new plainT w plain_right)
  have hna : na = A.length := by have := hA.shape; injection this
  have hnb : nb = B.length := by have := hB.shape; injection this
  have HNA := hide' hna
  have HNB := hide' hnb
  have HA := hide' hA
  have HB := hide' hB
  have k1 : decide ((40 : Int) < na) = false := by simp; omega
  have k2 : decide ((40 : Int) < nb) = false := by simp; omega
  obtain ⟨t, ht⟩ : ∃ t, t = plainT := ⟨_, rfl⟩
  have HT := hide' ht
  rw [← ht] at HPL HNW
  clear HI ht hna hnb hA hB
  go_enter Try.func8, Try.ntmps8
  go_wp2_with fail
  refine (HPL.out _).mono ?_
  rintro e w1 ⟨rfl, hs⟩
  have HS1 := hide' hs
  clear hs
  go_wp2_with fail
  refine (HNW.out _).mono ?_
  rintro e w2 ⟨p, O, rfl, hat, hO, hs⟩
  have HA2 : Hid (At w2 p O (pd 623 (([] : List Int).map ltr) [] false [])) := by rw [HT.out] at hat; exact hat
  have HF2 := hide' (From.made (HS1.out.trans hs) (fun k hk => Nat.le_trans HS1.out.size (hO k hk)))
  clear hat hO hs HS1 HPL HNW
  go_wp2
  go_loopg [6] na (fun gg v6 wr => ∃ k : Nat, k ≤ na ∧ gg = na - k ∧ v6 = .int .i64 (k : Int) ∧ ∃ O' : Nat → Prop, Hid (At wr p O' (pd 623 ((A.take k).map ltr) [] false []) ∧ From w (fun _ => False) wr O'))
  case atStart => exact ⟨0, Nat.zero_le _, rfl, rfl, O, HA2.out, HF2.out⟩
  case round =>
    clear HA2 HF2
    obtain ⟨k, hk, rfl, rfl, O', HRL⟩ := hrel
    obtain ⟨w3, hw3⟩ : ∃ W, W = wr := ⟨_, rfl⟩
    rw [← hw3] at HRL ⊢
    clear hw3
    by_cases hlt : k < na
    · have kn : decide ((k : Int) < na) = true := by simp; omega
      have kn2 : (k : Int) < na := by omega
      obtain ⟨g9, o9, ea, hcell, hx0, hx1⟩ := iarg_byte HA.out HRL.out.2.stay k hlt
      have HST := hide' (ltr_step A k (by rw [← HNA.out]; exact hlt))
      subst ea
      obtain ⟨x, hx⟩ : ∃ x, x = A.getD k 0 := ⟨_, rfl⟩
      rw [← hx] at hcell hx0 hx1 HST
      have htm : x.tmod 26 = x % 26 := Int.tmod_eq_emod_of_nonneg hx0
      obtain ⟨y, hy⟩ : ∃ y, y = x % 26 := ⟨_, rfl⟩
      have hyr : 0 ≤ y ∧ y < 26 := by omega
      rw [← hy] at htm
      obtain ⟨c, hc⟩ : ∃ c, c = 97 + y := ⟨_, rfl⟩
      have h256 : (97 + y) % 256 = c := by omega
      have hcr : 97 ≤ c ∧ c < 123 := by omega
      have HC := hide' hcr
      have HLT : Hid (ltr x = c) := by show ltr x = c; unfold ltr; omega
      have HTK : Hid (((A.take k).map ltr).length ≤ 40) := by show _ ≤ 40; rw [List.length_map, List.length_take]; omega
      clear hx hx0 hx1 hy hyr hc hcr
      rw [HLT.out] at HST
      have HTY := hide' (type_pd 623 fl_623 ((A.take k).map ltr) [] [] c (by have := HC.out.1; omega) (by have := HC.out.2; omega) (by have := HTK.out; omega))
      rw [← HST.out] at HTY
      clear HLT
      go_wp2_with fail
      refine (HIM.out.input c HRL.out.1 (ok_pd 623 fl_623 right_623 _ [] false [] 0 (by have := HTK.out; omega) (by decide) (by decide)) (by decide) (by have := HC.out.1; omega) (by have := HC.out.2; omega)).mono ?_
      rintro e w4 ⟨v4, O2, rfl, hbe, hat, hs, hg⟩
      rw [HTY.out] at hat
      have HN : Hid (At w4 p O2 (pd 623 ((A.take (k + 1)).map ltr) [] false []) ∧ From w (fun _ => False) w4 O2) := ⟨HIM.out.noEc [] hat, HRL.out.2.step hs hg⟩
      clear hbe hat hs hg HRL HTY HTK HST HC
      go_wp2
      go_roundg (na - (k + 1))
      case measure => omega
      case rel => exact ⟨k + 1, by omega, rfl, by go_num, O2, HN⟩
    · have kn : decide ((k : Int) < na) = false := by simp; omega
      have HKN : Hid (A.take k = A) := List.take_of_length_le (by rw [← HNA.out]; omega)
      obtain ⟨L0, hL0⟩ : ∃ L, L = A.map ltr := ⟨_, rfl⟩
      have HA3 : Hid (At w3 p O' (pd 623 L0 [] false [])) := by rw [hL0, ← HKN.out]; rw [HKN.out]; have := HRL.out.1; rw [HKN.out] at this; exact this
      have HF3 := hide' HRL.out.2
      have HL0 : Hid (L0.length ≤ 40) := by show L0.length ≤ 40; rw [hL0, List.length_map, ← HNA.out]; exact ha
      clear HRL HKN hL0 hk
      go_wp2_with fail
      refine (HIM.out.line HA3.out (ok_pd 623 fl_623 right_623 L0 [] false [] 0 (by have := HL0.out; omega) (by decide) (by decide)) (by decide)).mono ?_
      rintro e w4 ⟨vl, al, cl, rfl, hln, hfr, hs⟩
      have HA4 := hide' (HIM.out.keep HA3.out hs (fun _ h => h.elim))
      have HF4 := hide' (HF3.out.calm hs)
      have HLN : Hid (∃ a c, IArg .u8 w4 vl L0 a c ∧ (L0 ≠ [] → ∀ ad, a = some ad → ¬ O' ad.block)) := ⟨al, cl, hln, hfr⟩
      have hsh := hln.shape
      obtain ⟨nl, hnl⟩ : ∃ n, n = L0.length := ⟨_, rfl⟩
      have hsh2 : vl = .slice al nl cl := by rw [hnl]; exact hsh
      subst hsh2
      have HG4 := hide' (From.refl w4 O')
      have hnb4 : nb ≤ 40 := hb
      clear hln hfr hs HA3 HF3 hsh hnl
      go_wp2
      go_loopg [8, 9] nb (fun gg v8 v9 wr => ∃ k : Nat, k ≤ nb ∧ gg = nb - k ∧ v8 = .int .i64 (k : Int) ∧ v9 = .int .i64 (k : Int) ∧ ∃ O2 : Nat → Prop, Hid (At wr p O2 (pd 623 (L0 ++ (B.take k).map ltr) [] false []) ∧ From w (fun _ => False) wr O2 ∧ From w4 O' wr O2))
      case atStart => exact ⟨0, Nat.zero_le _, rfl, rfl, rfl, O', by simpa using HA4.out, HF4.out, HG4.out⟩
      case round =>
        clear HA4 HF4 HG4
        obtain ⟨k, hk, rfl, rfl, rfl, O2, HRL⟩ := hrel
        obtain ⟨w5, hw5⟩ : ∃ W, W = wr := ⟨_, rfl⟩
        rw [← hw5] at HRL ⊢
        clear hw5
        by_cases hlt : k < nb
        · have kn : decide ((k : Int) < nb) = true := by simp; omega
          have kn2 : (k : Int) < nb := by omega
          obtain ⟨g9, o9, ea, hcell, hx0, hx1⟩ := iarg_byte HB.out HRL.out.2.1.stay k hlt
          have HST := hide' (ltr_step B k (by rw [← HNB.out]; exact hlt))
          subst ea
          obtain ⟨x, hx⟩ : ∃ x, x = B.getD k 0 := ⟨_, rfl⟩
          rw [← hx] at hcell hx0 hx1 HST
          have htm : x.tmod 26 = x % 26 := Int.tmod_eq_emod_of_nonneg hx0
          obtain ⟨y, hy⟩ : ∃ y, y = x % 26 := ⟨_, rfl⟩
          have hyr : 0 ≤ y ∧ y < 26 := by omega
          rw [← hy] at htm
          obtain ⟨c, hc⟩ : ∃ c, c = 97 + y := ⟨_, rfl⟩
          have h256 : (97 + y) % 256 = c := by omega
          have hcr : 97 ≤ c ∧ c < 123 := by omega
          have HC := hide' hcr
          have HLT : Hid (ltr x = c) := by show ltr x = c; unfold ltr; omega
          have HTK : Hid ((L0 ++ (B.take k).map ltr).length ≤ 80) := by show _ ≤ 80; rw [List.length_append, List.length_map, List.length_take]; have := HL0.out; omega
          clear hx hx0 hx1 hy hyr hc hcr
          rw [HLT.out] at HST
          have HTY := hide' (type_pd 623 fl_623 (L0 ++ (B.take k).map ltr) [] [] c (by have := HC.out.1; omega) (by have := HC.out.2; omega) (by have := HTK.out; omega))
          rw [List.append_assoc, ← HST.out] at HTY
          clear HLT
          go_wp2_with fail
          refine (HIM.out.input c HRL.out.1 (ok_pd 623 fl_623 right_623 _ [] false [] 0 (by have := HTK.out; omega) (by decide) (by decide)) (by decide) (by have := HC.out.1; omega) (by have := HC.out.2; omega)).mono ?_
          rintro e w6 ⟨v6, O3, rfl, hbe, hat, hs, hg⟩
          rw [HTY.out] at hat hbe
          obtain ⟨a6, c6, e6⟩ := hbe.shape
          have e6' : v6 = .slice a6 1 c6 := e6
          subst e6'
          have HN : Hid (At w6 p O3 (pd 623 (L0 ++ (B.take (k + 1)).map ltr) [] false []) ∧ From w (fun _ => False) w6 O3 ∧ From w4 O' w6 O3) := ⟨HIM.out.noEc [] hat, HRL.out.2.1.step hs hg, HRL.out.2.2.step hs hg⟩
          clear hbe hat hs hg HRL HTY HTK HST HC e6
          go_wp2
          go_roundg (nb - (k + 1))
          case measure => omega
          case rel => exact ⟨k + 1, by omega, rfl, by go_num, by go_num, O3, HN⟩
        · have kn : decide ((k : Int) < nb) = false := by simp; omega
          have ekn : k = nb := by omega
          have HKN : Hid (B.take k = B) := List.take_of_length_le (by rw [← HNB.out]; omega)
          have HA5 : Hid (At w5 p O2 (pd 623 (L0 ++ (B.take (nb - 0)).map ltr) [] false [])) := by rw [Nat.sub_zero, ← ekn]; exact HRL.out.1
          have HF5 := hide' HRL.out.2.1
          have HG5 := hide' HRL.out.2.2
          subst ekn
          clear HRL HKN hk
          go_wp2
          go_loopg [12, 13] k (fun gg v12 v13 wr => ∃ j : Nat, j ≤ k ∧ gg = k - j ∧ v12 = .int .i64 ((3 * j : Nat) : Int) ∧ v13 = .int .i64 (j : Int) ∧ ∃ O3 : Nat → Prop, Hid (At wr p O3 (pd 623 (L0 ++ (B.take (k - j)).map ltr) [] false []) ∧ From w (fun _ => False) wr O3 ∧ From w4 O' wr O3))
          case atStart => exact ⟨0, Nat.zero_le _, rfl, rfl, rfl, O2, HA5.out, HF5.out, HG5.out⟩
          case round =>
            clear HA5 HF5 HG5
            obtain ⟨j, hj, rfl, rfl, rfl, O3, HRL⟩ := hrel
            obtain ⟨w7, hw7⟩ : ∃ W, W = wr := ⟨_, rfl⟩
            rw [← hw7] at HRL ⊢
            clear hw7
            obtain ⟨m3, hm3⟩ : ∃ m, m = 3 * j := ⟨_, rfl⟩
            rw [← hm3]
            have hm4 : m3 ≤ 120 := by omega
            by_cases hlt : j < k
            · have kn9 : decide ((j : Int) < k) = true := by simp; omega
              have kn2 : (j : Int) < k := by omega
              have hq : k - j = (k - (j + 1)) + 1 := by omega
              obtain ⟨q, hqq⟩ : ∃ q, q = k - (j + 1) := ⟨_, rfl⟩
              have HQ := hide' (And.intro hq hqq)
              have HST := hide' (ltr_step B q (by rw [← HNB.out]; omega))
              have HCR := hide' (ltr_range (B.getD q 0))
              have HTK : Hid ((L0 ++ (B.take (q + 1)).map ltr).length ≤ 80) := by show _ ≤ 80; rw [List.length_append, List.length_map, List.length_take]; have := HL0.out; omega
              have HER := hide' (erase_pd 623 fl_623 (L0 ++ (B.take q).map ltr) [] [] (ltr (B.getD q 0)) (by have := HCR.out.1; omega) (by have := HCR.out.2; omega))
              rw [List.append_assoc, ← HST.out] at HER
              have HAQ : Hid (At w7 p O3 (pd 623 (L0 ++ (B.take (q + 1)).map ltr) [] false [])) := by
                have h1 := HRL.out.1
                rw [hq, ← hqq] at h1
                exact h1
              clear hq hqq
              go_wp2_with fail
              refine (HIM.out.input 127 HAQ.out (ok_pd 623 fl_623 right_623 _ [] false [] 0 (by have := HTK.out; omega) (by decide) (by decide)) (by decide) (by decide) (by decide)).mono ?_
              rintro e w8 ⟨v8, O4, rfl, hbe, hat, hs, hg⟩
              rw [HER.out] at hat hbe
              obtain ⟨a8, c8, e8⟩ := hbe.shape
              have e8' : v8 = .slice a8 3 c8 := e8
              subst e8'
              have HN : Hid (At w8 p O4 (pd 623 (L0 ++ (B.take (k - (j + 1))).map ltr) [] false []) ∧ From w (fun _ => False) w8 O4 ∧ From w4 O' w8 O4) := ⟨by rw [← HQ.out.2]; exact HIM.out.noEc [] hat, HRL.out.2.1.step hs hg, HRL.out.2.2.step hs hg⟩
              have hm5 : ((m3 : Nat) : Int) + 3 = ((3 * (j + 1) : Nat) : Int) := by omega
              have HM5 := hide' hm5
              clear hbe hat hs hg HRL HER HTK HST HCR HAQ e8 hm3 hm5
              go_wp2
              go_roundg (k - (j + 1))
              case measure => omega
              case rel => exact ⟨j + 1, by omega, rfl, by rw [← HM5.out], by go_num, O4, HN⟩
            · have kn9 : decide ((j : Int) < k) = false := by simp; omega
              have ejk : j = k := by omega
              subst ejk
              have HA7 : Hid (At w7 p O3 (pd 623 L0 [] false [])) := by
                have h1 := HRL.out.1
                rw [Nat.sub_self, List.take_zero, List.map_nil, List.append_nil] at h1
                exact h1
              have HF7 := hide' HRL.out.2.1
              have HG7 := hide' HRL.out.2.2
              have hmj : ((m3 : Nat) : Int) = 3 * (j : Int) := by omega
              have hw9 : IntKind.i64.wrap (3 * (j : Int)) = (m3 : Int) := by rw [IntKind.wrap_i64]; omega
              have hw8 : wrap64 (3 * (j : Int)) = (m3 : Int) := by unfold wrap64; omega
              clear HRL hmj
              go_wp2_with fail
              refine (HIM.out.line HA7.out (ok_pd 623 fl_623 right_623 L0 [] false [] 0 (by have := HL0.out; omega) (by decide) (by decide)) (by decide)).mono ?_
              rintro e w8 ⟨v8, a8, c8, rfl, hln, _, hs⟩
              have HF8 := hide' (HF7.out.calm hs)
              have HB8 : Hid (Bs w8 v8 L0) := bs_arg hln
              have HW8 : Hid (Bs w8 (.slice al nl cl) L0) := by
                obtain ⟨a', c', hh, hfr⟩ := HLN.out
                by_cases hne : L0 = []
                · exact ⟨a', c', hh.shape, hh.lenLe, fun h => absurd hne h⟩
                · exact bs_arg ((hh.stay HG7.out.stay (fun b o e hb => hfr hne ⟨b, o, none⟩ e hb)).stay0 hs)
              have hsh : v8 = .slice a8 L0.length c8 := hln.shape
              obtain ⟨n8, hn8⟩ : ∃ n, n = L0.length := ⟨_, rfl⟩
              rw [← hn8] at hsh
              subst hsh
              clear hln hs HA7 HF7 HG7 hn8
              go_wp2_with fail
              refine (sameB _ _ L0 _ HB8.out HW8.out (by have := HL0.out; omega)).mono ?_
              rintro e w9 ⟨rfl, hs⟩
              have HS9 := hide' (HF8.out.stay.trans hs)
              clear hs
              go_wp2_with fail
              refine (HAW.out _).mono ?_
              rintro e w10 ⟨rfl, hs⟩
              have HS10 := hide' (HS9.out.trans hs)
              clear hs
              go_wp2
              go_ret
              exact ⟨by simp, HS10.out⟩
end

end Go.Proofs.Ytkggmjjjopfdbaa
