/-
  The document asks whether a group is an orphan: walked. No conditions.
-/
import Derived.Test.YtefpifnfinkbaaaG3
import Derived.BigQuiet
import Derived.Deep.CutBlock
namespace Go.Proofs.Ytefpifnfinkbaaa
open Go.RowKit

variable {w : World} {x : Xr} {L : List Pr} {f : Int → Int}

theorem orphB_tied {y : Int} {t : Pr} (ht : t ∈ L) (hx : (t.grp == y && tiedB L t) = true) : orphB L y = false := by
  have h1 : tiesF L L.length y ≠ 0 := fun e => by
    unfold tiesF at e
    rw [List.take_length] at e
    have h2 : (L.filter (fun p => p.grp == y && tiedB L p)).length = 0 := by omega
    rw [List.length_eq_zero_iff, List.filter_eq_nil_iff] at h2
    exact h2 t ht hx
  unfold orphB
  rw [beq_eq_false_iff_ne.2 h1, Bool.and_false]

theorem orphB_no {y : Int} (h : ∀ t ∈ L, (t.grp == y && tiedB L t) = false) : orphB L y = L.any (fun p => p.grp == y) := by
  have h1 : tiesF L L.length y = 0 := by
    unfold tiesF
    rw [List.take_length, List.filter_eq_nil_iff.2 (fun t ht => by rw [h t ht]; decide)]
    rfl
  unfold orphB
  rw [h1]
  simp

set_option maxHeartbeats 1000000 in
set_option maxRecDepth 100000 in
theorem rorphan17 (y nx : Int) (h : XAt w x L f) (hu : Up L) : Calls Try.prog 17 #[.agg #[.slice x.a L.length x.cap, .int .i64 nx, .slice x.a2 65 x.c2], .int .i64 y] w (Gives (.bool (orphB L y)) w) := by
  obtain ⟨bt, hbt⟩ : ∃ b, b = w.heap.size := ⟨_, rfl⟩
  obtain ⟨n, hn⟩ : ∃ n, n = L.length := ⟨_, rfl⟩
  obtain ⟨W0, hW0⟩ : ∃ W, W = w.alloc (.cells #[.slice x.a n x.cap, .int .i64 nx, .slice x.a2 65 x.c2] 29) := ⟨_, rfl⟩
  have hs : Stay (fun _ => False) w W0 := by rw [hW0]; exact (Stay.refl _ _).alloc _
  have HB : Hid (XBox W0 bt (xs x n nx)) := by rw [hW0]; exact xbox_new w x n nx hbt.symm
  have HX := hide' (h.keep hs)
  have HS := hide' hs
  have HN := hide' hn
  have hn1 : (n : Int) ≤ 256 := by have := h.len; omega
  rw [← hn]
  have HU := hide' hu
  have HL0 : Hid (Stay (fun _ => False) W0 W0 ∧ ∀ k t, k < 0 → L[k]? = some t → (t.grp == y && tiedB L t) = false) := ⟨Stay.refl _ _, fun k t h => by omega⟩
  clear h hn hs hu
  go_enter Try.func17, Try.ntmps17
  go_upto_region 1 with fail
  rw [← hW0, ← hbt]
  clear hW0 hbt
  go_wp2
  go_loopg [5] n (fun gg v5 wr => ∃ k : Nat, k ≤ n ∧ gg = n - k ∧ v5 = .int .i64 (k : Int) ∧ Hid (Stay (fun _ => False) W0 wr ∧ ∀ j t, j < k → L[j]? = some t → (t.grp == y && tiedB L t) = false))
  case atStart => exact ⟨0, Nat.zero_le _, rfl, rfl, HL0⟩
  case round =>
    clear HL0
    obtain ⟨k, hk, rfl, rfl, HL⟩ := hrel
    have e0 := (HB.out.keep HL.out.1).c0
    simp only [xs] at e0
    by_cases hlt : k < n
    · have kn : (k : Int) < (n : Nat) := by omega
      obtain ⟨t, ht⟩ : ∃ t, L[k]? = some t := ⟨_, List.getElem?_eq_getElem (by rw [← HN.out]; exact hlt)⟩
      obtain ⟨g, o, hxa, hb⟩ := (HX.out.keep HL.out.1).rd k t ht
      rw [hxa] at e0
      obtain ⟨c0, c1, c2, c3, c4, c5⟩ := hb
      have HXE := hide' hxa
      have HT := hide' ht
      have HNO : Hid ((t.grp == y && tiedB L t) = false → ∀ j t, j < k + 1 → L[j]? = some t → (t.grp == y && tiedB L t) = false) := by
        have h1 := HL.out.2
        refine fun hx j u hj hu => ?_
        by_cases e : j = k
        · subst e
          rw [HT.out] at hu
          cases hu
          exact hx
        · exact h1 j u (by omega) hu
      have HYES : Hid ((t.grp == y && tiedB L t) = true → orphB L y = false) := fun hx => orphB_tied (mem_at HT.out) hx
      clear ht
      by_cases hpar : ∀ u ∈ L, u.pid ≠ t.par
      · have HTI := hide' (tied_none hpar)
        obtain ⟨bq, hbq⟩ : ∃ b, b = wr.heap.size := ⟨_, rfl⟩
        obtain ⟨W5, hW5⟩ : ∃ W, W = wr.alloc (.cells #[.int .i64 t.pid, .int .i64 t.par, .int .i64 t.grp, .int .i64 t.ses, .int .i64 t.tty, .bool t.df] 40) := ⟨_, rfl⟩
        have hs5 : Stay (fun _ => False) wr W5 := by rw [hW5]; exact (Stay.refl _ _).alloc _
        have HP5 : Hid (PBox W5 bq t) := by rw [hW5]; exact PBox.new t hbq.symm
        have hsx := HL.out.1.trans hs5
        have HX5 := hide' (HX.out.keep hsx)
        have HB5 := hide' (HB.out.keep hsx)
        have HS5 := hide' hsx
        have hat := at14 t.par nx HX5.out
        rw [ixI_no hpar, ← HN.out] at hat
        have HAT := hide' hat
        clear hsx hs5 hat hxa
        go_upto_region 5 with fail
        rw [← hbq, ← hW5]
        clear hbq hW5 c0 c1 c2 c3 c4 c5 e0
        obtain ⟨e0, e1, e2, _⟩ := HB5.out
        simp only [xs] at e0 e1 e2
        obtain ⟨d0, d1, d2, d3, d4, d5, _⟩ := HP5.out
        go_wp2_with fail
        refine HAT.out.mono ?_
        rintro _ w1 ⟨rfl, hs⟩
        have HS1 := hide' (HS5.out.trans hs)
        have e0 := keep_cell hs e0
        have d2 := keep_cell hs d2
        have d3 := keep_cell hs d3
        have HX1 := hide' (HX5.out.keep hs)
        clear hs HAT HX5 HB5 HS5 HP5 e1 e2 d0 d1 d4 d5 HL
        rw [HXE.out] at e0
        clear hpar HX1
        cases d1 : (t.grp == y)
        · have HN1 := hide' (HNO.out (by rw [d1, Bool.false_and]))
          clear HNO HYES
          go_upto_region 6 with fail
          go_quiet (fail)
          go_wp2
          generalize hw3 : World.drewN _ _ = w3
          have HS3 : Hid (Stay (fun _ => False) W0 w3) := by rw [← hw3]; exact HS1.out.drewN _
          clear hw3
          go_roundg (n - (k + 1))
          case measure => omega
          case rel => exact ⟨k + 1, by omega, rfl, by go_num, HS3.out, HN1.out⟩
        · have HN1 := hide' (HNO.out (by rw [HTI.out, Bool.and_false]))
          clear HNO HYES
          go_upto_region 6 with fail
          go_quiet (fail)
          go_wp2
          generalize hw3 : World.drewN _ _ = w3
          have HS3 : Hid (Stay (fun _ => False) W0 w3) := by rw [← hw3]; exact HS1.out.drewN _
          clear hw3
          go_roundg (n - (k + 1))
          case measure => omega
          case rel => exact ⟨k + 1, by omega, rfl, by go_num, HS3.out, HN1.out⟩
      · obtain ⟨u, hu, hux⟩ : ∃ u ∈ L, u.pid = t.par := by
          by_cases hh : ∃ u ∈ L, u.pid = t.par
          · exact hh
          · exact absurd (fun u hu e => hh ⟨u, hu, e⟩) hpar
        obtain ⟨m, hm⟩ := List.getElem?_of_mem hu
        have mn : (m : Int) < (n : Nat) := by have := (List.getElem?_eq_some_iff.1 hm).1; have := HN.out; omega
        have mz : (0 : Int) ≤ (m : Nat) := Int.natCast_nonneg m
        have HTI := hide' (tied_at HU.out hm hux)
        have HM := hide' hm
        obtain ⟨bq, hbq⟩ : ∃ b, b = wr.heap.size := ⟨_, rfl⟩
        obtain ⟨W5, hW5⟩ : ∃ W, W = wr.alloc (.cells #[.int .i64 t.pid, .int .i64 t.par, .int .i64 t.grp, .int .i64 t.ses, .int .i64 t.tty, .bool t.df] 40) := ⟨_, rfl⟩
        have hs5 : Stay (fun _ => False) wr W5 := by rw [hW5]; exact (Stay.refl _ _).alloc _
        have HP5 : Hid (PBox W5 bq t) := by rw [hW5]; exact PBox.new t hbq.symm
        have hsx := HL.out.1.trans hs5
        have HX5 := hide' (HX.out.keep hsx)
        have HB5 := hide' (HB.out.keep hsx)
        have HS5 := hide' hsx
        have hat := at14 t.par nx HX5.out
        rw [ixI_at HU.out hm hux, ← HN.out] at hat
        have HAT := hide' hat
        clear hsx hs5 hat hxa
        go_upto_region 5 with fail
        rw [← hbq, ← hW5]
        clear hbq hW5 c0 c1 c2 c3 c4 c5 e0
        obtain ⟨e0, e1, e2, _⟩ := HB5.out
        simp only [xs] at e0 e1 e2
        obtain ⟨d0, d1, d2, d3, d4, d5, _⟩ := HP5.out
        go_wp2_with fail
        refine HAT.out.mono ?_
        rintro _ w1 ⟨rfl, hs⟩
        have HS1 := hide' (HS5.out.trans hs)
        have e0 := keep_cell hs e0
        have d2 := keep_cell hs d2
        have d3 := keep_cell hs d3
        have HX1 := hide' (HX5.out.keep hs)
        clear hs HAT HX5 HB5 HS5 HP5 e1 e2 d0 d1 d4 d5 HL
        obtain ⟨g2, o2, hxa2, hbm⟩ := HX1.out.rd m u HM.out
        rw [HXE.out] at hxa2
        cases hxa2
        rw [HXE.out] at e0
        obtain ⟨_, _, q2, q3, _, _⟩ := hbm
        clear hpar hu hux hm HX1 HM
        cases d1 : (t.grp == y)
        · have HN1 := hide' (HNO.out (by rw [d1, Bool.false_and]))
          clear HNO HYES
          go_upto_region 6 with fail
          go_quiet (fail)
          go_wp2
          generalize hw3 : World.drewN _ _ = w3
          have HS3 : Hid (Stay (fun _ => False) W0 w3) := by rw [← hw3]; exact HS1.out.drewN _
          clear hw3
          go_roundg (n - (k + 1))
          case measure => omega
          case rel => exact ⟨k + 1, by omega, rfl, by go_num, HS3.out, HN1.out⟩
        · have HG := hide' (beq_iff_eq.1 d1)
          cases d4 : (u.grp != y)
          · have HN1 := hide' (HNO.out (by rw [HTI.out, HG.out, d4, Bool.false_and, Bool.and_false]))
            clear HNO HYES
            go_upto_region 6 with fail
            go_quiet (fail)
            go_wp2
            generalize hw3 : World.drewN _ _ = w3
            have HS3 : Hid (Stay (fun _ => False) W0 w3) := by rw [← hw3]; exact HS1.out.drewN _
            clear hw3
            go_roundg (n - (k + 1))
            case measure => omega
            case rel => exact ⟨k + 1, by omega, rfl, by go_num, HS3.out, HN1.out⟩
          · cases d5 : (u.ses == t.ses)
            · have HN1 := hide' (HNO.out (by rw [HTI.out, d5, Bool.and_false, Bool.and_false]))
              clear HNO HYES
              go_upto_region 6 with fail
              go_quiet (fail)
              go_wp2
              generalize hw3 : World.drewN _ _ = w3
              have HS3 : Hid (Stay (fun _ => False) W0 w3) := by rw [← hw3]; exact HS1.out.drewN _
              clear hw3
              go_roundg (n - (k + 1))
              case measure => omega
              case rel => exact ⟨k + 1, by omega, rfl, by go_num, HS3.out, HN1.out⟩
            · have HE := hide' (HYES.out (by rw [HTI.out, d1, HG.out, d4, d5]; rfl))
              clear HNO HYES
              go_upto_region 6 with fail
              go_quiet (fail)
              go_wp2
              generalize hw3 : World.drewN _ _ = w3
              have HS3 : Hid (Stay (fun _ => False) W0 w3) := by rw [← hw3]; exact HS1.out.drewN _
              clear hw3
              go_ret
              exact ⟨by rw [HE.out]; rfl, HS.out.trans HS3.out⟩
    · have e : k = n := by omega
      subst e
      have hno : orphB L y = L.any (fun p => p.grp == y) := orphB_no (fun t ht => by
        obtain ⟨j, hj⟩ := List.getElem?_of_mem ht
        exact HL.out.2 j t (by have := (List.getElem?_eq_some_iff.1 hj).1; have := HN.out; omega) hj)
      have hha := has41 y 0 nx (HX.out.keep HL.out.1)
      rw [hasB_zero, ← HN.out, ← hno] at hha
      have HHA := hide' hha
      have HS1 := hide' (HS.out.trans HL.out.1)
      obtain ⟨e0, e1, e2, _⟩ := HB.out.keep HL.out.1
      simp only [xs] at e0 e1 e2
      clear hha hno HL
      go_wp2_with fail
      refine HHA.out.mono ?_
      rintro _ w2 ⟨rfl, hs⟩
      have HS2 := hide' (HS1.out.trans hs)
      clear hs HHA e0 e1 e2
      go_wp2
      go_ret
      exact ⟨rfl, HS2.out⟩

end Go.Proofs.Ytefpifnfinkbaaa
