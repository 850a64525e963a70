/-
  OpostLines walked: true of any arguments. No conditions.
-/
import Derived.Test.YtjpdlnifbinloaaE3
namespace Go.Proofs.Ytjpdlnifbinloaa
open Go.RowKit

attribute [local go_sem] extract0 extract1

theorem lines_out (x : Int) (a1 a2 : Option Addr) (n1 c1 n2 c2 : Nat) (w : World) (h1 : (n1 : Int) ≤ 9223372036854775807) (h2 : (n2 : Int) ≤ 9223372036854775807) (hn : 100 < n1 ∨ 100 < n2) : Calls Try.prog 6 #[.slice a1 n1 c1, .slice a2 n2 c2, .int .u8 x] w (LawTrue w) := by
  have HAW := hide' awake7
  by_cases h1 : 100 < n1
  · have i1 : (100 : Int) < (n1 : Nat) := by omega
    clear hn
    go_enter Try.func6, Try.ntmps6
    go_wp2_with fail
    refine (HAW.out _).mono ?_
    rintro e w9 ⟨rfl, hs⟩
    have HE := hide' hs
    clear hs
    go_wp2
    go_ret
    exact ⟨rfl, HE.out⟩
  · have i1 : ¬ (100 : Int) < (n1 : Nat) := by omega
    have i2 : (100 : Int) < (n2 : Nat) := by omega
    clear hn
    go_enter Try.func6, Try.ntmps6
    go_wp2_with fail
    refine (HAW.out _).mono ?_
    rintro e w9 ⟨rfl, hs⟩
    have HE := hide' hs
    clear hs
    go_wp2
    go_ret
    exact ⟨rfl, HE.out⟩

theorem wpList_exec_g {P : Program} {ops : Array Oper} {rest : List Oper} {o : Oper} {a : Act} {w : World} {Q : Exit → Act → World → Prop} {v : Value} (hg : Region.wanted o (yielded ops a.tmps) = true) (hr : (execOp a.eval o).run P w = .ok (.value v) w) (h : wpList P ops Q rest (a.put o.dst v) w) : wpList P ops Q (o :: rest) a w := by
  unfold wpList
  rw [if_pos hg]
  left
  unfold Oper.wp
  rw [hr]
  exact h

/-- s[k:]. -/
theorem exec_slice_l {P : Program} {a : Act} {q : Oper} {t sz : Nat} {x y : Operand} {sa : Option Addr} {m cap k : Nat} (hq : q.op = .slice t x (some y) none none) (ht : P.underlying t = some (.slice (P.elem t))) (hz : (P.info? (P.elem t)).map (·.size) = some sz) (hx : a.eval x = .slice sa m cap) (hy : a.eval y = .int .i64 (k : Nat)) (hk : k ≤ m) (w : World) :
    (execOp a.eval q).run P w = .ok (.value (.slice (if cap = k then sa else sa.map (·.add (k * sz))) (m - k) (cap - k))) w := by
  obtain ⟨i, hi, rfl⟩ := Option.map_eq_some_iff.1 hz
  unfold execOp
  simp only [hq, hx, Option.map_some, Option.map_none, hy]
  rw [Sem.run_bind, run_sliceAt_slice _ _ _ _ _ _ ht, run_slice_l _ _ _ _ _ ht _ _ (by omega) (by omega)]
  simp [sizeOf, typeInfo, hi, Result.andThen, sliced]

/-- The last of bytes. -/
theorem IArg.last {W : World} {v : Value} {l : List Int} {a : Option Addr} {cap : Nat} (h : IArg .u8 W v l a cap) (k : Nat) (hk : k ≤ l.length) : Bs W (.slice (if cap = k then a else a.map (·.add (k * 1))) (l.length - k) (cap - k)) (l.drop k) := by
  have hl : (l.drop k).length = l.length - k := List.length_drop
  refine ⟨_, _, by rw [hl], by rw [hl]; have := h.lenLe; omega, fun hne => ?_⟩
  have hlt : k < l.length := by
    have := List.length_pos_iff.2 hne
    omega
  obtain ⟨b, off, rfl, _, hI⟩ := h.cells (fun e => by rw [e] at hlt; simp at hlt)
  rw [if_neg (by have := h.lenLe; omega)]
  exact ⟨b, off + k, by simp [addr_add], hI.drop k⟩

set_option maxHeartbeats 2000000 in
theorem lines_go (x : Int) (hx0 : 0 ≤ x ∧ x < 256) (a1 a2 : Option Addr) (n1 c1 n2 c2 : Nat) (A B : List Int) (w : World) (hA : IArg .u8 w (.slice a1 n1 c1) A a1 c1) (hB : IArg .u8 w (.slice a2 n2 c2) B a2 c2) (hlA : A.length = n1) (hlB : B.length = n2) (hn1 : n1 ≤ 100) (hn2 : n2 ≤ 100) : Calls Try.prog 6 #[.slice a1 n1 c1, .slice a2 n2 c2, .int .u8 x] w (LawTrue w) := by
  have i1 : ¬ (100 : Int) < (n1 : Nat) := by omega
  have i2 : ¬ (100 : Int) < (n2 : Nat) := by omega
  have HAW := hide' awake7
  obtain ⟨X, hX⟩ : ∃ X, X = (bytesM 3 x A).1 := ⟨_, rfl⟩
  have HZ : Hid ((∀ c ∈ B, 32 ≤ c ∧ c ≤ 126) → ∀ W0 w' v, Acc W0 w' v ([] ++ A ++ [10] ++ B) → Calls Try.prog 8 #[.int .i64 3, .int .i64 x, v] w' (Adds w' [] (X ++ [13, 10] ++ B, ((n2 : Nat) : Int)))) := fun hp W0 w' v ha => by
    obtain ⟨ad, cp, h⟩ := ha.arg
    refine adds_eq (bytes8 3 x _ _ ad cp w' (by simp; omega) h) ?_
    have e : cnt 3 = 3 := by decide
    rw [e, plc_id hx0.1 (by omega), hX, show [] ++ A ++ [10] ++ B = A ++ 10 :: B by simp, bytesM_lines A B x hp (by omega), hlB]
  have HLX : Hid (X.length ≤ 800) := by
    show X.length ≤ 800
    have h1 := bytesM_len 3 A x
    rw [← hX] at h1
    omega
  have wx : wrap64 x = x := by unfold wrap64; omega
  have HS0 := hide' (Stay.refl (fun _ => False) w)
  have HA := hide' hA
  have HB := hide' hB
  have HLN : Hid (A.length = n1 ∧ B.length = n2 ∧ n1 ≤ 100 ∧ n2 ≤ 100) := ⟨hlA, hlB, hn1, hn2⟩
  have hnz : (n2 : Int) ≤ 100 := by omega
  clear hA hB hX hlA hlB hx0
  go_enter Try.func6, Try.ntmps6
  go_wp2_with fail
  go_loopg [7] n2 (fun gg v7 wr => ∃ j : Nat, j ≤ n2 ∧ gg = n2 - j ∧ v7 = .int .i64 (j : Int) ∧ Hid (Stay (fun _ => False) w wr ∧ ∀ i, i < j → 32 ≤ B.getD i 0 ∧ B.getD i 0 ≤ 126))
  case atStart => exact ⟨0, Nat.zero_le _, rfl, rfl, HS0.out, fun i hi => by omega⟩
  case round =>
    clear HS0
    obtain ⟨j, hj, rfl, rfl, HR⟩ := hrel
    by_cases hlt : j < n2
    · have jz : (j : Int) < n2 := by omega
      have j0 : (0 : Int) ≤ j := by omega
      have hjl : j < B.length := by have := HLN.out.2.1; omega
      have hne : B ≠ [] := fun e => by rw [e] at hjl; simp at hjl
      obtain ⟨b, off, rfl, _, hI⟩ := (HB.out.stay0 HR.out.1).cells hne
      obtain ⟨y, hy⟩ : ∃ y, y = B.getD j 0 := ⟨_, rfl⟩
      have a1 : wr.cell? ⟨b, off + j, none⟩ = some (.int .u8 y) := by rw [hy]; exact hI j hjl
      have HX := hide' hy
      have HSR := hide' HR.out.1
      clear hy hI hne hjl
      by_cases hx1 : y < 32
      · clear HZ
        go_wp2_with fail
        refine (HAW.out _).mono ?_
        rintro e w9 ⟨rfl, hs⟩
        have HE := hide' (HSR.out.trans hs)
        clear hs
        go_wp2
        go_ret
        exact ⟨rfl, HE.out⟩
      · by_cases hx2 : 126 < y
        · clear HZ
          go_wp2_with fail
          refine (HAW.out _).mono ?_
          rintro e w9 ⟨rfl, hs⟩
          have HE := hide' (HSR.out.trans hs)
          clear hs
          go_wp2
          go_ret
          exact ⟨rfl, HE.out⟩
        · have HXR : Hid (32 ≤ y ∧ y ≤ 126) := by show _ ∧ _; omega
          go_wp2
          go_roundg (n2 - (j + 1))
          case measure => omega
          case rel =>
            refine ⟨j + 1, by omega, rfl, by go_num, ?_, fun i hi => ?_⟩
            · first | exact HSR.out | exact HSR.out.drew | exact HSR.out.drewN _
            · by_cases e : i = j
              · subst e; rw [← HX.out]; exact HXR.out
              · exact HR.out.2 i (by omega)
    · have e : j = n2 := by omega
      subst e
      have hp : ∀ x ∈ B, 32 ≤ x ∧ x ≤ 126 := by
        intro x hx
        obtain ⟨i, hi, rfl⟩ := List.getElem_of_mem hx
        have h := HR.out.2 i (by have := HLN.out.2.1; omega)
        rw [List.getD_eq_getElem?_getD, List.getElem?_eq_getElem hi] at h
        exact h
      have H8 := hide' (HZ.out hp)
      have HSR := hide' HR.out.1
      obtain ⟨w2, hw2⟩ : ∃ z, z = wr := ⟨_, rfl⟩
      rw [← hw2] at HSR ⊢
      clear hp HZ HR hw2
      have HE := hide' (Acc.new w2 #[] [] 0 rfl rfl (fun x hx => by simp at hx) (by omega))
      have HI : Hid (∀ w', Stay (fun _ => False) w2 w' → IArg .u8 w' (.slice a1 n1 c1) A a1 c1) := fun w' hs => HA.out.stay0 (HSR.out.trans hs)
      have HJ : Hid (∀ w', Stay (fun _ => False) w2 w' → IArg .u8 w' (.slice a2 j c2) B a2 c2) := fun w' hs => HB.out.stay0 (HSR.out.trans hs)
      have HL1 : Hid (([] : List Int).length + A.length ≤ 1000000) := by show ([] : List Int).length + A.length ≤ 1000000; have := HLN.out; simp; omega
      have HL2 : Hid ((([] : List Int) ++ A).length ≤ 900000) := by show (([] : List Int) ++ A).length ≤ 900000; have := HLN.out; simp; omega
      have HL3 : Hid ((([] : List Int) ++ A ++ [10]).length + B.length ≤ 1000000) := by show (([] : List Int) ++ A ++ [10]).length + B.length ≤ 1000000; have := HLN.out; simp; omega
      go_wp2_with (at_builtin; go_must (refine acc_app rfl _ _ rfl HE.out rfl (HI.out _ ((Stay.refl _ _).alloc _)) rfl HL1.out ?_; intro v3 w3 ha; have HF := hide' ha; clear ha; go_wp2_with (at_builtin; go_must (refine acc_one rfl _ _ rfl HF.out rfl rfl (by decide) HL2.out ?_; intro v4 w4 ha; have HG := hide' ha; clear ha; have HJ4 := hide' (HJ.out _ HG.out.stay); go_wp2_with (at_builtin; go_must (refine acc_app rfl _ _ rfl HG.out rfl HJ4.out rfl HL3.out ?_; intro v5 w5 ha; have HH := hide' ha; clear ha; go_wp2_with fail))))))
      refine (H8.out _ _ _ HH.out).mono ?_
      rintro e w6 ⟨v6, rfl, ha⟩
      have HS6 := hide' ((HSR.out.trans HH.out.stay).trans ha.stay)
      have hq : ([] ++ (X ++ [13, 10] ++ B)).length = X.length + 2 + j := by have := HLN.out.2.1; simp; omega
      obtain ⟨oa, oc, hO⟩ := ha.arg
      have hsh := hO.shape
      rw [hq] at hsh
      subst hsh
      have hne : ([] ++ (X ++ [13, 10] ++ B)) ≠ [] := fun e => by rw [e, List.length_nil] at hq; omega
      obtain ⟨gb, goff, rfl, _, hI⟩ := hO.cells hne
      have hlo := hO.lenLe
      rw [hq] at hlo
      have HC13 : Hid (∀ w', Stay (fun _ => False) w6 w' → w'.cell? ⟨gb, goff + X.length, none⟩ = some (.int .u8 13)) := fun w' hs => keep_cell hs (by
        have h := hI X.length (by rw [hq]; omega)
        rw [h]
        simp [List.getD_eq_getElem?_getD])
      have hlast := hO.last (X.length + 2) (by rw [hq]; omega)
      have hdrop : ([] ++ (X ++ [13, 10] ++ B)).drop (X.length + 2) = B := by
        rw [List.nil_append]
        exact List.drop_left' (by simp)
      rw [hdrop, hq, show X.length + 2 + j - (X.length + 2) = j by omega] at hlast
      have HLA := hide' hlast
      obtain ⟨xl, hxl⟩ : ∃ z, z = X.length := ⟨_, rfl⟩
      rw [← hxl] at HC13 HLA hlo
      rw [← hxl]
      have HXL : Hid (xl ≤ 800) := by rw [hxl]; exact HLX.out
      clear ha hO hI hne hlast hdrop hxl hq H8 HE HI HJ HL1 HL2 HL3 HF HG HH
      obtain ⟨lo, hlo2⟩ : ∃ z, z = xl + 2 + j := ⟨_, rfl⟩
      obtain ⟨kx, hkx⟩ : ∃ z, z = xl + 2 := ⟨_, rfl⟩
      rw [← hlo2] at hlo ⊢
      rw [← hkx] at HLA
      have t1 : IntKind.i64.wrap ((j : Int) + 2) = (j : Int) + 2 := by rw [IntKind.wrap_i64]; omega
      have t2 : decide ((j : Int) + 2 ≤ (lo : Nat)) = true := by simp; omega
      have t3 : IntKind.i64.wrap (((lo : Nat) : Int) - j) = ((kx : Nat) : Int) := by rw [IntKind.wrap_i64]; have := HXL.out; omega
      have t4 : IntKind.i64.wrap (((kx : Nat) : Int) - 2) = ((xl : Nat) : Int) := by rw [IntKind.wrap_i64]; have := HXL.out; omega
      have t5 : decide (((xl : Nat) : Int) < (lo : Nat)) = true := by simp; omega
      have t6 : (xl : Int) < (lo : Nat) := by omega
      have hkl : kx ≤ lo := by omega
      have hlk : lo - kx = j := by omega
      have kl : kx ≤ lo := hkl
      by_cases hcap : oc = kx
      · have hla := HLA.out
        rw [if_pos hcap, hcap, Nat.sub_self] at hla
        have HSM := hide' (sameB _ _ B w6 hla (bs_arg (HB.out.stay0 HS6.out)) (by have := HLN.out; omega))
        subst hcap
        clear hlo2 hkx hkl HLA hla
        go_wp2_with fail
        refine HSM.out.mono ?_
        rintro e w7 ⟨rfl, hs⟩
        have HS7 := hide' (HS6.out.trans hs)
        have a13 := HC13.out w7 hs
        clear hs HSM HC13
        go_wp2_with fail
        refine (HAW.out _).mono ?_
        rintro e w9 ⟨rfl, hs⟩
        have HE := hide' (HS7.out.trans hs)
        clear hs
        go_wp2
        go_ret
        exact ⟨rfl, HE.out⟩
      · have hla := HLA.out
        rw [if_neg hcap] at hla
        simp only [Option.map_some, addr_add, Nat.mul_one] at hla
        have HSM := hide' (sameB _ _ B w6 hla (bs_arg (HB.out.stay0 HS6.out)) (by have := HLN.out; omega))
        clear hlo2 hkx hkl HLA hla
        go_wp2_with fail
        refine HSM.out.mono ?_
        rintro e w7 ⟨rfl, hs⟩
        have HS7 := hide' (HS6.out.trans hs)
        have a13 := HC13.out w7 hs
        clear hs HSM HC13
        go_wp2_with fail
        refine (HAW.out _).mono ?_
        rintro e w9 ⟨rfl, hs⟩
        have HE := hide' (HS7.out.trans hs)
        clear hs
        go_wp2
        go_ret
        exact ⟨rfl, HE.out⟩

end Go.Proofs.Ytjpdlnifbinloaa
