/-
  Objects: walked. No conditions.
-/
import Derived.Test.YtlhfpnfiamgmlaaQ7
import Derived.Test.YtlhfpnfiamgmlaaQ8
import Derived.Deep.DeepCutAuto
import Derived.BigQuiet
namespace Go.Proofs.Ytlhfpnfiamgmlaa
open Go.RowKit

theorem rise_eq : ∀ (L M : List Int), L.Pairwise (· < ·) → M.Pairwise (· < ·) → (∀ v, v ∈ L ↔ v ∈ M) → L = M
  | [], [], _, _, _ => rfl
  | [], b :: M, _, _, h => by have := (h b).2 List.mem_cons_self; cases this
  | a :: L, [], _, _, h => by have := (h a).1 List.mem_cons_self; cases this
  | a :: L, b :: M, h1, h2, h => by
    rw [List.pairwise_cons] at h1 h2
    have hab : a = b := by
      rcases List.mem_cons.1 ((h a).1 List.mem_cons_self) with e | e
      · exact e
      · rcases List.mem_cons.1 ((h b).2 List.mem_cons_self) with e' | e'
        · exact e'.symm
        · have x := h2.1 a e
          have y := h1.1 b e'
          omega
    subst hab
    rw [rise_eq L M h1.2 h2.2 (fun v => ?_)]
    constructor
    · intro hv
      rcases List.mem_cons.1 ((h v).1 (List.mem_cons_of_mem _ hv)) with e | e
      · have := h1.1 v hv; omega
      · exact e
    · intro hv
      rcases List.mem_cons.1 ((h v).2 (List.mem_cons_of_mem _ hv)) with e | e
      · have := h2.1 v hv; omega
      · exact e

theorem objs_mem (f : Nat → Sl) (n : Nat) (env kind : Int) : ∀ (V : Nat) (x : Int), x ∈ objs f n env kind V ↔ ∃ j : Nat, j < V ∧ x = (j : Nat) ∧ orN (isObj f env kind (j : Nat)) n = true
  | 0, x => ⟨fun h => (by cases h), fun ⟨j, h, _⟩ => absurd h (Nat.not_lt_zero _)⟩
  | V + 1, x => by
    have ih := objs_mem f n env kind V x
    show x ∈ (if _ then _ else _ : List Int) ↔ _
    by_cases h : orN (isObj f env kind (V : Nat)) n = true
    · rw [if_pos h, List.mem_append, ih, List.mem_singleton]
      constructor
      · rintro (⟨j, a, b, c⟩ | e)
        · exact ⟨j, by omega, b, c⟩
        · exact ⟨V, by omega, e, h⟩
      · rintro ⟨j, a, b, c⟩
        by_cases e : j = V
        · subst e; exact .inr b
        · exact .inl ⟨j, by omega, b, c⟩
    · rw [if_neg h, ih]
      constructor
      · rintro ⟨j, a, b, c⟩
        exact ⟨j, by omega, b, c⟩
      · rintro ⟨j, a, b, c⟩
        by_cases e : j = V
        · subst e; exact absurd c h
        · exact ⟨j, by omega, b, c⟩

theorem objs_rise (f : Nat → Sl) (n : Nat) (env kind : Int) : ∀ V, (objs f n env kind V).Pairwise (· < ·)
  | 0 => List.Pairwise.nil
  | V + 1 => by
    show (if _ then _ else _ : List Int).Pairwise _
    by_cases h : orN (isObj f env kind (V : Nat)) n = true
    · rw [if_pos h, List.pairwise_append]
      refine ⟨objs_rise f n env kind V, List.pairwise_singleton _ _, fun a ha b hb => ?_⟩
      obtain ⟨j, h1, rfl, _⟩ := (objs_mem f n env kind V a).1 ha
      rw [List.mem_singleton] at hb
      omega
    · rw [if_neg h]; exact objs_rise f n env kind V

/-- Is a slot of a kind, to be used? -/
def ofK (f : Nat → Sl) (kind : Int) (i : Nat) : Bool := ((f i).kind == kind) && hasB (f i).rights 1

/-- The numbers of slots of a kind. -/
def obl (f : Nat → Sl) (kind : Int) (L : List Nat) : List Int := (L.filter (ofK f kind)).map (fun i => (f i).obj)

theorem obl_len (f : Nat → Sl) (kind : Int) (L : List Nat) : (obl f kind L).length ≤ L.length := by
  unfold obl
  rw [List.length_map]
  exact List.length_filter_le _ _

/-- What rises and has those numbers is what the document says. -/
theorem obl_objs {n : Nat} {f : Nat → Sl} {env kind : Int} (hok : Okf n f) (hb : ∀ i, i < n → (f i).obj < 1000) (k : Nat) (h : Nat → Int) (hr : Ris h k)
    (hm : ∀ v, (∃ i, i < k ∧ h i = v) ↔ v ∈ obl f kind (ixs (isOf f env) n)) : (List.range k).map h = objs f n env kind 1000 := by
  refine rise_eq _ _ ?_ (objs_rise _ _ _ _ _) (fun v => ?_)
  · rw [List.pairwise_map]
    refine List.Pairwise.imp_of_mem (fun {a b} _ hb hab => hr a b hab (List.mem_range.1 hb)) List.pairwise_lt_range
  · rw [objs_mem, List.mem_map]
    have h1 : (∃ a, a ∈ List.range k ∧ h a = v) ↔ ∃ i, i < k ∧ h i = v := ⟨fun ⟨a, x, y⟩ => ⟨a, List.mem_range.1 x, y⟩, fun ⟨a, x, y⟩ => ⟨a, List.mem_range.2 x, y⟩⟩
    rw [h1, hm v]
    unfold obl
    rw [List.mem_map]
    constructor
    · rintro ⟨i, hi, rfl⟩
      rw [List.mem_filter, ixs_mem] at hi
      obtain ⟨⟨hin, ho⟩, hk⟩ := hi
      have h0 : 0 ≤ (f i).obj := by rcases hok.1 i hin with e | e <;> omega
      refine ⟨(f i).obj.toNat, by have := hb i hin; omega, by omega, (orN_iff _ _).2 ⟨i, hin, ?_⟩⟩
      unfold isOf at ho
      unfold ofK at hk
      rw [Bool.and_eq_true] at ho hk
      unfold isObj
      rw [ho.1, ho.2, hk.1, hk.2, Int.toNat_of_nonneg h0]
      simp
    · rintro ⟨j, hj, rfl, hor⟩
      obtain ⟨i, hin, hi⟩ := (orN_iff _ _).1 hor
      unfold isObj at hi
      simp only [Bool.and_eq_true] at hi
      obtain ⟨⟨⟨⟨a, b⟩, c⟩, d⟩, e⟩ := hi
      refine ⟨i, ?_, eq_of_beq d⟩
      rw [List.mem_filter, ixs_mem]
      refine ⟨⟨hin, ?_⟩, ?_⟩
      · unfold isOf; rw [a, b]; rfl
      · unfold ofK; rw [c, e]; rfl

/-- Numbers that come back: a row that can be read. -/
def NOut (L : List Int) (w : World) (E : Ending) (w' : World) : Prop := ∃ a c, E = .returned (.slice a L.length c) ∧ Stay (fun _ => False) w w' ∧ (L ≠ [] → ∃ g, a = some ⟨g, 0, none⟩ ∧ IsRowS w' 1 (.slice a L.length c) L.length (L.map (.int .i64 ·)))

theorem IRow.of_owns {w : World} {base g cap : Nat} {L : List Int} (h : w.ownsRow base 3 1 (.slice (some ⟨g, 0, none⟩) L.length cap) L.length (L.map (.int .i64 ·))) : IRow w g L.length (fun i => L.getD i 0) := by
  intro i hi
  refine ⟨?_, h.frozenAt _⟩
  rw [h.cellAt i (by rw [Nat.mul_one]; exact hi), List.getElem?_map, List.getElem?_eq_getElem hi]
  simp [List.getD_eq_getElem?_getD, hi]

theorem IRow.isRowS {w : World} {g k c : Nat} {h : Nat → Int} (H : IRow w g k h) : IsRowS w 1 (.slice (some ⟨g, 0, none⟩) k c) k (((List.range k).map h).map (.int .i64 ·)) :=
  .inr ⟨_, c, rfl, by simp, fun j u hu => by
    rw [addr_add, Nat.zero_add]
    rw [List.map_map, List.getElem?_map] at hu
    obtain ⟨a, ha, rfl⟩ := Option.map_eq_some_iff.1 hu
    obtain ⟨hj, rfl⟩ := List.getElem?_eq_some_iff.1 ha
    rw [List.length_range] at hj
    rw [List.getElem_range]
    exact (H j hj).1⟩

theorem dmem (L : List Int) (v : Int) : (∃ i, i < L.length ∧ L.getD i 0 = v) ↔ v ∈ L := by
  constructor
  · rintro ⟨i, hi, e⟩
    rw [List.getD_eq_getElem?_getD, List.getElem?_eq_getElem hi] at e
    exact e ▸ List.getElem_mem hi
  · intro h
    obtain ⟨i, hi, e⟩ := List.mem_iff_getElem.1 h
    exact ⟨i, hi, by rw [List.getD_eq_getElem?_getD, List.getElem?_eq_getElem hi]; exact e⟩

set_option maxHeartbeats 4000000 in
theorem objects26 (T B n : Nat) (q : Int) (f : Nat → Sl) (env kind : Int) (w : World) (ht : TAt w T B n q f) (hn : n ≤ 12) (hb : ∀ i, i < n → (f i).obj < 1000) : Calls Try.prog 26 #[.pointer (some ⟨T, 0, none⟩), .int .i64 env, .int .i64 kind] w (NOut (objs f n env kind 1000) w) := by
  have HT := hide' ht
  have HB := hide' (show n ≤ 12 ∧ ∀ i, i < n → (f i).obj < 1000 from ⟨hn, hb⟩)
  have HALL := hide' (all41 T B n q f env)
  obtain ⟨P, hP⟩ : ∃ P, P = ixs (isOf f env) n := ⟨_, rfl⟩
  have HPE := hide' hP
  have hpl : P.length ≤ 12 := by rw [hP, ixs_len]; have := cnt_le (isOf f env) n; omega
  rw [← hP] at HALL
  obtain ⟨pn, hpn⟩ : ∃ l, l = P.length := ⟨_, rfl⟩
  have HPN := hide' hpn
  have hpnz : (pn : Int) ≤ 12 := by omega
  clear ht hn hb hP
  go_enter Try.func26, Try.ntmps26
  go_wp2_with fail
  refine (HALL.out w HT.out).mono ?_
  rintro _ w1 ⟨v, rfl, hs1, ho1⟩
  obtain ⟨ad, cp, rfl⟩ := owns_slice ho1
  rw [← hpn] at ho1 ⊢
  have HS1 := hide' hs1
  have HO1 := hide' ho1
  have HL0 : Hid (Stay (fun k => w1.heap.size ≤ k) w1 w1 ∧ w1.ownsRow w1.heap.size 3 1 (.slice none 0 0) (obl f kind (P.take 0)).length ((obl f kind (P.take 0)).map (.int .i64 ·))) := ⟨Stay.refl _ _, rfl, .inl ⟨rfl, rfl⟩⟩
  clear hs1 ho1 HALL hpn hpl
  go_wp2
  go_loopg [7, 14] pn (fun gg v7 v14 wr => ∃ (t : Nat) (u : Value), t ≤ pn ∧ gg = pn - t ∧ v14 = .int .i64 (t : Int) ∧ u = v7 ∧ Hid (Stay (fun k => w1.heap.size ≤ k) w1 wr ∧ wr.ownsRow w1.heap.size 3 1 u (obl f kind (P.take t)).length ((obl f kind (P.take t)).map (.int .i64 ·))))
  case atStart => exact ⟨0, _, Nat.zero_le _, rfl, rfl, rfl, HL0⟩
  case round =>
    clear HL0
    obtain ⟨t, u, ht, rfl, rfl, hu, HL⟩ := hrel
    subst hu
    by_cases htl : t < pn
    · have tn : (t : Int) < (pn : Nat) := by omega
      obtain ⟨i, hi⟩ : ∃ i, P[t]? = some i := ⟨_, List.getElem?_eq_getElem (by rw [← HPN.out]; exact htl)⟩
      have him : i < n ∧ isOf f env i = true := (ixs_mem (isOf f env) n i).1 (by rw [← HPE.out]; exact List.mem_of_getElem? hi)
      have hown : wr.ownsRow w.heap.size 62 1 (.slice ad pn cp) pn (ptrs B P) := HL.out.1.owns HO1.out (fun k hk h => by have := (HO1.out.lt k hk).2; omega)
      obtain ⟨a, cap, hae, _, hac⟩ := ownsRow_shape hown
      injection hae with e1 e2 e3
      subst e1 e3
      obtain ⟨g, hg, hgb, hgc⟩ := hac t (.pointer (some ⟨B, i * 6, none⟩)) (by unfold ptrs; rw [List.getElem?_map, hi]; rfl)
      subst hg
      have hT : TAt wr T B n q f := (HT.out.keep HS1.out).stay HL.out.1 (by have := (HT.out.keep HS1.out).lt; omega) (by have := (HT.out.keep HS1.out).ltB; omega)
      have hpb := hT.at him.1
      have hok : 1 ≤ (f i).rights ∧ (f i).rights ≤ 7 := by
        have ho := him.2
        unfold isOf at ho
        rw [Bool.and_eq_true] at ho
        have h1 := of_decide_eq_true ho.1
        have h2 := eq_of_beq ho.2
        rcases hT.ok.1 i him.1 with e | e <;> omega
      obtain ⟨x, hx⟩ : ∃ x, x = (f i).kind := ⟨_, rfl⟩
      obtain ⟨o, hoo⟩ : ∃ x, x = (f i).obj := ⟨_, rfl⟩
      obtain ⟨y, hy⟩ : ∃ x, x = (f i).rights := ⟨_, rfl⟩
      have r2 : wr.cell? ⟨B, i * 6 + 2, none⟩ = some (.int .i64 x) := by rw [hx]; exact hpb.c2
      have r3 : wr.cell? ⟨B, i * 6 + 3, none⟩ = some (.int .i64 o) := by rw [hoo]; exact hpb.c3
      have r4 : wr.cell? ⟨B, i * 6 + 4, none⟩ = some (.int .i64 y) := by rw [hy]; exact hpb.c4
      rw [← hy] at hok
      have hh1 := (has_of (r := 0) (by omega) hok.2 (by decide) (by decide)).2.2.2
      obtain ⟨bk, hbk⟩ : ∃ b, b = (x == kind) := ⟨_, rfl⟩
      obtain ⟨br, hbr⟩ : ∃ b, b = hasB y 1 := ⟨_, rfl⟩
      have HK : Hid (ofK f kind i = (bk && br)) := by show ofK f kind i = _; unfold ofK; rw [hbk, hbr, hx, hy]
      rw [← hbr] at hh1
      have hyb : (bits .and .i64 y 1 != 0) = br := by
        show (!(bits .and .i64 y 1 == 0)) = br
        rw [hh1]; exact Bool.not_not br
      have hbk' := hbk.symm
      have HO := hide' hoo
      have HTS : Hid (P.take (t + 1) = P.take t ++ [i]) := take_snoc hi
      have hln := obl_len f kind (P.take t)
      have hlt := List.length_take_le t P
      obtain ⟨ln, hlne⟩ : ∃ l, l = (obl f kind (P.take t)).length := ⟨_, rfl⟩
      have HNM : Hid (ln + 1 ≤ 1000000) := by show ln + 1 ≤ 1000000; omega
      have HLN := hide' hlne
      have HSK : Hid ((bk && br) = false → obl f kind (P.take (t + 1)) = obl f kind (P.take t)) := fun h => by
        rw [HTS.out]
        unfold obl
        rw [List.filter_append, List.map_append, List.filter_cons_of_neg (by rw [HK.out, h]; decide)]
        simp
      have HTK : Hid ((bk && br) = true → obl f kind (P.take (t + 1)) = obl f kind (P.take t) ++ [o]) := fun h => by
        rw [HTS.out, HO.out]
        unfold obl
        rw [List.filter_append, List.map_append, List.filter_cons_of_pos (by rw [HK.out, h])]
        simp
      clear hi him hown hac hgb hT hpb hok hx hoo hy hh1 hbk hbr hln hlt hlne e2
      cases bk
      · have HN : Hid (Stay (fun k => w1.heap.size ≤ k) w1 wr ∧ wr.ownsRow w1.heap.size 3 1 u (obl f kind (P.take (t + 1))).length ((obl f kind (P.take (t + 1))).map (.int .i64 ·))) := by
          rw [HSK.out rfl]
          exact HL.out
        clear HL
        go_wp2
        go_roundg (pn - (t + 1))
        case measure => omega
        case rel => exact ⟨t + 1, _, by omega, rfl, by go_num, rfl, HN⟩
      · cases br
        · have HN : Hid (Stay (fun k => w1.heap.size ≤ k) w1 wr ∧ wr.ownsRow w1.heap.size 3 1 u (obl f kind (P.take (t + 1))).length ((obl f kind (P.take (t + 1))).map (.int .i64 ·))) := by
            rw [HSK.out rfl]
            exact HL.out
          clear HL
          go_wp2
          go_roundg (pn - (t + 1))
          case measure => omega
          case rel => exact ⟨t + 1, _, by omega, rfl, by go_num, rfl, HN⟩
        · have HE := hide' (HTK.out rfl)
          have hst : Stay (fun _ => False) wr (wr.alloc (.cells #[.int .i64 o] 3)) := (Stay.refl _ _).alloc _
          have HST := hide' (HL.out.1.trans (hst.mono (T := fun k => w1.heap.size ≤ k) (fun _ _ h => h.elim)))
          have HOW : Hid ((wr.alloc (.cells #[.int .i64 o] 3)).ownsRow w1.heap.size 3 1 u ln ((obl f kind (P.take t)).map (.int .i64 ·))) := by
            have := hst.owns HL.out.2 (fun _ _ h => h)
            rwa [← HLN.out] at this
          have HSRC := hide' (isRowS_new wr #[.int .i64 o] 3 1 1 rfl)
          have HON : Hid (∀ u ∈ [Value.int .i64 o], u.oneCell' = true) := by
            intro u hu
            simp only [List.mem_cons, List.not_mem_nil, or_false] at hu
            subst hu
            rfl
          have HBS : Hid (w1.heap.size ≤ (wr.alloc (.cells #[.int .i64 o] 3)).heap.size) := HST.out.size
          clear hst HL
          go_wp2_with (at_builtin; go_must (refine appS rfl _ _ 53 rfl Try.underlying53 info3 rfl (by decide) (by decide) HOW.out rfl HSRC.out rfl HON.out HNM.out HBS.out ?_; intro v5 W5 ho hst hb; have HS5 : Hid (Stay (fun k => w1.heap.size ≤ k) w1 W5 ∧ W5.ownsRow w1.heap.size 3 1 v5 (obl f kind (P.take (t + 1))).length ((obl f kind (P.take (t + 1))).map (.int .i64 ·))) := ⟨HST.out.trans (hst.mono (fun j _ e => (HOW.out.lt j e).1)), by rw [HE.out, List.length_append, List.map_append, ← HLN.out]; exact ho⟩; clear ho hst hb HOW HST HSRC))
          go_roundg (pn - (t + 1))
          case measure => omega
          case rel => exact ⟨t + 1, _, by omega, rfl, by go_num, rfl, HS5⟩
    · have hte : t = pn := by omega
      subst hte
      have htk : P.take t = P := by rw [HPN.out]; exact List.take_length
      have HL2 := hide' HL.out
      rw [htk] at HL2
      have HOM := hide' (fun k h hr hm => obl_objs (env := env) (kind := kind) HT.out.ok HB.out.2 k h hr hm)
      rw [← HPE.out] at HOM
      obtain ⟨L, hL⟩ : ∃ L, L = obl f kind P := ⟨_, rfl⟩
      obtain ⟨R, hR⟩ : ∃ R, R = objs f n env kind 1000 := ⟨_, rfl⟩
      have hll : L.length ≤ 12 := by rw [hL]; have := obl_len f kind P; have := HPN.out; omega
      rw [← hL] at HL2 HOM
      rw [← hR] at HOM ⊢
      have HRE := hide' hR
      clear hL hR HL htk
      have HST := hide' (HS1.out.trans (HL2.out.1.mono (T := fun _ => False) (fun k hk h => absurd hk (Nat.not_lt.2 h))))
      have HWS := hide' HS1.out.size
      rcases HL2.out.2.2 with ⟨hnil, h0⟩ | ⟨g, cap, cur, hsl, hbg, _, hnc, _⟩
      · subst hnil
        have hL0 : L = [] := List.eq_nil_of_length_eq_zero h0
        subst hL0
        have hR := HOM.out 0 (fun _ => 0) (fun p q h1 h2 => by omega) (fun v => ⟨fun ⟨i, a, _⟩ => by omega, fun h => by cases h⟩)
        have HR := hide' (show R = [] from hR.symm)
        clear HL2 HOM h0 hll hR
        go_wp2_with fail
        refine (sort42_nil _).mono ?_
        rintro _ w2 ⟨rfl, hs2⟩
        go_wp2_with fail
        refine (compact43_small none 0 0 _ (by omega)).mono ?_
        rintro _ w3 ⟨rfl, hs3⟩
        have HS3 := hide' ((HST.out.trans hs2).trans hs3)
        clear hs2 hs3 HST
        go_wp2
        go_ret
        exact ⟨none, 0, by rw [← HRE.out, HR.out]; rfl, HS3.out, fun h => absurd (HRE.out.symm.trans HR.out) h⟩
      · subst hsl
        have hrow : IRow wr g L.length (fun i => L.getD i 0) := IRow.of_owns HL2.out.2
        obtain ⟨ln, hln⟩ : ∃ l, l = L.length := ⟨_, rfl⟩
        have HGB : Hid (w.heap.size ≤ g ∧ ln ≤ cap) := ⟨by have := HWS.out; omega, by omega⟩
        have HLL : Hid (∀ v, (∃ i, i < ln ∧ L.getD i 0 = v) ↔ v ∈ L) := fun v => by rw [hln]; exact dmem L v
        rw [← hln] at hrow hll ⊢
        have HSO := hide' (sort42 g ln cap _ wr hrow hll)
        have hl12 : (ln : Int) ≤ 12 := by omega
        clear HL2 hbg hnc hrow hll hln
        go_wp2_with fail
        refine HSO.out.mono ?_
        rintro _ w2 ⟨rfl, h, ⟨hst2, hrow2, hmem2⟩, hup2⟩
        by_cases hl2 : ln < 2
        · have hR := HOM.out ln h (fun p q h1 h2 => by omega) (fun v => (hmem2 v).symm.trans (HLL.out v))
          have HFIN : Hid (R = (List.range ln).map h ∧ IRow w2 g ln h ∧ Stay (fun _ => False) w w2) := ⟨hR.symm, hrow2, (HST.out.mono (T := fun j => j = g) (fun _ _ h => h.elim)).trans hst2 |>.mono (fun j hj e => by have := HGB.out; omega)⟩
          clear hR hst2 hrow2 hmem2 hup2 HSO HST HOM
          go_wp2_with fail
          refine (compact43_small _ ln cap _ hl2).mono ?_
          rintro _ w3 ⟨rfl, hs3⟩
          have HS3 := hide' hs3
          clear hs3
          go_wp2
          go_ret
          refine ⟨some ⟨g, 0, none⟩, cap, by rw [← HRE.out, HFIN.out.1, List.length_map, List.length_range]; rfl, HFIN.out.2.2.trans HS3.out, fun _ => ⟨g, rfl, ?_⟩⟩
          rw [← HRE.out, HFIN.out.1, List.length_map, List.length_range]
          exact (HFIN.out.2.1.stay HS3.out (fun h => h)).isRowS
        · have HCO := hide' (compact43 g ln cap h w2 hrow2 hup2 (by omega) (by omega) HGB.out.2)
          have HS2 := hide' hst2
          have HM2 := hide' hmem2
          clear hst2 hrow2 hmem2 hup2 HSO
          go_wp2_with fail
          refine HCO.out.mono ?_
          rintro _ w3 ⟨k, h', rfl, hk, hst3, hrow3, hris, hmem3⟩
          have hR := HOM.out k h' hris (fun v => (hmem3 v).trans ((HM2.out v).symm.trans (HLL.out v)))
          have HFIN : Hid (R = (List.range k).map h' ∧ IRow w3 g k h' ∧ Stay (fun _ => False) w w3) := ⟨hR.symm, hrow3, ((HST.out.mono (T := fun j => j = g) (fun _ _ h => h.elim)).trans (HS2.out.trans hst3)).mono (fun j hj e => by have := HGB.out; omega)⟩
          clear hR hst3 hrow3 hris hmem3 HS2 HM2 HST HOM HCO
          go_wp2
          go_ret
          refine ⟨some ⟨g, 0, none⟩, cap, by rw [← HRE.out, HFIN.out.1, List.length_map, List.length_range]; rfl, HFIN.out.2.2, fun _ => ⟨g, rfl, ?_⟩⟩
          rw [← HRE.out, HFIN.out.1, List.length_map, List.length_range]
          exact HFIN.out.2.1.isRowS

end Go.Proofs.Ytlhfpnfiamgmlaa
