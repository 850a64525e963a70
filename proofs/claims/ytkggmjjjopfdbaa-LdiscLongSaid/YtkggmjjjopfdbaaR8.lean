/-
  Lines laid behind lines; the line is ready: walked. No conditions.
-/
import Derived.Test.YtkggmjjjopfdbaaR7
namespace Go.Proofs.Ytkggmjjjopfdbaa
open Go.RowKit
open L17

theorem infoL : (Try.prog.info? 31).map (fun i => (i.zero, i.size, i.bytes)) = some (some (.slice none 0 0), 1, 24) := by kernel_rfl

/-- Values that are rows of bytes. -/
def Each (w : World) (b : Bx) (vs : List Value) (L : List (List Int)) : Prop := vs.length = L.length ∧ ∀ (j : Nat) (u : Value) (l : List Int), vs[j]? = some u → L[j]? = some l → BRow w b u l

theorem Each.stay {w w1 : World} {b : Bx} {vs : List Value} {L : List (List Int)} (h : Each w b vs L) {S : Nat → Prop} (hs : Stay S w w1) (hS : ∀ k, S k → b.X k) : Each w1 b vs L :=
  ⟨h.1, fun j u l hu hl => (h.2 j u l hu hl).stay hs hS⟩

theorem Each.keep {w w1 : World} {b : Bx} {vs : List Value} {L : List (List Int)} (h : Each w b vs L) (hs : Stay (fun _ => False) w w1) : Each w1 b vs L := h.stay hs (fun _ h => h.elim)

theorem Each.append {w : World} {b : Bx} {vs us : List Value} {L M : List (List Int)} (h : Each w b vs L) (k : Each w b us M) : Each w b (vs ++ us) (L ++ M) := by
  refine ⟨by rw [List.length_append, List.length_append, h.1, k.1], fun j u l hu hl => ?_⟩
  by_cases hj : j < vs.length
  · rw [List.getElem?_append_left hj] at hu
    rw [List.getElem?_append_left (by rw [← h.1]; exact hj)] at hl
    exact h.2 j u l hu hl
  · rw [List.getElem?_append_right (by omega)] at hu
    rw [List.getElem?_append_right (by rw [← h.1]; omega), ← h.1] at hl
    exact k.2 _ u l hu hl

theorem Each.one {w : World} {b : Bx} {v : Value} {l : List Int} (h : BRow w b v l) : Each w b [v] [l] := by
  refine ⟨rfl, fun j u m hu hm => ?_⟩
  cases j with
  | zero => simp at hu hm; subst hu hm; exact h
  | succ j => simp at hu

theorem Each.cells {w : World} {b : Bx} {vs : List Value} {L : List (List Int)} (h : Each w b vs L) : ∀ u ∈ vs, u.oneCell' = true := by
  intro u hu
  obtain ⟨j, hj, rfl⟩ := List.getElem_of_mem hu
  obtain ⟨a, cap, e⟩ := (h.2 j vs[j] (L[j]'(by rw [← h.1]; exact hj)) (List.getElem?_eq_getElem hj) (List.getElem?_eq_getElem _)).shape
  rw [e]; rfl

theorem LRow.parts {w : World} {b : Bx} {v : Value} {L : List (List Int)} (h : LRow w b v L) : ∃ vs, IsRow w v vs ∧ Each w b vs L := by
  obtain ⟨vs, a, cap, h1, h2, h3, h4, h5, h6, h7⟩ := h
  refine ⟨vs, ?_, h5, h7⟩
  subst h1
  by_cases hne : vs = []
  · subst hne
    cases a with
    | none => left; exact ⟨by rw [h2 rfl]; rfl, rfl⟩
    | some ad => right; exact ⟨ad, 0, cap, rfl, rfl, fun j u hu => by simp at hu⟩
  · obtain ⟨g, o, rfl, _, _, hc⟩ := h6 hne
    right
    exact ⟨_, _, _, rfl, rfl, fun j u hu => by rw [addr_add]; exact hc j u hu⟩

/-- A row of lines of one's own, made since W0. -/
structure LAcc (W0 w : World) (b : Bx) (v : Value) (vs : List Value) (L : List (List Int)) : Prop where
  own : w.ownsRow W0.heap.size 31 1 v vs.length vs
  stay : Stay (fun _ => False) W0 w
  each : Each W0 b vs L

theorem LAcc.begin (W0 : World) (b : Bx) : LAcc W0 (W0.alloc (.cells #[] 31)) b (.slice (some ⟨W0.heap.size, 0, none⟩) 0 0) [] [] :=
  ⟨owns_new W0 #[] 31 (by simp), (Stay.refl _ _).alloc _, rfl, fun j u l h => by simp at h⟩

theorem LAcc.one (W0 : World) (b : Bx) (v : Value) (l : List Int) (h : BRow W0 b v l) : LAcc W0 (W0.alloc (.cells #[v] 31)) b (.slice (some ⟨W0.heap.size, 0, none⟩) 1 1) [v] [l] :=
  ⟨owns_new W0 #[v] 31 (by unfold maxLen; simp), (Stay.refl _ _).alloc _, Each.one h⟩

theorem LAcc.keep {W0 w w1 : World} {b : Bx} {v : Value} {vs : List Value} {L : List (List Int)} (h : LAcc W0 w b v vs L) (hs : Stay (fun _ => False) w w1) : LAcc W0 w1 b v vs L :=
  ⟨hs.owns h.own (fun _ _ h => h), h.stay.trans hs, h.each⟩

theorem LAcc.form {W0 w : World} {b : Bx} {v : Value} {vs : List Value} {L : List (List Int)} (h : LAcc W0 w b v vs L) : ∃ a n c, v = .slice a n c := by
  rcases h.own.2 with ⟨rfl, _⟩ | ⟨g, cap, cur, rfl, _⟩
  · exact ⟨_, _, _, rfl⟩
  · exact ⟨_, _, _, rfl⟩

theorem LAcc.row {W0 w : World} {b : Bx} {v : Value} {vs : List Value} {L : List (List Int)} (h : LAcc W0 w b v vs L) : IsRow w v vs := isRow_of_owns h.own

theorem LAcc.lrow {W0 w : World} {b : Bx} {v : Value} {vs : List Value} {L : List (List Int)} (h : LAcc W0 w b v vs L) (hb : ∀ k, b.X k → k < W0.heap.size) : LRow w b v L := by
  rcases h.own.2 with ⟨rfl, h0⟩ | ⟨g, cap, cur, rfl, hg, hh, hn, hm, _⟩
  · have e : vs = [] := List.eq_nil_of_length_eq_zero h0
    subst e
    exact ⟨[], none, 0, rfl, fun _ => rfl, Nat.le_refl _, by unfold maxLen; omega, h.each.1, fun h => absurd rfl h, fun j u l hu => by simp at hu⟩
  · refine ⟨vs, _, cap, rfl, (fun e => by cases e), hn, hm, h.each.1, fun _ => ⟨g, 0, rfl, (h.own.lt g rfl).2, (fun hx => by have := hb _ hx; omega), fun j u hu => ?_⟩, (h.each.keep h.stay).2⟩
    have := h.own.cells (g := g) rfl j u hu
    rwa [addr_add] at this

/-- append(own, lines...). -/
theorem lacc_app {ops : Array Oper} {rest : List Oper} {o : Oper} {a : Act} {Q : Exit → Act → World → Prop} (hgd : o.guard = none) (s x : Operand)
    (ho : o.op = .call { callee := .builtin .append, args := #[s, x], argTypes := #[32, 32] }) {W0 w : World} {b : Bx} {v sv : Value} {vs us : List Value} {L M : List (List Int)} (hA : LAcc W0 w b v vs L) (hs : a.eval s = v) (hB : IsRow w sv us) (hE : Each W0 b us M) (hx : a.eval x = sv)
    (hn : vs.length + us.length ≤ 1000000)
    (h : ∀ v' w', LAcc W0 w' b v' (vs ++ us) (L ++ M) → wpList Try.prog ops Q rest (a.put o.dst v') w') : wpList Try.prog ops Q (o :: rest) a w := by
  refine appL (fun k => W0.heap.size ≤ k) hgd s x 32 ho Try.underlying32 infoL rfl (by decide) hA.own hs hB hx hE.cells hn hA.stay.size (fun k hk => (hA.own.lt k hk).1) ?_
  intro v' w' h1 h2
  rw [← List.length_append] at h1
  exact h v' w' ⟨h1, hA.stay.trans2 h2 (fun j hj e => by omega), hA.each.append hE⟩

set_option maxRecDepth 100000 in
theorem r_ready1 (b : Bx) (d : DS) (w : World) (h : RAt w b d) (hf : Small d) (he : d.ec.length ≤ 700000) : Calls Try.prog 39 #[.pointer (some ⟨b, 0, none⟩)] w (TurnR b d.ready (.tuple #[]) w) := by
  have hlt := h.lt
  have HLT := hide' hlt
  have HRD : Hid (∀ w', RAt w' b (d.setLine []) → Calls Try.prog 23 #[.pointer (some ⟨b, 0, none⟩)] w' (Gives (.int .i64 ((d.setLine []).cnt : Nat)) w')) := fun w' hh => r_ready b _ w' hh ⟨by have := hf.bytes; show d.raw.length + d.lines.flatten.length + 0 ≤ 10000; omega, hf.lines⟩
  have HLO : Hid (∀ w', RAt w' b (d.setLine []) → Calls Try.prog 49 #[.pointer (some ⟨b, 0, none⟩)] w' (TurnR b (d.setLine []).lost (.tuple #[]) w')) := fun w' hh => r_lost b _ w' hh (by show d.ec.length ≤ _; omega)
  have HDF : Hid (d.ready = if (d.setLine []).cnt + d.line.length > 1024 then (d.setLine []).lost else (d.setLine []).setLines (d.lines ++ [d.line])) := rfl
  have HCB : Hid ((d.setLine []).cnt ≤ 10000) := by have := hf.bytes; show d.raw.length + d.lines.flatten.length ≤ 10000; omega
  have kl : d.line.length ≤ 10000 := by have := hf.bytes; omega
  have HLN : Hid (d.lines.length ≤ 100000) := hf.lines
  obtain ⟨r, HB, HP⟩ := h
  have HX := hide' (And.intro HB HP)
  obtain ⟨al, cl, e17⟩ := HP.ln.shape
  obtain ⟨nl, hnl⟩ : ∃ n, n = d.line.length := ⟨_, rfl⟩
  rw [← hnl] at e17 kl HDF
  have HNL := hide' hnl
  obtain ⟨cn, hcn⟩ : ∃ n, n = (d.setLine []).cnt := ⟨_, rfl⟩
  rw [← hcn] at HRD HDF HCB
  have kc := HCB.out
  clear HB HP hf he hlt hnl hcn
  obtain ⟨c0, c1, c2, c3, c4, c5, c6, c7, c8, c9, c10, c11, c12, c13, c14, c15, c16, c17, c18, c19, c20, c21, c22, f0, f1, f2, f3, f4, f5, f6, f7, f8, f9, f10, f11, f12, f13, f14, f15, f16, f17, f18, f19, f20, f21, f22⟩ := HX.out.1
  rw [e17] at c17
  go_enter Try.func39, Try.ntmps39
  go_upto_region 2 with fail
  have HR1 : Hid (RAt (w.setCell ⟨b, 17, none⟩ (.slice none 0 0)) b (d.setLine [])) := RAt.put_ln HX.out.1 HX.out.2 (BRow.nil w b)
  have HS1 : Hid (Stay (fun k => k = b) w (w.setCell ⟨b, 17, none⟩ (.slice none 0 0))) := stay_b (Stay.refl _ w) _ _
  have HBL : Hid (BRow (w.setCell ⟨b, 17, none⟩ (.slice none 0 0)) b (.slice al nl cl) d.line) := by
    have h1 := HX.out.2.ln
    rw [e17] at h1
    exact h1.stay HS1.out b.on
  obtain ⟨W1, hW1⟩ : ∃ W, W = w.setCell ⟨b, 17, none⟩ (.slice none 0 0) := ⟨_, rfl⟩
  rw [← hW1] at HR1 HS1 HBL ⊢
  clear hW1 c0 c1 c2 c3 c4 c5 c6 c7 c8 c9 c10 c11 c12 c13 c14 c15 c16 c17 c18 c19 c20 c21 c22 f0 f1 f2 f3 f4 f5 f6 f7 f8 f9 f10 f11 f12 f13 f14 f15 f16 f17 f18 f19 f20 f21 f22
  go_wp2_with fail
  refine (HRD.out _ HR1.out).mono ?_
  rintro e w2 ⟨rfl, hs⟩
  have HR2 := hide' (HR1.out.keep hs)
  have HS2 := hide' (HS1.out.trans (hs.mono (fun _ _ h => h.elim)))
  have HL2 := hide' (HBL.out.keep hs)
  clear hs HR1 HS1 HBL
  by_cases hgt : cn + nl > 1024
  · have kn : decide ((1024 : Int) < (cn : Int) + (nl : Int)) = true := by simp; omega
    go_wp2_with fail
    refine (HLO.out _ HR2.out).mono ?_
    rintro e w3 ⟨rfl, hr, hs⟩
    have HR3 := hide' hr
    have HS3 := hide' (HS2.out.trans hs)
    clear hr hs
    go_wp2
    go_returns
    refine ⟨rfl, ?_, HS3.out⟩
    rw [HDF.out, if_pos hgt]
    exact HR3.out
  · have kn : decide ((1024 : Int) < (cn : Int) + (nl : Int)) = false := by simp; omega
    obtain ⟨r2, B2, P2⟩ := HR2.out
    have HX2 := hide' (And.intro B2 P2)
    clear B2
    obtain ⟨vs, hrow, heach⟩ := P2.ls.parts
    have HVS := hide' (And.intro hrow heach)
    have hvl : vs.length = d.lines.length := heach.1
    have hn1 : ([] : List Value).length + vs.length ≤ 1000000 := by have := HLN.out; simp; omega
    have hn2 : ([] ++ vs : List Value).length + [Value.slice al nl cl].length ≤ 1000000 := by have := HLN.out; simp; omega
    have HNS := hide' (And.intro hn1 hn2)
    clear P2 hrow heach hvl hn1 hn2
    have HA0 := hide' (LAcc.begin w2 b)
    have HRW := hide' (show IsRow (w2.alloc (.cells #[] 31)) r2.ls vs from isRow_keep HVS.out.1 ((Stay.refl _ _).alloc _))
    obtain ⟨c0, c1, c2, c3, c4, c5, c6, c7, c8, c9, c10, c11, c12, c13, c14, c15, c16, c17, c18, c19, c20, c21, c22, _⟩ := HX2.out.1.keep ((Stay.refl _ w2).alloc (.cells #[] 31))
    have hn1 := HNS.out.1
    go_wp2_with (at_builtin; refine lacc_app rfl _ _ rfl HA0.out rfl HRW.out HVS.out.2 rfl hn1 ?_; intro v1 wa hA1; have HA1 := hide' (hA1.keep ((Stay.refl _ wa).alloc (.cells #[.slice al nl cl] 31))); have HC1 := hide' (LAcc.one wa b (.slice al nl cl) d.line (HL2.out.keep hA1.stay)).row; obtain ⟨a1, z1, p1, ev1⟩ := hA1.form; clear hA1 HA0 HRW hn1 c0 c1 c2 c3 c4 c5 c6 c7 c8 c9 c10 c11 c12 c13 c14 c15 c16 c17 c18 c19 c20 c21 c22; subst ev1; have hn2 := HNS.out.2; go_wp2_with (at_builtin; refine lacc_app rfl _ _ rfl HA1.out rfl HC1.out (Each.one HL2.out) rfl hn2 ?_; intro v2 wb hA2; have HA2 := hide' hA2; have HB2 := hide' (HX2.out.1.keep hA2.stay); obtain ⟨a2, z2, p2, ev2⟩ := hA2.form; clear hA2 HA1 HC1 hn2; obtain ⟨c0, c1, c2, c3, c4, c5, c6, c7, c8, c9, c10, c11, c12, c13, c14, c15, c16, c17, c18, c19, c20, c21, c22, f0, f1, f2, f3, f4, f5, f6, f7, f8, f9, f10, f11, f12, f13, f14, f15, f16, f17, f18, f19, f20, f21, f22⟩ := HB2.out; subst ev2; go_wp2_with fail))
    go_returns
    refine ⟨rfl, ?_, HS2.out.trans (stay_b HA2.out.stay _ _)⟩
    rw [HDF.out, if_neg hgt]
    exact RAt.put_ls HB2.out (HX2.out.2.stay HA2.out.stay (fun _ h => h.elim)) (HA2.out.lrow HR2.out.lt)

end Go.Proofs.Ytkggmjjjopfdbaa
