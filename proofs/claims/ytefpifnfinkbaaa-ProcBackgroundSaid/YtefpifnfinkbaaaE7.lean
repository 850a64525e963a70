/-
  A process is made: walked. No conditions.
-/
import Derived.Test.YtefpifnfinkbaaaG2
namespace Go.Proofs.Ytefpifnfinkbaaa
open Go.RowKit

variable {q : Tq} {L : List Pr} {md : Int} {f : Int → Int} {c : Nat} {w : World} {i g : Nat} {p : Pr}

theorem parts_cells (p : Pr) : #[.int .i64 p.pid, .int .i64 p.par, .int .i64 p.grp, .int .i64 p.ses, .int .i64 p.tty, .bool p.df] = p.parts.toArray := rfl

/-- One more, behind all. -/
theorem run_app26 (w : World) (g n cap g2 : Nat) (L : List Pr) (p : Pr) (h : Ws w (some ⟨g, 0, none⟩) n cap L) (hm : n + 1 ≤ 1000) (hs : ∀ j v, p.parts[j]? = some v → w.cell? ⟨g2, j, none⟩ = some v) :
    ∃ v' w', (∀ ty, (Builtin.append_ #[26, 26] ty #[.slice (some ⟨g, 0, none⟩) n cap, .slice (some ⟨g2, 0, none⟩) 1 1]).run Try.prog w = .ok v' w') ∧ Wv w' v' (L ++ [p]) ∧ Stay (fun j => j = g) w w' ∧ (v'.ownBlock = some g ∨ v'.ownBlock = some w.heap.size) := by
  obtain ⟨ii, hii, hzz⟩ := Option.map_eq_some_iff.1 info40
  simp only [Prod.mk.injEq] at hzz
  obtain ⟨g1, e2, e3⟩ := hzz
  have hl := h.1
  have hc := h.2.1
  have hsrc : ∀ j u, p.parts[j]? = some u → w.cell? ((⟨g2, 0, none⟩ : Addr).add j) = some u := fun j u hu => by
    rw [addr_add, Nat.zero_add]
    exact hs j u hu
  have hpl : p.parts.length = 1 * ii.size := by rw [e2]; rfl
  rcases h.2.2.2 with ⟨h0, _⟩ | ⟨g', h0, hg, hr, ht⟩
  · cases h0
  cases h0
  by_cases hroom : n + 1 ≤ cap
  · have hth : w.there g (0 + n * ii.size) p.parts.length := by
      rw [e2, Nat.zero_add]
      exact there_part ht (by show n * 6 + 6 ≤ cap * 6; omega)
    have hrun : ∀ ty, _ := fun ty => run_append_room_cells (P := Try.prog) w 26 ty 40 ii Try.underlying26 hii g 0 n cap ⟨g2, 0, none⟩ 1 1 p.parts hpl hsrc p.parts_one hroom (fun j hj => (hth j hj).1) (fun j hj => (hth j hj).2)
    have hst : Stay (fun j => j = g) w (w.setCells g (0 + n * ii.size) p.parts) := (Stay.refl (fun j => j = g) w).setCells g _ _ rfl
    refine ⟨_, _, hrun, ⟨_, cap, by rw [List.length_append, hl]; rfl, ?_, fun e => by omega⟩, hst, .inl rfl⟩
    refine ⟨rfl, by rw [List.length_append, hl]; exact hroom, h.2.2.1, .inr ⟨g, rfl, Nat.lt_of_lt_of_le hg hst.size, ?_, World.there_setCells ht _ _ _⟩⟩
    rw [e2, Nat.zero_add]
    have hx := range_patch (k := n * 6) (ys := p.parts) hr (by rw [wc_length, hl]; exact Nat.le_refl _) (there_part ht (by show n * 6 + 6 ≤ cap * 6; omega))
    have e4 : (wc L).take (n * 6) ++ p.parts ++ (wc L).drop (n * 6 + p.parts.length) = wc (L ++ [p]) := by
      rw [List.take_of_length_le (by rw [wc_length, hl]; exact Nat.le_refl _), List.drop_of_length_le (by rw [wc_length, hl]; omega), List.append_nil, wc_append, wc_cons, wc_nil, List.append_nil]
    rwa [e4] at hx
  · have hb : (n + 1) * ii.bytes ≤ 140737488355328 := by rw [e3]; omega
    have hw : (wc L).length = n * ii.size := by rw [wc_length, hl, e2]
    have hzc : (Value.agg #[.int .i64 0, .int .i64 0, .int .i64 0, .int .i64 0, .int .i64 0, .bool false]).cells.size = ii.size := by rw [e2]; rfl
    obtain ⟨v', w', hr0, h2, h5⟩ := run_append_arg_grows (P := Try.prog) w 26 0 40 ii _ ii.size ii.bytes Try.underlying26 hii g1 rfl rfl hzc (by rw [e2]; decide) ⟨g, 0, none⟩ n cap (wc L) hw (fun j u hu => by rw [addr_add]; exact hr j u hu) ⟨g2, 0, none⟩ 1 1 p.parts hpl hsrc (by omega) (by unfold maxLen; omega) hb
    have hgr := fun ty => run_append_grow (P := Try.prog) w 26 ty 40 ii _ Try.underlying26 hii g1 ⟨g, 0, none⟩ n cap (wc L) hw (fun j u hu => by rw [addr_add]; exact hr j u hu) ⟨g2, 0, none⟩ 1 1 p.parts hpl hsrc (by omega) (by omega) (growslice_fits (by omega) hb)
    have hrun : ∀ ty, (Builtin.append_ #[26, 26] ty #[.slice (some ⟨g, 0, none⟩) n cap, .slice (some ⟨g2, 0, none⟩) 1 1]).run Try.prog w = .ok v' w' := fun ty => by rw [hgr ty, ← hgr 0, hr0]
    have hv : v'.ownBlock = some w.heap.size := by
      have := hr0
      rw [hgr 0] at this
      simp only [Result.ok.injEq] at this
      rw [← this.1]; rfl
    rw [e2] at h2
    have h3 : w'.ownsRow w.heap.size 40 6 v' (n + 1) (wc (L ++ [p])) := by rw [wc_append, wc_cons, wc_nil, List.append_nil]; exact h2
    obtain ⟨a', cap', rfl, hw', hb'⟩ := Ws.of_owns h3
    refine ⟨_, _, hrun, ⟨a', cap', by rw [List.length_append, hl]; rfl, by rw [List.length_append, hl]; exact hw', fun e => by have := hw'.2.1; omega⟩, (Stay.refl _ w).grown h5 (fun k hk _ => by cases hk), .inr hv⟩

/-- How many were made is another number. -/
theorem TM.made (h : TM w q L md f c) (m2 : Int) : TM (w.setCell ⟨q.b, 1, none⟩ (.int .i64 m2)) q L m2 f c ∧ Moved q q w (w.setCell ⟨q.b, 1, none⟩ (.int .i64 m2)) := by
  have hst : Stay (fun j => j = q.b) w (w.setCell ⟨q.b, 1, none⟩ (.int .i64 m2)) := (Stay.refl (fun j => j = q.b) w).setCell (p := ⟨q.b, 1, none⟩) rfl _
  refine ⟨⟨h.box.put1 rfl, h.row.stay hst (fun j hj => (h.vb j hj).1), ?_, h.vb, h.mb, h.rb, h.len, h.up⟩, hst.mono (fun j _ e => .inl e), fun j hj => .inl hj⟩
  obtain ⟨k, hm⟩ := h.mp
  exact ⟨k, hm.stay hst h.mb⟩

/-- The processes lie elsewhere. -/
theorem TM.procsAt {w1 : World} {g0 : Nat} {v' : Value} {L' : List Pr} (h : TM w q L md f c) (hg : q.v.ownBlock = some g0) (hs : Stay (fun j => j = g0) w w1) (hv : Wv w1 v' L') (hb : v'.ownBlock = some g0 ∨ ∃ k, v'.ownBlock = some k ∧ w.heap.size ≤ k) (hl : L'.length ≤ 256) (hu : Up L') :
    TM (w1.setCell ⟨q.b, 0, none⟩ v') ⟨q.b, v', q.m⟩ L' md f c ∧ Moved q ⟨q.b, v', q.m⟩ w (w1.setCell ⟨q.b, 0, none⟩ v') := by
  have hbg : ∀ j, v'.ownBlock = some j → ¬ j = q.b ∧ ¬ j = q.m ∧ (j = g0 ∨ w.heap.size ≤ j) := fun j hj => by
    have h1 := h.lt q.b (.inl rfl)
    have h2 := h.lt q.m (.inr (.inr rfl))
    rcases hb with e | ⟨k, e, hk⟩
    · rw [e] at hj
      have := h.vb g0 hg
      cases hj
      exact ⟨this.1, this.2, .inl rfl⟩
    · rw [e] at hj
      cases hj
      exact ⟨by omega, by omega, .inr hk⟩
  have h0 := h.vb g0 hg
  have hst : Stay (fun j => j = q.b) w1 (w1.setCell ⟨q.b, 0, none⟩ v') := (Stay.refl (fun j => j = q.b) w1).setCell (p := ⟨q.b, 0, none⟩) rfl _
  refine ⟨⟨(h.box.stay hs (fun e => h0.1 e.symm)).put0 rfl, hv.stay hst (fun j hj => (hbg j hj).1), ?_, fun j hj => ⟨(hbg j hj).1, (hbg j hj).2.1⟩, h.mb, ?_, hl, hu⟩, ?_, ?_⟩
  · obtain ⟨k, hm⟩ := h.mp
    exact ⟨k, (hm.stay hs (fun e => h0.2 e.symm)).stay hst h.mb⟩
  · rcases hb with e | ⟨k, e, _⟩
    · exact ⟨_, e⟩
    · exact ⟨_, e⟩
  · exact (hs.mono (fun j _ e => .inr (.inl (by rw [e]; exact hg)))).trans2 hst (fun j _ e => .inl e)
  · intro j hj
    rcases hj with e | e | e
    · exact .inl (.inl e)
    · rcases (hbg j e).2.2 with k | k
      · exact .inl (.inr (.inl (by rw [k]; exact hg)))
      · exact .inr k
    · exact .inl (.inr (.inr e))

theorem fork21_none (x : Int) (h : TAt w q L md f c) (hx : ∀ p ∈ L, p.pid ≠ x) : Calls Try.prog 21 #[.pointer (some ⟨q.b, 0, none⟩), .int .i64 x] w (Gives (.tuple #[.int .i64 0, .int .i64 5]) w) := by
  have HF := hide' (find37 x h.tm)
  have HX := hide' hx
  clear h hx
  go_enter Try.func21, Try.ntmps21
  go_wp2_with fail
  refine HF.out.mono ?_
  rintro _ w1 ⟨h1 | h1, hs⟩
  · obtain ⟨j, g, p', rfl, hg, hp', hx'⟩ := h1
    exact absurd hx' (HX.out p' (mem_at hp'))
  · obtain ⟨rfl, _⟩ := h1
    have HS := hide' hs
    clear hs HF
    go_wp2
    go_returns
    exact ⟨rfl, HS.out⟩

theorem fork21_full (x : Int) (h : TAt w q L md f c) (hp : L[i]? = some p) (hx : p.pid = x) (hl : 256 ≤ L.length) : Calls Try.prog 21 #[.pointer (some ⟨q.b, 0, none⟩), .int .i64 x] w (Gives (.tuple #[.int .i64 0, .int .i64 3]) w) := by
  have HF := hide' (find37 x h.tm)
  have HT := hide' h
  have HX := hide' (show p ∈ L ∧ p.pid = x from ⟨mem_at hp, hx⟩)
  obtain ⟨g, cap, hv⟩ := h.tm.shape
  obtain ⟨n, hn⟩ : ∃ n, n = L.length := ⟨_, rfl⟩
  rw [← hn] at hv hl
  have HV := hide' hv
  have hl2 : (256 : Int) ≤ (n : Nat) := by omega
  clear h hp hx hn hv
  go_enter Try.func21, Try.ntmps21
  go_wp2_with fail
  refine HF.out.mono ?_
  rintro _ w1 ⟨h1 | h1, hs⟩
  · obtain ⟨j, g, p', rfl, hg, hp', hx'⟩ := h1
    have c0 := (HT.out.keep hs).tm.box.c0
    simp only at c0
    rw [HV.out] at c0
    have HS := hide' hs
    clear hs HF hg hp' hx'
    go_wp2
    go_returns
    exact ⟨rfl, HS.out⟩
  · exact absurd HX.out.2 (h1.2 p HX.out.1)

set_option maxRecDepth 100000 in
theorem fork21 (x : Int) (h : TAt w q L md f c) (hp : L[i]? = some p) (hx : p.pid = x) (hl : L.length < 256) (hc : c ≤ 4000) : Calls Try.prog 21 #[.pointer (some ⟨q.b, 0, none⟩), .int .i64 x] w (Did q (L ++ [⟨md + 1, p.pid, p.grp, p.ses, p.tty, p.df⟩]) (md + 1) f (c + 1) (.tuple #[.int .i64 (md + 1), .int .i64 0]) w) := by
  have HF := hide' (find37 x h.tm)
  have HT := hide' h
  have HP := hide' hp
  have HX := hide' hx
  have HOK := hide' (h.ok.fork (mem_at hp) hl)
  obtain ⟨g, cap, hv⟩ := h.tm.shape
  have HG : Hid (q.v.ownBlock = some g) := by rw [hv]; exact rfl
  obtain ⟨n, hn⟩ : ∃ n, n = L.length := ⟨_, rfl⟩
  have HN := hide' hn
  rw [← hn] at hv hl
  have HV := hide' hv
  have hl2 : (n : Int) < 256 := by omega
  have m1 := h.ok.m1
  have m2 : md ≤ 4000 := by have := h.mc; omega
  have HC := hide' hc
  have HL := hide' hl
  clear h hp hx hn hv hc
  go_enter Try.func21, Try.ntmps21
  go_wp2_with fail
  refine HF.out.mono ?_
  rintro _ w1 ⟨h1 | h1, hs⟩
  rotate_left
  · exact absurd HX.out (h1.2 p (mem_at HP.out))
  obtain ⟨j, g2, p', rfl, hg, hp', hx'⟩ := h1
  obtain ⟨rfl, rfl⟩ := at_own HT.out.ok.up HP.out hp' (by rw [hx', HX.out])
  have eg : g2 = g := by have := HG.out; rw [hg] at this; exact Option.some.inj this
  subst eg
  have hT1 := HT.out.keep hs
  have c0 := hT1.tm.box.c0
  have c1 := hT1.tm.box.c1
  have f1 := hT1.tm.box.f1
  have f0 := hT1.tm.box.f0
  simp only at c0 c1
  rw [HV.out] at c0
  obtain ⟨d0, d1, d2, d3, d4, d5⟩ := (hT1.tm.cellsAt hg hp').1
  obtain ⟨W3, hW3⟩ : ∃ W, W = w1.setCell ⟨q.b, 1, none⟩ (.int .i64 (md + 1)) := ⟨_, rfl⟩
  obtain ⟨hT3, hm3⟩ := hT1.tm.made (md + 1)
  rw [← hW3] at hT3 hm3
  obtain ⟨bc, hbc⟩ : ∃ b, b = w1.heap.size := ⟨_, rfl⟩
  have hz3 : W3.heap.size = bc := by rw [hW3, hbc]; simp
  obtain ⟨W4, hW4⟩ : ∃ W, W = W3.alloc (.cells #[.int .i64 (md + 1), .int .i64 x, .int .i64 p'.grp, .int .i64 p'.ses, .int .i64 p'.tty, .bool p'.df] 40) := ⟨_, rfl⟩
  have hs4 : Stay (fun _ => False) W3 W4 := by rw [hW4]; exact (Stay.refl _ _).alloc _
  have hb4 : PBox W4 bc ⟨md + 1, x, p'.grp, p'.ses, p'.tty, p'.df⟩ := by rw [hW4]; exact PBox.new ⟨md + 1, x, p'.grp, p'.ses, p'.tty, p'.df⟩ hz3
  obtain ⟨wd, hwd⟩ : ∃ W, W = W4.drew := ⟨_, rfl⟩
  have hsd : Stay (fun _ => False) W4 wd := by rw [hwd]; exact (Stay.refl _ _).drew
  obtain ⟨g3, hg3⟩ : ∃ b, b = wd.heap.size := ⟨_, rfl⟩
  obtain ⟨W5, hW5⟩ : ∃ W, W = wd.alloc (.cells #[.int .i64 (md + 1), .int .i64 x, .int .i64 p'.grp, .int .i64 p'.ses, .int .i64 p'.tty, .bool p'.df] 40) := ⟨_, rfl⟩
  have hs5 : Stay (fun _ => False) wd W5 := by rw [hW5]; exact (Stay.refl _ _).alloc _
  have hb5 : PBox W5 g3 ⟨md + 1, x, p'.grp, p'.ses, p'.tty, p'.df⟩ := by rw [hW5]; exact PBox.new ⟨md + 1, x, p'.grp, p'.ses, p'.tty, p'.df⟩ hg3.symm
  have hs35 : Stay (fun _ => False) W3 W5 := (hs4.trans hsd).trans hs5
  have hT5 := hT3.keep hs35
  obtain ⟨a5, cap5, hv5, hw5, _⟩ := hT5.row
  rw [← HN.out] at hv5 hw5
  have hv6 : a5 = some ⟨g2, 0, none⟩ ∧ cap5 = cap := by
    have := HV.out.symm.trans hv5
    cases this
    exact ⟨rfl, rfl⟩
  obtain ⟨rfl, rfl⟩ := hv6
  obtain ⟨v6, w6, hrun, hwv6, hs6, hb6⟩ := run_app26 W5 g2 n cap5 g3 L ⟨md + 1, x, p'.grp, p'.ses, p'.tty, p'.df⟩ hw5 (by omega) (fun j v hj => by have := hb5.cells j v hj; rwa [Nat.zero_add] at this)
  have hwv6' := hwv6
  obtain ⟨a6, cap6, e6, _⟩ := hwv6'
  generalize (L ++ [(⟨md + 1, x, p'.grp, p'.ses, p'.tty, p'.df⟩ : Pr)]).length = n6 at e6
  subst e6
  have hqg := (hT5.vb g2 HG.out).1
  have hqg2 : ¬ q.b = g2 := fun e => hqg e.symm
  have hlb := hT3.lt q.b (.inl rfl)
  have hlg := hT3.lt g2 (.inr (.inl HG.out))
  have hT7 := hT5.procsAt HG.out hs6 hwv6 (by rcases hb6 with e | e; exact .inl e; exact .inr ⟨_, e, Nat.le_refl _⟩) (by have := HN.out; rw [List.length_append]; simp; omega) (by have := HOK.out.up; rw [HX.out] at this; exact this)
  have HM7 := hide' ((Moved.of_stay (q := q) hs).trans (hm3.trans ((Moved.of_stay (q := q) hs35).trans hT7.2)))
  have HT7 : Hid (TAt (w6.setCell ⟨q.b, 0, none⟩ (.slice a6 n6 cap6)) ⟨q.b, .slice a6 n6 cap6, q.m⟩ (L ++ [⟨md + 1, x, p'.grp, p'.ses, p'.tty, p'.df⟩]) (md + 1) f (c + 1)) := by
    refine ⟨hT7.1.more (Nat.le_succ c), ?_, ?_⟩
    · have := HOK.out; rw [HX.out] at this; exact this
    · have := HT.out.mc; omega
  have n1 : ¬ bc = q.b := by omega
  have n2 : ¬ q.b = bc := by omega
  have n3 : ¬ q.b = w1.heap.size := by omega
  have a1 : ∀ o : Obj, ((w1.setCell ⟨q.b, 1, none⟩ (.int .i64 (md + 1))).alloc o).cell? ⟨q.b, 1, none⟩ = some (.int .i64 (md + 1)) := fun o => by
    have h4 := (hT3.keep ((Stay.refl (fun _ => False) W3).alloc o)).box.c1
    rw [hW3] at h4
    exact h4
  have n4 : ¬ w1.heap.size = q.b := by omega
  have hsb : w6.cell? ⟨bc, 0, none⟩ = some (.int .i64 (md + 1)) := by
    have h4 := (hb4.keep (hsd.trans hs5)).c0
    exact (hs6.cell (p := ⟨bc, 0, none⟩) (World.block_lt_of_cell? _ _ h4) (fun e => by have : bc = g2 := e; omega)).trans h4
  have hq0 : w6.cell? ⟨q.b, 0, none⟩ = some (.slice (some ⟨g2, 0, none⟩) n cap5) := by
    have h4 := hT5.box.c0
    simp only at h4
    rw [HV.out] at h4
    exact (hs6.cell (p := ⟨q.b, 0, none⟩) (World.block_lt_of_cell? _ _ h4) (fun e => hqg (by have : q.b = g2 := e; exact this.symm))).trans h4
  have hqf : w6.frozen? ⟨q.b, 0, none⟩ = false := by
    have h4 := hT5.box.f0
    exact (hs6.frozen (p := ⟨q.b, 0, none⟩) (by have := hT5.lt q.b (.inl rfl); exact this) (fun e => hqg (by have : q.b = g2 := e; exact this.symm))).trans h4
  have e4 : W4.cell? ⟨q.b, 0, none⟩ = some (.slice (some ⟨g2, 0, none⟩) n cap5) := by
    have h4 := (hT3.keep hs4).box.c0
    simp only at h4
    rw [HV.out] at h4
    exact h4
  have HXX := hide' HX.out
  have e5 : W5.cell? ⟨q.b, 0, none⟩ = some (.slice (some ⟨g2, 0, none⟩) n cap5) := by
    have h4 := hT5.box.c0
    simp only at h4
    rw [HV.out] at h4
    exact h4
  have e6 : wd.cell? ⟨q.b, 0, none⟩ = some (.slice (some ⟨g2, 0, none⟩) n cap5) := by
    have h4 := (hT3.keep (hs4.trans hsd)).box.c0
    simp only at h4
    rw [HV.out] at h4
    exact h4
  have HB4 := hide' hb4
  have HBC := hide' (hb4.keep hsd)
  have HBC5 := hide' (hb4.keep (hsd.trans hs5))
  have HBC6 := hide' (HBC5.out.stay hs6 (fun e => by have : bc = g2 := e; omega))
  have HBC7 := hide' (HBC6.out.other (o := 0) (v := .slice a6 n6 cap6) n2)
  have HW5 := hide' hW5
  have HG3 := hide' hg3
  have HRUN := hide' hrun
  clear HX HT HF HOK hT1 hT3 hm3 hs4 hb4 hsd hs5 hb5 hs35 hT5 hv5 hw5 hwv6 hs6 hb6 hlb hlg hT7 hs hp' hx' hg hz3 HP HG HL HC f0 hg3 hW5 hrun
  go_upto_region 9 with fail
  rw [← hbc, ← hW3, ← hW4]
  clear hbc hW3 hW4 HB4 c0 c1 f1 d0 d1 d2 d3 d4 d5 hqg hqg2 n3 n4 a1 e4
  refine any_begin (fun w' => PBox w' bc ⟨md + 1, x, p'.grp, p'.ses, p'.tty, p'.df⟩) (by kernel_rfl) (fun K0 hK0 => ?_)
  rw [← hwd]
  clear hwd
  refine any_take (i := 0) hK0 (some 38) (.move (.tmp 0)) 24 _ (by kernel_rfl) (fun _ d _ _ _ h => by cases d <;> exact h) (by kernel_rfl) (by kernel_rfl) (fun w' hS' => by simp only [opr]; go_simp; try with_reducible rfl) HBC.out (fun K1 hK1 => ?_)
  clear hK0 K0
  try simp only [Act.put, lA, lZ, lS]
  refine any_take (i := 1) hK1 (some 39) (.move (.tmp 0)) 24 _ (by kernel_rfl) (fun _ d _ _ _ h => by cases d <;> exact h) (by kernel_rfl) (by kernel_rfl) (fun w' hS' => by simp only [opr]; go_simp; try with_reducible rfl) HBC.out (fun K2 hK2 => ?_)
  clear hK1 K1
  try simp only [Act.put, lA, lZ, lS]
  refine any_take (i := 2) hK2 (some 40) (.nilCheck (.tmp 39)) 0 _ (by kernel_rfl) (fun _ d _ _ _ h => by cases d <;> exact h) (by kernel_rfl) (by kernel_rfl) (fun w' hS' => by simp only [opr]; go_simp; try with_reducible rfl) HBC.out (fun K3 hK3 => ?_)
  clear hK2 K2
  try simp only [Act.put, lA, lZ, lS]
  refine any_take (i := 3) hK3 (some 41) (.fieldAddr 64 (.tmp 40) 0) 0 _ (by kernel_rfl) (fun _ d _ _ _ h => by cases d <;> exact h) (by kernel_rfl) (by kernel_rfl) (fun w' hS' => by simp only [opr]; go_simp; try with_reducible rfl) HBC.out (fun K4 hK4 => ?_)
  clear hK3 K3
  try simp only [Act.put, lA, lZ, lS]
  refine any_take (i := 5) hK4 (some 43) (.load 40 (.tmp 7)) 40 _ (by kernel_rfl) (fun _ d _ _ _ h => by cases d <;> exact h) (by kernel_rfl) (by kernel_rfl) (fun w' hS' => by exact run_load_PBox rfl rfl hS') HBC.out (fun K5 hK5 => ?_)
  clear hK4 K4
  try simp only [Act.put, lA, lZ, lS]
  refine any_pick (rs := [4, 6]) hK5 (by kernel_rfl) (fun K6 hK6 => ?_)
  clear hK5 K5
  intro i hi
  simp only [List.mem_cons, List.not_mem_nil, or_false] at hi
  rcases hi with rfl | rfl
  · refine op_plain (some 42) (.load 26 (.tmp 41)) 26 (by kernel_rfl) (by kernel_rfl) ?_
    go_wp2
    refine hK6 4 (by simp) _ _ HBC.out (any_more fun K7 hK7 => ?_)
    clear hK6 K6
    refine any_pick (rs := [6]) hK7 (by kernel_rfl) (fun K8 hK8 => ?_)
    clear hK7 K7
    intro i hi
    simp only [List.mem_cons, List.not_mem_nil, or_false] at hi
    rcases hi with rfl
    refine op_plain (some 44) (.buildSlice 26 1 #[(0, .tmp 43)]) 26 (by kernel_rfl) (by kernel_rfl) ?_
    go_wp2
    rw [← HG3.out, ← HW5.out]
    clear HBC
    have HBC := HBC5
    refine hK8 6 (by simp) _ _ HBC.out (any_more fun K9 hK9 => ?_)
    clear hK8 K8
    refine any_pick (rs := [7]) hK9 (by kernel_rfl) (fun K10 hK10 => ?_)
    clear hK9 K9
    intro i hi
    simp only [List.mem_cons, List.not_mem_nil, or_false] at hi
    rcases hi with rfl
    refine op_plain (some 45) (.call { callee := Callee.builtin Builtin.append, args := #[.tmp 42, .tmp 44], argTypes := #[26, 26] }) 26 (by kernel_rfl) (by kernel_rfl) ?_
    refine Lib.wpList_append_run _ rfl _ _ 26 26 rfl _ _ rfl rfl _ _ (HRUN.out _) ?_
    refine wpList_nil ?_
    clear HBC
    have HBC := HBC6
    refine hK10 7 (by simp) _ _ HBC.out (any_more fun K11 hK11 => ?_)
    clear hK10 K10
    refine any_take (i := 8) hK11 (some 46) (.nilCheck (.tmp 38)) 0 _ (by kernel_rfl) (fun _ d _ _ _ h => by cases d <;> exact h) (by kernel_rfl) (by kernel_rfl) (fun w' hS' => by simp only [opr]; go_simp; try with_reducible rfl) HBC.out (fun K12 hK12 => ?_)
    clear hK11 K11
    try simp only [Act.put, lA, lZ, lS]
    refine any_take (i := 9) hK12 (some 47) (.fieldAddr 64 (.tmp 46) 0) 0 _ (by kernel_rfl) (fun _ d _ _ _ h => by cases d <;> exact h) (by kernel_rfl) (by kernel_rfl) (fun w' hS' => by simp only [opr]; go_simp; try with_reducible rfl) HBC.out (fun K13 hK13 => ?_)
    clear hK12 K12
    try simp only [Act.put, lA, lZ, lS]
    refine any_pick (rs := [10]) hK13 (by kernel_rfl) (fun K14 hK14 => ?_)
    clear hK13 K13
    intro i hi
    simp only [List.mem_cons, List.not_mem_nil, or_false] at hi
    rcases hi with rfl
    refine op_plain none (.store 26 (.tmp 47) (.tmp 45)) 0 (by kernel_rfl) (by kernel_rfl) ?_
    go_wp2
    clear HBC
    have HBC := HBC7
    refine hK14 10 (by simp) _ _ HBC.out (any_more fun K15 hK15 => ?_)
    clear hK14 K14
    refine any_done hK15 (by kernel_rfl) ?_
    clear hK15 K15
    go_wp2
    go_returns
    rw [HXX.out]
    exact ⟨⟨q.b, .slice a6 n6 cap6, q.m⟩, rfl, rfl, HT7.out, HM7.out⟩
  · refine op_plain (some 44) (.buildSlice 26 1 #[(0, .tmp 43)]) 26 (by kernel_rfl) (by kernel_rfl) ?_
    go_wp2
    rw [← HG3.out, ← HW5.out]
    clear HBC
    have HBC := HBC5
    refine hK6 6 (by simp) _ _ HBC.out (any_more fun K7 hK7 => ?_)
    clear hK6 K6
    refine any_pick (rs := [4]) hK7 (by kernel_rfl) (fun K8 hK8 => ?_)
    clear hK7 K7
    intro i hi
    simp only [List.mem_cons, List.not_mem_nil, or_false] at hi
    rcases hi with rfl
    refine op_plain (some 42) (.load 26 (.tmp 41)) 26 (by kernel_rfl) (by kernel_rfl) ?_
    go_wp2
    refine hK8 4 (by simp) _ _ HBC.out (any_more fun K9 hK9 => ?_)
    clear hK8 K8
    refine any_pick (rs := [7]) hK9 (by kernel_rfl) (fun K10 hK10 => ?_)
    clear hK9 K9
    intro i hi
    simp only [List.mem_cons, List.not_mem_nil, or_false] at hi
    rcases hi with rfl
    refine op_plain (some 45) (.call { callee := Callee.builtin Builtin.append, args := #[.tmp 42, .tmp 44], argTypes := #[26, 26] }) 26 (by kernel_rfl) (by kernel_rfl) ?_
    refine Lib.wpList_append_run _ rfl _ _ 26 26 rfl _ _ rfl rfl _ _ (HRUN.out _) ?_
    refine wpList_nil ?_
    clear HBC
    have HBC := HBC6
    refine hK10 7 (by simp) _ _ HBC.out (any_more fun K11 hK11 => ?_)
    clear hK10 K10
    refine any_take (i := 8) hK11 (some 46) (.nilCheck (.tmp 38)) 0 _ (by kernel_rfl) (fun _ d _ _ _ h => by cases d <;> exact h) (by kernel_rfl) (by kernel_rfl) (fun w' hS' => by simp only [opr]; go_simp; try with_reducible rfl) HBC.out (fun K12 hK12 => ?_)
    clear hK11 K11
    try simp only [Act.put, lA, lZ, lS]
    refine any_take (i := 9) hK12 (some 47) (.fieldAddr 64 (.tmp 46) 0) 0 _ (by kernel_rfl) (fun _ d _ _ _ h => by cases d <;> exact h) (by kernel_rfl) (by kernel_rfl) (fun w' hS' => by simp only [opr]; go_simp; try with_reducible rfl) HBC.out (fun K13 hK13 => ?_)
    clear hK12 K12
    try simp only [Act.put, lA, lZ, lS]
    refine any_pick (rs := [10]) hK13 (by kernel_rfl) (fun K14 hK14 => ?_)
    clear hK13 K13
    intro i hi
    simp only [List.mem_cons, List.not_mem_nil, or_false] at hi
    rcases hi with rfl
    refine op_plain none (.store 26 (.tmp 47) (.tmp 45)) 0 (by kernel_rfl) (by kernel_rfl) ?_
    go_wp2
    clear HBC
    have HBC := HBC7
    refine hK14 10 (by simp) _ _ HBC.out (any_more fun K15 hK15 => ?_)
    clear hK14 K14
    refine any_done hK15 (by kernel_rfl) ?_
    clear hK15 K15
    go_wp2
    go_returns
    rw [HXX.out]
    exact ⟨⟨q.b, .slice a6 n6 cap6, q.m⟩, rfl, rfl, HT7.out, HM7.out⟩

end Go.Proofs.Ytefpifnfinkbaaa
