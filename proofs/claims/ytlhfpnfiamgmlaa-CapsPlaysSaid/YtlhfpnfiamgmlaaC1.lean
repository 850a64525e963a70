/-
  The document's slots: a table is made, a name is checked, a slot is taken: walked. No conditions.
-/
import Derived.Test.YtlhfpnfiamgmlaaC0
namespace Go.Proofs.Ytlhfpnfiamgmlaa
open Go.RowKit

theorem info64 : (Try.prog.info? 70).map (fun i => (i.zero, i.size, i.bytes)) = some (some (.agg #[.int .i64 0, .int .i64 0, .int .i64 0, .int .i64 0, .int .i64 0, .int .i64 0]), 6, 48) := by kernel_rfl

theorem SAt.twelve {W : World} {b o : Nat} {c : Sl} (h : SAt W b o c) : (W.cell? ⟨b, o, none⟩ = some (.int .i64 c.gen) ∧ W.cell? ⟨b, o + 1, none⟩ = some (.int .i64 c.env) ∧ W.cell? ⟨b, o + 2, none⟩ = some (.int .i64 c.kind) ∧ W.cell? ⟨b, o + 3, none⟩ = some (.int .i64 c.obj) ∧ W.cell? ⟨b, o + 4, none⟩ = some (.int .i64 c.rights) ∧ W.cell? ⟨b, o + 5, none⟩ = some (.int .i64 c.of)) ∧
    W.frozen? ⟨b, o, none⟩ = false ∧ W.frozen? ⟨b, o + 1, none⟩ = false ∧ W.frozen? ⟨b, o + 2, none⟩ = false ∧ W.frozen? ⟨b, o + 3, none⟩ = false ∧ W.frozen? ⟨b, o + 4, none⟩ = false ∧ W.frozen? ⟨b, o + 5, none⟩ = false :=
  ⟨⟨h.1 0 _ rfl, h.1 1 _ rfl, h.1 2 _ rfl, h.1 3 _ rfl, h.1 4 _ rfl, h.1 5 _ rfl⟩, (h.2 0 (by decide)).2, (h.2 1 (by decide)).2, (h.2 2 (by decide)).2, (h.2 3 (by decide)).2, (h.2 4 (by decide)).2, (h.2 5 (by decide)).2⟩

theorem results_tct {fn : Func} {a p c : Tmp} (h : fn.results = #[.tmp a, .cell p 30, .tmp c]) (tmps : Array Value) (w : World) (g : Nat) (r : Nm) (v x : Value) (ha : tmps.getD a undef = v) (hp : tmps.getD p undef = .pointer (some ⟨g, 0, none⟩)) (hc : tmps.getD c undef = x) (hb : NBox w g r) :
    (results fn tmps).run Try.prog w = .ok (.tuple #[v, .agg #[.int .i64 r.slot, .int .i64 r.gen], x]) w := by
  have ha' : tmps[a]?.getD undef = v := by simpa using ha
  have hp' : tmps[p]?.getD undef = .pointer (some ⟨g, 0, none⟩) := by simpa using hp
  have hc' : tmps[c]?.getD undef = x := by simpa using hc
  simp [results, h, ha', hp', hc', asAddr, run_loadVar_cells w g 0 30 _ _ hb.cells Try.underlying30 rfl (by kernel_rfl)]

/-- A free slot, as the document makes them. -/
def Sl.fresh : Sl := ⟨1, -1, 0, 0, 0, -1⟩

/-- A new table. -/
def NewT (n : Nat) (f : Nat → Sl) (w : World) (e : Ending) (w' : World) : Prop := ∃ g cap, e = .returned (.slice (some ⟨g, 0, none⟩) n cap) ∧ Stay (fun _ => False) w w' ∧ Tab w' g n f ∧ w.heap.size ≤ g

theorem own_shapeS {w : World} {base n : Nat} {v : Value} {xs : List Value} (h : w.ownsRow base 70 6 v n xs) (hn : 0 < n) : ∃ g cp, v = .slice (some ⟨g, 0, none⟩) n cp := by
  rcases h.2 with ⟨_, h0⟩ | ⟨g, cap, cur, rfl, _⟩
  · omega
  · exact ⟨g, cap, rfl⟩

theorem new9 (n : Nat) (w : World) (h1 : 1 ≤ n) (h2 : n ≤ 4096) : Calls Try.prog 9 #[.int .i64 (n : Nat)] w (NewT n (fun _ => Sl.fresh) w) := by
  have HH := hide' (show 1 ≤ n ∧ n ≤ 4096 from ⟨h1, h2⟩)
  have HS0 : Hid (Stay (fun k => w.heap.size ≤ k) w w ∧ w.ownsRow w.heap.size 70 6 (.slice none 0 0) 0 (seg 0 (fun _ => Sl.fresh))) := ⟨Stay.refl _ _, by simp [seg], .inl ⟨rfl, rfl⟩⟩
  have HONE : Hid (∀ u ∈ Sl.fresh.parts, u.oneCell' = true) := Sl.parts_one _
  clear h1
  go_enter Try.func9, Try.ntmps9
  go_wp2
  go_loopg [3, 4] n (fun gg v3 v4 wr => ∃ (k : Nat) (v : Value), k ≤ n ∧ gg = n - k ∧ v4 = .int .i64 (k : Int) ∧ v = v3 ∧ Hid (Stay (fun k => w.heap.size ≤ k) w wr ∧ wr.ownsRow w.heap.size 70 6 v k (seg k (fun _ => Sl.fresh))))
  case atStart => exact ⟨0, _, Nat.zero_le _, rfl, rfl, rfl, HS0⟩
  case round =>
    clear HS0
    obtain ⟨k, v, hk, rfl, rfl, hv, HS⟩ := hrel
    subst hv
    by_cases hlt : k < n
    · have kn : (k : Int) < (n : Nat) := by omega
      have hst : Stay (fun _ => False) wr (wr.alloc (.cells #[.int .i64 1, .int .i64 (-1), .int .i64 0, .int .i64 0, .int .i64 0, .int .i64 (-1)] 70)) := (Stay.refl _ _).alloc _
      have HST := hide' (HS.out.1.trans (hst.mono (fun _ _ h => h.elim)))
      have HO := hide' (hst.owns HS.out.2 (fun _ _ h => h))
      have HSRC := hide' (isRowS_new wr #[.int .i64 1, .int .i64 (-1), .int .i64 0, .int .i64 0, .int .i64 0, .int .i64 (-1)] 70 6 1 rfl)
      have HNM : Hid (k + 1 ≤ 1000000) := by have := HH.out; show k + 1 ≤ 1000000; omega
      have HBS : Hid (w.heap.size ≤ (wr.alloc (.cells #[.int .i64 1, .int .i64 (-1), .int .i64 0, .int .i64 0, .int .i64 0, .int .i64 (-1)] 70)).heap.size) := HST.out.size
      clear hst HS
      go_wp2_with (at_builtin; go_must (refine appS rfl _ _ 26 rfl Try.underlying26 info64 rfl (by decide) (by decide) HO.out rfl HSRC.out rfl HONE.out HNM.out HBS.out ?_; intro v5 W5 ho hst hb; have HS5 : Hid (Stay (fun k => w.heap.size ≤ k) w W5 ∧ W5.ownsRow w.heap.size 70 6 v5 (k + 1) (seg (k + 1) (fun _ => Sl.fresh))) := ⟨HST.out.trans (hst.mono (fun j _ e => (HO.out.lt j e).1)), by rw [seg_succ]; exact ho⟩; clear ho hst hb HO HST HSRC))
      go_roundg (n - (k + 1))
      case measure => omega
      case rel => exact ⟨k + 1, _, by omega, rfl, by go_num, rfl, HS5⟩
    · have hkn : k = n := by omega
      subst hkn
      obtain ⟨g, cp, rfl⟩ := own_shapeS HS.out.2 (by have := HH.out; omega)
      go_wp2
      go_ret
      refine ⟨g, cp, rfl, HS.out.1.mono (fun j hj h => by omega), Tab.of_owns HS.out.2, (HS.out.2.lt g rfl).1⟩

/-- What a check tells: of which number, what is wrong. -/
def checkR (n : Nat) (f : Nat → Sl) (env sl gn kind r : Int) : Int × Int := if ownE n f env sl gn 0 = 0 then (if (f sl.toNat).kind = kind then (if r = bits .and .i64 r (f sl.toNat).rights then ((f sl.toNat).obj, 0) else (0, 8)) else (0, 11)) else (0, ownE n f env sl gn 0)

theorem ownE_zero {n : Nat} {f : Nat → Sl} {env sl gn r : Int} (h : ownE n f env sl gn r = 0) : ∃ k : Nat, sl = k ∧ k < n ∧ 0 ≤ (f k).env ∧ (f k).gen = gn ∧ (f k).env = env ∧ hasB (f k).rights r = true := by
  unfold ownE at h
  by_cases h0 : 0 ≤ sl ∧ sl < n ∧ 0 ≤ (f sl.toNat).env ∧ (f sl.toNat).gen = gn
  · rw [if_pos h0] at h
    by_cases h1 : (f sl.toNat).env = env ∧ hasB (f sl.toNat).rights r = true
    · exact ⟨sl.toNat, by omega, by omega, h0.2.2.1, h0.2.2.2, h1.1, h1.2⟩
    · rw [if_neg h1] at h
      omega
  · rw [if_neg h0] at h
    omega

theorem check15 (g n cap : Nat) (f : Nat → Sl) (env sl gn kind r : Int) (w : World) (hr : Rd w g n f) (hs : I64 sl) : Calls Try.prog 15 #[.slice (some ⟨g, 0, none⟩) n cap, .int .i64 env, .agg #[.int .i64 sl, .int .i64 gn], .int .i64 kind, .int .i64 r] w (Gives (.tuple #[.int .i64 (checkR n f env sl gn kind r).1, .int .i64 (checkR n f env sl gn kind r).2]) w) := by
  obtain ⟨W, hW⟩ : ∃ W, W = w.alloc (.cells #[.int .i64 sl, .int .i64 gn] 30) := ⟨_, rfl⟩
  obtain ⟨bb, hbb⟩ : ∃ b, b = w.heap.size := ⟨_, rfl⟩
  have hs0 : Stay (fun _ => False) w W := by rw [hW]; exact (Stay.refl _ _).alloc _
  have HS := hide' hs0
  have HB : Hid (NBox W bb ⟨sl, gn⟩) := by rw [hW]; exact NBox.new ⟨sl, gn⟩ hbb.symm
  have HRD := hide' (hr.keep hs0)
  have HOW := hide' (fun w h => own32 g n cap f env sl gn 0 w h hs)
  obtain ⟨y, hy⟩ : ∃ y, y = checkR n f env sl gn kind r := ⟨_, rfl⟩
  rw [← hy]
  obtain ⟨e, he⟩ : ∃ e, e = ownE n f env sl gn 0 := ⟨_, rfl⟩
  unfold checkR at hy
  rw [← he] at hy HOW
  have HY := hide' hy
  have HE := hide' he
  clear hs0 hr hs hy he
  obtain ⟨y1, y2⟩ := y
  obtain ⟨m0, m1, _, _⟩ := HB.out
  simp only at m0 m1 ⊢
  go_enter Try.func15, Try.ntmps15
  go_upto_region 1 with fail
  rw [← hW, ← hbb]
  clear hW hbb
  go_wp2_with fail
  refine (HOW.out _ HRD.out).mono ?_
  rintro _ w2 ⟨rfl, hs⟩
  have HS2 := hide' (HS.out.trans hs)
  have HB2 := hide' (HB.out.keep hs)
  have HR2 := hide' (HRD.out.keep hs)
  clear hs HS HB HRD HOW m0 m1
  by_cases h0 : e = 0
  · subst h0
    obtain ⟨k, rfl, hk, _, _, _, _⟩ := ownE_zero HE.out.symm
    have hy := HY.out
    rw [if_pos rfl, Int.toNat_natCast] at hy
    have kn : (k : Int) < (n : Nat) := by omega
    obtain ⟨_, _, r2, r3, r4, _⟩ := HR2.out k hk
    obtain ⟨p, hp⟩ : ∃ p, p = f k := ⟨_, rfl⟩
    rw [← hp] at hy r2 r3 r4
    have HY2 := hide' hy
    obtain ⟨m0, m1, _, _⟩ := HB2.out
    simp only at m0 m1
    clear hy hp HY HE
    obtain ⟨b1, hb1⟩ : ∃ b, b = (p.kind != kind) := ⟨_, rfl⟩
    have hb1' := hb1.symm
    have HB1 := hide' hb1
    clear hb1
    cases b1
    · have hkd : p.kind = kind := by simpa using HB1.out
      have HKD := hide' hkd
      clear hkd
      obtain ⟨b3, hb3⟩ : ∃ b, b = (r != bits .and .i64 r p.rights) := ⟨_, rfl⟩
      have hb3' := hb3.symm
      have HB3 := hide' hb3
      clear hb3
      cases b3
      · have hyy : (y1, y2) = (p.obj, (0 : Int)) := by
          rw [HY2.out, if_pos HKD.out, if_pos (by simpa using HB3.out)]
        cases hyy
        clear HY2
        go_wp2
        go_returns
        exact ⟨rfl, HS2.out⟩
      · have hyy : (y1, y2) = ((0 : Int), (8 : Int)) := by
          rw [HY2.out, if_pos HKD.out, if_neg (by have := HB3.out; simpa using this)]
        cases hyy
        clear HY2
        go_wp2
        go_returns
        exact ⟨rfl, HS2.out⟩
    · have hyy : (y1, y2) = ((0 : Int), (11 : Int)) := by
        rw [HY2.out, if_neg (by have := HB1.out; simpa using this)]
      cases hyy
      clear HY2
      go_wp2
      go_returns
      exact ⟨rfl, HS2.out⟩
  · have hyy : (y1, y2) = ((0 : Int), e) := by rw [HY.out, if_neg h0]
    cases hyy
    have e0 : (e != 0) = true := by simpa using h0
    clear h0 HY
    go_wp2
    go_returns
    exact ⟨rfl, HS2.out⟩

end Go.Proofs.Ytlhfpnfiamgmlaa
