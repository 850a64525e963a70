/-
  The document makes a process: walked. No conditions.
-/
import Derived.Test.YtefpifnfinkbaaaG3
import Derived.ArgAppend
namespace Go.Proofs.Ytefpifnfinkbaaa
open Go.RowKit

variable {w : World} {x : Xr} {L : List Pr} {f : Int → Int}

set_option maxRecDepth 100000 in
set_option maxHeartbeats 4000000 in
theorem rfork28 (y nx : Int) {i : Nat} {p : Pr} (h : XAt w x L f) (hu : Up L) (hp : L[i]? = some p) (hx : p.pid = y) (hl : L.length < 256) (n0 : 0 ≤ nx) (n1 : nx ≤ 4096) : Calls Try.prog 28 #[.agg #[.slice x.a L.length x.cap, .int .i64 nx, .slice x.a2 65 x.c2], .int .i64 y] w (XG3 x (L ++ [⟨nx, y, p.grp, p.ses, p.tty, p.df⟩]) (nx + 1) f nx 0 w) := by
  obtain ⟨n, hn⟩ : ∃ n, n = L.length := ⟨_, rfl⟩
  obtain ⟨b2, hb2⟩ : ∃ b, b = w.heap.size := ⟨_, rfl⟩
  obtain ⟨Wq0, hWq0⟩ : ∃ W, W = w.alloc (.cells #[.slice x.a n x.cap, .int .i64 nx, .slice x.a2 65 x.c2] 29) := ⟨_, rfl⟩
  have hsWq0 : Stay (fun _ => False) w Wq0 := by rw [hWq0]; exact (Stay.refl _ _).alloc _
  have hpb2 : w.heap.size = b2 := by rw [hb2]
  obtain ⟨b4, hb4⟩ : ∃ b, b = w.heap.size + 1 := ⟨_, rfl⟩
  obtain ⟨W0, hW0⟩ : ∃ W, W = Wq0.alloc (.cells #[.slice none 0 0, .int .i64 0, .slice none 0 0] 29) := ⟨_, rfl⟩
  have hsW0 : Stay (fun _ => False) Wq0 W0 := by rw [hW0]; exact (Stay.refl _ _).alloc _
  have hpb4 : Wq0.heap.size = b4 := by rw [hb4]; rw [hWq0, World.size_alloc]
  have HBb2 := hide' (show XBox W0 b2 (xs x n nx) from (show XBox Wq0 b2 (xs x n nx) from (by rw [hWq0]; exact xbox_new w x n nx hpb2)).keep ((Stay.refl (fun _ => False) Wq0).trans hsW0))
  have HZb2 : Hid (w.heap.size ≤ b2) := by show _ ≤ _; omega
  have HBb4 := hide' (show XBox W0 b4 ⟨.slice none 0 0, 0, .slice none 0 0⟩ from (show XBox W0 b4 ⟨.slice none 0 0, 0, .slice none 0 0⟩ from (by rw [hW0]; exact XBox.new ⟨.slice none 0 0, 0, .slice none 0 0⟩ hpb4)).keep (Stay.refl (fun _ => False) W0))
  have HZb4 : Hid (w.heap.size ≤ b4) := by show _ ≤ _; omega
  have HS0 := hide' (((Stay.refl (fun _ => False) w).trans hsWq0).trans hsW0)
  have HW0 : Hid (W0 = ((w.alloc (.cells #[.slice x.a n x.cap, .int .i64 nx, .slice x.a2 65 x.c2] 29)).alloc (.cells #[.slice none 0 0, .int .i64 0, .slice none 0 0] 29))) := by show _ = _; rw [hW0, hWq0]
  have HXA := hide' (h.keep HS0.out)
  have HX0 := hide' h
  have HNE24 : Hid (¬ b2 = b4) := by show ¬ _; omega
  have HN := hide' hn
  have hn1 : (n : Int) ≤ 256 := by have := h.len; omega
  have hat := at14 y nx HXA.out
  rw [ixI_at hu hp hx, ← hn] at hat
  have HAT := hide' hat
  clear hat
  have hl2 : (n : Int) < 256 := by omega
  have hin : i < n := by have := (List.getElem?_eq_some_iff.1 hp).1; omega
  have hin1 : (i : Int) < (n : Nat) := by omega
  have HL := hide' hl
  have HP := hide' hp
  have hn2 : n ≤ 256 := by omega
  rw [← hn]
  clear h hn hx hu hp hl hin
  clear hWq0 hW0 hsWq0 hsW0 hpb2 hpb4
  obtain ⟨e0, e1, e2, _⟩ := HBb2.out
  simp only [xs] at e0 e1 e2
  go_enter Try.func28, Try.ntmps28
  go_upto_region 1 with fail
  rw [← HW0.out, ← hb4, ← hb2]
  clear HW0 hb2 hb4
  go_wp2_with fail
  refine HAT.out.mono ?_
  rintro _ w1 ⟨rfl, hs⟩
  have HB2 := hide' (HBb2.out.keep hs)
  have HB4 := hide' (HBb4.out.keep hs)
  have HS9 := hide' (HS0.out.trans hs)
  have HXA1 := hide' (HXA.out.keep hs)
  clear hs HAT HBb2 HBb4 HXA
  clear e0 e1 e2
  obtain ⟨e0, e1, e2, _⟩ := HB2.out
  simp only [xs] at e0 e1 e2
  obtain ⟨g, o, hxa, hpb⟩ := HXA1.out.rd i p HP.out
  obtain ⟨d0, d1, d2, d3, d4, d5⟩ := hpb
  rw [hxa] at e0
  obtain ⟨b8, hb8⟩ : ∃ b, b = w1.heap.size := ⟨_, rfl⟩
  obtain ⟨W4, hW4⟩ : ∃ W, W = w1.alloc (.cells #[.int .i64 nx, .int .i64 y, .int .i64 p.grp, .int .i64 p.ses, .int .i64 p.tty, .bool p.df] 40) := ⟨_, rfl⟩
  have hs4 : Stay (fun _ => False) w1 W4 := by rw [hW4]; exact (Stay.refl _ _).alloc _
  have HP4 : Hid (PBox W4 b8 ⟨nx, y, p.grp, p.ses, p.tty, p.df⟩) := by rw [hW4]; exact PBox.new ⟨nx, y, p.grp, p.ses, p.tty, p.df⟩ hb8.symm
  have a1 : ∀ o : Obj, (w1.alloc o).cell? ⟨b2, 1, none⟩ = some (.int .i64 nx) := fun o => (HB2.out.keep ((Stay.refl (fun _ => False) w1).alloc o)).c1
  have HX4 := hide' (HB2.out.keep hs4)
  have HZ4 := hide' (HB4.out.keep hs4)
  have HS4 := hide' (HS9.out.trans hs4)
  have HXA4 := hide' (HXA1.out.keep hs4)
  have HLT : Hid (b2 < W4.heap.size ∧ b4 < W4.heap.size ∧ b8 < W4.heap.size) := ⟨HX4.out.lt, HZ4.out.lt, HP4.out.lt⟩
  have HNB : Hid (¬ b2 = b4 ∧ ¬ b8 = b4) := by
    have h1 := HB4.out.lt
    exact ⟨HNE24.out, by omega⟩
  clear hs4 HB2 HB4 HS9 HXA1 hxa
  go_upto_region 9 with fail
  rw [← hb8, ← hW4]
  clear hb8 hW4 a1 e0 e1 e2 d0 d1 d2 d3 d4 d5
  refine any_begin (fun w' => XBox w' b2 (xs x n nx) ∧ PBox w' b8 ⟨nx, y, p.grp, p.ses, p.tty, p.df⟩) (by kernel_rfl) (fun K0 hK0 => ?_)
  obtain ⟨wd, hwd⟩ : ∃ W, W = W4.drew := ⟨_, rfl⟩
  have hsd : Stay (fun _ => False) W4 wd := by rw [hwd]; exact (Stay.refl _ _).drew
  have HXB := hide' (HX4.out.keep hsd)
  have HPB := hide' (HP4.out.keep hsd)
  have HZB := hide' (HZ4.out.keep hsd)
  have HST := hide' hsd
  have HS1 := hide' HS4.out
  have HXR : Hid (∀ W, Stay (fun _ => False) W4 W → IsRowS W 6 (.slice x.a n x.cap) n (wc L)) := fun W hs => by
    have := (HXA4.out.keep hs).row
    rwa [← HN.out] at this
  have HW4Z := hide' (Nat.le_refl W4.heap.size)
  rw [← hwd]
  clear hwd hsd HX4 HP4 HZ4 HS4 HXA4
  refine any_take (i := 1) hK0 (some 31) (.fieldAddr 29 (.tmp 2) 0) 0 _ (by kernel_rfl) (fun _ d _ _ _ h => by cases d <;> exact h) (by kernel_rfl) (by kernel_rfl) (fun w' hS' => by simp only [opr]; go_simp; try with_reducible rfl) ⟨HXB.out, HPB.out⟩ (fun K1 hK1 => ?_)
  clear hK0 K0
  try simp only [Act.put, lA, lZ, lS]
  refine any_take (i := 2) hK1 (some 32) (.load 26 (.tmp 31)) 26 _ (by kernel_rfl) (fun _ d _ _ _ h => by cases d <;> exact h) (by kernel_rfl) (by kernel_rfl) (fun w' hS' => by (obtain ⟨⟨y0, y1, y2, _⟩, _⟩ := hS'; simp only [xs] at y0 y1 y2; simp only [opr]; go_simp; try with_reducible rfl)) ⟨HXB.out, HPB.out⟩ (fun K2 hK2 => ?_)
  clear hK1 K1
  try simp only [Act.put, lA, lZ, lS]
  refine any_take (i := 4) hK2 (some 34) (.load 40 (.tmp 8)) 40 _ (by kernel_rfl) (fun _ d _ _ _ h => by cases d <;> exact h) (by kernel_rfl) (by kernel_rfl) (fun w' hS' => by exact run_load_PBox rfl rfl hS'.2) ⟨HXB.out, HPB.out⟩ (fun K3 hK3 => ?_)
  clear hK2 K2
  try simp only [Act.put, lA, lZ, lS]
  refine any_take (i := 7) hK3 (some 37) (.fieldAddr 29 (.tmp 2) 1) 0 _ (by kernel_rfl) (fun _ d _ _ _ h => by cases d <;> exact h) (by kernel_rfl) (by kernel_rfl) (fun w' hS' => by simp only [opr]; go_simp; try with_reducible rfl) ⟨HXB.out, HPB.out⟩ (fun K4 hK4 => ?_)
  clear hK3 K3
  try simp only [Act.put, lA, lZ, lS]
  refine any_take (i := 8) hK4 (some 38) (.load 3 (.tmp 37)) 3 _ (by kernel_rfl) (fun _ d _ _ _ h => by cases d <;> exact h) (by kernel_rfl) (by kernel_rfl) (fun w' hS' => by (obtain ⟨⟨y0, y1, y2, _⟩, _⟩ := hS'; simp only [xs] at y0 y1 y2; simp only [opr]; go_simp; try with_reducible rfl)) ⟨HXB.out, HPB.out⟩ (fun K5 hK5 => ?_)
  clear hK4 K4
  try simp only [Act.put, lA, lZ, lS]
  refine any_take (i := 9) hK5 (some 39) (.binOp BinOp.add 3 (.tmp 38) (.const (Value.int IntKind.i64 1)) 3) 3 _ (by kernel_rfl) (fun _ d _ _ _ h => by cases d <;> exact h) (by kernel_rfl) (by kernel_rfl) (fun w' hS' => by simp only [opr]; go_simp; try with_reducible rfl) ⟨HXB.out, HPB.out⟩ (fun K6 hK6 => ?_)
  clear hK5 K5
  try simp only [Act.put, lA, lZ, lS]
  refine any_take (i := 10) hK6 (some 40) (.fieldAddr 29 (.tmp 2) 2) 0 _ (by kernel_rfl) (fun _ d _ _ _ h => by cases d <;> exact h) (by kernel_rfl) (by kernel_rfl) (fun w' hS' => by simp only [opr]; go_simp; try with_reducible rfl) ⟨HXB.out, HPB.out⟩ (fun K7 hK7 => ?_)
  clear hK6 K6
  try simp only [Act.put, lA, lZ, lS]
  refine any_take (i := 11) hK7 (some 41) (.load 27 (.tmp 40)) 27 _ (by kernel_rfl) (fun _ d _ _ _ h => by cases d <;> exact h) (by kernel_rfl) (by kernel_rfl) (fun w' hS' => by (obtain ⟨⟨y0, y1, y2, _⟩, _⟩ := hS'; simp only [xs] at y0 y1 y2; simp only [opr]; go_simp; try with_reducible rfl)) ⟨HXB.out, HPB.out⟩ (fun K8 hK8 => ?_)
  clear hK7 K7
  try simp only [Act.put, lA, lZ, lS]
  refine any_take (i := 13) hK8 (some 43) (.fieldAddr 40 (.tmp 8) 0) 0 _ (by kernel_rfl) (fun _ d _ _ _ h => by cases d <;> exact h) (by kernel_rfl) (by kernel_rfl) (fun w' hS' => by simp only [opr]; go_simp; try with_reducible rfl) ⟨HXB.out, HPB.out⟩ (fun K9 hK9 => ?_)
  clear hK8 K8
  try simp only [Act.put, lA, lZ, lS]
  refine any_take (i := 14) hK9 (some 44) (.load 3 (.tmp 43)) 3 _ (by kernel_rfl) (fun _ d _ _ _ h => by cases d <;> exact h) (by kernel_rfl) (by kernel_rfl) (fun w' hS' => by (obtain ⟨_, y0, _⟩ := hS'; simp only [opr]; go_simp; try with_reducible rfl)) ⟨HXB.out, HPB.out⟩ (fun K10 hK10 => ?_)
  clear hK9 K9
  try simp only [Act.put, lA, lZ, lS]
  refine any_pick (rs := [0, 5]) hK10 (by kernel_rfl) (fun K11 hK11 => ?_)
  clear hK10 K10
  intro i hi
  simp only [List.mem_cons, List.not_mem_nil, or_false] at hi
  rcases hi with rfl | rfl
  · refine op_plain (some 30) (.buildSlice 26 0 #[]) 26 (by kernel_rfl) (by kernel_rfl) ?_
    go_wp2
    obtain ⟨wa1, hW⟩ : ∃ W, W = wd.alloc (.cells #[] 40) := ⟨_, rfl⟩
    have hst : Stay (fun _ => False) wd wa1 := by rw [hW]; exact (Stay.refl _ _).alloc _
    have ho := owns_newS wd #[] 40 6 0 rfl (by decide)
    rw [← hW] at ho
    have HO := hide' (ownsRow_base ho HST.out.size)
    have HOB : Hid (∀ j, (Value.slice (some ⟨wd.heap.size, 0, none⟩) 0 0).ownBlock = some j → W4.heap.size ≤ j ∧ wd.heap.size ≤ j ∧ j < wa1.heap.size) := fun j hj => by cases hj; refine ⟨HST.out.size, Nat.le_refl _, ?_⟩; rw [hW, World.size_alloc]; exact Nat.lt_succ_self _
    have HXB' := hide' (HXB.out.keep hst)
    have HPB' := hide' (HPB.out.keep hst)
    have HZB' := hide' (HZB.out.keep hst)
    have HST' := hide' (HST.out.trans hst)
    clear HXB
    have HXB := HXB'
    clear HXB'
    clear HPB
    have HPB := HPB'
    clear HPB'
    clear HZB
    have HZB := HZB'
    clear HZB'
    clear HST
    have HST := HST'
    clear HST'
    rw [← hW]
    clear ho hst hW
    refine hK11 0 (by simp) _ _ ⟨HXB.out, HPB.out⟩ (any_more fun K12 hK12 => ?_)
    clear hK11 K11
    refine any_pick (rs := [3, 5]) hK12 (by kernel_rfl) (fun K13 hK13 => ?_)
    clear hK12 K12
    intro i hi
    simp only [List.mem_cons, List.not_mem_nil, or_false] at hi
    rcases hi with rfl | rfl
    · refine op_plain (some 33) (.call { callee := Callee.builtin Builtin.append, args := #[.tmp 30, .tmp 32], argTypes := #[26, 26] }) 26 (by kernel_rfl) (by kernel_rfl) ?_
      refine appS rfl _ _ 26 rfl Try.underlying26 info40 rfl (by decide) (by decide) HO.out rfl (HXR.out _ HST.out) rfl (wc_one _) (by omega) HST.out.size ?_
      intro vo3 wc2 ho hst hb
      refine wpList_nil ?_
      have hw : wc2.ownsRow W4.heap.size 40 6 vo3 n (wc L) := by
        have h2 := ho
        rw [Nat.zero_add] at h2
        exact h2
      obtain ⟨a4, c5, hv, hws, hbs⟩ := Ws.of_owns hw
      subst hv
      have hsl := hst.size
      have hol : ∀ j, (Value.slice a4 n c5).ownBlock = some j → j < wc2.heap.size := fun j hj => hws.lt j (by cases a4 <;> exact hj)
      have HO' := hide' hw
      have HOB' : Hid (∀ j, (Value.slice a4 n c5).ownBlock = some j → W4.heap.size ≤ j ∧ W4.heap.size ≤ j ∧ j < wc2.heap.size) := fun j hj => by
        have h1 := hbs j (by cases a4 <;> exact hj)
        exact ⟨h1, h1, hol j hj⟩
      have HXB' := hide' (HXB.out.stay hst (fun e => by have := HOB.out _ e; have := HLT.out; omega))
      have HPB' := hide' (HPB.out.stay hst (fun e => by have := HOB.out _ e; have := HLT.out; omega))
      have HZB' := hide' (HZB.out.stay hst (fun e => by have := HOB.out _ e; have := HLT.out; omega))
      have HST' := hide' (HST.out.trans2 hst (fun j hj e => by have := HOB.out _ e; omega))
      clear HXB
      have HXB := HXB'
      clear HXB'
      clear HPB
      have HPB := HPB'
      clear HPB'
      clear HZB
      have HZB := HZB'
      clear HZB'
      clear HST
      have HST := HST'
      clear HST'
      clear HO
      have HO := HO'
      clear HO'
      clear HOB
      have HOB := HOB'
      clear HOB'
      clear ho hst hb hw hws hbs hsl hol
      refine hK13 3 (by simp) _ _ ⟨HXB.out, HPB.out⟩ (any_more fun K14 hK14 => ?_)
      clear hK13 K13
      refine any_pick (rs := [5]) hK14 (by kernel_rfl) (fun K15 hK15 => ?_)
      clear hK14 K14
      intro i hi
      simp only [List.mem_cons, List.not_mem_nil, or_false] at hi
      rcases hi with rfl
      refine op_plain (some 35) (.buildSlice 26 1 #[(0, .tmp 34)]) 26 (by kernel_rfl) (by kernel_rfl) ?_
      go_wp2
      obtain ⟨wb6, hW⟩ : ∃ W, W = wc2.alloc (.cells #[.int .i64 nx, .int .i64 y, .int .i64 p.grp, .int .i64 p.ses, .int .i64 p.tty, .bool p.df] 40) := ⟨_, rfl⟩
      obtain ⟨g5, hg5⟩ : ∃ g, g = wc2.heap.size := ⟨_, rfl⟩
      have hst : Stay (fun _ => False) wc2 wb6 := by rw [hW]; exact (Stay.refl _ _).alloc _
      have HSC : Hid (IsRowS wb6 6 (.slice (some ⟨g5, 0, none⟩) 1 1) 1 (Pr.parts ⟨nx, y, p.grp, p.ses, p.tty, p.df⟩)) := by rw [hW, hg5]; exact isRowS_new wc2 #[.int .i64 nx, .int .i64 y, .int .i64 p.grp, .int .i64 p.ses, .int .i64 p.tty, .bool p.df] 40 6 1 rfl
      have HGL : Hid (g5 < wb6.heap.size) := by rw [hW, hg5, World.size_alloc]; exact Nat.lt_succ_self _
      have HNE : Hid (∀ j, (Value.slice a4 n c5).ownBlock = some j → ¬ j = g5) := fun j hj => by have := HOB.out j hj; omega
      have HO' := hide' (hst.owns HO.out (fun _ _ h => h))
      have HOB' : Hid (∀ j, (Value.slice a4 n c5).ownBlock = some j → W4.heap.size ≤ j ∧ W4.heap.size ≤ j ∧ j < wb6.heap.size) := fun j hj => by have := HOB.out j hj; have := hst.size; omega
      clear HO
      have HO := HO'
      clear HO'
      clear HOB
      have HOB := HOB'
      clear HOB'
      have HXB' := hide' (HXB.out.keep hst)
      have HPB' := hide' (HPB.out.keep hst)
      have HZB' := hide' (HZB.out.keep hst)
      have HST' := hide' (HST.out.trans hst)
      clear HXB
      have HXB := HXB'
      clear HXB'
      clear HPB
      have HPB := HPB'
      clear HPB'
      clear HZB
      have HZB := HZB'
      clear HZB'
      clear HST
      have HST := HST'
      clear HST'
      rw [← hW, ← hg5]
      clear hst hW hg5
      refine hK15 5 (by simp) _ _ ⟨HXB.out, HPB.out⟩ (any_more fun K16 hK16 => ?_)
      clear hK15 K15
      refine any_pick (rs := [6]) hK16 (by kernel_rfl) (fun K17 hK17 => ?_)
      clear hK16 K16
      intro i hi
      simp only [List.mem_cons, List.not_mem_nil, or_false] at hi
      rcases hi with rfl
      refine op_plain (some 36) (.call { callee := Callee.builtin Builtin.append, args := #[.tmp 33, .tmp 35], argTypes := #[26, 26] }) 26 (by kernel_rfl) (by kernel_rfl) ?_
      refine appS rfl _ _ 26 rfl Try.underlying26 info40 rfl (by decide) (by decide) HO.out rfl HSC.out rfl (Pr.parts_one _) (by omega) HST.out.size ?_
      intro vo8 wc7 ho hst hb
      refine wpList_nil ?_
      have hw : wc7.ownsRow W4.heap.size 40 6 vo8 (n + 1) (wc (L ++ [⟨nx, y, p.grp, p.ses, p.tty, p.df⟩])) := by
        rw [wc_append, wc_cons, wc_nil, List.append_nil]
        exact ho
      obtain ⟨a9, c10, hv, hws, hbs⟩ := Ws.of_owns hw
      subst hv
      have hsl := hst.size
      have hol : ∀ j, (Value.slice a9 (n + 1) c10).ownBlock = some j → j < wc7.heap.size := fun j hj => hws.lt j (by cases a9 <;> exact hj)
      have HWS := hide' hws
      have HOB2 : Hid (∀ j, a9.map Addr.block = some j → W4.heap.size ≤ j) := hbs
      have HXB' := hide' (HXB.out.stay hst (fun e => by have := HOB.out _ e; have := HLT.out; omega))
      have HPB' := hide' (HPB.out.stay hst (fun e => by have := HOB.out _ e; have := HLT.out; omega))
      have HZB' := hide' (HZB.out.stay hst (fun e => by have := HOB.out _ e; have := HLT.out; omega))
      have HST' := hide' (HST.out.trans2 hst (fun j hj e => by have := HOB.out _ e; omega))
      clear HXB
      have HXB := HXB'
      clear HXB'
      clear HPB
      have HPB := HPB'
      clear HPB'
      clear HZB
      have HZB := HZB'
      clear HZB'
      clear HST
      have HST := HST'
      clear HST'
      clear ho hst hb hw hws hbs hsl hol HSC HNE HGL HO HOB
      refine hK17 6 (by simp) _ _ ⟨HXB.out, HPB.out⟩ (any_more fun K18 hK18 => ?_)
      clear hK17 K17
      refine any_take (i := 12) hK18 (some 42) (.build 29 #[(0, .tmp 36), (1, .tmp 39), (2, .tmp 41)]) 29 _ (by kernel_rfl) (fun _ d _ _ _ h => by cases d <;> exact h) (by kernel_rfl) (by kernel_rfl) (fun w' hS' => by simp only [opr]; go_simp; try with_reducible rfl) ⟨HXB.out, HPB.out⟩ (fun K19 hK19 => ?_)
      clear hK18 K18
      try simp only [Act.put, lA, lZ, lS]
      refine any_pick (rs := [15]) hK19 (by kernel_rfl) (fun K20 hK20 => ?_)
      clear hK19 K19
      intro i hi
      simp only [List.mem_cons, List.not_mem_nil, or_false] at hi
      rcases hi with rfl
      refine op_plain none (.store 29 (.tmp 4) (.tmp 42)) 0 (by kernel_rfl) (by kernel_rfl) ?_
      obtain ⟨k0, k1, k2, r0, r1, r2⟩ := HZB.out
      go_wp2
      clear k0 k1 k2 r0 r1 r2
      have hps := XBox.put_stay wc7 b4 (.slice a9 (n + 1) c10) (.int .i64 (nx + 1)) (.slice x.a2 65 x.c2)
      have HXB' := hide' (HXB.out.stay hps HNB.out.1)
      have HPB' := hide' (HPB.out.stay hps HNB.out.2)
      have HZP := hide' (HZB.out.put (xs ⟨a9, c10, x.a2, x.c2⟩ (n + 1) (nx + 1)))
      have HWS' := hide' (HWS.out.stay hps (fun j hj e => by have := HOB2.out j hj; have := HLT.out; omega))
      have HSTW := hide' (XBox.stay_put (HS1.out.trans HST.out) HZb4.out (.slice a9 (n + 1) c10) (.int .i64 (nx + 1)) (.slice x.a2 65 x.c2))
      clear HXB
      have HXB := HXB'
      clear HXB'
      clear HPB
      have HPB := HPB'
      clear HPB'
      clear HWS
      have HWS := HWS'
      clear HWS'
      clear hps HST HZB
      refine hK20 15 (by simp) _ _ ⟨HXB.out, HPB.out⟩ (any_more fun K21 hK21 => ?_)
      clear hK20 K20
      refine any_take (i := 16) hK21 (some 5) (.assign (.tmp 44)) 3 _ (by kernel_rfl) (fun _ d _ _ _ h => by cases d <;> exact h) (by kernel_rfl) (by kernel_rfl) (fun w' hS' => by simp only [opr]; go_simp; try with_reducible rfl) ⟨HXB.out, HPB.out⟩ (fun K22 hK22 => ?_)
      clear hK21 K21
      try simp only [Act.put, lA, lZ, lS]
      refine any_take (i := 17) hK22 (some 6) (.assign (.const (Value.int IntKind.i64 0))) 3 _ (by kernel_rfl) (fun _ d _ _ _ h => by cases d <;> exact h) (by kernel_rfl) (by kernel_rfl) (fun w' hS' => by simp only [opr]; go_simp; try with_reducible rfl) ⟨HXB.out, HPB.out⟩ (fun K23 hK23 => ?_)
      clear hK22 K22
      try simp only [Act.put, lA, lZ, lS]
      refine any_done hK23 (by kernel_rfl) ?_
      clear hK23 K23
      go_wp2
      have h5 := HX0.out.procs HSTW.out HWS.out HWS.out.nocap (fun j hj => by have h1 := HOB2.out j hj; have h2 := (HS1.out).size; have h3 := HW4Z.out; omega) (by rw [List.length_append]; have := HN.out; have := HL.out; simp; omega)
      have el : n + 1 = (L ++ [(⟨nx, y, p.grp, p.ses, p.tty, p.df⟩ : Pr)]).length := by rw [List.length_append, ← HN.out]; rfl
      have hzp := HZP.out
      have h3 := HSTW.out
      rw [el] at h5 hzp h3 ⊢
      exact bodyPost_ret (results_x2 rfl _ _ b4 ⟨a9, c10, x.a2, x.c2⟩ _ (nx + 1) _ _ rfl rfl rfl hzp) rfl ⟨_, rfl, h5.1, h3, h5.2⟩
    · refine op_plain (some 35) (.buildSlice 26 1 #[(0, .tmp 34)]) 26 (by kernel_rfl) (by kernel_rfl) ?_
      go_wp2
      obtain ⟨wb11, hW⟩ : ∃ W, W = wa1.alloc (.cells #[.int .i64 nx, .int .i64 y, .int .i64 p.grp, .int .i64 p.ses, .int .i64 p.tty, .bool p.df] 40) := ⟨_, rfl⟩
      obtain ⟨g5, hg5⟩ : ∃ g, g = wa1.heap.size := ⟨_, rfl⟩
      have hst : Stay (fun _ => False) wa1 wb11 := by rw [hW]; exact (Stay.refl _ _).alloc _
      have HSC : Hid (IsRowS wb11 6 (.slice (some ⟨g5, 0, none⟩) 1 1) 1 (Pr.parts ⟨nx, y, p.grp, p.ses, p.tty, p.df⟩)) := by rw [hW, hg5]; exact isRowS_new wa1 #[.int .i64 nx, .int .i64 y, .int .i64 p.grp, .int .i64 p.ses, .int .i64 p.tty, .bool p.df] 40 6 1 rfl
      have HGL : Hid (g5 < wb11.heap.size) := by rw [hW, hg5, World.size_alloc]; exact Nat.lt_succ_self _
      have HNE : Hid (∀ j, (Value.slice (some ⟨wd.heap.size, 0, none⟩) 0 0).ownBlock = some j → ¬ j = g5) := fun j hj => by have := HOB.out j hj; omega
      have HO' := hide' (hst.owns HO.out (fun _ _ h => h))
      have HOB' : Hid (∀ j, (Value.slice (some ⟨wd.heap.size, 0, none⟩) 0 0).ownBlock = some j → W4.heap.size ≤ j ∧ W4.heap.size ≤ j ∧ j < wb11.heap.size) := fun j hj => by have := HOB.out j hj; have := hst.size; omega
      clear HO
      have HO := HO'
      clear HO'
      clear HOB
      have HOB := HOB'
      clear HOB'
      have HXB' := hide' (HXB.out.keep hst)
      have HPB' := hide' (HPB.out.keep hst)
      have HZB' := hide' (HZB.out.keep hst)
      have HST' := hide' (HST.out.trans hst)
      clear HXB
      have HXB := HXB'
      clear HXB'
      clear HPB
      have HPB := HPB'
      clear HPB'
      clear HZB
      have HZB := HZB'
      clear HZB'
      clear HST
      have HST := HST'
      clear HST'
      rw [← hW, ← hg5]
      clear hst hW hg5
      refine hK13 5 (by simp) _ _ ⟨HXB.out, HPB.out⟩ (any_more fun K14 hK14 => ?_)
      clear hK13 K13
      refine any_pick (rs := [3]) hK14 (by kernel_rfl) (fun K15 hK15 => ?_)
      clear hK14 K14
      intro i hi
      simp only [List.mem_cons, List.not_mem_nil, or_false] at hi
      rcases hi with rfl
      refine op_plain (some 33) (.call { callee := Callee.builtin Builtin.append, args := #[.tmp 30, .tmp 32], argTypes := #[26, 26] }) 26 (by kernel_rfl) (by kernel_rfl) ?_
      refine appS rfl _ _ 26 rfl Try.underlying26 info40 rfl (by decide) (by decide) HO.out rfl (HXR.out _ HST.out) rfl (wc_one _) (by omega) HST.out.size ?_
      intro vo13 wc12 ho hst hb
      refine wpList_nil ?_
      have hw : wc12.ownsRow W4.heap.size 40 6 vo13 n (wc L) := by
        have h2 := ho
        rw [Nat.zero_add] at h2
        exact h2
      obtain ⟨a14, c15, hv, hws, hbs⟩ := Ws.of_owns hw
      subst hv
      have hsl := hst.size
      have hol : ∀ j, (Value.slice a14 n c15).ownBlock = some j → j < wc12.heap.size := fun j hj => hws.lt j (by cases a14 <;> exact hj)
      have HSC' := hide' (HSC.out.stay hst (fun j hj e => by cases hj; exact HNE.out _ e rfl))
      have HGL' : Hid (g5 < wc12.heap.size) := Nat.lt_of_lt_of_le HGL.out hsl
      have HNE' : Hid (∀ j, (Value.slice a14 n c15).ownBlock = some j → ¬ j = g5) := fun j hj => by
        rcases hb with e | e
        · rw [e] at hj; exact HNE.out j hj
        · rw [e] at hj; cases hj; have := HGL.out; show ¬ _; omega
      clear HSC
      have HSC := HSC'
      clear HSC'
      clear HGL
      have HGL := HGL'
      clear HGL'
      clear HNE
      have HNE := HNE'
      clear HNE'
      have HO' := hide' hw
      have HOB' : Hid (∀ j, (Value.slice a14 n c15).ownBlock = some j → W4.heap.size ≤ j ∧ W4.heap.size ≤ j ∧ j < wc12.heap.size) := fun j hj => by
        have h1 := hbs j (by cases a14 <;> exact hj)
        exact ⟨h1, h1, hol j hj⟩
      have HXB' := hide' (HXB.out.stay hst (fun e => by have := HOB.out _ e; have := HLT.out; omega))
      have HPB' := hide' (HPB.out.stay hst (fun e => by have := HOB.out _ e; have := HLT.out; omega))
      have HZB' := hide' (HZB.out.stay hst (fun e => by have := HOB.out _ e; have := HLT.out; omega))
      have HST' := hide' (HST.out.trans2 hst (fun j hj e => by have := HOB.out _ e; omega))
      clear HXB
      have HXB := HXB'
      clear HXB'
      clear HPB
      have HPB := HPB'
      clear HPB'
      clear HZB
      have HZB := HZB'
      clear HZB'
      clear HST
      have HST := HST'
      clear HST'
      clear HO
      have HO := HO'
      clear HO'
      clear HOB
      have HOB := HOB'
      clear HOB'
      clear ho hst hb hw hws hbs hsl hol
      refine hK15 3 (by simp) _ _ ⟨HXB.out, HPB.out⟩ (any_more fun K16 hK16 => ?_)
      clear hK15 K15
      refine any_pick (rs := [6]) hK16 (by kernel_rfl) (fun K17 hK17 => ?_)
      clear hK16 K16
      intro i hi
      simp only [List.mem_cons, List.not_mem_nil, or_false] at hi
      rcases hi with rfl
      refine op_plain (some 36) (.call { callee := Callee.builtin Builtin.append, args := #[.tmp 33, .tmp 35], argTypes := #[26, 26] }) 26 (by kernel_rfl) (by kernel_rfl) ?_
      refine appS rfl _ _ 26 rfl Try.underlying26 info40 rfl (by decide) (by decide) HO.out rfl HSC.out rfl (Pr.parts_one _) (by omega) HST.out.size ?_
      intro vo17 wc16 ho hst hb
      refine wpList_nil ?_
      have hw : wc16.ownsRow W4.heap.size 40 6 vo17 (n + 1) (wc (L ++ [⟨nx, y, p.grp, p.ses, p.tty, p.df⟩])) := by
        rw [wc_append, wc_cons, wc_nil, List.append_nil]
        exact ho
      obtain ⟨a18, c19, hv, hws, hbs⟩ := Ws.of_owns hw
      subst hv
      have hsl := hst.size
      have hol : ∀ j, (Value.slice a18 (n + 1) c19).ownBlock = some j → j < wc16.heap.size := fun j hj => hws.lt j (by cases a18 <;> exact hj)
      have HWS := hide' hws
      have HOB2 : Hid (∀ j, a18.map Addr.block = some j → W4.heap.size ≤ j) := hbs
      have HXB' := hide' (HXB.out.stay hst (fun e => by have := HOB.out _ e; have := HLT.out; omega))
      have HPB' := hide' (HPB.out.stay hst (fun e => by have := HOB.out _ e; have := HLT.out; omega))
      have HZB' := hide' (HZB.out.stay hst (fun e => by have := HOB.out _ e; have := HLT.out; omega))
      have HST' := hide' (HST.out.trans2 hst (fun j hj e => by have := HOB.out _ e; omega))
      clear HXB
      have HXB := HXB'
      clear HXB'
      clear HPB
      have HPB := HPB'
      clear HPB'
      clear HZB
      have HZB := HZB'
      clear HZB'
      clear HST
      have HST := HST'
      clear HST'
      clear ho hst hb hw hws hbs hsl hol HSC HNE HGL HO HOB
      refine hK17 6 (by simp) _ _ ⟨HXB.out, HPB.out⟩ (any_more fun K18 hK18 => ?_)
      clear hK17 K17
      refine any_take (i := 12) hK18 (some 42) (.build 29 #[(0, .tmp 36), (1, .tmp 39), (2, .tmp 41)]) 29 _ (by kernel_rfl) (fun _ d _ _ _ h => by cases d <;> exact h) (by kernel_rfl) (by kernel_rfl) (fun w' hS' => by simp only [opr]; go_simp; try with_reducible rfl) ⟨HXB.out, HPB.out⟩ (fun K19 hK19 => ?_)
      clear hK18 K18
      try simp only [Act.put, lA, lZ, lS]
      refine any_pick (rs := [15]) hK19 (by kernel_rfl) (fun K20 hK20 => ?_)
      clear hK19 K19
      intro i hi
      simp only [List.mem_cons, List.not_mem_nil, or_false] at hi
      rcases hi with rfl
      refine op_plain none (.store 29 (.tmp 4) (.tmp 42)) 0 (by kernel_rfl) (by kernel_rfl) ?_
      obtain ⟨k0, k1, k2, r0, r1, r2⟩ := HZB.out
      go_wp2
      clear k0 k1 k2 r0 r1 r2
      have hps := XBox.put_stay wc16 b4 (.slice a18 (n + 1) c19) (.int .i64 (nx + 1)) (.slice x.a2 65 x.c2)
      have HXB' := hide' (HXB.out.stay hps HNB.out.1)
      have HPB' := hide' (HPB.out.stay hps HNB.out.2)
      have HZP := hide' (HZB.out.put (xs ⟨a18, c19, x.a2, x.c2⟩ (n + 1) (nx + 1)))
      have HWS' := hide' (HWS.out.stay hps (fun j hj e => by have := HOB2.out j hj; have := HLT.out; omega))
      have HSTW := hide' (XBox.stay_put (HS1.out.trans HST.out) HZb4.out (.slice a18 (n + 1) c19) (.int .i64 (nx + 1)) (.slice x.a2 65 x.c2))
      clear HXB
      have HXB := HXB'
      clear HXB'
      clear HPB
      have HPB := HPB'
      clear HPB'
      clear HWS
      have HWS := HWS'
      clear HWS'
      clear hps HST HZB
      refine hK20 15 (by simp) _ _ ⟨HXB.out, HPB.out⟩ (any_more fun K21 hK21 => ?_)
      clear hK20 K20
      refine any_take (i := 16) hK21 (some 5) (.assign (.tmp 44)) 3 _ (by kernel_rfl) (fun _ d _ _ _ h => by cases d <;> exact h) (by kernel_rfl) (by kernel_rfl) (fun w' hS' => by simp only [opr]; go_simp; try with_reducible rfl) ⟨HXB.out, HPB.out⟩ (fun K22 hK22 => ?_)
      clear hK21 K21
      try simp only [Act.put, lA, lZ, lS]
      refine any_take (i := 17) hK22 (some 6) (.assign (.const (Value.int IntKind.i64 0))) 3 _ (by kernel_rfl) (fun _ d _ _ _ h => by cases d <;> exact h) (by kernel_rfl) (by kernel_rfl) (fun w' hS' => by simp only [opr]; go_simp; try with_reducible rfl) ⟨HXB.out, HPB.out⟩ (fun K23 hK23 => ?_)
      clear hK22 K22
      try simp only [Act.put, lA, lZ, lS]
      refine any_done hK23 (by kernel_rfl) ?_
      clear hK23 K23
      go_wp2
      have h5 := HX0.out.procs HSTW.out HWS.out HWS.out.nocap (fun j hj => by have h1 := HOB2.out j hj; have h2 := (HS1.out).size; have h3 := HW4Z.out; omega) (by rw [List.length_append]; have := HN.out; have := HL.out; simp; omega)
      have el : n + 1 = (L ++ [(⟨nx, y, p.grp, p.ses, p.tty, p.df⟩ : Pr)]).length := by rw [List.length_append, ← HN.out]; rfl
      have hzp := HZP.out
      have h3 := HSTW.out
      rw [el] at h5 hzp h3 ⊢
      exact bodyPost_ret (results_x2 rfl _ _ b4 ⟨a18, c19, x.a2, x.c2⟩ _ (nx + 1) _ _ rfl rfl rfl hzp) rfl ⟨_, rfl, h5.1, h3, h5.2⟩
  · refine op_plain (some 35) (.buildSlice 26 1 #[(0, .tmp 34)]) 26 (by kernel_rfl) (by kernel_rfl) ?_
    go_wp2
    obtain ⟨wb20, hW⟩ : ∃ W, W = wd.alloc (.cells #[.int .i64 nx, .int .i64 y, .int .i64 p.grp, .int .i64 p.ses, .int .i64 p.tty, .bool p.df] 40) := ⟨_, rfl⟩
    obtain ⟨g5, hg5⟩ : ∃ g, g = wd.heap.size := ⟨_, rfl⟩
    have hst : Stay (fun _ => False) wd wb20 := by rw [hW]; exact (Stay.refl _ _).alloc _
    have HSC : Hid (IsRowS wb20 6 (.slice (some ⟨g5, 0, none⟩) 1 1) 1 (Pr.parts ⟨nx, y, p.grp, p.ses, p.tty, p.df⟩)) := by rw [hW, hg5]; exact isRowS_new wd #[.int .i64 nx, .int .i64 y, .int .i64 p.grp, .int .i64 p.ses, .int .i64 p.tty, .bool p.df] 40 6 1 rfl
    have HGL : Hid (g5 < wb20.heap.size) := by rw [hW, hg5, World.size_alloc]; exact Nat.lt_succ_self _
    have HXB' := hide' (HXB.out.keep hst)
    have HPB' := hide' (HPB.out.keep hst)
    have HZB' := hide' (HZB.out.keep hst)
    have HST' := hide' (HST.out.trans hst)
    clear HXB
    have HXB := HXB'
    clear HXB'
    clear HPB
    have HPB := HPB'
    clear HPB'
    clear HZB
    have HZB := HZB'
    clear HZB'
    clear HST
    have HST := HST'
    clear HST'
    rw [← hW, ← hg5]
    clear hst hW hg5
    refine hK11 5 (by simp) _ _ ⟨HXB.out, HPB.out⟩ (any_more fun K12 hK12 => ?_)
    clear hK11 K11
    refine any_pick (rs := [0]) hK12 (by kernel_rfl) (fun K13 hK13 => ?_)
    clear hK12 K12
    intro i hi
    simp only [List.mem_cons, List.not_mem_nil, or_false] at hi
    rcases hi with rfl
    refine op_plain (some 30) (.buildSlice 26 0 #[]) 26 (by kernel_rfl) (by kernel_rfl) ?_
    go_wp2
    obtain ⟨wa21, hW⟩ : ∃ W, W = wb20.alloc (.cells #[] 40) := ⟨_, rfl⟩
    have hst : Stay (fun _ => False) wb20 wa21 := by rw [hW]; exact (Stay.refl _ _).alloc _
    have ho := owns_newS wb20 #[] 40 6 0 rfl (by decide)
    rw [← hW] at ho
    have HO := hide' (ownsRow_base ho HST.out.size)
    have HOB : Hid (∀ j, (Value.slice (some ⟨wb20.heap.size, 0, none⟩) 0 0).ownBlock = some j → W4.heap.size ≤ j ∧ wb20.heap.size ≤ j ∧ j < wa21.heap.size) := fun j hj => by cases hj; refine ⟨HST.out.size, Nat.le_refl _, ?_⟩; rw [hW, World.size_alloc]; exact Nat.lt_succ_self _
    have HSC' := hide' (HSC.out.stay hst (fun _ _ h => h))
    clear HSC
    have HSC := HSC'
    clear HSC'
    have HNE : Hid (∀ j, (Value.slice (some ⟨wb20.heap.size, 0, none⟩) 0 0).ownBlock = some j → ¬ j = g5) := fun j hj => by have e : wb20.heap.size = j := Option.some.inj hj; have := HGL.out; omega
    have HGL' : Hid (g5 < wa21.heap.size) := Nat.lt_of_lt_of_le HGL.out hst.size
    clear HGL
    have HGL := HGL'
    clear HGL'
    have HXB' := hide' (HXB.out.keep hst)
    have HPB' := hide' (HPB.out.keep hst)
    have HZB' := hide' (HZB.out.keep hst)
    have HST' := hide' (HST.out.trans hst)
    clear HXB
    have HXB := HXB'
    clear HXB'
    clear HPB
    have HPB := HPB'
    clear HPB'
    clear HZB
    have HZB := HZB'
    clear HZB'
    clear HST
    have HST := HST'
    clear HST'
    rw [← hW]
    clear ho hst hW
    refine hK13 0 (by simp) _ _ ⟨HXB.out, HPB.out⟩ (any_more fun K14 hK14 => ?_)
    clear hK13 K13
    refine any_pick (rs := [3]) hK14 (by kernel_rfl) (fun K15 hK15 => ?_)
    clear hK14 K14
    intro i hi
    simp only [List.mem_cons, List.not_mem_nil, or_false] at hi
    rcases hi with rfl
    refine op_plain (some 33) (.call { callee := Callee.builtin Builtin.append, args := #[.tmp 30, .tmp 32], argTypes := #[26, 26] }) 26 (by kernel_rfl) (by kernel_rfl) ?_
    refine appS rfl _ _ 26 rfl Try.underlying26 info40 rfl (by decide) (by decide) HO.out rfl (HXR.out _ HST.out) rfl (wc_one _) (by omega) HST.out.size ?_
    intro vo23 wc22 ho hst hb
    refine wpList_nil ?_
    have hw : wc22.ownsRow W4.heap.size 40 6 vo23 n (wc L) := by
      have h2 := ho
      rw [Nat.zero_add] at h2
      exact h2
    obtain ⟨a24, c25, hv, hws, hbs⟩ := Ws.of_owns hw
    subst hv
    have hsl := hst.size
    have hol : ∀ j, (Value.slice a24 n c25).ownBlock = some j → j < wc22.heap.size := fun j hj => hws.lt j (by cases a24 <;> exact hj)
    have HSC' := hide' (HSC.out.stay hst (fun j hj e => by cases hj; exact HNE.out _ e rfl))
    have HGL' : Hid (g5 < wc22.heap.size) := Nat.lt_of_lt_of_le HGL.out hsl
    have HNE' : Hid (∀ j, (Value.slice a24 n c25).ownBlock = some j → ¬ j = g5) := fun j hj => by
      rcases hb with e | e
      · rw [e] at hj; exact HNE.out j hj
      · rw [e] at hj; cases hj; have := HGL.out; show ¬ _; omega
    clear HSC
    have HSC := HSC'
    clear HSC'
    clear HGL
    have HGL := HGL'
    clear HGL'
    clear HNE
    have HNE := HNE'
    clear HNE'
    have HO' := hide' hw
    have HOB' : Hid (∀ j, (Value.slice a24 n c25).ownBlock = some j → W4.heap.size ≤ j ∧ W4.heap.size ≤ j ∧ j < wc22.heap.size) := fun j hj => by
      have h1 := hbs j (by cases a24 <;> exact hj)
      exact ⟨h1, h1, hol j hj⟩
    have HXB' := hide' (HXB.out.stay hst (fun e => by have := HOB.out _ e; have := HLT.out; omega))
    have HPB' := hide' (HPB.out.stay hst (fun e => by have := HOB.out _ e; have := HLT.out; omega))
    have HZB' := hide' (HZB.out.stay hst (fun e => by have := HOB.out _ e; have := HLT.out; omega))
    have HST' := hide' (HST.out.trans2 hst (fun j hj e => by have := HOB.out _ e; omega))
    clear HXB
    have HXB := HXB'
    clear HXB'
    clear HPB
    have HPB := HPB'
    clear HPB'
    clear HZB
    have HZB := HZB'
    clear HZB'
    clear HST
    have HST := HST'
    clear HST'
    clear HO
    have HO := HO'
    clear HO'
    clear HOB
    have HOB := HOB'
    clear HOB'
    clear ho hst hb hw hws hbs hsl hol
    refine hK15 3 (by simp) _ _ ⟨HXB.out, HPB.out⟩ (any_more fun K16 hK16 => ?_)
    clear hK15 K15
    refine any_pick (rs := [6]) hK16 (by kernel_rfl) (fun K17 hK17 => ?_)
    clear hK16 K16
    intro i hi
    simp only [List.mem_cons, List.not_mem_nil, or_false] at hi
    rcases hi with rfl
    refine op_plain (some 36) (.call { callee := Callee.builtin Builtin.append, args := #[.tmp 33, .tmp 35], argTypes := #[26, 26] }) 26 (by kernel_rfl) (by kernel_rfl) ?_
    refine appS rfl _ _ 26 rfl Try.underlying26 info40 rfl (by decide) (by decide) HO.out rfl HSC.out rfl (Pr.parts_one _) (by omega) HST.out.size ?_
    intro vo27 wc26 ho hst hb
    refine wpList_nil ?_
    have hw : wc26.ownsRow W4.heap.size 40 6 vo27 (n + 1) (wc (L ++ [⟨nx, y, p.grp, p.ses, p.tty, p.df⟩])) := by
      rw [wc_append, wc_cons, wc_nil, List.append_nil]
      exact ho
    obtain ⟨a28, c29, hv, hws, hbs⟩ := Ws.of_owns hw
    subst hv
    have hsl := hst.size
    have hol : ∀ j, (Value.slice a28 (n + 1) c29).ownBlock = some j → j < wc26.heap.size := fun j hj => hws.lt j (by cases a28 <;> exact hj)
    have HWS := hide' hws
    have HOB2 : Hid (∀ j, a28.map Addr.block = some j → W4.heap.size ≤ j) := hbs
    have HXB' := hide' (HXB.out.stay hst (fun e => by have := HOB.out _ e; have := HLT.out; omega))
    have HPB' := hide' (HPB.out.stay hst (fun e => by have := HOB.out _ e; have := HLT.out; omega))
    have HZB' := hide' (HZB.out.stay hst (fun e => by have := HOB.out _ e; have := HLT.out; omega))
    have HST' := hide' (HST.out.trans2 hst (fun j hj e => by have := HOB.out _ e; omega))
    clear HXB
    have HXB := HXB'
    clear HXB'
    clear HPB
    have HPB := HPB'
    clear HPB'
    clear HZB
    have HZB := HZB'
    clear HZB'
    clear HST
    have HST := HST'
    clear HST'
    clear ho hst hb hw hws hbs hsl hol HSC HNE HGL HO HOB
    refine hK17 6 (by simp) _ _ ⟨HXB.out, HPB.out⟩ (any_more fun K18 hK18 => ?_)
    clear hK17 K17
    refine any_take (i := 12) hK18 (some 42) (.build 29 #[(0, .tmp 36), (1, .tmp 39), (2, .tmp 41)]) 29 _ (by kernel_rfl) (fun _ d _ _ _ h => by cases d <;> exact h) (by kernel_rfl) (by kernel_rfl) (fun w' hS' => by simp only [opr]; go_simp; try with_reducible rfl) ⟨HXB.out, HPB.out⟩ (fun K19 hK19 => ?_)
    clear hK18 K18
    try simp only [Act.put, lA, lZ, lS]
    refine any_pick (rs := [15]) hK19 (by kernel_rfl) (fun K20 hK20 => ?_)
    clear hK19 K19
    intro i hi
    simp only [List.mem_cons, List.not_mem_nil, or_false] at hi
    rcases hi with rfl
    refine op_plain none (.store 29 (.tmp 4) (.tmp 42)) 0 (by kernel_rfl) (by kernel_rfl) ?_
    obtain ⟨k0, k1, k2, r0, r1, r2⟩ := HZB.out
    go_wp2
    clear k0 k1 k2 r0 r1 r2
    have hps := XBox.put_stay wc26 b4 (.slice a28 (n + 1) c29) (.int .i64 (nx + 1)) (.slice x.a2 65 x.c2)
    have HXB' := hide' (HXB.out.stay hps HNB.out.1)
    have HPB' := hide' (HPB.out.stay hps HNB.out.2)
    have HZP := hide' (HZB.out.put (xs ⟨a28, c29, x.a2, x.c2⟩ (n + 1) (nx + 1)))
    have HWS' := hide' (HWS.out.stay hps (fun j hj e => by have := HOB2.out j hj; have := HLT.out; omega))
    have HSTW := hide' (XBox.stay_put (HS1.out.trans HST.out) HZb4.out (.slice a28 (n + 1) c29) (.int .i64 (nx + 1)) (.slice x.a2 65 x.c2))
    clear HXB
    have HXB := HXB'
    clear HXB'
    clear HPB
    have HPB := HPB'
    clear HPB'
    clear HWS
    have HWS := HWS'
    clear HWS'
    clear hps HST HZB
    refine hK20 15 (by simp) _ _ ⟨HXB.out, HPB.out⟩ (any_more fun K21 hK21 => ?_)
    clear hK20 K20
    refine any_take (i := 16) hK21 (some 5) (.assign (.tmp 44)) 3 _ (by kernel_rfl) (fun _ d _ _ _ h => by cases d <;> exact h) (by kernel_rfl) (by kernel_rfl) (fun w' hS' => by simp only [opr]; go_simp; try with_reducible rfl) ⟨HXB.out, HPB.out⟩ (fun K22 hK22 => ?_)
    clear hK21 K21
    try simp only [Act.put, lA, lZ, lS]
    refine any_take (i := 17) hK22 (some 6) (.assign (.const (Value.int IntKind.i64 0))) 3 _ (by kernel_rfl) (fun _ d _ _ _ h => by cases d <;> exact h) (by kernel_rfl) (by kernel_rfl) (fun w' hS' => by simp only [opr]; go_simp; try with_reducible rfl) ⟨HXB.out, HPB.out⟩ (fun K23 hK23 => ?_)
    clear hK22 K22
    try simp only [Act.put, lA, lZ, lS]
    refine any_done hK23 (by kernel_rfl) ?_
    clear hK23 K23
    go_wp2
    have h5 := HX0.out.procs HSTW.out HWS.out HWS.out.nocap (fun j hj => by have h1 := HOB2.out j hj; have h2 := (HS1.out).size; have h3 := HW4Z.out; omega) (by rw [List.length_append]; have := HN.out; have := HL.out; simp; omega)
    have el : n + 1 = (L ++ [(⟨nx, y, p.grp, p.ses, p.tty, p.df⟩ : Pr)]).length := by rw [List.length_append, ← HN.out]; rfl
    have hzp := HZP.out
    have h3 := HSTW.out
    rw [el] at h5 hzp h3 ⊢
    exact bodyPost_ret (results_x2 rfl _ _ b4 ⟨a28, c29, x.a2, x.c2⟩ _ (nx + 1) _ _ rfl rfl rfl hzp) rfl ⟨_, rfl, h5.1, h3, h5.2⟩

end Go.Proofs.Ytefpifnfinkbaaa
