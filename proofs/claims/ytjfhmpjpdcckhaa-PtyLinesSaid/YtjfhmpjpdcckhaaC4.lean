/-
  A new pair: walked. No conditions.
-/
import Derived.Test.YtjfhmpjpdcckhaaC3
import Derived.BigQuiet
import Derived.Deep.CutBlock
import Derived.Deep.MidRow
namespace Go.Proofs.Ytjfhmpjpdcckhaa
open Go.RowKit
open L17 L18

theorem NBox.there {w : World} {b : Nat} {r : Tn} (h : NBox w b r) : w.there b 0 5 := by
  intro j hj
  have : j = 0 ∨ j = 1 ∨ j = 2 ∨ j = 3 ∨ j = 4 := by omega
  rcases this with rfl | rfl | rfl | rfl | rfl
  · exact ⟨Option.isSome_iff_exists.2 ⟨_, h.c0⟩, h.f0⟩
  · exact ⟨Option.isSome_iff_exists.2 ⟨_, h.c1⟩, h.f1⟩
  · exact ⟨Option.isSome_iff_exists.2 ⟨_, h.c2⟩, h.f2⟩
  · exact ⟨Option.isSome_iff_exists.2 ⟨_, h.c3⟩, h.f3⟩
  · exact ⟨Option.isSome_iff_exists.2 ⟨_, h.c4⟩, h.f4⟩

theorem set_allN (w : World) (b : Nat) (q : Tn) : w.setCells b 0 (#[q.dp, .int .i64 q.col, q.ov, .bool q.pk, .int .u8 q.fl] : Array Value).toList = (((((w.setCell ⟨b, 0, none⟩ (q.dp)).setCell ⟨b, 1, none⟩ (.int .i64 q.col)).setCell ⟨b, 2, none⟩ (q.ov)).setCell ⟨b, 3, none⟩ (.bool q.pk)).setCell ⟨b, 4, none⟩ (.int .u8 q.fl)) := rfl

theorem NBox.all {w : World} {b : Nat} {r0 : Tn} (h : NBox w b r0) (q : Tn) : NBox (w.setCells b 0 (#[q.dp, .int .i64 q.col, q.ov, .bool q.pk, .int .u8 q.fl] : Array Value).toList) b q := by
  rw [set_allN]; exact h.put q

theorem NBox.stay_all {S : Nat → Prop} {w w1 : World} {b : Nat} (h : Stay S w w1) (hb : w.heap.size ≤ b) (q : Tn) : Stay S w (w1.setCells b 0 (#[q.dp, .int .i64 q.col, q.ov, .bool q.pk, .int .u8 q.fl] : Array Value).toList) := by
  rw [set_allN]; exact NBox.stay_put h hb _ _ _ _ _

theorem results_N {fn : Func} {c t : Tmp} {x : Bool} (h : fn.results = #[.cell c 49, .tmp t]) (tmps : Array Value) (w : World) (g : Nat) (r : Tn) (hp : tmps.getD c undef = .pointer (some ⟨g, 0, none⟩)) (ht : tmps.getD t undef = .bool x) (hb : NBox w g r) :
    (results fn tmps).run Try.prog w = .ok (.tuple #[.agg #[r.dp, .int .i64 r.col, r.ov, .bool r.pk, .int .u8 r.fl], .bool x]) w := by
  have hp' : tmps[c]?.getD undef = .pointer (some ⟨g, 0, none⟩) := by simpa using hp
  have ht' : tmps[t]?.getD undef = .bool x := by simpa using ht
  simp [results, h, hp', ht', asAddr, run_loadVar_cells w g 0 49 _ _ hb.cells Try.underlying49 rfl (by kernel_rfl)]

theorem neqP_nil (a : Addr) (w : World) : (binOp .neq 47 (.pointer (some a)) (.pointer none)).run Try.prog w = .ok (.bool true) w := by
  simp only [binOp]
  have h : (Op.equal 47 (.pointer (some a)) (.pointer none)).run Try.prog w = .ok false w := by
    show (Op.equalIn (9999 + 1) 47 _ _).run Try.prog w = _
    generalize 9999 = d
    simp [Op.equalIn, run_underlying Try.underlying47]
  simp [h]

attribute [local go_sem] neqP_nil

def MadeN (t : Tm) (w : World) (e : Ending) (w' : World) : Prop :=
  ∃ p O, e = .returned (.tuple #[.agg #[.pointer (some ⟨p, 0, none⟩), .int .i64 0, .slice none 0 0, .bool false, .int .u8 0], .bool true]) ∧ At w' p O (fresh t) ∧ (∀ k, O k → w.heap.size ≤ k) ∧ Stay (fun _ => False) w w'

set_option maxRecDepth 100000 in
theorem newTerminal16 (t : Tm) (ht : rightB t = true) (w : World) : Calls Try.prog 16 #[.agg #[.int .i64 t.fi, .int .i64 t.fo, .int .i64 t.fl, .int .i64 t.k0, .int .i64 t.k1, .int .i64 t.k2, .int .i64 t.k3, .int .i64 t.k4, .int .i64 t.k5, .int .i64 t.k6, .int .i64 t.k7, .int .i64 t.k8, .int .i64 t.k9, .int .i64 t.k10, .int .i64 t.k11, .int .i64 t.mn, .int .i64 t.ti]] w (MadeN t w) := by
  have HT0 := hide' (L17.TBox.new (w := w) t rfl)
  have HS0 := hide' ((Stay.refl (fun _ => False) w).alloc (.cells #[.int .i64 t.fi, .int .i64 t.fo, .int .i64 t.fl, .int .i64 t.k0, .int .i64 t.k1, .int .i64 t.k2, .int .i64 t.k3, .int .i64 t.k4, .int .i64 t.k5, .int .i64 t.k6, .int .i64 t.k7, .int .i64 t.k8, .int .i64 t.k9, .int .i64 t.k10, .int .i64 t.k11, .int .i64 t.mn, .int .i64 t.ti] 28))
  have HNW : Hid (∀ w', Calls Try.prog 26 #[.agg #[.int .i64 t.fi, .int .i64 t.fo, .int .i64 t.fl, .int .i64 t.k0, .int .i64 t.k1, .int .i64 t.k2, .int .i64 t.k3, .int .i64 t.k4, .int .i64 t.k5, .int .i64 t.k6, .int .i64 t.k7, .int .i64 t.k8, .int .i64 t.k9, .int .i64 t.k10, .int .i64 t.k11, .int .i64 t.mn, .int .i64 t.ti]] w' (MadeP At t w')) := fun w' => (a_new t w').mono (fun e w'' h => h.1 ht)
  clear ht
  go_enter Try.func16, Try.ntmps16
  go_upto_region 1 with fail
  obtain ⟨W0, hW0⟩ : ∃ W, W = w.alloc (.cells #[.int .i64 t.fi, .int .i64 t.fo, .int .i64 t.fl, .int .i64 t.k0, .int .i64 t.k1, .int .i64 t.k2, .int .i64 t.k3, .int .i64 t.k4, .int .i64 t.k5, .int .i64 t.k6, .int .i64 t.k7, .int .i64 t.k8, .int .i64 t.k9, .int .i64 t.k10, .int .i64 t.k11, .int .i64 t.mn, .int .i64 t.ti] 28) := ⟨_, rfl⟩
  obtain ⟨B1, hB1⟩ : ∃ z, z = w.heap.size + 1 := ⟨_, rfl⟩
  have HSZ : Hid (B1 = W0.heap.size) := by show B1 = W0.heap.size; rw [hB1, hW0]; simp
  obtain ⟨B, hB⟩ : ∃ z, z = w.heap.size := ⟨_, rfl⟩
  have HBW : Hid (w.heap.size ≤ B1) := by show _ ≤ _; omega
  rw [← hW0] at HT0 HS0 ⊢
  rw [← hB1]
  rw [← hB] at HT0 ⊢
  have HN1 := hide' (NBox.new (w := W0) (b := B1) ⟨.pointer none, 0, .slice none 0 0, false, 0⟩ HSZ.out.symm)
  have HS1 := hide' (HS0.out.alloc (.cells #[.pointer none, .int .i64 0, .slice none 0 0, .bool false, .int .u8 0] 49))
  have HT1 := hide' (HT0.out.alloc (.cells #[.pointer none, .int .i64 0, .slice none 0 0, .bool false, .int .u8 0] 49))
  obtain ⟨W1, hW1⟩ : ∃ W, W = W0.alloc (.cells #[.pointer none, .int .i64 0, .slice none 0 0, .bool false, .int .u8 0] 49) := ⟨_, rfl⟩
  rw [← hW1] at HN1 HS1 HT1 ⊢
  clear hW0 hB1 hB HS0 HT0 hW1
  go_wp2_with (refine L17.wpList_exec rfl (L17.run_load_TBox rfl rfl HT1.out) ?_)
  refine (HNW.out _).mono ?_
  rintro e w2 ⟨p, O, rfl, hat, hO, hs⟩
  have HN2 := hide' (HN1.out.keep hs)
  have HS2 := hide' (HS1.out.trans hs)
  have HA2 := hide' hat
  have HO2 := hide' (fun k hk => Nat.le_trans HS1.out.size (hO k hk))
  have HBO : Hid (¬ O B1) := fun h => by
    have h1 := hO B1 h
    have h2 := HN1.out.lt
    omega
  clear hat hO hs HN1 HT1 HS1
  have HQ := hide' (HN2.out.all ⟨.pointer (some ⟨p, 0, none⟩), 0, .slice none 0 0, false, 0⟩)
  have HQS := hide' (NBox.stay_all (S := fun _ => False) HS2.out HBW.out ⟨.pointer (some ⟨p, 0, none⟩), 0, .slice none 0 0, false, 0⟩)
  have HQA : Hid (At (w2.setCells B1 0 (#[.pointer (some ⟨p, 0, none⟩), .int .i64 0, .slice none 0 0, .bool false, .int .u8 0] : Array Value).toList) p O (fresh t)) := by
    refine HA2.out.keep (S := fun k => k = B1) ?_ (fun k hk ho => by subst hk; exact HBO.out ho)
    rw [set_allN w2 B1 ⟨.pointer (some ⟨p, 0, none⟩), 0, .slice none 0 0, false, 0⟩]
    exact (((((Stay.refl (fun k => k = B1) w2).setCell (p := ⟨B1, 0, none⟩) rfl _).setCell (p := ⟨B1, 1, none⟩) rfl _).setCell (p := ⟨B1, 2, none⟩) rfl _).setCell (p := ⟨B1, 3, none⟩) rfl _).setCell (p := ⟨B1, 4, none⟩) rfl _
  have HTH := hide' HN2.out.there
  obtain ⟨W5, hW5⟩ : ∃ W5, W5 = w2.setCells B1 0 (#[.pointer (some ⟨p, 0, none⟩), .int .i64 0, .slice none 0 0, .bool false, .int .u8 0] : Array Value).toList := ⟨_, rfl⟩
  simp only at HQ HQS
  rw [← hW5] at HQ HQS HQA
  go_wp2_with (refine wpList_store_mid rfl 49 (.tmp 2) (.tmp 8) rfl B1 0 #[.pointer (some ⟨p, 0, none⟩), .int .i64 0, .slice none 0 0, .bool false, .int .u8 0] rfl rfl HTH.out (by kernel_rfl) (by simp [Value.oneCell']) ?_; rw [← hW5]; clear hW5)
  exact bodyPost_ret (results_N rfl _ _ B1 _ rfl rfl HQ.out) rfl ⟨p, O, rfl, HQA.out, HO2.out, HQS.out⟩

/-- A new pair. -/
def freshQ (t : Tm) : Pq := ⟨fresh t, 0, [], 80, 24⟩

def MadeQ (t : Tm) (w : World) (e : Ending) (w' : World) : Prop :=
  ∃ g p U, e = .returned (.pointer (some ⟨g, 0, none⟩)) ∧ PAt w' g p U (freshQ t) ∧ (∀ k, U k → w.heap.size ≤ k) ∧ Stay (fun _ => False) w w'

theorem extractT0 (a b : Value) (w : World) : (Instr.extract (.tuple #[a, b]) 0).run Try.prog w = .ok a w := rfl
theorem extractT1 (a b : Value) (w : World) : (Instr.extract (.tuple #[a, b]) 1).run Try.prog w = .ok b w := rfl

attribute [local go_sem] extractT0 extractT1

set_option maxRecDepth 100000 in
theorem new7 (t : Tm) (ht : rightB t = true) (w : World) : Calls Try.prog 7 #[.agg #[.int .i64 t.fi, .int .i64 t.fo, .int .i64 t.fl, .int .i64 t.k0, .int .i64 t.k1, .int .i64 t.k2, .int .i64 t.k3, .int .i64 t.k4, .int .i64 t.k5, .int .i64 t.k6, .int .i64 t.k7, .int .i64 t.k8, .int .i64 t.k9, .int .i64 t.k10, .int .i64 t.k11, .int .i64 t.mn, .int .i64 t.ti]] w (MadeQ t w) := by
  have HT0 := hide' (L17.TBox.new (w := w) t rfl)
  have HS0 := hide' ((Stay.refl (fun _ => False) w).alloc (.cells #[.int .i64 t.fi, .int .i64 t.fo, .int .i64 t.fl, .int .i64 t.k0, .int .i64 t.k1, .int .i64 t.k2, .int .i64 t.k3, .int .i64 t.k4, .int .i64 t.k5, .int .i64 t.k6, .int .i64 t.k7, .int .i64 t.k8, .int .i64 t.k9, .int .i64 t.k10, .int .i64 t.k11, .int .i64 t.mn, .int .i64 t.ti] 28))
  have HNW := hide' (newTerminal16 t ht)
  clear ht
  go_enter Try.func7, Try.ntmps7
  go_upto_region 1 with fail
  obtain ⟨W0, hW0⟩ : ∃ W, W = w.alloc (.cells #[.int .i64 t.fi, .int .i64 t.fo, .int .i64 t.fl, .int .i64 t.k0, .int .i64 t.k1, .int .i64 t.k2, .int .i64 t.k3, .int .i64 t.k4, .int .i64 t.k5, .int .i64 t.k6, .int .i64 t.k7, .int .i64 t.k8, .int .i64 t.k9, .int .i64 t.k10, .int .i64 t.k11, .int .i64 t.mn, .int .i64 t.ti] 28) := ⟨_, rfl⟩
  obtain ⟨B, hB⟩ : ∃ z, z = w.heap.size := ⟨_, rfl⟩
  rw [← hW0] at HT0 HS0 ⊢
  rw [← hB] at HT0 ⊢
  clear hW0 hB
  go_wp2_with (refine L17.wpList_exec rfl (L17.run_load_TBox rfl rfl HT0.out) ?_)
  refine (HNW.out _).mono ?_
  rintro e w2 ⟨p, O, rfl, hat, hO, hs⟩
  have HS2 := hide' (HS0.out.trans hs)
  have HA2 := hide' hat
  have HO2 := hide' (fun k hk => Nat.le_trans HS0.out.size (hO k hk))
  clear hat hO hs HS0 HT0 HNW
  have HW5 : Hid (Stay (fun _ => False) w (w2.alloc (.cells #[.pointer (some ⟨p, 0, none⟩), .int .i64 0, .slice none 0 0, .bool false, .int .u8 0] 49))) := HS2.out.alloc _
  have HA5 := hide' (HA2.out.keep (S := fun _ => False) ((Stay.refl _ _).alloc (.cells #[.pointer (some ⟨p, 0, none⟩), .int .i64 0, .slice none 0 0, .bool false, .int .u8 0] 49)) (fun _ h => h.elim))
  have HLT : Hid (∀ k, O k → k < w2.heap.size) := HA2.out.lt
  have HSZ : Hid ((w2.alloc (.cells #[.pointer (some ⟨p, 0, none⟩), .int .i64 0, .slice none 0 0, .bool false, .int .u8 0] 49)).heap.size = w2.heap.size + 1) := by show _ = _; simp
  go_wp2
  go_returns
  have hq0 := QBox.new (w := w2.alloc (.cells #[.pointer (some ⟨p, 0, none⟩), .int .i64 0, .slice none 0 0, .bool false, .int .u8 0] 49)) (b := w2.heap.size + 1) ⟨.pointer (some ⟨p, 0, none⟩), 0, .slice none 0 0, false, 0, 80, 24, true, true⟩ HSZ.out
  have hks : Stay (fun _ => False) (w2.alloc (.cells #[.pointer (some ⟨p, 0, none⟩), .int .i64 0, .slice none 0 0, .bool false, .int .u8 0] 49)) ((w2.alloc (.cells #[.pointer (some ⟨p, 0, none⟩), .int .i64 0, .slice none 0 0, .bool false, .int .u8 0] 49)).alloc (.cells #[.pointer (some ⟨p, 0, none⟩), .int .i64 0, .slice none 0 0, .bool false, .int .u8 0, .int .i64 80, .int .i64 24, .bool true, .bool true] 53)) := (Stay.refl _ _).alloc _
  have hpb : PB ((w2.alloc (.cells #[.pointer (some ⟨p, 0, none⟩), .int .i64 0, .slice none 0 0, .bool false, .int .u8 0] 49)).alloc (.cells #[.pointer (some ⟨p, 0, none⟩), .int .i64 0, .slice none 0 0, .bool false, .int .u8 0, .int .i64 80, .int .i64 24, .bool true, .bool true] 53)) (w2.heap.size + 1) p O (.slice none 0 0) (freshQ t) := ⟨hq0, HA5.out.keep hks (fun _ h => h.elim), Win.nil _ _, fun y hy => (by cases hy), fun h => by have := HLT.out _ h; omega, fun k hk => (by cases hk), fun k hk => (by cases hk)⟩
  refine ⟨_, p, _, rfl, ⟨O, .slice none 0 0, hpb, fun _ h => h, hpb.lt⟩, fun k hk => ?_, HW5.out.trans hks⟩
  rcases hk with rfl | hk | hk
  · have := HS2.out.size; omega
  · exact HO2.out k hk
  · cases hk


end Go.Proofs.Ytjfhmpjpdcckhaa
