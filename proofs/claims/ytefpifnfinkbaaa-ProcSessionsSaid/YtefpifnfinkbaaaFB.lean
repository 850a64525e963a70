/-
  The document gives a session a terminal: walked. No conditions.
-/
import Derived.Test.YtefpifnfinkbaaaFA
import Derived.ArgAppend
import Derived.Deep.DeepCutAuto
import Derived.Deep.CutBlock
namespace Go.Proofs.Ytefpifnfinkbaaa
open Go.RowKit

variable {w : World} {x : Xr} {L : List Pr} {f : Int → Int}

theorem rattach31_none (y t nx : Int) (h : XAt w x L f) (hx : ∀ p ∈ L, p.pid ≠ y) : Calls Try.prog 31 #[.agg #[.slice x.a L.length x.cap, .int .i64 nx, .slice x.a2 65 x.c2], .int .i64 y, .int .i64 t] w (XG2 x L nx f 5 w) := by
  obtain ⟨n, hn⟩ : ∃ n, n = L.length := ⟨_, rfl⟩
  obtain ⟨b3, hb3⟩ : ∃ b, b = w.heap.size := ⟨_, rfl⟩
  obtain ⟨Wq0, hWq0⟩ : ∃ W, W = w.alloc (.cells #[.slice x.a n x.cap, .int .i64 nx, .slice x.a2 65 x.c2] 29) := ⟨_, rfl⟩
  have hsWq0 : Stay (fun _ => False) w Wq0 := by rw [hWq0]; exact (Stay.refl _ _).alloc _
  have hpb3 : w.heap.size = b3 := by rw [hb3]
  obtain ⟨b6, hb6⟩ : ∃ b, b = w.heap.size + 1 := ⟨_, rfl⟩
  obtain ⟨W0, hW0⟩ : ∃ W, W = Wq0.alloc (.cells #[.slice none 0 0, .int .i64 0, .slice none 0 0] 29) := ⟨_, rfl⟩
  have hsW0 : Stay (fun _ => False) Wq0 W0 := by rw [hW0]; exact (Stay.refl _ _).alloc _
  have hpb6 : Wq0.heap.size = b6 := by rw [hb6]; rw [hWq0, World.size_alloc]
  have HBb3 := hide' (show XBox W0 b3 (xs x n nx) from (show XBox Wq0 b3 (xs x n nx) from (by rw [hWq0]; exact xbox_new w x n nx hpb3)).keep ((Stay.refl (fun _ => False) Wq0).trans hsW0))
  have HZb3 : Hid (w.heap.size ≤ b3) := by show _ ≤ _; omega
  have HBb6 := hide' (show XBox W0 b6 ⟨.slice none 0 0, 0, .slice none 0 0⟩ from (show XBox W0 b6 ⟨.slice none 0 0, 0, .slice none 0 0⟩ from (by rw [hW0]; exact XBox.new ⟨.slice none 0 0, 0, .slice none 0 0⟩ hpb6)).keep (Stay.refl (fun _ => False) W0))
  have HZb6 : Hid (w.heap.size ≤ b6) := by show _ ≤ _; omega
  have HS0 := hide' (((Stay.refl (fun _ => False) w).trans hsWq0).trans hsW0)
  have HW0 : Hid (W0 = ((w.alloc (.cells #[.slice x.a n x.cap, .int .i64 nx, .slice x.a2 65 x.c2] 29)).alloc (.cells #[.slice none 0 0, .int .i64 0, .slice none 0 0] 29))) := by show _ = _; rw [hW0, hWq0]
  have HXA := hide' (h.keep HS0.out)
  have HX0 := hide' h
  have HN := hide' hn
  have hn1 : (n : Int) ≤ 256 := by have := h.len; omega
  have hat := at14 y nx HXA.out
  rw [ixI_no hx, ← hn] at hat
  have HAT := hide' hat
  clear hat
  rw [← hn]
  clear h hn hx
  clear hWq0 hW0 hsWq0 hsW0 hpb3 hpb6
  obtain ⟨e0, e1, e2, _⟩ := HBb3.out
  simp only [xs] at e0 e1 e2
  go_enter Try.func31, Try.ntmps31
  go_upto_region 1 with fail
  rw [← HW0.out, ← hb6, ← hb3]
  clear HW0 hb3 hb6
  go_wp2_with fail
  refine HAT.out.mono ?_
  rintro _ w1 ⟨rfl, hs⟩
  have HB3 := hide' (HBb3.out.keep hs)
  have HB6 := hide' (HBb6.out.keep hs)
  have HS9 := hide' (HS0.out.trans hs)
  have HXA1 := hide' (HXA.out.keep hs)
  clear hs HAT HBb3 HBb6 HXA e0 e1 e2
  obtain ⟨e0, e1, e2, _⟩ := HB3.out
  simp only [xs] at e0 e1 e2
  obtain ⟨k0, k1, k2, r0, r1, r2⟩ := HB6.out
  go_wp2
  have h3 := XBox.stay_put HS9.out HZb6.out (.slice x.a n x.cap) (.int .i64 nx) (.slice x.a2 65 x.c2)
  have h5 := HX0.out.keep h3
  rw [HN.out] at h3 h5 ⊢
  exact bodyPost_ret (results_x1 rfl _ _ b6 x _ nx _ rfl rfl ( HB6.out.put (xs x _ nx))) rfl ⟨x, rfl, h5, h3, XFrom.refl _ _⟩

theorem rattach31_lo (y t nx : Int) {i : Nat} {p : Pr} (h : XAt w x L f) (hu : Up L) (hp : L[i]? = some p) (hx : p.pid = y) (ht : t < 1) : Calls Try.prog 31 #[.agg #[.slice x.a L.length x.cap, .int .i64 nx, .slice x.a2 65 x.c2], .int .i64 y, .int .i64 t] w (XG2 x L nx f 1 w) := by
  obtain ⟨n, hn⟩ : ∃ n, n = L.length := ⟨_, rfl⟩
  obtain ⟨b3, hb3⟩ : ∃ b, b = w.heap.size := ⟨_, rfl⟩
  obtain ⟨Wq0, hWq0⟩ : ∃ W, W = w.alloc (.cells #[.slice x.a n x.cap, .int .i64 nx, .slice x.a2 65 x.c2] 29) := ⟨_, rfl⟩
  have hsWq0 : Stay (fun _ => False) w Wq0 := by rw [hWq0]; exact (Stay.refl _ _).alloc _
  have hpb3 : w.heap.size = b3 := by rw [hb3]
  obtain ⟨b6, hb6⟩ : ∃ b, b = w.heap.size + 1 := ⟨_, rfl⟩
  obtain ⟨W0, hW0⟩ : ∃ W, W = Wq0.alloc (.cells #[.slice none 0 0, .int .i64 0, .slice none 0 0] 29) := ⟨_, rfl⟩
  have hsW0 : Stay (fun _ => False) Wq0 W0 := by rw [hW0]; exact (Stay.refl _ _).alloc _
  have hpb6 : Wq0.heap.size = b6 := by rw [hb6]; rw [hWq0, World.size_alloc]
  have HBb3 := hide' (show XBox W0 b3 (xs x n nx) from (show XBox Wq0 b3 (xs x n nx) from (by rw [hWq0]; exact xbox_new w x n nx hpb3)).keep ((Stay.refl (fun _ => False) Wq0).trans hsW0))
  have HZb3 : Hid (w.heap.size ≤ b3) := by show _ ≤ _; omega
  have HBb6 := hide' (show XBox W0 b6 ⟨.slice none 0 0, 0, .slice none 0 0⟩ from (show XBox W0 b6 ⟨.slice none 0 0, 0, .slice none 0 0⟩ from (by rw [hW0]; exact XBox.new ⟨.slice none 0 0, 0, .slice none 0 0⟩ hpb6)).keep (Stay.refl (fun _ => False) W0))
  have HZb6 : Hid (w.heap.size ≤ b6) := by show _ ≤ _; omega
  have HS0 := hide' (((Stay.refl (fun _ => False) w).trans hsWq0).trans hsW0)
  have HW0 : Hid (W0 = ((w.alloc (.cells #[.slice x.a n x.cap, .int .i64 nx, .slice x.a2 65 x.c2] 29)).alloc (.cells #[.slice none 0 0, .int .i64 0, .slice none 0 0] 29))) := by show _ = _; rw [hW0, hWq0]
  have HXA := hide' (h.keep HS0.out)
  have HX0 := hide' h
  have HN := hide' hn
  have hn1 : (n : Int) ≤ 256 := by have := h.len; omega
  have hat := at14 y nx HXA.out
  rw [ixI_at hu hp hx, ← hn] at hat
  have HAT := hide' hat
  clear hat
  have HP := hide' hp
  have hin1 : (i : Int) < (n : Nat) := by have := (List.getElem?_eq_some_iff.1 hp).1; omega
  have d9 : decide (t < 1) = true := decide_eq_true ht
  rw [← hn]
  clear h hn hx hu hp
  clear hWq0 hW0 hsWq0 hsW0 hpb3 hpb6
  obtain ⟨e0, e1, e2, _⟩ := HBb3.out
  simp only [xs] at e0 e1 e2
  go_enter Try.func31, Try.ntmps31
  go_upto_region 1 with fail
  rw [← HW0.out, ← hb6, ← hb3]
  clear HW0 hb3 hb6
  go_wp2_with fail
  refine HAT.out.mono ?_
  rintro _ w1 ⟨rfl, hs⟩
  have HB3 := hide' (HBb3.out.keep hs)
  have HB6 := hide' (HBb6.out.keep hs)
  have HS9 := hide' (HS0.out.trans hs)
  have HXA1 := hide' (HXA.out.keep hs)
  clear hs HAT HBb3 HBb6 HXA e0 e1 e2
  obtain ⟨e0, e1, e2, _⟩ := HB3.out
  simp only [xs] at e0 e1 e2
  obtain ⟨k0, k1, k2, r0, r1, r2⟩ := HB6.out
  go_wp2
  have h3 := XBox.stay_put HS9.out HZb6.out (.slice x.a n x.cap) (.int .i64 nx) (.slice x.a2 65 x.c2)
  have h5 := HX0.out.keep h3
  rw [HN.out] at h3 h5 ⊢
  exact bodyPost_ret (results_x1 rfl _ _ b6 x _ nx _ rfl rfl ( HB6.out.put (xs x _ nx))) rfl ⟨x, rfl, h5, h3, XFrom.refl _ _⟩

theorem rattach31_hi (y t nx : Int) {i : Nat} {p : Pr} (h : XAt w x L f) (hu : Up L) (hp : L[i]? = some p) (hx : p.pid = y) (h1 : 1 ≤ t) (ht : 64 < t) : Calls Try.prog 31 #[.agg #[.slice x.a L.length x.cap, .int .i64 nx, .slice x.a2 65 x.c2], .int .i64 y, .int .i64 t] w (XG2 x L nx f 1 w) := by
  obtain ⟨n, hn⟩ : ∃ n, n = L.length := ⟨_, rfl⟩
  obtain ⟨b3, hb3⟩ : ∃ b, b = w.heap.size := ⟨_, rfl⟩
  obtain ⟨Wq0, hWq0⟩ : ∃ W, W = w.alloc (.cells #[.slice x.a n x.cap, .int .i64 nx, .slice x.a2 65 x.c2] 29) := ⟨_, rfl⟩
  have hsWq0 : Stay (fun _ => False) w Wq0 := by rw [hWq0]; exact (Stay.refl _ _).alloc _
  have hpb3 : w.heap.size = b3 := by rw [hb3]
  obtain ⟨b6, hb6⟩ : ∃ b, b = w.heap.size + 1 := ⟨_, rfl⟩
  obtain ⟨W0, hW0⟩ : ∃ W, W = Wq0.alloc (.cells #[.slice none 0 0, .int .i64 0, .slice none 0 0] 29) := ⟨_, rfl⟩
  have hsW0 : Stay (fun _ => False) Wq0 W0 := by rw [hW0]; exact (Stay.refl _ _).alloc _
  have hpb6 : Wq0.heap.size = b6 := by rw [hb6]; rw [hWq0, World.size_alloc]
  have HBb3 := hide' (show XBox W0 b3 (xs x n nx) from (show XBox Wq0 b3 (xs x n nx) from (by rw [hWq0]; exact xbox_new w x n nx hpb3)).keep ((Stay.refl (fun _ => False) Wq0).trans hsW0))
  have HZb3 : Hid (w.heap.size ≤ b3) := by show _ ≤ _; omega
  have HBb6 := hide' (show XBox W0 b6 ⟨.slice none 0 0, 0, .slice none 0 0⟩ from (show XBox W0 b6 ⟨.slice none 0 0, 0, .slice none 0 0⟩ from (by rw [hW0]; exact XBox.new ⟨.slice none 0 0, 0, .slice none 0 0⟩ hpb6)).keep (Stay.refl (fun _ => False) W0))
  have HZb6 : Hid (w.heap.size ≤ b6) := by show _ ≤ _; omega
  have HS0 := hide' (((Stay.refl (fun _ => False) w).trans hsWq0).trans hsW0)
  have HW0 : Hid (W0 = ((w.alloc (.cells #[.slice x.a n x.cap, .int .i64 nx, .slice x.a2 65 x.c2] 29)).alloc (.cells #[.slice none 0 0, .int .i64 0, .slice none 0 0] 29))) := by show _ = _; rw [hW0, hWq0]
  have HXA := hide' (h.keep HS0.out)
  have HX0 := hide' h
  have HN := hide' hn
  have hn1 : (n : Int) ≤ 256 := by have := h.len; omega
  have hat := at14 y nx HXA.out
  rw [ixI_at hu hp hx, ← hn] at hat
  have HAT := hide' hat
  clear hat
  have HP := hide' hp
  have hin1 : (i : Int) < (n : Nat) := by have := (List.getElem?_eq_some_iff.1 hp).1; omega
  rw [← hn]
  clear h hn hx hu hp
  clear hWq0 hW0 hsWq0 hsW0 hpb3 hpb6
  obtain ⟨e0, e1, e2, _⟩ := HBb3.out
  simp only [xs] at e0 e1 e2
  go_enter Try.func31, Try.ntmps31
  go_upto_region 1 with fail
  rw [← HW0.out, ← hb6, ← hb3]
  clear HW0 hb3 hb6
  go_wp2_with fail
  refine HAT.out.mono ?_
  rintro _ w1 ⟨rfl, hs⟩
  have HB3 := hide' (HBb3.out.keep hs)
  have HB6 := hide' (HBb6.out.keep hs)
  have HS9 := hide' (HS0.out.trans hs)
  have HXA1 := hide' (HXA.out.keep hs)
  clear hs HAT HBb3 HBb6 HXA e0 e1 e2
  obtain ⟨e0, e1, e2, _⟩ := HB3.out
  simp only [xs] at e0 e1 e2
  obtain ⟨k0, k1, k2, r0, r1, r2⟩ := HB6.out
  go_wp2
  have h3 := XBox.stay_put HS9.out HZb6.out (.slice x.a n x.cap) (.int .i64 nx) (.slice x.a2 65 x.c2)
  have h5 := HX0.out.keep h3
  rw [HN.out] at h3 h5 ⊢
  exact bodyPost_ret (results_x1 rfl _ _ b6 x _ nx _ rfl rfl ( HB6.out.put (xs x _ nx))) rfl ⟨x, rfl, h5, h3, XFrom.refl _ _⟩

theorem rattach31_nolead (y t nx : Int) {i : Nat} {p : Pr} (h : XAt w x L f) (hu : Up L) (hp : L[i]? = some p) (hx : p.pid = y) (h1 : 1 ≤ t) (h2 : t ≤ 64) (hl : (p.ses != y) = true) : Calls Try.prog 31 #[.agg #[.slice x.a L.length x.cap, .int .i64 nx, .slice x.a2 65 x.c2], .int .i64 y, .int .i64 t] w (XG2 x L nx f 8 w) := by
  obtain ⟨n, hn⟩ : ∃ n, n = L.length := ⟨_, rfl⟩
  obtain ⟨b3, hb3⟩ : ∃ b, b = w.heap.size := ⟨_, rfl⟩
  obtain ⟨Wq0, hWq0⟩ : ∃ W, W = w.alloc (.cells #[.slice x.a n x.cap, .int .i64 nx, .slice x.a2 65 x.c2] 29) := ⟨_, rfl⟩
  have hsWq0 : Stay (fun _ => False) w Wq0 := by rw [hWq0]; exact (Stay.refl _ _).alloc _
  have hpb3 : w.heap.size = b3 := by rw [hb3]
  obtain ⟨b6, hb6⟩ : ∃ b, b = w.heap.size + 1 := ⟨_, rfl⟩
  obtain ⟨W0, hW0⟩ : ∃ W, W = Wq0.alloc (.cells #[.slice none 0 0, .int .i64 0, .slice none 0 0] 29) := ⟨_, rfl⟩
  have hsW0 : Stay (fun _ => False) Wq0 W0 := by rw [hW0]; exact (Stay.refl _ _).alloc _
  have hpb6 : Wq0.heap.size = b6 := by rw [hb6]; rw [hWq0, World.size_alloc]
  have HBb3 := hide' (show XBox W0 b3 (xs x n nx) from (show XBox Wq0 b3 (xs x n nx) from (by rw [hWq0]; exact xbox_new w x n nx hpb3)).keep ((Stay.refl (fun _ => False) Wq0).trans hsW0))
  have HZb3 : Hid (w.heap.size ≤ b3) := by show _ ≤ _; omega
  have HBb6 := hide' (show XBox W0 b6 ⟨.slice none 0 0, 0, .slice none 0 0⟩ from (show XBox W0 b6 ⟨.slice none 0 0, 0, .slice none 0 0⟩ from (by rw [hW0]; exact XBox.new ⟨.slice none 0 0, 0, .slice none 0 0⟩ hpb6)).keep (Stay.refl (fun _ => False) W0))
  have HZb6 : Hid (w.heap.size ≤ b6) := by show _ ≤ _; omega
  have HS0 := hide' (((Stay.refl (fun _ => False) w).trans hsWq0).trans hsW0)
  have HW0 : Hid (W0 = ((w.alloc (.cells #[.slice x.a n x.cap, .int .i64 nx, .slice x.a2 65 x.c2] 29)).alloc (.cells #[.slice none 0 0, .int .i64 0, .slice none 0 0] 29))) := by show _ = _; rw [hW0, hWq0]
  have HXA := hide' (h.keep HS0.out)
  have HX0 := hide' h
  have HN := hide' hn
  have hn1 : (n : Int) ≤ 256 := by have := h.len; omega
  have hat := at14 y nx HXA.out
  rw [ixI_at hu hp hx, ← hn] at hat
  have HAT := hide' hat
  clear hat
  have HP := hide' hp
  have hin1 : (i : Int) < (n : Nat) := by have := (List.getElem?_eq_some_iff.1 hp).1; omega
  rw [← hn]
  clear h hn hx hu hp
  clear hWq0 hW0 hsWq0 hsW0 hpb3 hpb6
  obtain ⟨e0, e1, e2, _⟩ := HBb3.out
  simp only [xs] at e0 e1 e2
  go_enter Try.func31, Try.ntmps31
  go_upto_region 1 with fail
  rw [← HW0.out, ← hb6, ← hb3]
  clear HW0 hb3 hb6
  go_wp2_with fail
  refine HAT.out.mono ?_
  rintro _ w1 ⟨rfl, hs⟩
  have HB3 := hide' (HBb3.out.keep hs)
  have HB6 := hide' (HBb6.out.keep hs)
  have HS9 := hide' (HS0.out.trans hs)
  have HXA1 := hide' (HXA.out.keep hs)
  clear hs HAT HBb3 HBb6 HXA e0 e1 e2
  obtain ⟨e0, e1, e2, _⟩ := HB3.out
  simp only [xs] at e0 e1 e2
  obtain ⟨g, o, hxa, hpb⟩ := HXA1.out.rd i p HP.out
  obtain ⟨d0, d1, d2, d3, d4, d5⟩ := hpb
  rw [hxa] at e0
  obtain ⟨b9, hb9⟩ : ∃ b, b = w1.heap.size := ⟨_, rfl⟩
  obtain ⟨W5, hW5⟩ : ∃ W, W = w1.alloc (.cells #[.int .i64 p.pid, .int .i64 p.par, .int .i64 p.grp, .int .i64 p.ses, .int .i64 p.tty, .bool p.df] 40) := ⟨_, rfl⟩
  have hs5 : Stay (fun _ => False) w1 W5 := by rw [hW5]; exact (Stay.refl _ _).alloc _
  have HP5 : Hid (PBox W5 b9 p) := by rw [hW5]; exact PBox.new p hb9.symm
  have HB3' := hide' (HB3.out.keep hs5)
  have HB6' := hide' (HB6.out.keep hs5)
  have HS9' := hide' (HS9.out.trans hs5)
  have HXA1' := hide' (HXA1.out.keep hs5)
  have HPL : Hid (w.heap.size ≤ b9) := by show _ ≤ _; rw [hb9]; exact HS9.out.size
  have HPN : Hid (w1.heap.size ≤ b9) := by show _ ≤ _; rw [hb9]; exact Nat.le_refl _
  have HP6 : Hid (¬ b9 = b6) := by have := HB6.out.lt; show ¬ _; omega
  clear hs5 hxa
  go_upto_region 7 with fail
  rw [← hb9, ← hW5]
  clear hb9 hW5 e0 e1 e2 d0 d1 d2 d3 d4 d5 HB3 HB6 HS9 HXA1
  have HB3 := HB3'
  clear HB3'
  have HB6 := HB6'
  clear HB6'
  have HS9 := HS9'
  clear HS9'
  have HXA1 := HXA1'
  clear HXA1'
  obtain ⟨d0, d1, d2, d3, d4, d5, _⟩ := HP5.out
  obtain ⟨e0, e1, e2, _⟩ := HB3.out
  simp only [xs] at e0 e1 e2
  obtain ⟨k0, k1, k2, r0, r1, r2⟩ := HB6.out
  go_wp2
  have h3 := XBox.stay_put HS9.out HZb6.out (.slice x.a n x.cap) (.int .i64 nx) (.slice x.a2 65 x.c2)
  have h5 := HX0.out.keep h3
  rw [HN.out] at h3 h5 ⊢
  exact bodyPost_ret (results_x1 rfl _ _ b6 x _ nx _ rfl rfl ( HB6.out.put (xs x _ nx))) rfl ⟨x, rfl, h5, h3, XFrom.refl _ _⟩

theorem rattach31_has (y t nx : Int) {i : Nat} {p : Pr} (h : XAt w x L f) (hu : Up L) (hp : L[i]? = some p) (hx : p.pid = y) (h1 : 1 ≤ t) (h2 : t ≤ 64) (hl : (p.ses != y) = false) (hy : (p.tty != 0) = true) : Calls Try.prog 31 #[.agg #[.slice x.a L.length x.cap, .int .i64 nx, .slice x.a2 65 x.c2], .int .i64 y, .int .i64 t] w (XG2 x L nx f 8 w) := by
  obtain ⟨n, hn⟩ : ∃ n, n = L.length := ⟨_, rfl⟩
  obtain ⟨b3, hb3⟩ : ∃ b, b = w.heap.size := ⟨_, rfl⟩
  obtain ⟨Wq0, hWq0⟩ : ∃ W, W = w.alloc (.cells #[.slice x.a n x.cap, .int .i64 nx, .slice x.a2 65 x.c2] 29) := ⟨_, rfl⟩
  have hsWq0 : Stay (fun _ => False) w Wq0 := by rw [hWq0]; exact (Stay.refl _ _).alloc _
  have hpb3 : w.heap.size = b3 := by rw [hb3]
  obtain ⟨b6, hb6⟩ : ∃ b, b = w.heap.size + 1 := ⟨_, rfl⟩
  obtain ⟨W0, hW0⟩ : ∃ W, W = Wq0.alloc (.cells #[.slice none 0 0, .int .i64 0, .slice none 0 0] 29) := ⟨_, rfl⟩
  have hsW0 : Stay (fun _ => False) Wq0 W0 := by rw [hW0]; exact (Stay.refl _ _).alloc _
  have hpb6 : Wq0.heap.size = b6 := by rw [hb6]; rw [hWq0, World.size_alloc]
  have HBb3 := hide' (show XBox W0 b3 (xs x n nx) from (show XBox Wq0 b3 (xs x n nx) from (by rw [hWq0]; exact xbox_new w x n nx hpb3)).keep ((Stay.refl (fun _ => False) Wq0).trans hsW0))
  have HZb3 : Hid (w.heap.size ≤ b3) := by show _ ≤ _; omega
  have HBb6 := hide' (show XBox W0 b6 ⟨.slice none 0 0, 0, .slice none 0 0⟩ from (show XBox W0 b6 ⟨.slice none 0 0, 0, .slice none 0 0⟩ from (by rw [hW0]; exact XBox.new ⟨.slice none 0 0, 0, .slice none 0 0⟩ hpb6)).keep (Stay.refl (fun _ => False) W0))
  have HZb6 : Hid (w.heap.size ≤ b6) := by show _ ≤ _; omega
  have HS0 := hide' (((Stay.refl (fun _ => False) w).trans hsWq0).trans hsW0)
  have HW0 : Hid (W0 = ((w.alloc (.cells #[.slice x.a n x.cap, .int .i64 nx, .slice x.a2 65 x.c2] 29)).alloc (.cells #[.slice none 0 0, .int .i64 0, .slice none 0 0] 29))) := by show _ = _; rw [hW0, hWq0]
  have HXA := hide' (h.keep HS0.out)
  have HX0 := hide' h
  have HN := hide' hn
  have hn1 : (n : Int) ≤ 256 := by have := h.len; omega
  have hat := at14 y nx HXA.out
  rw [ixI_at hu hp hx, ← hn] at hat
  have HAT := hide' hat
  clear hat
  have HP := hide' hp
  have hin1 : (i : Int) < (n : Nat) := by have := (List.getElem?_eq_some_iff.1 hp).1; omega
  rw [← hn]
  clear h hn hx hu hp
  clear hWq0 hW0 hsWq0 hsW0 hpb3 hpb6
  obtain ⟨e0, e1, e2, _⟩ := HBb3.out
  simp only [xs] at e0 e1 e2
  go_enter Try.func31, Try.ntmps31
  go_upto_region 1 with fail
  rw [← HW0.out, ← hb6, ← hb3]
  clear HW0 hb3 hb6
  go_wp2_with fail
  refine HAT.out.mono ?_
  rintro _ w1 ⟨rfl, hs⟩
  have HB3 := hide' (HBb3.out.keep hs)
  have HB6 := hide' (HBb6.out.keep hs)
  have HS9 := hide' (HS0.out.trans hs)
  have HXA1 := hide' (HXA.out.keep hs)
  clear hs HAT HBb3 HBb6 HXA e0 e1 e2
  obtain ⟨e0, e1, e2, _⟩ := HB3.out
  simp only [xs] at e0 e1 e2
  obtain ⟨g, o, hxa, hpb⟩ := HXA1.out.rd i p HP.out
  obtain ⟨d0, d1, d2, d3, d4, d5⟩ := hpb
  rw [hxa] at e0
  obtain ⟨b9, hb9⟩ : ∃ b, b = w1.heap.size := ⟨_, rfl⟩
  obtain ⟨W5, hW5⟩ : ∃ W, W = w1.alloc (.cells #[.int .i64 p.pid, .int .i64 p.par, .int .i64 p.grp, .int .i64 p.ses, .int .i64 p.tty, .bool p.df] 40) := ⟨_, rfl⟩
  have hs5 : Stay (fun _ => False) w1 W5 := by rw [hW5]; exact (Stay.refl _ _).alloc _
  have HP5 : Hid (PBox W5 b9 p) := by rw [hW5]; exact PBox.new p hb9.symm
  have HB3' := hide' (HB3.out.keep hs5)
  have HB6' := hide' (HB6.out.keep hs5)
  have HS9' := hide' (HS9.out.trans hs5)
  have HXA1' := hide' (HXA1.out.keep hs5)
  have HPL : Hid (w.heap.size ≤ b9) := by show _ ≤ _; rw [hb9]; exact HS9.out.size
  have HPN : Hid (w1.heap.size ≤ b9) := by show _ ≤ _; rw [hb9]; exact Nat.le_refl _
  have HP6 : Hid (¬ b9 = b6) := by have := HB6.out.lt; show ¬ _; omega
  clear hs5 hxa
  go_upto_region 7 with fail
  rw [← hb9, ← hW5]
  clear hb9 hW5 e0 e1 e2 d0 d1 d2 d3 d4 d5 HB3 HB6 HS9 HXA1
  have HB3 := HB3'
  clear HB3'
  have HB6 := HB6'
  clear HB6'
  have HS9 := HS9'
  clear HS9'
  have HXA1 := HXA1'
  clear HXA1'
  obtain ⟨d0, d1, d2, d3, d4, d5, _⟩ := HP5.out
  obtain ⟨e0, e1, e2, _⟩ := HB3.out
  simp only [xs] at e0 e1 e2
  obtain ⟨k0, k1, k2, r0, r1, r2⟩ := HB6.out
  go_wp2
  have h3 := XBox.stay_put HS9.out HZb6.out (.slice x.a n x.cap) (.int .i64 nx) (.slice x.a2 65 x.c2)
  have h5 := HX0.out.keep h3
  rw [HN.out] at h3 h5 ⊢
  exact bodyPost_ret (results_x1 rfl _ _ b6 x _ nx _ rfl rfl ( HB6.out.put (xs x _ nx))) rfl ⟨x, rfl, h5, h3, XFrom.refl _ _⟩

theorem rattach31_busy (y t nx : Int) {i : Nat} {p : Pr} (h : XAt w x L f) (hu : Up L) (hp : L[i]? = some p) (hx : p.pid = y) (h1 : 1 ≤ t) (h2 : t ≤ 64) (hl : (p.ses != y) = false) (hy : (p.tty != 0) = false) (hb : (sesI L t != 0) = true) : Calls Try.prog 31 #[.agg #[.slice x.a L.length x.cap, .int .i64 nx, .slice x.a2 65 x.c2], .int .i64 y, .int .i64 t] w (XG2 x L nx f 8 w) := by
  obtain ⟨n, hn⟩ : ∃ n, n = L.length := ⟨_, rfl⟩
  obtain ⟨b3, hb3⟩ : ∃ b, b = w.heap.size := ⟨_, rfl⟩
  obtain ⟨Wq0, hWq0⟩ : ∃ W, W = w.alloc (.cells #[.slice x.a n x.cap, .int .i64 nx, .slice x.a2 65 x.c2] 29) := ⟨_, rfl⟩
  have hsWq0 : Stay (fun _ => False) w Wq0 := by rw [hWq0]; exact (Stay.refl _ _).alloc _
  have hpb3 : w.heap.size = b3 := by rw [hb3]
  obtain ⟨b6, hb6⟩ : ∃ b, b = w.heap.size + 1 := ⟨_, rfl⟩
  obtain ⟨W0, hW0⟩ : ∃ W, W = Wq0.alloc (.cells #[.slice none 0 0, .int .i64 0, .slice none 0 0] 29) := ⟨_, rfl⟩
  have hsW0 : Stay (fun _ => False) Wq0 W0 := by rw [hW0]; exact (Stay.refl _ _).alloc _
  have hpb6 : Wq0.heap.size = b6 := by rw [hb6]; rw [hWq0, World.size_alloc]
  have HBb3 := hide' (show XBox W0 b3 (xs x n nx) from (show XBox Wq0 b3 (xs x n nx) from (by rw [hWq0]; exact xbox_new w x n nx hpb3)).keep ((Stay.refl (fun _ => False) Wq0).trans hsW0))
  have HZb3 : Hid (w.heap.size ≤ b3) := by show _ ≤ _; omega
  have HBb6 := hide' (show XBox W0 b6 ⟨.slice none 0 0, 0, .slice none 0 0⟩ from (show XBox W0 b6 ⟨.slice none 0 0, 0, .slice none 0 0⟩ from (by rw [hW0]; exact XBox.new ⟨.slice none 0 0, 0, .slice none 0 0⟩ hpb6)).keep (Stay.refl (fun _ => False) W0))
  have HZb6 : Hid (w.heap.size ≤ b6) := by show _ ≤ _; omega
  have HS0 := hide' (((Stay.refl (fun _ => False) w).trans hsWq0).trans hsW0)
  have HW0 : Hid (W0 = ((w.alloc (.cells #[.slice x.a n x.cap, .int .i64 nx, .slice x.a2 65 x.c2] 29)).alloc (.cells #[.slice none 0 0, .int .i64 0, .slice none 0 0] 29))) := by show _ = _; rw [hW0, hWq0]
  have HXA := hide' (h.keep HS0.out)
  have HX0 := hide' h
  have HN := hide' hn
  have hn1 : (n : Int) ≤ 256 := by have := h.len; omega
  have hat := at14 y nx HXA.out
  rw [ixI_at hu hp hx, ← hn] at hat
  have HAT := hide' hat
  clear hat
  have HP := hide' hp
  have hin1 : (i : Int) < (n : Nat) := by have := (List.getElem?_eq_some_iff.1 hp).1; omega
  rw [← hn]
  clear h hn hx hu hp
  clear hWq0 hW0 hsWq0 hsW0 hpb3 hpb6
  obtain ⟨e0, e1, e2, _⟩ := HBb3.out
  simp only [xs] at e0 e1 e2
  go_enter Try.func31, Try.ntmps31
  go_upto_region 1 with fail
  rw [← HW0.out, ← hb6, ← hb3]
  clear HW0 hb3 hb6
  go_wp2_with fail
  refine HAT.out.mono ?_
  rintro _ w1 ⟨rfl, hs⟩
  have HB3 := hide' (HBb3.out.keep hs)
  have HB6 := hide' (HBb6.out.keep hs)
  have HS9 := hide' (HS0.out.trans hs)
  have HXA1 := hide' (HXA.out.keep hs)
  clear hs HAT HBb3 HBb6 HXA e0 e1 e2
  obtain ⟨e0, e1, e2, _⟩ := HB3.out
  simp only [xs] at e0 e1 e2
  obtain ⟨g, o, hxa, hpb⟩ := HXA1.out.rd i p HP.out
  obtain ⟨d0, d1, d2, d3, d4, d5⟩ := hpb
  rw [hxa] at e0
  obtain ⟨b9, hb9⟩ : ∃ b, b = w1.heap.size := ⟨_, rfl⟩
  obtain ⟨W5, hW5⟩ : ∃ W, W = w1.alloc (.cells #[.int .i64 p.pid, .int .i64 p.par, .int .i64 p.grp, .int .i64 p.ses, .int .i64 p.tty, .bool p.df] 40) := ⟨_, rfl⟩
  have hs5 : Stay (fun _ => False) w1 W5 := by rw [hW5]; exact (Stay.refl _ _).alloc _
  have HP5 : Hid (PBox W5 b9 p) := by rw [hW5]; exact PBox.new p hb9.symm
  have HB3' := hide' (HB3.out.keep hs5)
  have HB6' := hide' (HB6.out.keep hs5)
  have HS9' := hide' (HS9.out.trans hs5)
  have HXA1' := hide' (HXA1.out.keep hs5)
  have HPL : Hid (w.heap.size ≤ b9) := by show _ ≤ _; rw [hb9]; exact HS9.out.size
  have HPN : Hid (w1.heap.size ≤ b9) := by show _ ≤ _; rw [hb9]; exact Nat.le_refl _
  have HP6 : Hid (¬ b9 = b6) := by have := HB6.out.lt; show ¬ _; omega
  clear hs5 hxa
  go_upto_region 7 with fail
  rw [← hb9, ← hW5]
  clear hb9 hW5 e0 e1 e2 d0 d1 d2 d3 d4 d5 HB3 HB6 HS9 HXA1
  have HB3 := HB3'
  clear HB3'
  have HB6 := HB6'
  clear HB6'
  have HS9 := HS9'
  clear HS9'
  have HXA1 := HXA1'
  clear HXA1'
  obtain ⟨d0, d1, d2, d3, d4, d5, _⟩ := HP5.out
  have hse := session56 t nx HXA1.out
  rw [← HN.out] at hse
  have HSE := hide' hse
  clear hse
  obtain ⟨e0, e1, e2, _⟩ := HB3.out
  simp only [xs] at e0 e1 e2
  go_wp2_with fail
  refine HSE.out.mono ?_
  rintro _ w3 ⟨rfl, hs⟩
  have HB3' := hide' (HB3.out.keep hs)
  have HB6' := hide' (HB6.out.keep hs)
  have HS9' := hide' (HS9.out.trans hs)
  have HXA1' := hide' (HXA1.out.keep hs)
  have HP5' := hide' (HP5.out.keep hs)
  clear hs HSE e0 e1 e2 d0 d1 d2 d3 d4 d5
  clear HB3
  have HB3 := HB3'
  clear HB3'
  clear HB6
  have HB6 := HB6'
  clear HB6'
  clear HS9
  have HS9 := HS9'
  clear HS9'
  clear HXA1
  have HXA1 := HXA1'
  clear HXA1'
  clear HP5
  have HP5 := HP5'
  clear HP5'
  obtain ⟨e0, e1, e2, _⟩ := HB3.out
  simp only [xs] at e0 e1 e2
  obtain ⟨k0, k1, k2, r0, r1, r2⟩ := HB6.out
  go_wp2
  have h3 := XBox.stay_put HS9.out HZb6.out (.slice x.a n x.cap) (.int .i64 nx) (.slice x.a2 65 x.c2)
  have h5 := HX0.out.keep h3
  rw [HN.out] at h3 h5 ⊢
  exact bodyPost_ret (results_x1 rfl _ _ b6 x _ nx _ rfl rfl ( HB6.out.put (xs x _ nx))) rfl ⟨x, rfl, h5, h3, XFrom.refl _ _⟩

set_option maxHeartbeats 1000000 in
set_option maxRecDepth 100000 in
theorem rattach31 (y t nx : Int) {i : Nat} {p : Pr} (h : XAt w x L f) (hu : Up L) (hp : L[i]? = some p) (hx : p.pid = y) (h1 : 1 ≤ t) (h2 : t ≤ 64) (hl : (p.ses != y) = false) (hy : (p.tty != 0) = false) (hb : (sesI L t != 0) = false) : Calls Try.prog 31 #[.agg #[.slice x.a L.length x.cap, .int .i64 nx, .slice x.a2 65 x.c2], .int .i64 y, .int .i64 t] w (XG2 x (L.map (giveS y t)) nx (upd f t p.grp) 0 w) := by
  obtain ⟨k, rfl⟩ : ∃ k : Nat, t = (k : Int) := ⟨t.toNat, by omega⟩
  have HK : Hid (k < 65) := by show _ < _; omega
  obtain ⟨n, hn⟩ : ∃ n, n = L.length := ⟨_, rfl⟩
  obtain ⟨b3, hb3⟩ : ∃ b, b = w.heap.size := ⟨_, rfl⟩
  obtain ⟨Wq0, hWq0⟩ : ∃ W, W = w.alloc (.cells #[.slice x.a n x.cap, .int .i64 nx, .slice x.a2 65 x.c2] 29) := ⟨_, rfl⟩
  have hsWq0 : Stay (fun _ => False) w Wq0 := by rw [hWq0]; exact (Stay.refl _ _).alloc _
  have hpb3 : w.heap.size = b3 := by rw [hb3]
  obtain ⟨b6, hb6⟩ : ∃ b, b = w.heap.size + 1 := ⟨_, rfl⟩
  obtain ⟨W0, hW0⟩ : ∃ W, W = Wq0.alloc (.cells #[.slice none 0 0, .int .i64 0, .slice none 0 0] 29) := ⟨_, rfl⟩
  have hsW0 : Stay (fun _ => False) Wq0 W0 := by rw [hW0]; exact (Stay.refl _ _).alloc _
  have hpb6 : Wq0.heap.size = b6 := by rw [hb6]; rw [hWq0, World.size_alloc]
  have HBb3 := hide' (show XBox W0 b3 (xs x n nx) from (show XBox Wq0 b3 (xs x n nx) from (by rw [hWq0]; exact xbox_new w x n nx hpb3)).keep ((Stay.refl (fun _ => False) Wq0).trans hsW0))
  have HZb3 : Hid (w.heap.size ≤ b3) := by show _ ≤ _; omega
  have HBb6 := hide' (show XBox W0 b6 ⟨.slice none 0 0, 0, .slice none 0 0⟩ from (show XBox W0 b6 ⟨.slice none 0 0, 0, .slice none 0 0⟩ from (by rw [hW0]; exact XBox.new ⟨.slice none 0 0, 0, .slice none 0 0⟩ hpb6)).keep (Stay.refl (fun _ => False) W0))
  have HZb6 : Hid (w.heap.size ≤ b6) := by show _ ≤ _; omega
  have HS0 := hide' (((Stay.refl (fun _ => False) w).trans hsWq0).trans hsW0)
  have HW0 : Hid (W0 = ((w.alloc (.cells #[.slice x.a n x.cap, .int .i64 nx, .slice x.a2 65 x.c2] 29)).alloc (.cells #[.slice none 0 0, .int .i64 0, .slice none 0 0] 29))) := by show _ = _; rw [hW0, hWq0]
  have HN36 : Hid (¬ b3 = b6) := by show ¬ _; omega
  have HNBL : Hid (w.heap.size ≤ b6) := HZb6.out
  have HXA := hide' (h.keep HS0.out)
  have HX0 := hide' h
  have HN := hide' hn
  have hn1 : (n : Int) ≤ 256 := by have := h.len; omega
  have hat := at14 y nx HXA.out
  rw [ixI_at hu hp hx, ← hn] at hat
  have HAT := hide' hat
  clear hat
  have HP := hide' hp
  have hin1 : (i : Int) < (n : Nat) := by have := (List.getElem?_eq_some_iff.1 hp).1; omega
  rw [← hn]
  clear h hn hx hu hp
  clear hWq0 hW0 hsWq0 hsW0 hpb3 hpb6
  obtain ⟨e0, e1, e2, _⟩ := HBb3.out
  simp only [xs] at e0 e1 e2
  go_enter Try.func31, Try.ntmps31
  go_upto_region 1 with fail
  rw [← HW0.out, ← hb6, ← hb3]
  clear HW0 hb3 hb6
  go_wp2_with fail
  refine HAT.out.mono ?_
  rintro _ w1 ⟨rfl, hs⟩
  have HB3 := hide' (HBb3.out.keep hs)
  have HB6 := hide' (HBb6.out.keep hs)
  have HS9 := hide' (HS0.out.trans hs)
  have HXA1 := hide' (HXA.out.keep hs)
  clear hs HAT HBb3 HBb6 HXA e0 e1 e2
  obtain ⟨e0, e1, e2, _⟩ := HB3.out
  simp only [xs] at e0 e1 e2
  obtain ⟨g, o, hxa, hpb⟩ := HXA1.out.rd i p HP.out
  obtain ⟨d0, d1, d2, d3, d4, d5⟩ := hpb
  rw [hxa] at e0
  obtain ⟨b9, hb9⟩ : ∃ b, b = w1.heap.size := ⟨_, rfl⟩
  obtain ⟨W5, hW5⟩ : ∃ W, W = w1.alloc (.cells #[.int .i64 p.pid, .int .i64 p.par, .int .i64 p.grp, .int .i64 p.ses, .int .i64 p.tty, .bool p.df] 40) := ⟨_, rfl⟩
  have hs5 : Stay (fun _ => False) w1 W5 := by rw [hW5]; exact (Stay.refl _ _).alloc _
  have HP5 : Hid (PBox W5 b9 p) := by rw [hW5]; exact PBox.new p hb9.symm
  have HB3' := hide' (HB3.out.keep hs5)
  have HB6' := hide' (HB6.out.keep hs5)
  have HS9' := hide' (HS9.out.trans hs5)
  have HXA1' := hide' (HXA1.out.keep hs5)
  have HPL : Hid (w.heap.size ≤ b9) := by show _ ≤ _; rw [hb9]; exact HS9.out.size
  have HPN : Hid (w1.heap.size ≤ b9) := by show _ ≤ _; rw [hb9]; exact Nat.le_refl _
  have HP6 : Hid (¬ b9 = b6) := by have := HB6.out.lt; show ¬ _; omega
  clear hs5 hxa
  go_upto_region 7 with fail
  rw [← hb9, ← hW5]
  clear hb9 hW5 e0 e1 e2 d0 d1 d2 d3 d4 d5 HB3 HB6 HS9 HXA1
  have HB3 := HB3'
  clear HB3'
  have HB6 := HB6'
  clear HB6'
  have HS9 := HS9'
  clear HS9'
  have HXA1 := HXA1'
  clear HXA1'
  obtain ⟨d0, d1, d2, d3, d4, d5, _⟩ := HP5.out
  have hse := session56 (k : Int) nx HXA1.out
  rw [← HN.out] at hse
  have HSE := hide' hse
  clear hse
  obtain ⟨e0, e1, e2, _⟩ := HB3.out
  simp only [xs] at e0 e1 e2
  go_wp2_with fail
  refine HSE.out.mono ?_
  rintro _ w3 ⟨rfl, hs⟩
  have HB3' := hide' (HB3.out.keep hs)
  have HB6' := hide' (HB6.out.keep hs)
  have HS9' := hide' (HS9.out.trans hs)
  have HXA1' := hide' (HXA1.out.keep hs)
  have HP5' := hide' (HP5.out.keep hs)
  clear hs HSE e0 e1 e2 d0 d1 d2 d3 d4 d5
  clear HB3
  have HB3 := HB3'
  clear HB3'
  clear HB6
  have HB6 := HB6'
  clear HB6'
  clear HS9
  have HS9 := HS9'
  clear HS9'
  clear HXA1
  have HXA1 := HXA1'
  clear HXA1'
  clear HP5
  have HP5 := HP5'
  clear HP5'
  obtain ⟨wd, hwd⟩ : ∃ W, W = w3.drew := ⟨_, rfl⟩
  have hsd : Stay (fun _ => False) w3 wd := by rw [hwd]; exact (Stay.refl _ _).drew
  have hgv := give58 y (k : Int) nx (HXA1.out.keep hsd)
  rw [← HN.out] at hgv
  have HGV := hide' hgv
  have HB3' := hide' (HB3.out.keep hsd)
  have HB6' := hide' (HB6.out.keep hsd)
  have HP5' := hide' (HP5.out.keep hsd)
  have HS9' := hide' (HS9.out.trans hsd)
  have HDZ : Hid (b6 < wd.heap.size) := (HB6.out.keep hsd).lt
  clear hsd hgv HXA1
  go_upto_region 9 with fail
  refine any_begin (fun w' => XBox w' b3 (xs x n nx) ∧ PBox w' b9 p) (by kernel_rfl) (fun K0 hK0 => ?_)
  rw [← hwd]
  clear hwd
  clear HB3
  have HB3 := HB3'
  clear HB3'
  clear HB6
  have HB6 := HB6'
  clear HB6'
  clear HP5
  have HP5 := HP5'
  clear HP5'
  clear HS9
  have HS9 := HS9'
  clear HS9'
  refine any_take (i := 0) hK0 (some 44) (.load 29 (.tmp 3)) 29 _ (by kernel_rfl) (fun _ d _ _ _ h => by cases d <;> exact h) (by kernel_rfl) (by kernel_rfl) (fun w' hS' => by exact run_load_XBox rfl rfl hS'.1) ⟨HB3.out, HP5.out⟩ (fun K1 hK1 => ?_)
  clear hK0 K0
  try simp only [Act.put, lA, lZ, lS]
  refine any_take (i := 1) hK1 (some 45) (.move (.tmp 1)) 3 _ (by kernel_rfl) (fun _ d _ _ _ h => by cases d <;> exact h) (by kernel_rfl) (by kernel_rfl) (fun w' hS' => by simp only [opr]; go_simp; try with_reducible rfl) ⟨HB3.out, HP5.out⟩ (fun K2 hK2 => ?_)
  clear hK1 K1
  try simp only [Act.put, lA, lZ, lS]
  refine any_take (i := 2) hK2 (some 46) (.move (.tmp 2)) 3 _ (by kernel_rfl) (fun _ d _ _ _ h => by cases d <;> exact h) (by kernel_rfl) (by kernel_rfl) (fun w' hS' => by simp only [opr]; go_simp; try with_reducible rfl) ⟨HB3.out, HP5.out⟩ (fun K3 hK3 => ?_)
  clear hK2 K2
  try simp only [Act.put, lA, lZ, lS]
  refine any_take (i := 4) hK3 (some 48) (.move (.tmp 2)) 3 _ (by kernel_rfl) (fun _ d _ _ _ h => by cases d <;> exact h) (by kernel_rfl) (by kernel_rfl) (fun w' hS' => by simp only [opr]; go_simp; try with_reducible rfl) ⟨HB3.out, HP5.out⟩ (fun K4 hK4 => ?_)
  clear hK3 K3
  try simp only [Act.put, lA, lZ, lS]
  refine any_take (i := 5) hK4 (some 49) (.fieldAddr 40 (.tmp 9) 2) 0 _ (by kernel_rfl) (fun _ d _ _ _ h => by cases d <;> exact h) (by kernel_rfl) (by kernel_rfl) (fun w' hS' => by simp only [opr]; go_simp; try with_reducible rfl) ⟨HB3.out, HP5.out⟩ (fun K5 hK5 => ?_)
  clear hK4 K4
  try simp only [Act.put, lA, lZ, lS]
  refine any_take (i := 6) hK5 (some 50) (.load 3 (.tmp 49)) 3 _ (by kernel_rfl) (fun _ d _ _ _ h => by cases d <;> exact h) (by kernel_rfl) (by kernel_rfl) (fun w' hS' => by (obtain ⟨_, ⟨_, _, y2, _⟩⟩ := hS'; simp only [opr]; go_simp; try with_reducible rfl)) ⟨HB3.out, HP5.out⟩ (fun K6 hK6 => ?_)
  clear hK5 K5
  try simp only [Act.put, lA, lZ, lS]
  refine any_pick (rs := [3]) hK6 (by kernel_rfl) (fun K7 hK7 => ?_)
  clear hK6 K6
  intro i hi
  simp only [List.mem_cons, List.not_mem_nil, or_false] at hi
  rcases hi with rfl
  refine op_plain (some 47) (.call { callee := Callee.value (.func 58), args := #[.tmp 44, .tmp 45, .tmp 46], argTypes := #[29, 3, 3] }) 29 (by kernel_rfl) (by kernel_rfl) ?_
  go_wp2_with fail
  refine HGV.out.mono ?_
  rintro _ w5 ⟨x2, rfl, hx2, hs, hf2⟩
  have HB3' := hide' (HB3.out.keep hs)
  have HB6' := hide' (HB6.out.keep hs)
  have HP5' := hide' (HP5.out.keep hs)
  have HS9' := hide' (HS9.out.trans hs)
  have HFT : Hid (Calls Try.prog 57 #[.agg #[.slice x2.a (L.map (giveS y (k : Int))).length x2.cap, .int .i64 nx, .slice x2.a2 65 x2.c2], .int .i64 (k : Nat), .int .i64 p.grp] w5 (XGives x2 (L.map (giveS y (k : Int))) nx (upd f (k : Int) p.grp) w5)) := front57 k p.grp nx hx2 HK.out
  have HFA := hide' hf2
  obtain ⟨n2, hn2⟩ : ∃ z, z = (L.map (giveS y (k : Int))).length := ⟨_, rfl⟩
  have HN2 := hide' hn2
  rw [← hn2] at HFT ⊢
  have HSZ := hide' (HS9.out.size)
  clear hx2 hs hf2 hn2 HGV
  clear HB3
  have HB3 := HB3'
  clear HB3'
  clear HB6
  have HB6 := HB6'
  clear HB6'
  clear HP5
  have HP5 := HP5'
  clear HP5'
  clear HS9
  have HS9 := HS9'
  clear HS9'
  go_wp2
  refine hK7 3 (by simp) _ _ ⟨HB3.out, HP5.out⟩ (any_more fun K8 hK8 => ?_)
  clear hK7 K7
  refine any_pick (rs := [7]) hK8 (by kernel_rfl) (fun K9 hK9 => ?_)
  clear hK8 K8
  intro i hi
  simp only [List.mem_cons, List.not_mem_nil, or_false] at hi
  rcases hi with rfl
  refine op_plain (some 51) (.call { callee := Callee.value (.func 57), args := #[.tmp 47, .tmp 48, .tmp 50], argTypes := #[29, 3, 3] }) 29 (by kernel_rfl) (by kernel_rfl) ?_
  go_wp2_with fail
  refine HFT.out.mono ?_
  rintro _ w6 ⟨x3, rfl, hx3, hs, hf3⟩
  have HB3' := hide' (HB3.out.keep hs)
  have HB6' := hide' (HB6.out.keep hs)
  have HP5' := hide' (HP5.out.keep hs)
  have HX3 := hide' hx3
  have HNB : Hid (∀ j, x3.has j → ¬ j = b6) := fun j hj => by
    rcases hf3 j hj with e | e
    · rcases HFA.out j e with e | e
      · have := HX0.out.lt j e; have := HNBL.out; omega
      · have := HDZ.out; omega
    · have := HB6.out.lt; omega
  have HF3 : Hid (XFrom w x x3) := fun j hj => by
    rcases hf3 j hj with e | e
    · rcases HFA.out j e with e | e
      · exact .inl e
      · have := HSZ.out; exact .inr (by omega)
    · have := HS9.out.size; exact .inr (by omega)
  have HS9' := hide' (HS9.out.trans hs)
  rw [← HN2.out]
  clear hx3 hs hf3 HFT HFA
  clear HB3
  have HB3 := HB3'
  clear HB3'
  clear HB6
  have HB6 := HB6'
  clear HB6'
  clear HP5
  have HP5 := HP5'
  clear HP5'
  clear HS9
  have HS9 := HS9'
  clear HS9'
  go_wp2
  refine hK9 7 (by simp) _ _ ⟨HB3.out, HP5.out⟩ (any_more fun K10 hK10 => ?_)
  clear hK9 K9
  refine any_pick (rs := [8]) hK10 (by kernel_rfl) (fun K11 hK11 => ?_)
  clear hK10 K10
  intro i hi
  simp only [List.mem_cons, List.not_mem_nil, or_false] at hi
  rcases hi with rfl
  refine op_plain none (.store 29 (.tmp 6) (.tmp 51)) 0 (by kernel_rfl) (by kernel_rfl) ?_
  obtain ⟨k0, k1, k2, r0, r1, r2⟩ := HB6.out
  go_wp2
  clear k0 k1 k2 r0 r1 r2
  have hps := XBox.put_stay w6 b6 (.slice x3.a n2 x3.cap) (.int .i64 nx) (.slice x3.a2 65 x3.c2)
  have HB3' := hide' (HB3.out.stay hps HN36.out)
  have HP5' := hide' (HP5.out.stay hps HP6.out)
  clear hps
  clear HB3
  have HB3 := HB3'
  clear HB3'
  clear HP5
  have HP5 := HP5'
  clear HP5'
  refine hK11 8 (by simp) _ _ ⟨HB3.out, HP5.out⟩ (any_more fun K12 hK12 => ?_)
  clear hK11 K11
  refine any_take (i := 9) hK12 (some 7) (.assign (.const (Value.int IntKind.i64 0))) 3 _ (by kernel_rfl) (fun _ d _ _ _ h => by cases d <;> exact h) (by kernel_rfl) (by kernel_rfl) (fun w' hS' => by simp only [opr]; go_simp; try with_reducible rfl) ⟨HB3.out, HP5.out⟩ (fun K13 hK13 => ?_)
  clear hK12 K12
  try simp only [Act.put, lA, lZ, lS]
  refine any_done hK13 (by kernel_rfl) ?_
  clear hK13 K13
  go_wp2
  have h3 := XBox.stay_put HS9.out HZb6.out (.slice x3.a n2 x3.cap) (.int .i64 nx) (.slice x3.a2 65 x3.c2)
  have h5 := HX3.out.stay (XBox.put_stay _ b6 (.slice x3.a n2 x3.cap) (.int .i64 nx) (.slice x3.a2 65 x3.c2)) HNB.out
  rw [HN2.out] at h3 h5 ⊢
  exact bodyPost_ret (results_x1 rfl _ _ b6 x3 _ nx _ rfl rfl (HB6.out.put (xs x3 _ nx))) rfl ⟨x3, rfl, h5, h3, HF3.out⟩

end Go.Proofs.Ytefpifnfinkbaaa
