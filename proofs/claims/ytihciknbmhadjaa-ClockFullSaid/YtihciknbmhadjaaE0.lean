/-
  A clock and its timers: made, asked, timers let go: walked. No conditions.
-/
import Derived.Test.YtihciknbmhadjaaD6
namespace Go.Proofs.Ytihciknbmhadjaa
open Go.RowKit

/-- A clock: where it lies, its timers' slice. -/
structure Cq where
  b : Nat
  v : Value

/-- A block of the clock's. -/
def Cq.own (q : Cq) (j : Nat) : Prop := j = q.b ∨ q.v.ownBlock = some j

/-- The clock: its tick and its timers. -/
structure CAt (w : World) (q : Cq) (now : Int) (L : List Tm) : Prop where
  box : KBox w q.b ⟨now, q.v⟩
  row : Wv w q.v L
  vb : ∀ j, q.v.ownBlock = some j → ¬ j = q.b
  srt : Srt L
  len : L.length ≤ 1024
  n0 : 0 ≤ now
  n1 : now ≤ 1000000

theorem CAt.lt {w : World} {q : Cq} {now : Int} {L : List Tm} (h : CAt w q now L) : ∀ j, q.own j → j < w.heap.size := by
  intro j hj
  rcases hj with rfl | hj
  · exact h.box.lt
  · exact h.row.lt j hj

theorem CAt.stay {T : Nat → Prop} {w w1 : World} {q : Cq} {now : Int} {L : List Tm} (h : CAt w q now L) (hs : Stay T w w1) (hn : ∀ j, q.own j → ¬ T j) : CAt w1 q now L :=
  ⟨h.box.stay hs (hn _ (.inl rfl)), h.row.stay hs (fun j hj => hn j (.inr hj)), h.vb, h.srt, h.len, h.n0, h.n1⟩

theorem CAt.keep {w w1 : World} {q : Cq} {now : Int} {L : List Tm} (h : CAt w q now L) (hs : Stay (fun _ => False) w w1) : CAt w1 q now L := h.stay hs (fun _ _ h => h)

/-- What turned is the clock's; what is new of it is new. -/
def Moved (q q' : Cq) (w w' : World) : Prop := Stay q.own w w' ∧ ∀ j, q'.own j → q.own j ∨ w.heap.size ≤ j

theorem Moved.of_stay {q : Cq} {w w' : World} (h : Stay (fun _ => False) w w') : Moved q q w w' := ⟨h.mono (fun _ _ h => h.elim), fun _ h => .inl h⟩

theorem Moved.not {q q' : Cq} {w w' : World} (hm : Moved q q' w w') {j : Nat} (h1 : ¬ q.own j) (h2 : j < w.heap.size) : ¬ q'.own j := fun e => by
  rcases hm.2 j e with h | h
  · exact h1 h
  · omega

theorem Moved.trans {q q1 q2 : Cq} {w w1 w2 : World} (h : Moved q q1 w w1) (k : Moved q1 q2 w1 w2) : Moved q q2 w w2 :=
  ⟨h.1.trans2 k.1 (fun j hj e => by rcases h.2 j e with h | h; exact h; omega), fun j hj => by
    have hz := h.1.size
    rcases k.2 j hj with h1 | h1
    · exact h.2 j h1
    · exact .inr (by omega)⟩

theorem new8 (w : World) : Calls Try.prog 8 #[] w (fun e w' => ∃ q : Cq, e = .returned (.pointer (some ⟨q.b, 0, none⟩)) ∧ CAt w' q 0 [] ∧ Stay (fun _ => False) w w' ∧ ∀ j, q.own j → w.heap.size ≤ j) := by
  obtain ⟨W, hW⟩ : ∃ W, W = w.alloc (.cells #[.int .i64 0, .slice none 0 0] 47) := ⟨_, rfl⟩
  have HF : Hid (CAt W ⟨w.heap.size, .slice none 0 0⟩ 0 [] ∧ Stay (fun _ => False) w W) := by
    rw [hW]
    exact ⟨⟨KBox.new ⟨0, .slice none 0 0⟩ rfl, ⟨none, 0, rfl, Ws.empty _, fun _ => rfl⟩, (fun j hj => by cases hj), List.Pairwise.nil, by decide, by decide, by decide⟩, (Stay.refl _ _).alloc _⟩
  go_enter Try.func8, Try.ntmps8
  go_wp2
  go_ret
  rw [← hW]
  exact ⟨⟨w.heap.size, .slice none 0 0⟩, rfl, HF.out.1, HF.out.2, fun j hj => by
    rcases hj with h | h
    · exact Nat.le_of_eq h.symm
    · cases h⟩

theorem now17 (q : Cq) (now : Int) (L : List Tm) (w : World) (h : CAt w q now L) : Calls Try.prog 17 #[.pointer (some ⟨q.b, 0, none⟩)] w (Gives (.int .i64 now) w) := by
  have HS := hide' (Stay.refl (fun _ => False) w)
  obtain ⟨b0, b1, _, _⟩ := h.box
  simp only at b0 b1
  clear h
  go_enter Try.func17, Try.ntmps17
  go_wp2
  go_ret
  exact ⟨rfl, HS.out⟩

theorem all18 (q : Cq) (now : Int) (L : List Tm) (w : World) (h : CAt w q now L) : Calls Try.prog 18 #[.pointer (some ⟨q.b, 0, none⟩)] w (NewL L w) := by
  obtain ⟨b, v⟩ := q
  obtain ⟨a, cap, hv, hw, _⟩ := h.row
  simp only at hv
  subst hv
  have HC := hide' (clone24 a L.length cap L w hw (by have := h.len; omega))
  obtain ⟨b0, b1, _, _⟩ := h.box
  simp only at b0 b1
  obtain ⟨n, hn⟩ : ∃ n, n = L.length := ⟨_, rfl⟩
  rw [← hn] at HC b1
  clear h hw hn
  go_enter Try.func18, Try.ntmps18
  go_wp2_with fail
  refine HC.out.mono ?_
  rintro _ w1 ⟨a1, c1, rfl, hr⟩
  have HR := hide' hr
  clear hr HC b0 b1
  go_wp2
  go_ret
  exact ⟨a1, c1, rfl, HR.out⟩

/-- What a clock is behind a call that let timers go. -/
def EndF (p : Tm → Bool) (q : Cq) (now : Int) (L : List Tm) (x : Value) (w : World) (e : Ending) (w' : World) : Prop := ∃ v, e = .returned x ∧ CAt w' ⟨q.b, v⟩ now (outL p L) ∧ Moved q ⟨q.b, v⟩ w w'

/-- How many went. -/
def goneI (p : Tm → Bool) (L : List Tm) : Int := (L.length : Int) - ((outL p L).length : Int)

theorem own_map (a : Option Addr) (n c : Nat) : (Value.slice a n c).ownBlock = a.map Addr.block := by cases a <;> rfl

theorem end23_28 (q : Cq) (now : Int) (L : List Tm) (p : Tm → Bool) (bx bz : Nat) (w : World) (h : CAt w q now L)
    (hcl : ∀ w', Stay (fun j => q.v.ownBlock = some j) w w' → ∀ t : Tm, Calls Try.prog 28 #[.agg #[.int .i64 t.en, .int .i64 t.nr, .int .i64 t.du], .pointer (some ⟨bx, 0, none⟩), .pointer (some ⟨bz, 0, none⟩)] w' (Gives (.bool (p t)) w')) : Calls Try.prog 23 #[.pointer (some ⟨q.b, 0, none⟩), .func (.func 28) #[] #[.pointer (some ⟨bx, 0, none⟩), .pointer (some ⟨bz, 0, none⟩)]] w (EndF p q now L (.int .i64 (goneI p L)) w) := by
  obtain ⟨b, v⟩ := q
  obtain ⟨a, cap, hv, hw, h0⟩ := h.row
  simp only at hv
  subst hv
  have HD := hide' (deleteF34_28 a L.length cap L p bx bz w hw (by have := h.len; omega) (fun w' hs => hcl w' (hs.mono (fun j _ e => by rw [own_map]; exact e))))
  obtain ⟨b0, b1, f0, f1⟩ := h.box
  simp only at b0 b1 f0 f1
  obtain ⟨n, hn⟩ : ∃ n, n = L.length := ⟨_, rfl⟩
  have hol := outL_len p L
  rw [← hn] at HD b1 hol
  have hn1 : n ≤ 1024 := by have := h.len; omega
  have hn2 : (n : Int) ≤ 1024 := by omega
  obtain ⟨x, hx⟩ : ∃ x, x = goneI p L := ⟨_, rfl⟩
  rw [← hx]
  have HX : Hid (x = (n : Int) - ((outL p L).length : Int)) := by rw [hx, hn]; exact rfl
  have HN := hide' hn
  have HC := hide' h
  have HH0 := hide' h0
  have HOL := hide' hol
  clear h hw hcl hn hx h0 hol
  go_enter Try.func23, Try.ntmps23
  go_wp2_with fail
  refine HD.out.mono ?_
  rintro _ w1 ⟨k, rfl, hw1, hs1⟩
  have hk : (outL p L).length = k := hw1.1
  have HW1 := hide' hw1
  have HS1 := hide' hs1
  have HVB : Hid (∀ j, a.map Addr.block = some j → ¬ j = b) := fun j hj => HC.out.vb j (by rw [own_map]; exact hj)
  have hkb : KBox w1 b ⟨now, .slice a n cap⟩ := by
    have hb := HC.out.box
    rw [← HN.out] at hb
    exact hb.stay hs1 (fun e => HVB.out b e rfl)
  have HKB := hide' hkb
  have HK := hide' hk
  have hkn : k ≤ n := by rw [← hk]; exact HOL.out
  have hkz : (k : Int) ≤ (n : Nat) := by omega
  clear b0 b1 f0 f1
  obtain ⟨b0, b1, f0, f1⟩ := hkb
  simp only at b0 b1 f0 f1
  clear hw1 hs1 hk HD
  go_wp2
  go_ret
  generalize hWr : World.setCell _ _ _ = W5
  have hst : Stay (fun j => j = b) w1 W5 := by rw [← hWr]; exact (Stay.refl (fun j => j = b) w1).setCell (p := ⟨b, 1, none⟩) rfl _
  have hb5 : KBox W5 b ⟨now, .slice a k cap⟩ := by rw [← hWr]; exact HKB.out.put1 rfl
  have hw5 : Wv W5 (.slice a k cap) (outL p L) := ⟨a, cap, by rw [HK.out], by rw [HK.out]; exact HW1.out.stay hst (fun j hj e => HVB.out j hj e), HH0.out⟩
  refine ⟨.slice a k cap, by rw [HX.out, HK.out]; rfl, ⟨hb5, hw5, fun j hj => HVB.out j (by rw [← own_map]; exact hj), HC.out.srt.out p, by have h1 := HOL.out; have h2 := HC.out.len; have h3 := HN.out; omega, HC.out.n0, HC.out.n1⟩, ?_, fun j hj => .inl ?_⟩
  · exact (HS1.out.mono (fun j _ e => .inr (by rw [own_map]; exact e))).trans2 hst (fun j _ e => .inl e)
  · rcases hj with h | h
    · exact .inl h
    · exact .inr (by rw [own_map] at h; rw [own_map]; exact h)

theorem end23_26 (q : Cq) (now : Int) (L : List Tm) (p : Tm → Bool) (bx : Nat) (w : World) (h : CAt w q now L)
    (hcl : ∀ w', Stay (fun j => q.v.ownBlock = some j) w w' → ∀ t : Tm, Calls Try.prog 26 #[.agg #[.int .i64 t.en, .int .i64 t.nr, .int .i64 t.du], .pointer (some ⟨bx, 0, none⟩)] w' (Gives (.bool (p t)) w')) : Calls Try.prog 23 #[.pointer (some ⟨q.b, 0, none⟩), .func (.func 26) #[] #[.pointer (some ⟨bx, 0, none⟩)]] w (EndF p q now L (.int .i64 (goneI p L)) w) := by
  obtain ⟨b, v⟩ := q
  obtain ⟨a, cap, hv, hw, h0⟩ := h.row
  simp only at hv
  subst hv
  have HD := hide' (deleteF34_26 a L.length cap L p bx w hw (by have := h.len; omega) (fun w' hs => hcl w' (hs.mono (fun j _ e => by rw [own_map]; exact e))))
  obtain ⟨b0, b1, f0, f1⟩ := h.box
  simp only at b0 b1 f0 f1
  obtain ⟨n, hn⟩ : ∃ n, n = L.length := ⟨_, rfl⟩
  have hol := outL_len p L
  rw [← hn] at HD b1 hol
  have hn1 : n ≤ 1024 := by have := h.len; omega
  have hn2 : (n : Int) ≤ 1024 := by omega
  obtain ⟨x, hx⟩ : ∃ x, x = goneI p L := ⟨_, rfl⟩
  rw [← hx]
  have HX : Hid (x = (n : Int) - ((outL p L).length : Int)) := by rw [hx, hn]; exact rfl
  have HN := hide' hn
  have HC := hide' h
  have HH0 := hide' h0
  have HOL := hide' hol
  clear h hw hcl hn hx h0 hol
  go_enter Try.func23, Try.ntmps23
  go_wp2_with fail
  refine HD.out.mono ?_
  rintro _ w1 ⟨k, rfl, hw1, hs1⟩
  have hk : (outL p L).length = k := hw1.1
  have HW1 := hide' hw1
  have HS1 := hide' hs1
  have HVB : Hid (∀ j, a.map Addr.block = some j → ¬ j = b) := fun j hj => HC.out.vb j (by rw [own_map]; exact hj)
  have hkb : KBox w1 b ⟨now, .slice a n cap⟩ := by
    have hb := HC.out.box
    rw [← HN.out] at hb
    exact hb.stay hs1 (fun e => HVB.out b e rfl)
  have HKB := hide' hkb
  have HK := hide' hk
  have hkn : k ≤ n := by rw [← hk]; exact HOL.out
  have hkz : (k : Int) ≤ (n : Nat) := by omega
  clear b0 b1 f0 f1
  obtain ⟨b0, b1, f0, f1⟩ := hkb
  simp only at b0 b1 f0 f1
  clear hw1 hs1 hk HD
  go_wp2
  go_ret
  generalize hWr : World.setCell _ _ _ = W5
  have hst : Stay (fun j => j = b) w1 W5 := by rw [← hWr]; exact (Stay.refl (fun j => j = b) w1).setCell (p := ⟨b, 1, none⟩) rfl _
  have hb5 : KBox W5 b ⟨now, .slice a k cap⟩ := by rw [← hWr]; exact HKB.out.put1 rfl
  have hw5 : Wv W5 (.slice a k cap) (outL p L) := ⟨a, cap, by rw [HK.out], by rw [HK.out]; exact HW1.out.stay hst (fun j hj e => HVB.out j hj e), HH0.out⟩
  refine ⟨.slice a k cap, by rw [HX.out, HK.out]; rfl, ⟨hb5, hw5, fun j hj => HVB.out j (by rw [← own_map]; exact hj), HC.out.srt.out p, by have h1 := HOL.out; have h2 := HC.out.len; have h3 := HN.out; omega, HC.out.n0, HC.out.n1⟩, ?_, fun j hj => .inl ?_⟩
  · exact (HS1.out.mono (fun j _ e => .inr (by rw [own_map]; exact e))).trans2 hst (fun j _ e => .inl e)
  · rcases hj with h | h
    · exact .inl h
    · exact .inr (by rw [own_map] at h; rw [own_map]; exact h)

theorem cancel13 (q : Cq) (now e k : Int) (L : List Tm) (w : World) (h : CAt w q now L) : Calls Try.prog 13 #[.pointer (some ⟨q.b, 0, none⟩), .int .i64 e, .int .i64 k] w (EndF (isB e k) q now L (.bool (decide (0 < goneI (isB e k) L))) w) := by
  have HM := hide' (makes20 e k)
  have HC := hide' h
  obtain ⟨x, hx⟩ : ∃ x, x = goneI (isB e k) L := ⟨_, rfl⟩
  have HX := hide' hx
  rw [← hx]
  clear h hx
  go_enter Try.func13, Try.ntmps13
  go_wp2_with fail
  refine (HM.out _).mono ?_
  rintro _ w1 ⟨bx, bz, rfl, hs1, c0, c1, hb0, hb1⟩
  have hbl : bx < w1.heap.size ∧ bz < w1.heap.size := ⟨World.block_lt_of_cell? _ _ c0, World.block_lt_of_cell? _ _ c1⟩
  have HE := hide' (end23_28 q now L (isB e k) bx bz w1 (HC.out.keep hs1) (fun w' hs t => by
    refine is28 t bx bz e k w' ?_ ?_
    · rw [← c0]; exact hs.cell (p := ⟨bx, 0, none⟩) hbl.1 (fun e => by have := HC.out.lt bx (.inr e); omega)
    · rw [← c1]; exact hs.cell (p := ⟨bz, 0, none⟩) hbl.2 (fun e => by have := HC.out.lt bz (.inr e); omega)))
  rw [← HX.out] at HE
  have HS1 := hide' hs1
  clear hs1 c0 c1 hb0 hb1 hbl HM
  go_wp2_with fail
  refine HE.out.mono ?_
  rintro _ w2 ⟨v, rfl, hc, hm⟩
  have HF : Hid (CAt w2 ⟨q.b, v⟩ now (outL (isB e k) L) ∧ Moved q ⟨q.b, v⟩ w w2) := ⟨hc, (Moved.of_stay HS1.out).trans hm⟩
  clear hc hm HE
  go_wp2
  go_ret
  exact ⟨v, rfl, HF.out⟩

theorem kill16 (q : Cq) (now e : Int) (L : List Tm) (w : World) (h : CAt w q now L) : Calls Try.prog 16 #[.pointer (some ⟨q.b, 0, none⟩), .int .i64 e] w (EndF (ofB e) q now L (.int .i64 (goneI (ofB e) L)) w) := by
  obtain ⟨x, hx⟩ : ∃ x, x = goneI (ofB e) L := ⟨_, rfl⟩
  obtain ⟨bx, hbx⟩ : ∃ b, b = w.heap.size := ⟨_, rfl⟩
  obtain ⟨W0, hW0⟩ : ∃ W, W = w.alloc (.cells #[.int .i64 e] 3) := ⟨_, rfl⟩
  have hs0 : Stay (fun _ => False) w W0 := by rw [hW0]; exact (Stay.refl _ _).alloc _
  have hc0 : W0.cell? ⟨bx, 0, none⟩ = some (.int .i64 e) := by rw [hW0, hbx]; simp
  have HE := hide' (end23_26 q now L (ofB e) bx W0 (h.keep hs0) (fun w' hs t => by
    refine kill26 t bx e w' ?_
    rw [← hc0]; exact hs.cell (p := ⟨bx, 0, none⟩) (World.block_lt_of_cell? _ _ hc0) (fun e => by have := h.lt bx (.inr e); omega)))
  rw [← hx] at HE
  rw [← hx]
  have HS0 := hide' hs0
  clear h hs0 hc0 hx
  go_enter Try.func16, Try.ntmps16
  go_upto_region 1 with fail
  rw [← hW0, ← hbx]
  clear hW0 hbx
  go_wp2_with fail
  refine HE.out.mono ?_
  rintro _ w2 ⟨v, rfl, hc, hm⟩
  have HF : Hid (CAt w2 ⟨q.b, v⟩ now (outL (ofB e) L) ∧ Moved q ⟨q.b, v⟩ w w2) := ⟨hc, (Moved.of_stay HS0.out).trans hm⟩
  clear hc hm HE
  go_wp2
  go_ret
  exact ⟨v, rfl, HF.out⟩

end Go.Proofs.Ytihciknbmhadjaa
