/-
  The program's tests; what is taken back, and shown: walked. No conditions.
-/
import Derived.Test.YtjfhmpjpdcckhaaL18DA
import Derived.Deep.CutBlock
namespace Go.Proofs.Ytjfhmpjpdcckhaa.L18
open Go.RowKit

open L17

variable {q : Pl} {d : DS} {sg : Int}

theorem p_blank (c : Int) (w : World) : Calls Try.prog 65 #[.int .u8 c] w (Gives (.bool (DS.blk c)) w) := by
  have HS := hide' (Stay.refl (fun _ => False) w)
  have HQ : Hid (DS.blk c = (c == 32 || c == 9)) := rfl
  obtain ⟨u, hu⟩ : ∃ z, z = DS.blk c := ⟨_, rfl⟩
  rw [← hu] at HQ ⊢
  clear hu
  by_cases h32 : c = 32
  · subst h32
    go_enter Try.func65, Try.ntmps65
    go_wp2
    go_ret
    exact ⟨ret_bool (by rw [HQ.out]; rfl), HS.out⟩
  · have e32 : (c == 32) = false := by simpa using h32
    go_enter Try.func65, Try.ntmps65
    go_wp2
    go_ret
    exact ⟨ret_bool (by rw [HQ.out, e32]; simp), HS.out⟩

theorem test_blank (q : Pl) : Test q 65 (fun c => #[.int .u8 c]) (fun _ _ => True) (fun _ c => DS.blk c) (fun _ => False) :=
  ⟨fun _ w c _ _ _ => (p_blank c w).mono (fun _ _ h => ⟨h.1, trivial, h.2⟩), fun _ _ _ _ _ => trivial, fun _ h => h.elim⟩

theorem test_other (q : Pl) : Test q 66 (fun c => #[.int .u8 c]) (fun _ _ => True) (fun _ c => !DS.blk c) (fun _ => False) := by
  refine ⟨fun k w c _ _ _ => ?_, fun _ _ _ _ _ => trivial, fun _ h => h.elim⟩
  have H := hide' (p_blank c w)
  show Calls Try.prog 66 #[.int .u8 c] w _
  obtain ⟨u, hu⟩ : ∃ z, z = DS.blk c := ⟨_, rfl⟩
  rw [← hu] at H ⊢
  clear hu
  go_enter Try.func66, Try.ntmps66
  go_wp2_with fail
  refine H.out.mono ?_
  rintro e w1 ⟨rfl, hs⟩
  have HS := hide' hs
  clear hs
  go_wp2
  go_ret
  exact ⟨rfl, trivial, HS.out⟩

theorem test_all (q : Pl) : Test q 69 (fun c => #[.int .u8 c]) (fun _ _ => True) (fun _ _ => true) (fun _ => False) := by
  refine ⟨fun k w c _ _ _ => ?_, fun _ _ _ _ _ => trivial, fun _ h => h.elim⟩
  have HS := hide' (Stay.refl (fun _ => False) w)
  show Calls Try.prog 69 #[.int .u8 c] w _
  go_enter Try.func69, Try.ntmps69
  go_wp2
  go_ret
  exact ⟨rfl, trivial, HS.out⟩

/-- A number that is counted down. -/
def Left (z : Nat) (k : Nat) (w : World) : Prop := w.cell? ⟨z, 0, none⟩ = some (.int .i64 (wrap64 (1 - (k : Int)))) ∧ w.frozen? ⟨z, 0, none⟩ = false

def oneP (k : Nat) (_ : Int) : Bool := wrap64 (-(k : Int)) == 0

theorem test_one (q : Pl) (z : Nat) (hz : ¬ q.U z) : Test q 68 (fun c => #[.int .u8 c, .pointer (some ⟨z, 0, none⟩)]) (Left z) oneP (fun j => j = z) := by
  refine ⟨fun k w c hm _ _ => ?_, fun k w w' hm hs => ?_, fun j e h => hz (by rw [← e]; exact h)⟩
  · obtain ⟨hc, hf⟩ := hm
    have HS := hide' (at_p w z 0 (.int .i64 (wrap64 (1 - ((k + 1 : Nat) : Int)))))
    show Calls Try.prog 68 #[.int .u8 c, .pointer (some ⟨z, 0, none⟩)] w _
    obtain ⟨v, hv⟩ : ∃ v, v = wrap64 (1 - (k : Int)) := ⟨_, rfl⟩
    obtain ⟨u, hu⟩ : ∃ u, u = wrap64 (1 - ((k + 1 : Nat) : Int)) := ⟨_, rfl⟩
    have HU : Hid (oneP k c = (u == 0)) := by
      show (wrap64 (-(k : Int)) == 0) = _
      rw [hu, show (1 - ((k + 1 : Nat) : Int)) = -(k : Int) by omega]
    have e1 : wrap64 (v - 1) = u := by rw [hv, hu]; unfold wrap64; omega
    have HU2 := hide' hu
    rw [← hv] at hc
    rw [← hu] at HS
    have HF := hide' hf
    have HC := hide' hc
    clear hv hu
    go_enter Try.func68, Try.ntmps68
    go_wp2
    go_ret
    refine ⟨ret_bool ?_, ⟨?_, ?_⟩, HS.out⟩
    · rw [HU.out]
    · rw [← HU2.out]; have h1 := HC.out; simp [go_sem, h1]
    · have := HF.out; simp [go_sem, this]
  · have hlt := World.block_lt_of_cell? _ _ hm.1
    exact ⟨(hs.cell (p := ⟨z, 0, none⟩) hlt hz).trans hm.1, (hs.frozen (p := ⟨z, 0, none⟩) hlt hz).trans hm.2⟩

theorem backsK_one' (d : DS) : backsK oneP d.line.length 0 d = DS.backs (fun _ => true) 1 d := by
  have h0 : ∀ c, oneP 0 c = true := fun c => by unfold oneP wrap64; decide
  have h1 : ∀ c, oneP 1 c = false := fun c => by unfold oneP wrap64; decide
  cases hl : d.line.length with
  | zero =>
    have e : d.line = [] := List.eq_nil_of_length_eq_zero hl
    show d = if d.line = [] then d else _
    rw [if_pos e]
  | succ n =>
    show (if d.line = [] then d else if oneP 0 (d.line.getLastD 0) = true then backsK oneP n (0 + 1) d.back else d) = if d.line = [] then d else if true = true then DS.backs (fun _ => true) 0 d.back else d
    split
    · rfl
    · rw [if_pos (h0 _), backsK_stop _ _ _ _ (h1 _)]
      rfl

theorem Ok.backsK {N : Nat} (pr : Nat → Int → Bool) : ∀ (n k : Nat) {d : DS}, Ok N d → Ok N (backsK pr n k d)
  | 0, _, _, h => h
  | n + 1, k, d, h => by
    show Ok N (if d.line = [] then d else if pr k (d.line.getLastD 0) = true then L18.backsK pr n (k + 1) d.back else d)
    split
    · exact h
    · split
      · exact Ok.backsK pr n (k + 1) h.back
      · exact h

theorem backsK_t (pr : Nat → Int → Bool) : ∀ (n k : Nat) (d : DS), (backsK pr n k d).t = d.t
  | 0, _, _ => rfl
  | n + 1, k, d => by
    show (if d.line = [] then d else if pr k (d.line.getLastD 0) = true then backsK pr n (k + 1) d.back else d).t = d.t
    split
    · rfl
    · split
      · exact backsK_t pr n (k + 1) d.back
      · rfl

theorem backsK_ec (pr : Nat → Int → Bool) : ∀ (n k : Nat) (d : DS), (backsK pr n k d).ec.length + 6 * (backsK pr n k d).line.length ≤ d.ec.length + 6 * d.line.length
  | 0, _, _ => Nat.le_refl _
  | n + 1, k, d => by
    show (if d.line = [] then d else if pr k (d.line.getLastD 0) = true then backsK pr n (k + 1) d.back else d).ec.length + 6 * (if d.line = [] then d else if pr k (d.line.getLastD 0) = true then backsK pr n (k + 1) d.back else d).line.length ≤ _
    split
    · exact Nat.le_refl _
    · rename_i hne
      split
      · have h1 := backsK_ec pr n (k + 1) d.back
        have h2 : d.back.ec.length = d.ec.length + (d.rub (d.line.getLastD 0)).length := by show (d.ec ++ _).length = _; rw [List.length_append]
        have h3 := rub_six d (d.line.getLastD 0)
        have h4 : d.back.line.length = d.line.length - 1 := by rw [back_line, List.length_dropLast]
        have h5 : 0 < d.line.length := List.length_pos_iff.2 hne
        omega
      · exact Nat.le_refl _

/-- Behind it c is shown, where taking back can't be seen. -/
def eraseS (E : DS) (c : Int) : DS := if E.loc 4 = false then E.shw c else E

set_option maxHeartbeats 1000000 in
theorem s_eraseC {N : Nat} {M : Nat → World → Prop} {pr : Nat → Int → Bool} {Z : Nat → Prop} (z : Nat) (hT : Test q 68 (fun c => #[.int .u8 c, .pointer (some ⟨z, 0, none⟩)]) M pr Z) (c : Int) (w : World) (h : SD w q d sg) (hm : M 0 w) (hO : Ok N d) (hc0 : 0 ≤ c) (hc1 : c < 256) (hn : d.ec.length ≤ 700000) : Calls Try.prog 67 #[.pointer (some ⟨q.b, 0, none⟩), .int .u8 c, .func (.func 68) #[] #[.pointer (some ⟨z, 0, none⟩)]] w (BackR q Z (eraseS (backsK pr d.line.length 0 d) c) sg w) := by
  have HBK := hide' (s_backC z hT w h hm hO (by omega))
  have HE : Hid (Ok N (backsK pr d.line.length 0 d)) := hO.backsK pr _ _
  have HEC : Hid ((backsK pr d.line.length 0 d).ec.length ≤ 800000) := by
    have h1 := backsK_ec pr d.line.length 0 d
    have h2 := hO.line
    show _ ≤ _
    omega
  obtain ⟨E, hE⟩ : ∃ z, z = backsK pr d.line.length 0 d := ⟨_, rfl⟩
  rw [← hE] at HBK HE HEC ⊢
  clear hE hT h hm hn hO
  have HQ : Hid (eraseS E c = if E.loc 4 = false then E.shw c else E) := rfl
  have HSH : Hid (∀ w', SD w' q E sg → Calls Try.prog 54 #[.pointer (some ⟨q.b, 0, none⟩), .int .u8 c] w' (TurnD q (E.shw c) sg (.tuple #[]) w')) := fun w' hh => s_show c w' hh HE.out.right hc0 hc1 (by have := HEC.out; omega)
  have hT := HE.out.right
  obtain ⟨q4, h_q4⟩ : ∃ z, z = hasB E.t.fl 4 := ⟨_, rfl⟩
  have HK_q4 : Hid (∀ w' d' sg', d'.t = E.t → SD w' q d' sg' → Calls Try.prog 31 #[.pointer (some ⟨q.p, 0, none⟩), .int .i64 4] w' (Gives (.bool q4) w')) := fun w' d' sg' et hh => by
    rw [h_q4, ← et]
    have ht : rightB d'.ps.t = true := by show rightB d'.t = true; rw [et]; exact hT
    exact s_local (x := d'.ps) (ec := d'.ec) hh ht 4 (by simp)
  have HE_q4 := hide' h_q4
  clear h_q4
  have e4 : E.loc 4 = q4 := HE_q4.out.symm
  rw [e4] at HQ
  clear e4 HE_q4 hT hc0 hc1
  go_enter Try.func67, Try.ntmps67
  go_wp2_with fail
  refine HBK.out.mono ?_
  rintro e w1 ⟨rfl, hr, hs⟩
  have HR1 := hide' hr
  have HS1 := hide' hs
  clear hr hs HBK
  have s0 := HR1.out.dp
  go_wp2_with fail
  refine (HK_q4.out _ _ _ rfl HR1.out).mono ?_
  rintro e w2 ⟨rfl, hs⟩
  have HR2 := hide' (HR1.out.keep hs)
  have HS2 := hide' (HS1.out.trans (hs.mono (fun _ _ h => h.elim)))
  clear hs s0 HR1 HS1
  cases q4
  · go_wp2_with fail
    refine (HSH.out _ HR2.out).mono ?_
    rintro e w3 ⟨rfl, hr, hs⟩
    have HR3 := hide' hr
    have HS3 := hide' (HS2.out.trans (hs.mono (T := fun j => q.U j ∨ Z j) (fun _ _ h => .inl h)))
    clear hr hs
    go_wp2
    go_returns
    refine ⟨rfl, ?_, HS3.out⟩
    rw [HQ.out]
    exact HR3.out
  · go_wp2
    go_returns
    refine ⟨rfl, ?_, HS2.out⟩
    rw [HQ.out]
    exact HR2.out

set_option maxHeartbeats 1000000 in
theorem s_eraseA {N : Nat} {M : Nat → World → Prop} {pr : Nat → Int → Bool} {Z : Nat → Prop} (hT : Test q 69 (fun c => #[.int .u8 c]) M pr Z) (c : Int) (w : World) (h : SD w q d sg) (hm : M 0 w) (hO : Ok N d) (hc0 : 0 ≤ c) (hc1 : c < 256) (hn : d.ec.length ≤ 700000) : Calls Try.prog 67 #[.pointer (some ⟨q.b, 0, none⟩), .int .u8 c, .func (.func 69) #[] #[]] w (BackR q Z (eraseS (backsK pr d.line.length 0 d) c) sg w) := by
  have HBK := hide' (s_backA hT w h hm hO (by omega))
  have HE : Hid (Ok N (backsK pr d.line.length 0 d)) := hO.backsK pr _ _
  have HEC : Hid ((backsK pr d.line.length 0 d).ec.length ≤ 800000) := by
    have h1 := backsK_ec pr d.line.length 0 d
    have h2 := hO.line
    show _ ≤ _
    omega
  obtain ⟨E, hE⟩ : ∃ z, z = backsK pr d.line.length 0 d := ⟨_, rfl⟩
  rw [← hE] at HBK HE HEC ⊢
  clear hE hT h hm hn hO
  have HQ : Hid (eraseS E c = if E.loc 4 = false then E.shw c else E) := rfl
  have HSH : Hid (∀ w', SD w' q E sg → Calls Try.prog 54 #[.pointer (some ⟨q.b, 0, none⟩), .int .u8 c] w' (TurnD q (E.shw c) sg (.tuple #[]) w')) := fun w' hh => s_show c w' hh HE.out.right hc0 hc1 (by have := HEC.out; omega)
  have hT := HE.out.right
  obtain ⟨q4, h_q4⟩ : ∃ z, z = hasB E.t.fl 4 := ⟨_, rfl⟩
  have HK_q4 : Hid (∀ w' d' sg', d'.t = E.t → SD w' q d' sg' → Calls Try.prog 31 #[.pointer (some ⟨q.p, 0, none⟩), .int .i64 4] w' (Gives (.bool q4) w')) := fun w' d' sg' et hh => by
    rw [h_q4, ← et]
    have ht : rightB d'.ps.t = true := by show rightB d'.t = true; rw [et]; exact hT
    exact s_local (x := d'.ps) (ec := d'.ec) hh ht 4 (by simp)
  have HE_q4 := hide' h_q4
  clear h_q4
  have e4 : E.loc 4 = q4 := HE_q4.out.symm
  rw [e4] at HQ
  clear e4 HE_q4 hT hc0 hc1
  go_enter Try.func67, Try.ntmps67
  go_wp2_with fail
  refine HBK.out.mono ?_
  rintro e w1 ⟨rfl, hr, hs⟩
  have HR1 := hide' hr
  have HS1 := hide' hs
  clear hr hs HBK
  have s0 := HR1.out.dp
  go_wp2_with fail
  refine (HK_q4.out _ _ _ rfl HR1.out).mono ?_
  rintro e w2 ⟨rfl, hs⟩
  have HR2 := hide' (HR1.out.keep hs)
  have HS2 := hide' (HS1.out.trans (hs.mono (fun _ _ h => h.elim)))
  clear hs s0 HR1 HS1
  cases q4
  · go_wp2_with fail
    refine (HSH.out _ HR2.out).mono ?_
    rintro e w3 ⟨rfl, hr, hs⟩
    have HR3 := hide' hr
    have HS3 := hide' (HS2.out.trans (hs.mono (T := fun j => q.U j ∨ Z j) (fun _ _ h => .inl h)))
    clear hr hs
    go_wp2
    go_returns
    refine ⟨rfl, ?_, HS3.out⟩
    rw [HQ.out]
    exact HR3.out
  · go_wp2
    go_returns
    refine ⟨rfl, ?_, HS2.out⟩
    rw [HQ.out]
    exact HR2.out

end Go.Proofs.Ytjfhmpjpdcckhaa.L18
