/-
  Bytes handed in one by one; the example of the document: walked. No conditions.
-/
import Derived.Test.YtkggmjjjopfdbaaP0
namespace Go.Proofs.Ytkggmjjjopfdbaa
open Go.RowKit
open L17

theorem backs_ec (p : Int → Bool) : ∀ (n : Nat) (e : DS), Bd e → Bd (DS.backs p n e)
  | 0, _, h => h
  | n + 1, e, h => by
    show Bd (if e.line = [] then e else if p (e.line.getLastD 0) = true then DS.backs p n e.back else e)
    split
    · exact h
    · rename_i hne
      split
      · exact backs_ec p n e.back (back_bd e hne h)
      · exact h

theorem shows_ec : ∀ (l : List Int) (e : DS), (DS.shows l e).ec.length ≤ e.ec.length + 2 * l.length
  | [], _ => by simp [DS.shows]
  | c :: l, e => by
    have h1 := shows_ec l (e.shw c)
    have h2 := shw_ec e c
    show (DS.shows l (e.shw c)).ec.length ≤ _
    rw [List.length_cons]
    omega

theorem out_ec (e : DS) (l : List Int) : (e.out l).ec.length = e.ec.length + l.length := by show (e.ec ++ l).length = _; rw [List.length_append]

theorem ready_ec (e : DS) : e.ready.ec.length ≤ e.ec.length + 1 := by
  unfold DS.ready
  split
  · exact lost_ec (e.setLine [])
  · show e.ec.length ≤ _; omega

theorem canon_ec (e : DS) (c : Int) (h0 : e.ec = []) (hl : e.line.length ≤ 255) : (e.canon c).ec.length ≤ 3000 := by
  have hb : Bd e := ⟨hl, by rw [h0]; simp; omega⟩
  have hz : e.ec.length = 0 := by rw [h0]; rfl
  unfold DS.canon
  split
  · split
    · rw [out_ec]; show e.ec.length + 2 ≤ _; omega
    · show e.ec.length ≤ _; omega
  · split
    · have h := backs_ec (fun x => !DS.blk x) (DS.backs DS.blk e.line.length e).line.length _ (backs_ec DS.blk e.line.length e hb)
      have := h.2; omega
    · split
      · unfold DS.again
        simp only
        have h1 := shw_ec e c
        have h2 := shows_ec e.line (if e.loc 2 = true then (e.shw c).out [10] else e.shw c)
        have h3 : (if e.loc 2 = true then (e.shw c).out [10] else e.shw c).ec.length ≤ 3 := by
          split
          · rw [out_ec]; simp; omega
          · omega
        omega
      · split
        · unfold DS.kills
          simp only
          have h := fun n => (backs_ec (fun _ => true) n e hb).2
          have h2 := fun x : DS => shw_ec x c
          split
          · rw [out_ec]
            split
            · have h3 := h (if isB e.t 5 c = true then 1 else e.line.length)
              have h4 := h2 (DS.backs (fun _ => true) (if isB e.t 5 c = true then 1 else e.line.length) e)
              simp; omega
            · have h3 := h (if isB e.t 5 c = true then 1 else e.line.length)
              simp; omega
          · split
            · have h3 := h (if isB e.t 5 c = true then 1 else e.line.length)
              have h4 := h2 (DS.backs (fun _ => true) (if isB e.t 5 c = true then 1 else e.line.length) e)
              omega
            · have h3 := h (if isB e.t 5 c = true then 1 else e.line.length)
              omega
        · split
          · have := ready_ec e; omega
          · unfold DS.enter
            have h1 := put_ec e c
            split
            · have := ready_ec (e.put c); omega
            · omega

theorem plainIn_ec (e : DS) (c : Int) (h0 : e.ec = []) (hl : e.line.length ≤ 255) : (e.plainIn c).1.ec.length ≤ 3000 := by
  have hz : e.ec.length = 0 := by rw [h0]; rfl
  unfold DS.plainIn
  split
  · show (e.signal c).ec.length ≤ _
    have h1 := shw_ec e c
    unfold DS.signal
    split
    · show (e.shw c).ec.length ≤ _; omega
    · omega
  · split
    · have := put_ec e c; show (e.put c).ec.length ≤ _; omega
    · exact canon_ec e c h0 hl

theorem input_ec (d : DS) (c : Int) (hl : d.line.length ≤ 255) : (d.input c).1.ec.length ≤ 3000 := by
  unfold DS.input
  simp only
  split
  · have h := put_ec ((d.setEc []).setNxt false) (low d.t.fi c)
    have h2 : ((d.setEc []).setNxt false).ec.length = 0 := rfl
    show (((d.setEc []).setNxt false).put (low d.t.fi c)).ec.length ≤ _
    omega
  · split
    · show ([] : List Int).length ≤ _; simp
    · unfold DS.mapped
      split
      · show ([] : List Int).length ≤ _; simp
      · split
        · exact plainIn_ec _ _ rfl hl
        · exact plainIn_ec _ _ rfl hl

/-- Bytes come in one by one: the state, what is shown, the last signal. -/
def feedD : List Int → DS → List Int → Int → DS × List Int × Int
  | [], d, o, s => (d, o, s)
  | c :: l, d, o, s => feedD l (d.input c).1 (o ++ (d.input c).1.ec) (if (d.input c).2 = 0 then s else (d.input c).2)

theorem feed_ok : ∀ (l : List Int) {N : Nat} {d : DS} (o : List Int) (s : Int), Ok N d → Ok (N + l.length) (feedD l d o s).1
  | [], _, _, _, _, h => h
  | c :: l, N, d, o, s, h => by
    have h1 := feed_ok l (o ++ (d.input c).1.ec) (if (d.input c).2 = 0 then s else (d.input c).2) (h.input c)
    show Ok _ (feedD l _ _ _).1
    exact h1.more (by rw [List.length_cons]; omega)

theorem feed_drop (l : List Int) (k : Nat) (h : k < l.length) (d : DS) (o : List Int) (s : Int) : feedD (l.drop k) d o s = feedD (l.drop (k + 1)) (d.input (l.getD k 0)).1 (o ++ (d.input (l.getD k 0)).1.ec) (if (d.input (l.getD k 0)).2 = 0 then s else (d.input (l.getD k 0)).2) := by
  rw [drop_cons l k h]; rfl

theorem feed_end (l : List Int) (d : DS) (o : List Int) (s : Int) : feedD (l.drop l.length) d o s = (d, o, s) := by rw [List.drop_length]; rfl

/-- A row of bytes of one's own. -/
structure Mine (base : Nat) (w : World) (v : Value) (l : List Int) : Prop where
  own : w.ownsRow base 5 1 v l.length (l.map (.int .u8 ·))
  wf : ∀ x ∈ l, (Lit.int .u8 x).wf = true

theorem Mine.nil (base : Nat) (w : World) : Mine base w (.slice none 0 0) [] := ⟨⟨by simp, .inl ⟨rfl, rfl⟩⟩, fun x h => by simp at h⟩

theorem Mine.stay {base : Nat} {w w1 : World} {v : Value} {l : List Int} (h : Mine base w v l) {S : Nat → Prop} (hs : Stay S w w1) (hn : ∀ k, v.ownBlock = some k → ¬ S k) : Mine base w1 v l :=
  ⟨hs.owns h.own (fun i hi e => hn i hi e), h.wf⟩

theorem Mine.br {base : Nat} {w : World} {v : Value} {l : List Int} (h : Mine base w v l) : BR w v l := by
  obtain ⟨a, c, h1, _⟩ := owned_arg h.own h.wf
  exact ⟨a, c, h1⟩

theorem Mine.form {base : Nat} {w : World} {v : Value} {l : List Int} (h : Mine base w v l) : ∃ a n c, v = .slice a n c := by
  obtain ⟨a, c, e⟩ := h.br.shape
  exact ⟨a, _, c, e⟩

theorem Mine.lt {base : Nat} {w : World} {v : Value} {l : List Int} (h : Mine base w v l) : ∀ k, v.ownBlock = some k → base ≤ k ∧ k < w.heap.size := fun k hk => h.own.lt k hk

/-- append(own, bytes...): only its block may have turned; where it lies. -/
theorem mine_app {ops : Array Oper} {rest : List Oper} {o : Oper} {a : Act} {Q : Exit → Act → World → Prop} (hgd : o.guard = none) (s x : Operand)
    (ho : o.op = .call { callee := .builtin .append, args := #[s, x], argTypes := #[31, 31] }) {base : Nat} {w : World} {v sv : Value} {l news : List Int} (hA : Mine base w v l) (hs : a.eval s = v) (hB : BR w sv news) (hx : a.eval x = sv)
    (hn : l.length + news.length ≤ 1000000) (hbase : base ≤ w.heap.size)
    (h : ∀ v' w', Mine base w' v' (l ++ news) → Stay (fun k => v.ownBlock = some k) w w' → (v'.ownBlock = v.ownBlock ∨ v'.ownBlock = some w.heap.size) → wpList Try.prog ops Q rest (a.put o.dst v') w') : wpList Try.prog ops Q (o :: rest) a w := by
  obtain ⟨ad, cap, hB⟩ := hB
  have hr := isRowS_of hB.row
  rw [List.length_map] at hr
  refine appS hgd s x 31 ho Try.underlying31 infoB rfl (by decide) (by decide) hA.own hs hr hx (oneB news) hn hbase ?_
  intro v' w' h1 h2 h3
  rw [← List.length_append, ← List.map_append] at h1
  refine h v' w' ⟨h1, fun y hy => ?_⟩ h2 h3
  rcases List.mem_append.1 hy with hy | hy
  · exact hA.wf y hy
  · exact hB.wf y hy

section
variable {At : World → Nat → (Nat → Prop) → DS → Prop}

def FedP (At : World → Nat → (Nat → Prop) → DS → Prop) (base : Nat) (p : Nat) (O : Nat → Prop) (f : DS × List Int × Int) (w : World) (e : Ending) (w' : World) : Prop :=
  ∃ v O', e = .returned (.tuple #[v, .int .i64 f.2.2]) ∧ Mine base w' v f.2.1 ∧ (∀ k, v.ownBlock = some k → ¬ O' k) ∧ At w' p O' f.1 ∧ Stay O w w' ∧ Grown O O' w

set_option maxHeartbeats 1000000 in
theorem feed_walk (HI : Impl At) (p : Nat) (O : Nat → Prop) (d : DS) (N : Nat) (v : Value) (l : List Int) (w : World) (h : At w p O d) (hok : Ok N d) (hN : N + l.length ≤ 50000) (hl : l.length ≤ 300) (hv : ∃ a cap, IArg .u8 w v l a cap ∧ (l ≠ [] → ∀ ad, a = some ad → ¬ O ad.block)) : Calls Try.prog 28 #[.pointer (some ⟨p, 0, none⟩), v] w (FedP At w.heap.size p O (feedD l d [] 0) w) := by
  obtain ⟨a, cap, hI, hfree⟩ := hv
  have hsh := hI.shape
  obtain ⟨n, hn⟩ : ∃ n, n = l.length := ⟨_, rfl⟩
  rw [← hn] at hsh hN hl
  subst hsh
  have HII := hide' hI
  have HIM := hide' HI
  have HFR := hide' hfree
  have HAT := hide' h
  have HOK := hide' hok
  have HNN := hide' hn
  have HNB := hide' hN
  have hM0 := hide' (Mine.nil w.heap.size w)
  have hwf : ∀ k, k < n → 0 ≤ l.getD k 0 ∧ l.getD k 0 < 256 := fun k hk => by
    have := wf_u8 (hI.wf (l.getD k 0) (getD_mem (by omega)))
    omega
  have HWF := hide' hwf
  obtain ⟨base, hbase⟩ : ∃ x, x = w.heap.size := ⟨_, rfl⟩
  rw [← hbase] at hM0 ⊢
  have HBS := hide' hbase
  obtain ⟨F, hF⟩ : ∃ F, F = feedD l d [] 0 := ⟨_, rfl⟩
  have HF := hide' hF
  rw [← hF]
  clear hI hfree h hok hn hN hwf hbase hF HI
  go_enter Try.func28, Try.ntmps28
  go_wp2
  go_loopg [6, 7, 8] n (fun gg v6 v7 v8 wr => ∃ k : Nat, k ≤ n ∧ gg = n - k ∧ v8 = .int .i64 (k : Int) ∧ ∃ (ao : Option Addr) (no co : Nat) (s : Int), v6 = .slice ao no co ∧ v7 = .int .i64 s ∧ ∃ (O' : Nat → Prop) (d' : DS) (o : List Int), Hid (At wr p O' d' ∧ Ok (N + k) d' ∧ Stay O w wr ∧ Grown O O' w ∧ Mine base wr (.slice ao no co) o ∧ (∀ j, (Value.slice ao no co).ownBlock = some j → ¬ O' j) ∧ o.length ≤ 3000 * k ∧ feedD (l.drop k) d' o s = F))
  case atStart => exact ⟨0, Nat.zero_le _, rfl, rfl, none, 0, 0, 0, rfl, rfl, O, d, [], HAT.out, HOK.out, Stay.refl _ _, fun k hk => .inl hk, hM0.out, (fun j hj => by cases hj), by simp, HF.out.symm⟩
  case round =>
    clear hM0 HAT HOK HF
    obtain ⟨k, hk, rfl, rfl, ao, no, co, sg, rfl, rfl, O', d', o, HRL⟩ := hrel
    obtain ⟨w1, hw1⟩ : ∃ W, W = wr := ⟨_, rfl⟩
    rw [← hw1] at HRL ⊢
    clear hw1
    by_cases hlt : k < n
    · have kn : decide ((k : Int) < n) = true := by simp; omega
      have kn2 : (k : Int) < n := by omega
      obtain ⟨g9, o9, ea, hgl, hin⟩ := HII.out.cells (fun e => by have := HNN.out; rw [e] at this; simp at this; omega)
      have hg0 : ¬ O g9 := HFR.out (fun e => by have := HNN.out; rw [e] at this; simp at this; omega) ⟨g9, o9, none⟩ ea
      subst ea
      have hcell : w1.cell? ⟨g9, o9 + k, none⟩ = some (.int .u8 (l.getD k 0)) := by
        have h1 := hin k (by rw [← HNN.out]; exact hlt)
        exact (HRL.out.2.2.1.cell (p := ⟨g9, o9 + k, none⟩) hgl hg0).trans h1
      have HB9 := hide' (HWF.out k hlt)
      have HST := hide' (feed_drop l k (by rw [← HNN.out]; exact hlt) d' o sg)
      obtain ⟨x9, hx9⟩ : ∃ x, x = l.getD k 0 := ⟨_, rfl⟩
      rw [← hx9] at hcell HB9 HST
      clear hx9 hin hgl hg0
      have HEC := hide' (input_ec d' x9 HRL.out.2.1.line)
      have HOI := hide' (HRL.out.2.1.input x9)
      go_wp2_with fail
      refine (HIM.out.input x9 HRL.out.1 HRL.out.2.1 (by have := HNB.out; omega) HB9.out.1 HB9.out.2).mono ?_
      rintro e w2 ⟨ve, O2, rfl, hbe, hat2, hs2, hg2⟩
      obtain ⟨sg2, hsg2⟩ : ∃ s, s = (d'.input x9).2 := ⟨_, rfl⟩
      rw [← hsg2] at HST ⊢
      clear hsg2
      have HM2 := hide' (HRL.out.2.2.2.2.1.stay hs2 HRL.out.2.2.2.2.2.1)
      have HBE := hide' hbe
      have HA2 := hide' hat2
      have HS2 := hide' (HRL.out.2.2.1.trans2 hs2 (fun j hj e => by
        rcases HRL.out.2.2.2.1 j e with h | h
        · exact h
        · omega))
      have HG2 : Hid (Grown O O2 w) := fun j hj => by
        rcases hg2 j hj with h | h
        · exact HRL.out.2.2.2.1 j h
        · exact .inr (Nat.le_trans HRL.out.2.2.1.size h)
      have HF2 : Hid (∀ j, (Value.slice ao no co).ownBlock = some j → ¬ O2 j) := fun j hj e => by
        rcases hg2 j e with h | h
        · exact HRL.out.2.2.2.2.2.1 j hj h
        · have := (HRL.out.2.2.2.2.1.lt j hj).2; omega
      have HLO := hide' HRL.out.2.2.2.2.2.2.1
      have HFD : Hid (feedD (l.drop (k + 1)) (d'.input x9).1 (o ++ (d'.input x9).1.ec) (if sg2 = 0 then sg else sg2) = F) := by
        show _ = F
        rw [← HST.out]; exact HRL.out.2.2.2.2.2.2.2
      have hn9 : o.length + (d'.input x9).1.ec.length ≤ 1000000 := by have := HLO.out; have := HEC.out; omega
      have hbw : base ≤ w2.heap.size := by rw [HBS.out]; exact HS2.out.size
      have HN9 := hide' hn9
      obtain ⟨a9, z9, e9⟩ := hbe.shape
      have HBW := hide' hbw
      subst e9
      clear hbe hat2 hs2 hg2 HRL hn9 hbw HST
      have hn9 := HN9.out
      have hbw := HBW.out
      have nb : Hid (o.length ≤ 3000 * k) := HLO.out
      obtain ⟨ne9, hne9⟩ : ∃ z, z = (d'.input x9).1.ec.length := ⟨_, rfl⟩
      rw [← hne9] at HBE
      rw [← hne9]
      clear hne9
      go_upto_region 8 with (at_builtin; refine mine_app rfl _ _ rfl HM2.out rfl HBE.out rfl hn9 hbw ?_; intro v3 w3 hM3 hs3 hl3; have HM3 := hide' hM3; have HS3 := hide' hs3; have HL3 := hide' hl3; obtain ⟨a3, n3, c3, e3⟩ := hM3.form; clear hM3 hs3 hl3 hn9 hbw; subst e3)
      have HN : Hid (At w3 p O2 (d'.input x9).1 ∧ Ok (N + (k + 1)) (d'.input x9).1 ∧ Stay O w w3 ∧ Grown O O2 w ∧ Mine base w3 (.slice a3 n3 c3) (o ++ (d'.input x9).1.ec) ∧ (∀ j, (Value.slice a3 n3 c3).ownBlock = some j → ¬ O2 j) ∧ (o ++ (d'.input x9).1.ec).length ≤ 3000 * (k + 1) ∧ feedD (l.drop (k + 1)) (d'.input x9).1 (o ++ (d'.input x9).1.ec) (if sg2 = 0 then sg else sg2) = F) := by
        refine ⟨HIM.out.keep HA2.out HS3.out (fun j hj => HF2.out j hj), HOI.out, HS2.out.trans2 HS3.out (fun j hj e => ?_), HG2.out, HM3.out, fun j hj e => ?_, by rw [List.length_append]; have := nb.out; have := HEC.out; omega, HFD.out⟩
        · have := (HM2.out.lt j e).1
          have := HBS.out
          omega
        · rcases HL3.out with h | h
          · rw [h] at hj; exact HF2.out j hj e
          · rw [h] at hj
            have := HIM.out.lt HA2.out j e
            cases hj
            omega
      by_cases hz : sg2 = 0
      · subst hz
        rw [if_pos rfl] at HN
        clear HM2 HBE HA2 HS2 HG2 HF2 HLO HFD HEC HOI HM3 HS3 HL3
        go_wp2
        go_roundg (n - (k + 1))
        case measure => omega
        case rel => exact ⟨k + 1, by omega, rfl, by go_num, a3, n3, c3, sg, rfl, rfl, O2, (d'.input x9).1, _, HN⟩
      · have hz2 : (sg2 != 0) = true := by simpa using hz
        rw [if_neg hz] at HN
        clear HM2 HBE HA2 HS2 HG2 HF2 HLO HFD HEC HOI HM3 HS3 HL3
        go_wp2
        go_roundg (n - (k + 1))
        case measure => omega
        case rel => exact ⟨k + 1, by omega, rfl, by go_num, a3, n3, c3, sg2, rfl, rfl, O2, (d'.input x9).1, _, HN⟩
    · have kn : decide ((k : Int) < n) = false := by simp; omega
      have HKN : Hid (k = n) := by show k = n; omega
      have HEND : Hid (F = (d', o, sg)) := by
        have h1 := HRL.out.2.2.2.2.2.2.2
        rw [HKN.out, HNN.out, feed_end] at h1
        exact h1.symm
      go_wp2
      go_ret2
      refine ⟨.slice ao no co, O', ?_, ?_, HRL.out.2.2.2.2.2.1, ?_, HRL.out.2.2.1, HRL.out.2.2.2.1⟩
      · rw [HEND.out]; rfl
      · rw [HEND.out]; exact HRL.out.2.2.2.2.1
      · rw [HEND.out]; exact HRL.out.1
end

end Go.Proofs.Ytkggmjjjopfdbaa
