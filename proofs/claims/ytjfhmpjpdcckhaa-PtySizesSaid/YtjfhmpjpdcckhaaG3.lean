/-
  Whether bytes are the same; what the program's discipline does, as hypotheses. No conditions.
  Bytes handed in one by one; the example of the document: walked. No conditions.
  The example of the document: walked. No conditions.
  What plain bytes, a newline, an erase and a signal do in the plain setting: plain. No conditions.
  LdiscErase walked: true of any bytes. No conditions.
  What signal characters do in the plain settings: plain. No conditions.
  LdiscSignals walked: true of any bytes, any number, whatever is kept. No conditions.
  LdiscLines walked: true of any lines, any number. No conditions.
  Much comes in, line by line or raw: plain. No conditions.
-/
import Derived.Test.YtjfhmpjpdcckhaaG2
namespace Go.Proofs.Ytjfhmpjpdcckhaa.L18
open Go.RowKit

open L17

/-- Bytes that can be read. -/
def Bs (w : World) (v : Value) (l : List Int) : Prop := ∃ a cap, v = .slice a l.length cap ∧ l.length ≤ cap ∧ (l ≠ [] → ∃ b off, a = some ⟨b, off, none⟩ ∧ Ints .u8 w b off l)

theorem Bs.keep {w w' : World} {v : Value} {l : List Int} (h : Bs w v l) (hs : Stay (fun _ => False) w w') : Bs w' v l := by
  obtain ⟨a, cap, h1, h2, h3⟩ := h
  exact ⟨a, cap, h1, h2, fun hn => by obtain ⟨b, o, e, hi⟩ := h3 hn; exact ⟨b, o, e, fun j hj => keep_cell hs (hi j hj)⟩⟩

theorem sameB_nil (a1 a2 : Option Addr) (k1 k2 : Nat) (w : World) : Calls Try.prog 12 #[.slice a1 0 k1, .slice a2 0 k2] w (Gives (.bool true) w) := by
  go_enter Try.func12, Try.ntmps12
  go_wp2_with fail
  go_loopg [5] 0 (fun g i wr => g = 0 ∧ i = .int .i64 0 ∧ wr = w)
  case atStart => exact ⟨rfl, rfl, rfl⟩
  case round =>
    obtain ⟨rfl, rfl, rfl⟩ := hrel
    go_wp2
    go_ret
    exact ⟨rfl, Stay.refl _ _⟩

set_option maxHeartbeats 1000000 in
theorem sameB_some (l : List Int) (b1 o1 k1 b2 o2 k2 n : Nat) (w : World) (hn : n ≤ 5000) (hl : l.length = n) (h1 : Ints .u8 w b1 o1 l) (h2 : Ints .u8 w b2 o2 l) :
    Calls Try.prog 12 #[.slice (some ⟨b1, o1, none⟩) n k1, .slice (some ⟨b2, o2, none⟩) n k2] w (Gives (.bool true) w) := by
  have H1 := hide' h1
  have H2 := hide' h2
  have HL := hide' hl
  have hnz : (n : Int) ≤ 5000 := by omega
  clear h1 h2 hn hl
  go_enter Try.func12, Try.ntmps12
  go_wp2_with fail
  go_loopg [5] n (fun g i wr => ∃ j : Nat, j ≤ n ∧ g = n - j ∧ i = .int .i64 (j : Int) ∧ ∃ q, wr = w.drewN q)
  case atStart => exact ⟨0, Nat.zero_le _, rfl, rfl, 0, rfl⟩
  case round =>
    obtain ⟨j, hj, rfl, rfl, q, rfl⟩ := hrel
    by_cases hlt : j < n
    · have a1 : w.cell? ⟨b1, o1 + j, none⟩ = some (.int .u8 (l.getD j 0)) := H1.out j (by have := HL.out; omega)
      have a2 : w.cell? ⟨b2, o2 + j, none⟩ = some (.int .u8 (l.getD j 0)) := H2.out j (by have := HL.out; omega)
      obtain ⟨x, hx⟩ : ∃ x, x = l.getD j 0 := ⟨_, rfl⟩
      rw [← hx] at a1 a2
      clear hx
      have jz : (j : Int) < n := by omega
      have j0 : (0 : Int) ≤ j := by omega
      go_wp2_with fail
      go_quiet (fail)
      go_wp2
      go_roundg (n - (j + 1))
      case measure => omega
      case rel => exact ⟨j + 1, by omega, rfl, by go_num, _, rfl⟩
    · have : j = n := by omega
      subst this
      go_wp2
      go_ret
      exact ⟨rfl, (Stay.refl _ _).drewN _⟩

theorem sameB (v1 v2 : Value) (l : List Int) (w : World) (h1 : Bs w v1 l) (h2 : Bs w v2 l) (hn : l.length ≤ 5000) : Calls Try.prog 12 #[v1, v2] w (Gives (.bool true) w) := by
  obtain ⟨a1, k1, rfl, _, c1⟩ := h1
  obtain ⟨a2, k2, rfl, _, c2⟩ := h2
  by_cases h : l = []
  · subst h
    exact sameB_nil a1 a2 k1 k2 w
  · obtain ⟨b1, o1, rfl, i1⟩ := c1 h
    obtain ⟨b2, o2, rfl, i2⟩ := c2 h
    exact sameB_some l b1 o1 k1 b2 o2 k2 l.length w hn rfl i1 i2

theorem bs_arg {w : World} {v : Value} {l : List Int} {a : Option Addr} {cap : Nat} (h : IArg .u8 w v l a cap) : Bs w v l := ⟨a, cap, h.shape, h.lenLe, fun hne => by
  obtain ⟨b, o, e, _, hi⟩ := h.cells hne
  exact ⟨b, o, e, hi⟩⟩

theorem Bs.slice {w : World} {v : Value} {l : List Int} (h : Bs w v l) : ∃ a k c, v = .slice a k c := by
  obtain ⟨a, c, h, _⟩ := h
  exact ⟨a, _, c, h⟩

/-- A row of bytes that can be read. -/
def BR (w : World) (v : Value) (l : List Int) : Prop := ∃ a cap, IArg .u8 w v l a cap

theorem BR.bs {w : World} {v : Value} {l : List Int} (h : BR w v l) : Bs w v l := by
  obtain ⟨a, cap, h⟩ := h
  exact bs_arg h

theorem BR.keep {w w1 : World} {v : Value} {l : List Int} (h : BR w v l) (hs : Stay (fun _ => False) w w1) : BR w1 v l := by
  obtain ⟨a, cap, h⟩ := h
  exact ⟨a, cap, h.stay0 hs⟩

theorem BR.shape {w : World} {v : Value} {l : List Int} (h : BR w v l) : ∃ a cap, v = .slice a l.length cap := by
  obtain ⟨a, cap, h⟩ := h
  exact ⟨a, cap, h.shape⟩

theorem BRow.br {w : World} {b : Bx} {v : Value} {l : List Int} (h : BRow w b v l) : BR w v l := by
  obtain ⟨a, cap, h, _⟩ := h
  exact ⟨a, cap, h⟩

theorem Acc.br {W0 w : World} {v : Value} {l : List Int} (h : Acc W0 w v l) : BR w v l := by
  obtain ⟨a, c, h1, _⟩ := owned_arg h.own h.wf
  exact ⟨a, c, h1⟩

theorem br_new (w : World) (cs : Array Value) (l : List Int) (n : Nat) (hl : cs.toList = l.map (.int .u8 ·)) (hn : cs.size = n) (hw : ∀ x ∈ l, (Lit.int .u8 x).wf = true) (hm : n ≤ 1000) : BR (w.alloc (.cells cs 5)) (.slice (some ⟨w.heap.size, 0, none⟩) n n) l := (Acc.new w cs l n hl hn hw hm).br

/-- The blocks are those that were, or new. -/
def Grown (O O' : Nat → Prop) (w : World) : Prop := ∀ k, O' k → O k ∨ w.heap.size ≤ k

section
variable (At : World → Nat → (Nat → Prop) → DS → Prop)

def MadeP (t : Tm) (w : World) (e : Ending) (w' : World) : Prop :=
  ∃ p O, e = .returned (.pointer (some ⟨p, 0, none⟩)) ∧ At w' p O (fresh t) ∧ (∀ k, O k → w.heap.size ≤ k) ∧ Stay (fun _ => False) w w'

/-- A call that turns the discipline. -/
def TurnP (p : Nat) (O : Nat → Prop) (d' : DS) (x : Value) (w : World) (e : Ending) (w' : World) : Prop :=
  ∃ O', e = .returned x ∧ At w' p O' d' ∧ Stay O w w' ∧ Grown O O' w

def InP (p : Nat) (O : Nat → Prop) (d : DS) (c : Int) (w : World) (e : Ending) (w' : World) : Prop :=
  ∃ v O', e = .returned (.tuple #[v, .int .i64 (d.input c).2]) ∧ BR w' v (d.input c).1.ec ∧ At w' p O' (d.input c).1 ∧ Stay O w w' ∧ Grown O O' w ∧ ∀ j, v.ownBlock = some j → (O j ∨ w.heap.size ≤ j) ∧ ¬ O' j

def RdP (p : Nat) (O : Nat → Prop) (d : DS) (n : Int) (w : World) (e : Ending) (w' : World) : Prop :=
  ∃ v O', e = .returned (.tuple #[v, .bool (d.rd n).2]) ∧ BR w' v (d.rd n).1 ∧ At w' p O' (d.rdS n) ∧ Stay O w w' ∧ Grown O O' w

/-- A copy of the line that lies apart. -/
def LineP (O : Nat → Prop) (d : DS) (w : World) (e : Ending) (w' : World) : Prop :=
  ∃ v a cap, e = .returned v ∧ IArg .u8 w' v d.line a cap ∧ (d.line ≠ [] → ∀ ad, a = some ad → ¬ O ad.block) ∧ Stay (fun _ => False) w w'

end

end Go.Proofs.Ytjfhmpjpdcckhaa.L18

namespace Go.Proofs.Ytjfhmpjpdcckhaa.L18
open Go.RowKit

open L17

theorem backs_ec (p : Int → Bool) : ∀ (n : Nat) (e : DS), Bd e → Bd (DS.backs p n e)
  | 0, _, h => h
  | n + 1, e, h => by
    show Bd (if e.line = [] then e else if p (e.line.getLastD 0) = true then DS.backs p n e.back else e)
    split
    · exact h
    · rename_i hne
      split
      · exact backs_ec p n e.back (back_bd e hne h)
      · exact h

theorem shows_ec : ∀ (l : List Int) (e : DS), (DS.shows l e).ec.length ≤ e.ec.length + 2 * l.length
  | [], _ => by simp [DS.shows]
  | c :: l, e => by
    have h1 := shows_ec l (e.shw c)
    have h2 := shw_ec e c
    show (DS.shows l (e.shw c)).ec.length ≤ _
    rw [List.length_cons]
    omega

theorem out_ec (e : DS) (l : List Int) : (e.out l).ec.length = e.ec.length + l.length := by show (e.ec ++ l).length = _; rw [List.length_append]

theorem ready_ec (e : DS) : e.ready.ec.length ≤ e.ec.length + 1 := by
  unfold DS.ready
  split
  · exact lost_ec (e.setLine [])
  · show e.ec.length ≤ _; omega

theorem canon_ec (e : DS) (c : Int) (h0 : e.ec = []) (hl : e.line.length ≤ 255) : (e.canon c).ec.length ≤ 3000 := by
  have hb : Bd e := ⟨hl, by rw [h0]; simp; omega⟩
  have hz : e.ec.length = 0 := by rw [h0]; rfl
  unfold DS.canon
  split
  · split
    · rw [out_ec]; show e.ec.length + 2 ≤ _; omega
    · show e.ec.length ≤ _; omega
  · split
    · have h := backs_ec (fun x => !DS.blk x) (DS.backs DS.blk e.line.length e).line.length _ (backs_ec DS.blk e.line.length e hb)
      have := h.2; omega
    · split
      · unfold DS.again
        simp only
        have h1 := shw_ec e c
        have h2 := shows_ec e.line (if e.loc 2 = true then (e.shw c).out [10] else e.shw c)
        have h3 : (if e.loc 2 = true then (e.shw c).out [10] else e.shw c).ec.length ≤ 3 := by
          split
          · rw [out_ec]; simp; omega
          · omega
        omega
      · split
        · unfold DS.kills
          simp only
          have h := fun n => (backs_ec (fun _ => true) n e hb).2
          have h2 := fun x : DS => shw_ec x c
          split
          · rw [out_ec]
            split
            · have h3 := h (if isB e.t 5 c = true then 1 else e.line.length)
              have h4 := h2 (DS.backs (fun _ => true) (if isB e.t 5 c = true then 1 else e.line.length) e)
              simp; omega
            · have h3 := h (if isB e.t 5 c = true then 1 else e.line.length)
              simp; omega
          · split
            · have h3 := h (if isB e.t 5 c = true then 1 else e.line.length)
              have h4 := h2 (DS.backs (fun _ => true) (if isB e.t 5 c = true then 1 else e.line.length) e)
              omega
            · have h3 := h (if isB e.t 5 c = true then 1 else e.line.length)
              omega
        · split
          · have := ready_ec e; omega
          · unfold DS.enter
            have h1 := put_ec e c
            split
            · have := ready_ec (e.put c); omega
            · omega

theorem plainIn_ec (e : DS) (c : Int) (h0 : e.ec = []) (hl : e.line.length ≤ 255) : (e.plainIn c).1.ec.length ≤ 3000 := by
  have hz : e.ec.length = 0 := by rw [h0]; rfl
  unfold DS.plainIn
  split
  · show (e.signal c).ec.length ≤ _
    have h1 := shw_ec e c
    unfold DS.signal
    split
    · show (e.shw c).ec.length ≤ _; omega
    · omega
  · split
    · have := put_ec e c; show (e.put c).ec.length ≤ _; omega
    · exact canon_ec e c h0 hl

theorem input_ec (d : DS) (c : Int) (hl : d.line.length ≤ 255) : (d.input c).1.ec.length ≤ 3000 := by
  unfold DS.input
  simp only
  split
  · have h := put_ec ((d.setEc []).setNxt false) (low d.t.fi c)
    have h2 : ((d.setEc []).setNxt false).ec.length = 0 := rfl
    show (((d.setEc []).setNxt false).put (low d.t.fi c)).ec.length ≤ _
    omega
  · split
    · show ([] : List Int).length ≤ _; simp
    · unfold DS.mapped
      split
      · show ([] : List Int).length ≤ _; simp
      · split
        · exact plainIn_ec _ _ rfl hl
        · exact plainIn_ec _ _ rfl hl

/-- Bytes come in one by one: the state, what is shown, the last signal. -/
def feedD : List Int → DS → List Int → Int → DS × List Int × Int
  | [], d, o, s => (d, o, s)
  | c :: l, d, o, s => feedD l (d.input c).1 (o ++ (d.input c).1.ec) (if (d.input c).2 = 0 then s else (d.input c).2)

theorem feed_ok : ∀ (l : List Int) {N : Nat} {d : DS} (o : List Int) (s : Int), Ok N d → Ok (N + l.length) (feedD l d o s).1
  | [], _, _, _, _, h => h
  | c :: l, N, d, o, s, h => by
    have h1 := feed_ok l (o ++ (d.input c).1.ec) (if (d.input c).2 = 0 then s else (d.input c).2) (h.input c)
    show Ok _ (feedD l _ _ _).1
    exact h1.more (by rw [List.length_cons]; omega)

theorem feed_drop (l : List Int) (k : Nat) (h : k < l.length) (d : DS) (o : List Int) (s : Int) : feedD (l.drop k) d o s = feedD (l.drop (k + 1)) (d.input (l.getD k 0)).1 (o ++ (d.input (l.getD k 0)).1.ec) (if (d.input (l.getD k 0)).2 = 0 then s else (d.input (l.getD k 0)).2) := by
  rw [drop_cons l k h]; rfl

theorem feed_end (l : List Int) (d : DS) (o : List Int) (s : Int) : feedD (l.drop l.length) d o s = (d, o, s) := by rw [List.drop_length]; rfl

/-- A row of bytes of one's own. -/
structure Mine (base : Nat) (w : World) (v : Value) (l : List Int) : Prop where
  own : w.ownsRow base 5 1 v l.length (l.map (.int .u8 ·))
  wf : ∀ x ∈ l, (Lit.int .u8 x).wf = true

theorem Mine.nil (base : Nat) (w : World) : Mine base w (.slice none 0 0) [] := ⟨⟨by simp, .inl ⟨rfl, rfl⟩⟩, fun x h => by simp at h⟩

theorem Mine.stay {base : Nat} {w w1 : World} {v : Value} {l : List Int} (h : Mine base w v l) {S : Nat → Prop} (hs : Stay S w w1) (hn : ∀ k, v.ownBlock = some k → ¬ S k) : Mine base w1 v l :=
  ⟨hs.owns h.own (fun i hi e => hn i hi e), h.wf⟩

theorem Mine.br {base : Nat} {w : World} {v : Value} {l : List Int} (h : Mine base w v l) : BR w v l := by
  obtain ⟨a, c, h1, _⟩ := owned_arg h.own h.wf
  exact ⟨a, c, h1⟩

theorem Mine.form {base : Nat} {w : World} {v : Value} {l : List Int} (h : Mine base w v l) : ∃ a n c, v = .slice a n c := by
  obtain ⟨a, c, e⟩ := h.br.shape
  exact ⟨a, _, c, e⟩

theorem Mine.lt {base : Nat} {w : World} {v : Value} {l : List Int} (h : Mine base w v l) : ∀ k, v.ownBlock = some k → base ≤ k ∧ k < w.heap.size := fun k hk => h.own.lt k hk

/-- append(own, bytes...): only its block may have turned; where it lies. -/
theorem mine_app {ops : Array Oper} {rest : List Oper} {o : Oper} {a : Act} {Q : Exit → Act → World → Prop} (hgd : o.guard = none) (s x : Operand)
    (ho : o.op = .call { callee := .builtin .append, args := #[s, x], argTypes := #[22, 22] }) {base : Nat} {w : World} {v sv : Value} {l news : List Int} (hA : Mine base w v l) (hs : a.eval s = v) (hB : BR w sv news) (hx : a.eval x = sv)
    (hn : l.length + news.length ≤ 1000000) (hbase : base ≤ w.heap.size)
    (h : ∀ v' w', Mine base w' v' (l ++ news) → Stay (fun k => v.ownBlock = some k) w w' → (v'.ownBlock = v.ownBlock ∨ v'.ownBlock = some w.heap.size) → wpList Try.prog ops Q rest (a.put o.dst v') w') : wpList Try.prog ops Q (o :: rest) a w := by
  obtain ⟨ad, cap, hB⟩ := hB
  have hr := isRowS_of hB.row
  rw [List.length_map] at hr
  refine appS hgd s x 22 ho Try.underlying22 infoB rfl (by decide) (by decide) hA.own hs hr hx (oneB news) hn hbase ?_
  intro v' w' h1 h2 h3
  rw [← List.length_append, ← List.map_append] at h1
  refine h v' w' ⟨h1, fun y hy => ?_⟩ h2 h3
  rcases List.mem_append.1 hy with hy | hy
  · exact hA.wf y hy
  · exact hB.wf y hy

section
variable {At : World → Nat → (Nat → Prop) → DS → Prop}

def FedP (At : World → Nat → (Nat → Prop) → DS → Prop) (base : Nat) (p : Nat) (O : Nat → Prop) (f : DS × List Int × Int) (w : World) (e : Ending) (w' : World) : Prop :=
  ∃ v O', e = .returned (.tuple #[v, .int .i64 f.2.2]) ∧ Mine base w' v f.2.1 ∧ (∀ k, v.ownBlock = some k → ¬ O' k) ∧ At w' p O' f.1 ∧ Stay O w w' ∧ Grown O O' w

end

end Go.Proofs.Ytjfhmpjpdcckhaa.L18

namespace Go.Proofs.Ytjfhmpjpdcckhaa.L18
open Go.RowKit

open L17

theorem eqlP_nil (a : Addr) (w : World) : (binOp .eql 47 (.pointer (some a)) (.pointer none)).run Try.prog w = .ok (.bool false) w := by
  simp only [binOp]
  have h : (Op.equal 47 (.pointer (some a)) (.pointer none)).run Try.prog w = .ok false w := by
    show (Op.equalIn (9999 + 1) 47 _ _).run Try.prog w = _
    generalize 9999 = d
    simp [Op.equalIn, run_underlying Try.underlying47]
  simp [h]

theorem plain_right : rightB plainT = true := by decide +kernel

theorem example_fed : (feedD [97, 98, 127, 99, 13] (fresh plainT) [] 0).2.1 = [97, 98, 8, 32, 8, 99, 10] ∧ (feedD [97, 98, 127, 99, 13] (fresh plainT) [] 0).2.2 = 0 ∧ ((feedD [97, 98, 127, 99, 13] (fresh plainT) [] 0).1.rd 9).1 = [97, 99, 10] ∧ ((feedD [97, 98, 127, 99, 13] (fresh plainT) [] 0).1.rd 9).2 = false := by decide +kernel

/-- Within what is new. -/
theorem stay_own {w w1 w2 : World} {O : Nat → Prop} (h : Stay (fun _ => False) w w1) (k : Stay O w1 w2) (hO : ∀ j, O j → w.heap.size ≤ j) : Stay (fun _ => False) w w2 := h.trans2 k (fun j hj e => by have := hO j e; omega)

theorem grown_own {w w1 : World} {O O' : Nat → Prop} (hs : w.heap.size ≤ w1.heap.size) (hO : ∀ j, O j → w.heap.size ≤ j) (h : Grown O O' w1) : ∀ j, O' j → w.heap.size ≤ j := fun j hj => by
  rcases h j hj with e | e
  · exact hO j e
  · omega

attribute [local go_sem] eqlP_nil

section
variable {At : World → Nat → (Nat → Prop) → DS → Prop}

end

end Go.Proofs.Ytjfhmpjpdcckhaa.L18

namespace Go.Proofs.Ytjfhmpjpdcckhaa.L18
open Go.RowKit

open L17

/-- The plain setting, with other local flags. -/
def pl (f : Int) : Tm := ⟨84, 3, f, 3, 28, 26, 4, 0, 127, 21, 23, 18, 22, 17, 19, 1, 0⟩

theorem plain_pl : plainT = pl 623 := rfl

/-- A discipline at the plain setting. -/
def pd (f : Int) (L : List Int) (Ls : List (List Int)) (x : Bool) (e : List Int) : DS := ⟨pl f, L, Ls, [], false, x, e⟩

theorem fresh_pd : fresh plainT = pd 623 [] [] false [] := rfl

theorem isB_pl (f : Int) (k : Nat) (_hk : k < 12) (c : Int) (_hc : ¬ c = 0) (h : ¬ (pl f).cc k = c) : isB (pl f) (k : Int) c = false := by
  have h1 : ((pl f).cc ((k : Int).toNat) == c) = false := by
    show ((pl f).cc k == c) = false
    simpa using h
  show (decide (0 ≤ (k : Int)) && decide ((k : Int) < 12) && !(c == 0) && ((pl f).cc ((k : Int).toNat) == c)) = false
  rw [h1, Bool.and_false]

theorem isB_pl_all (f c : Int) (h : ∀ k : Nat, k < 12 → ¬ (pl f).cc k = c) (hc : ¬ c = 0) :
    isB (pl f) 0 c = false ∧ isB (pl f) 1 c = false ∧ isB (pl f) 2 c = false ∧ isB (pl f) 3 c = false ∧ isB (pl f) 4 c = false ∧ isB (pl f) 5 c = false ∧ isB (pl f) 6 c = false ∧ isB (pl f) 7 c = false ∧ isB (pl f) 8 c = false ∧ isB (pl f) 9 c = false ∧ isB (pl f) 10 c = false ∧ isB (pl f) 11 c = false :=
  ⟨isB_pl f 0 (by decide) c hc (h 0 (by decide)), isB_pl f 1 (by decide) c hc (h 1 (by decide)), isB_pl f 2 (by decide) c hc (h 2 (by decide)), isB_pl f 3 (by decide) c hc (h 3 (by decide)), isB_pl f 4 (by decide) c hc (h 4 (by decide)), isB_pl f 5 (by decide) c hc (h 5 (by decide)), isB_pl f 6 (by decide) c hc (h 6 (by decide)), isB_pl f 7 (by decide) c hc (h 7 (by decide)), isB_pl f 8 (by decide) c hc (h 8 (by decide)), isB_pl f 9 (by decide) c hc (h 9 (by decide)), isB_pl f 10 (by decide) c hc (h 10 (by decide)), isB_pl f 11 (by decide) c hc (h 11 (by decide))⟩

theorem cc_pl (f c : Int) (h0 : 32 ≤ c) (h1 : c < 127) : ∀ k : Nat, k < 12 → ¬ (pl f).cc k = c := by
  intro k hk
  have : k = 0 ∨ k = 1 ∨ k = 2 ∨ k = 3 ∨ k = 4 ∨ k = 5 ∨ k = 6 ∨ k = 7 ∨ k = 8 ∨ k = 9 ∨ k = 10 ∨ k = 11 := by omega
  rcases this with rfl | rfl | rfl | rfl | rfl | rfl | rfl | rfl | rfl | rfl | rfl | rfl
  · show ¬ (3 : Int) = c; omega
  · show ¬ (28 : Int) = c; omega
  · show ¬ (26 : Int) = c; omega
  · show ¬ (4 : Int) = c; omega
  · show ¬ (0 : Int) = c; omega
  · show ¬ (127 : Int) = c; omega
  · show ¬ (21 : Int) = c; omega
  · show ¬ (23 : Int) = c; omega
  · show ¬ (18 : Int) = c; omega
  · show ¬ (22 : Int) = c; omega
  · show ¬ (17 : Int) = c; omega
  · show ¬ (19 : Int) = c; omega

theorem low_84 (c : Int) : low 84 c = c := by
  have h : hasB 84 1 = false := by decide
  unfold low; rw [h]; rfl

theorem mapI_84 (c : Int) (h : ¬ c = 13) : mapI 84 c = c := by
  unfold mapI
  rw [low_84, if_neg (fun k => h k.1), if_neg (fun k => h k.1)]
  have h8 : hasB 84 8 = false := by decide
  rw [if_neg (fun k => by rw [h8] at k; cases k.2)]

/-- The local flags of the two plain settings. -/
structure Fl (f : Int) : Prop where
  a1 : hasB f 1 = true
  a2 : hasB f 2 = true
  a4 : hasB f 4 = true
  a8 : hasB f 8 = true
  a16 : hasB f 16 = false
  a32 : hasB f 32 = true
  a64 : hasB f 64 = true
  a512 : hasB f 512 = true

theorem fl_623 : Fl 623 := ⟨by decide, by decide, by decide, by decide, by decide, by decide, by decide, by decide⟩
theorem fl_751 : Fl 751 := ⟨by decide, by decide, by decide, by decide, by decide, by decide, by decide, by decide⟩

theorem inp_pd (f : Int) (L : List Int) (Ls : List (List Int)) (x : Bool) (e : List Int) : (pd f L Ls x e).inp 16 = true ∧ (pd f L Ls x e).inp 32 = false := ⟨by show hasB 84 16 = true; decide, by show hasB 84 32 = false; decide⟩

theorem input_pd (f : Int) (L : List Int) (Ls : List (List Int)) (e : List Int) (c : Int) (hc : 0 ≤ c) (h13 : ¬ c = 13) (h10 : isB (pl f) 10 c = false) (h11 : isB (pl f) 11 c = false) : (pd f L Ls false e).input c = (pd f L Ls false []).plainIn c := by
  have hm : mapI 84 c = c := mapI_84 c h13
  obtain ⟨i16, i32⟩ := inp_pd f L Ls false []
  have hx : (pd f L Ls false e).nxt = false := rfl
  unfold DS.input
  simp only
  rw [if_neg (by rw [hx]; simp)]
  have hm2 : mapI (pd f L Ls false e).t.fi c = c := hm
  rw [hm2, if_neg (by omega)]
  show (pd f L Ls false []).mapped c = _
  rw [mapped_eq]
  have e10 : isB (pd f L Ls false []).t 10 c = false := h10
  have e11 : isB (pd f L Ls false []).t 11 c = false := h11
  rw [e10, e11, i16, i32]
  rfl

theorem pic_pd (f : Int) (_hf : Fl f) (L : List Int) (Ls : List (List Int)) (x : Bool) (e : List Int) (c : Int) (h0 : 32 ≤ c) (h1 : c < 127) : (pd f L Ls x e).pic c = [c] := by
  unfold DS.pic
  rw [if_neg (fun k => by have := k.2.1; omega), if_neg (fun k => by have := k.2; omega)]

theorem put_pd (f : Int) (hf : Fl f) (L : List Int) (Ls : List (List Int)) (x : Bool) (e : List Int) (c : Int) (hl : L.length < 254) (hp : ¬ c = 10) : (pd f L Ls x e).put c = pd f (L ++ [c]) Ls x (e ++ (pd f L Ls x e).pic c) := by
  have l1 : ∀ L Ls x e, (pd f L Ls x e).loc 1 = true := fun _ _ _ _ => hf.a1
  have l2 : ∀ L Ls x e, (pd f L Ls x e).loc 2 = true := fun _ _ _ _ => hf.a2
  have hr : (pd f L Ls x e).room c = true := by
    unfold DS.room
    rw [l1]
    have : decide ((pd f L Ls x e).line.length < 254) = true := decide_eq_true hl
    rw [this]; rfl
  have hlay : (pd f L Ls x e).lay c = pd f (L ++ [c]) Ls x e := by unfold DS.lay; rw [if_pos (l1 _ _ _ _)]; rfl
  unfold DS.put
  rw [if_pos hr, hlay]
  have hnl : (pd f (L ++ [c]) Ls x e).nl c = pd f (L ++ [c]) Ls x e := by unfold DS.nl; rw [if_neg (fun k => hp k.1)]
  rw [hnl]
  unfold DS.shw
  rw [if_pos (l2 _ _ _ _)]
  rfl

theorem sig_pd (f : Int) (L : List Int) (Ls : List (List Int)) (e : List Int) (c : Int) (h0 : isB (pl f) 0 c = false) (h1 : isB (pl f) 1 c = false) (h2 : isB (pl f) 2 c = false) (hf : Fl f) : (pd f L Ls false e).plainIn c = ((pd f L Ls false e).canon c, 0) := by
  have hs : (pd f L Ls false e).sigOf c = 3 := by
    unfold DS.sigOf
    rw [if_neg (by rw [show (pd f L Ls false e).loc 64 = true from hf.a64]; simp)]
    have e0 : isB (pd f L Ls false e).t 0 c = false := h0
    have e1 : isB (pd f L Ls false e).t 1 c = false := h1
    have e2 : isB (pd f L Ls false e).t 2 c = false := h2
    rw [e0, e1, e2]
    rfl
  unfold DS.plainIn
  rw [hs, if_neg (by omega), if_neg (by rw [show (pd f L Ls false e).loc 1 = true from hf.a1]; simp)]

/-- A plain byte. -/
theorem type_pd (f : Int) (hf : Fl f) (L : List Int) (Ls : List (List Int)) (e : List Int) (c : Int) (h0 : 32 ≤ c) (h1 : c < 127) (hl : L.length < 254) : (pd f L Ls false e).input c = (pd f (L ++ [c]) Ls false [c], 0) := by
  obtain ⟨b0, b1, b2, b3, b4, b5, b6, b7, b8, b9, b10, b11⟩ := isB_pl_all f c (cc_pl f c h0 h1) (by omega)
  rw [input_pd f L Ls e c (by omega) (by omega) b10 b11, sig_pd f L Ls [] c b0 b1 b2 hf, canon_eq]
  have tt : (pd f L Ls false []).t = pl f := rfl
  rw [tt, b9, b7, b8, b5, b6, b3]
  simp only [Bool.and_false, Bool.or_self, Bool.false_eq_true, if_false]
  unfold DS.enter
  have hen : (pd f L Ls false []).ends c = false := by
    unfold DS.ends
    rw [tt, b4]
    simp
    omega
  rw [hen, if_neg (by simp), put_pd f hf L Ls false [] c hl (by omega), pic_pd f hf L Ls false [] c h0 h1]
  rfl

/-- An erase. -/
theorem erase_pd (f : Int) (hf : Fl f) (L : List Int) (Ls : List (List Int)) (e : List Int) (c : Int) (h0 : 32 ≤ c) (h1 : c < 127) : (pd f (L ++ [c]) Ls false e).input 127 = (pd f L Ls false [8, 32, 8], 0) := by
  have b : ∀ k : Nat, k < 12 → ¬ k = 5 → isB (pl f) (k : Int) 127 = false := fun k hk h5 => isB_pl f k hk 127 (by decide) (by
    have : k = 0 ∨ k = 1 ∨ k = 2 ∨ k = 3 ∨ k = 4 ∨ k = 6 ∨ k = 7 ∨ k = 8 ∨ k = 9 ∨ k = 10 ∨ k = 11 := by omega
    rcases this with rfl | rfl | rfl | rfl | rfl | rfl | rfl | rfl | rfl | rfl | rfl
    · show ¬ (3 : Int) = 127; decide
    · show ¬ (28 : Int) = 127; decide
    · show ¬ (26 : Int) = 127; decide
    · show ¬ (4 : Int) = 127; decide
    · show ¬ (0 : Int) = 127; decide
    · show ¬ (21 : Int) = 127; decide
    · show ¬ (23 : Int) = 127; decide
    · show ¬ (18 : Int) = 127; decide
    · show ¬ (22 : Int) = 127; decide
    · show ¬ (17 : Int) = 127; decide
    · show ¬ (19 : Int) = 127; decide)
  have b5 : isB (pl f) 5 127 = true := rfl
  rw [input_pd f _ Ls e 127 (by decide) (by decide) (b 10 (by decide) (by decide)) (b 11 (by decide) (by decide)), sig_pd f _ Ls [] 127 (b 0 (by decide) (by decide)) (b 1 (by decide) (by decide)) (b 2 (by decide) (by decide)) hf, canon_eq]
  have tt : (pd f (L ++ [c]) Ls false []).t = pl f := rfl
  have b9 : isB (pl f) 9 127 = false := b 9 (by decide) (by decide)
  have b7 : isB (pl f) 7 127 = false := b 7 (by decide) (by decide)
  have b8 : isB (pl f) 8 127 = false := b 8 (by decide) (by decide)
  rw [tt, b9, b7, b8, b5]
  simp only [Bool.and_false, Bool.true_or, Bool.false_eq_true, if_false, if_true]
  rw [kills_eq, tt, b5]
  have hb : DS.backs (fun _ => true) 1 (pd f (L ++ [c]) Ls false []) = pd f L Ls false [8, 32, 8] := by
    rw [backs_go (fun _ => true) 0 _ (by show L ++ [c] ≠ []; simp) rfl]
    show (pd f (L ++ [c]) Ls false []).back = _
    have hlast : (pd f (L ++ [c]) Ls false []).line.getLastD 0 = c := by show (L ++ [c]).getLastD 0 = c; simp
    have hdrop : (pd f (L ++ [c]) Ls false []).line.dropLast = L := by show (L ++ [c]).dropLast = L; simp
    unfold DS.back
    rw [hlast, hdrop]
    have hru : (pd f (L ++ [c]) Ls false []).rub c = [8, 32, 8] := by
      unfold DS.rub
      rw [if_pos ⟨hf.a2, hf.a4⟩, pic_pd f hf _ Ls false [] c h0 h1]
      rfl
    rw [hru]
    rfl
  simp only [if_true]
  rw [hb]
  have l4 : (pd f (L ++ [c]) Ls false []).loc 4 = true := hf.a4
  rw [l4]
  rfl

/-- The end of a line. -/
theorem newline_pd (f : Int) (hf : Fl f) (L : List Int) (Ls : List (List Int)) (e : List Int) (hl : L.length < 254) (hs : Ls.flatten.length + L.length + 1 ≤ 1024) : (pd f L Ls false e).input 10 = (pd f [] (Ls ++ [L ++ [10]]) false [10], 0) := by
  have b : ∀ k : Nat, k < 12 → isB (pl f) (k : Int) 10 = false := fun k hk => isB_pl f k hk 10 (by decide) (by
    have : k = 0 ∨ k = 1 ∨ k = 2 ∨ k = 3 ∨ k = 4 ∨ k = 5 ∨ k = 6 ∨ k = 7 ∨ k = 8 ∨ k = 9 ∨ k = 10 ∨ k = 11 := by omega
    rcases this with rfl | rfl | rfl | rfl | rfl | rfl | rfl | rfl | rfl | rfl | rfl | rfl
    · show ¬ (3 : Int) = 10; decide
    · show ¬ (28 : Int) = 10; decide
    · show ¬ (26 : Int) = 10; decide
    · show ¬ (4 : Int) = 10; decide
    · show ¬ (0 : Int) = 10; decide
    · show ¬ (127 : Int) = 10; decide
    · show ¬ (21 : Int) = 10; decide
    · show ¬ (23 : Int) = 10; decide
    · show ¬ (18 : Int) = 10; decide
    · show ¬ (22 : Int) = 10; decide
    · show ¬ (17 : Int) = 10; decide
    · show ¬ (19 : Int) = 10; decide)
  rw [input_pd f _ Ls e 10 (by decide) (by decide) (b 10 (by decide)) (b 11 (by decide)), sig_pd f _ Ls [] 10 (b 0 (by decide)) (b 1 (by decide)) (b 2 (by decide)) hf, canon_eq]
  have tt : (pd f L Ls false []).t = pl f := rfl
  have b9 : isB (pl f) 9 10 = false := b 9 (by decide)
  have b7 : isB (pl f) 7 10 = false := b 7 (by decide)
  have b8 : isB (pl f) 8 10 = false := b 8 (by decide)
  have b5 : isB (pl f) 5 10 = false := b 5 (by decide)
  have b6 : isB (pl f) 6 10 = false := b 6 (by decide)
  have b3 : isB (pl f) 3 10 = false := b 3 (by decide)
  rw [tt, b9, b7, b8, b5, b6, b3]
  simp only [Bool.and_false, Bool.or_self, Bool.false_eq_true, if_false]
  have hen : (pd f L Ls false []).ends 10 = true := rfl
  have l1 : ∀ L Ls x e, (pd f L Ls x e).loc 1 = true := fun _ _ _ _ => hf.a1
  have l2 : ∀ L Ls x e, (pd f L Ls x e).loc 2 = true := fun _ _ _ _ => hf.a2
  have hr : (pd f L Ls false []).room 10 = true := by
    unfold DS.room
    rw [l1]
    have : decide ((pd f L Ls false []).line.length < 254) = true := decide_eq_true hl
    rw [this]; rfl
  have hput : (pd f L Ls false []).put 10 = pd f (L ++ [10]) Ls false [10] := by
    unfold DS.put
    rw [if_pos hr]
    have hlay : (pd f L Ls false []).lay 10 = pd f (L ++ [10]) Ls false [] := by unfold DS.lay; rw [if_pos (l1 _ _ _ _)]; rfl
    rw [hlay]
    have hnl : (pd f (L ++ [10]) Ls false []).nl 10 = pd f (L ++ [10]) Ls false [] := by
      unfold DS.nl
      rw [if_neg (fun k => by have := k.2.2.1; rw [show (pd f (L ++ [10]) Ls false []).loc 16 = false from hf.a16] at this; cases this)]
    rw [hnl]
    unfold DS.shw
    rw [if_pos (l2 _ _ _ _)]
    have hp : (pd f (L ++ [10]) Ls false []).pic 10 = [10] := by
      unfold DS.pic
      rw [if_neg (fun k => k.2.2.2 rfl), if_neg (fun k => by have := k.2; cases this)]
    rw [hp]
    rfl
  unfold DS.enter
  rw [if_pos ⟨hr, hen⟩, hput]
  unfold DS.ready
  have hc : ((pd f (L ++ [10]) Ls false [10]).setLine []).cnt = Ls.flatten.length := by show 0 + Ls.flatten.length = _; omega
  have hll : (pd f (L ++ [10]) Ls false [10]).line.length = L.length + 1 := by show (L ++ [10]).length = _; simp
  rw [hc, hll, if_neg (by omega)]
  rfl

end Go.Proofs.Ytjfhmpjpdcckhaa.L18

namespace Go.Proofs.Ytjfhmpjpdcckhaa.L18
open Go.RowKit

open L17

/-- What stands since w1: blocks of O1 alone may have turned, and what is the discipline's is one of them, or new. -/
structure From (w1 : World) (O1 : Nat → Prop) (wr : World) (O : Nat → Prop) : Prop where
  stay : Stay O1 w1 wr
  own : ∀ k, O k → O1 k ∨ w1.heap.size ≤ k

theorem From.refl (w : World) (O : Nat → Prop) : From w O w O := ⟨Stay.refl _ _, fun _ h => .inl h⟩

theorem From.step {w1 wr w2 : World} {O1 O O2 : Nat → Prop} (h : From w1 O1 wr O) (hs : Stay O wr w2) (hg : Grown O O2 wr) : From w1 O1 w2 O2 :=
  ⟨h.stay.trans2 hs (fun j hj e => by
    rcases h.own j e with h | h
    · exact h
    · omega), fun k hk => by
    rcases hg k hk with e | e
    · exact h.own k e
    · exact .inr (Nat.le_trans h.stay.size e)⟩

theorem From.calm {w1 wr w2 : World} {O1 O : Nat → Prop} (h : From w1 O1 wr O) (hs : Stay (fun _ => False) wr w2) : From w1 O1 w2 O :=
  ⟨h.stay.trans (hs.mono (fun _ _ h => h.elim)), h.own⟩

theorem From.made {w w2 : World} {O : Nat → Prop} (hs : Stay (fun _ => False) w w2) (hO : ∀ k, O k → w.heap.size ≤ k) : From w (fun _ => False) w2 O := ⟨hs, fun k hk => .inr (hO k hk)⟩

/-- A letter for a byte. -/
def ltr (x : Int) : Int := 97 + x % 26

theorem ltr_range (x : Int) : 97 ≤ ltr x ∧ ltr x < 123 := by unfold ltr; omega

theorem ltr_step (l : List Int) (k : Nat) (h : k < l.length) : (l.take (k + 1)).map ltr = (l.take k).map ltr ++ [ltr (l.getD k 0)] := by
  rw [List.take_add_one, List.getElem?_eq_getElem h, List.map_append, List.getD_eq_getElem?_getD, List.getElem?_eq_getElem h]
  rfl

/-- Bytes that came in, one of them. -/
theorem iarg_byte {w wr : World} {a : Option Addr} {n cap : Nat} {l : List Int} (h : IArg .u8 w (.slice a n cap) l a cap) (hs : Stay (fun _ => False) w wr) (k : Nat) (hk : k < n) : ∃ g o, a = some ⟨g, o, none⟩ ∧ wr.cell? ⟨g, o + k, none⟩ = some (.int .u8 (l.getD k 0)) ∧ 0 ≤ l.getD k 0 ∧ l.getD k 0 < 256 := by
  have hn : n = l.length := by have := h.shape; injection this
  obtain ⟨g, o, e, hg, hi⟩ := h.cells (fun e => by rw [e] at hn; simp at hn; omega)
  have hw := wf_u8 (h.wf (l.getD k 0) (getD_mem (by omega)))
  refine ⟨g, o, e, ?_, hw.1, by have := hw.2; omega⟩
  exact keep_cell hs (hi k (by omega))

section
variable {At : World → Nat → (Nat → Prop) → DS → Prop}

theorem ok_pd (f : Int) (hf : Fl f) (hr : rightB (pl f) = true) (L : List Int) (Ls : List (List Int)) (x : Bool) (e : List Int) (N : Nat) (hl : L.length ≤ 255) (h1 : Ls.flatten.length ≤ 1024) (h2 : Ls.length ≤ N) : Ok N (pd f L Ls x e) :=
  ⟨hr, hl, by show 0 ≤ 1279; omega, h1, h2, fun _ => rfl, fun k => by
    have k : hasB f 1 = false := k
    rw [hf.a1] at k; cases k⟩

theorem right_623 : rightB (pl 623) = true := by decide +kernel
theorem right_751 : rightB (pl 751) = true := by decide +kernel

attribute [local go_sem] eqlP_nil

end

end Go.Proofs.Ytjfhmpjpdcckhaa.L18

namespace Go.Proofs.Ytjfhmpjpdcckhaa.L18
open Go.RowKit

open L17

theorem pic_ctl (f : Int) (hf : Fl f) (L : List Int) (Ls : List (List Int)) (x : Bool) (e : List Int) (c : Int) (h : c < 32) (h9 : ¬ c = 9) (h10 : ¬ c = 10) : (pd f L Ls x e).pic c = [94, c + 64] := by
  unfold DS.pic
  rw [if_pos ⟨hf.a32, h, h9, h10⟩]

/-- The signal characters. -/
def sgc : Nat → Int
  | 0 => 3
  | 1 => 28
  | _ => 26

theorem sig_is (f : Int) (k : Nat) (hk : k < 3) : (∀ j : Nat, j < k → isB (pl f) (j : Int) (sgc k) = false) ∧ isB (pl f) (k : Int) (sgc k) = true ∧ isB (pl f) 10 (sgc k) = false ∧ isB (pl f) 11 (sgc k) = false ∧ isB (pl f) 4 (sgc k) = false ∧ 0 ≤ sgc k ∧ sgc k < 32 ∧ ¬ sgc k = 9 ∧ ¬ sgc k = 10 ∧ ¬ sgc k = 13 := by
  have : k = 0 ∨ k = 1 ∨ k = 2 := by omega
  rcases this with rfl | rfl | rfl
  · exact ⟨fun j hj => by omega, rfl, rfl, rfl, rfl, by decide, by decide, by decide, by decide, by decide⟩
  · refine ⟨fun j hj => ?_, rfl, rfl, rfl, rfl, by decide, by decide, by decide, by decide, by decide⟩
    obtain rfl : j = 0 := by omega
    rfl
  · refine ⟨fun j hj => ?_, rfl, rfl, rfl, rfl, by decide, by decide, by decide, by decide, by decide⟩
    have : j = 0 ∨ j = 1 := by omega
    rcases this with rfl | rfl <;> rfl

/-- A signal: all goes, or, with Noflsh, nothing. -/
theorem signal_pd (f : Int) (hf : Fl f) (L : List Int) (e : List Int) (k : Nat) (hk : k < 3) : (pd f L [] false e).input (sgc k) = (if hasB f 128 = true then pd f L [] false [94, sgc k + 64] else pd f [] [] false [94, sgc k + 64], (k : Int) + 1) := by
  obtain ⟨s1, s2, s3, s4, _, s5, s6, s7, s8, s9⟩ := sig_is f k hk
  rw [input_pd f L [] e (sgc k) s5 s9 s3 s4, sig_at (pd f L [] false []) (sgc k) k hk hf.a64 s1 s2]
  have hsh : (pd f L [] false []).shw (sgc k) = pd f L [] false [94, sgc k + 64] := by
    unfold DS.shw
    rw [if_pos (show (pd f L [] false []).loc 2 = true from hf.a2), pic_ctl f hf L [] false [] (sgc k) s6 s7 s8]
    rfl
  unfold DS.signal
  rw [hsh]
  have h8 : (pd f L [] false [94, sgc k + 64]).loc 128 = hasB f 128 := rfl
  rw [h8]
  cases hasB f 128 <;> rfl

/-- Vlnext. -/
theorem lit_pd (f : Int) (hf : Fl f) (L : List Int) (e : List Int) : (pd f L [] false e).input 22 = (pd f L [] true [94, 8], 0) := by
  rw [input_pd f L [] e 22 (by decide) (by decide) rfl rfl, sig_pd f L [] [] 22 rfl rfl rfl hf, canon_eq]
  have h1 : (pd f L [] false []).loc 512 = true := hf.a512
  have h2 : isB (pd f L [] false []).t 9 22 = true := rfl
  have h3 : (pd f L [] false []).loc 2 = true := hf.a2
  rw [h1, h2, h3]
  rfl

/-- .. and the byte behind it. -/
theorem next_pd (f : Int) (hf : Fl f) (L : List Int) (e : List Int) (k : Nat) (hk : k < 3) (hl : L.length < 254) : (pd f L [] true e).input (sgc k) = (pd f (L ++ [sgc k]) [] false [94, sgc k + 64], 0) := by
  obtain ⟨_, _, _, _, _, _, s6, s7, s8, _⟩ := sig_is f k hk
  unfold DS.input
  simp only
  rw [if_pos (show (pd f L [] true e).nxt = true from rfl)]
  have hlo : low (pd f L [] true e).t.fi (sgc k) = sgc k := low_84 _
  rw [hlo]
  show ((pd f L [] false []).put (sgc k), (0 : Int)) = _
  rw [put_pd f hf L [] false [] (sgc k) hl s8, pic_ctl f hf L [] false [] (sgc k) s6 s7 s8]
  rfl

end Go.Proofs.Ytjfhmpjpdcckhaa.L18

namespace Go.Proofs.Ytjfhmpjpdcckhaa.L18
open Go.RowKit

open L17

section
variable {At : World → Nat → (Nat → Prop) → DS → Prop}

attribute [local go_sem] eqlP_nil

end

end Go.Proofs.Ytjfhmpjpdcckhaa.L18

namespace Go.Proofs.Ytjfhmpjpdcckhaa.L18
open Go.RowKit

open L17

/-- All bytes can be typed. -/
def Plainly (l : List Int) : Prop := ∀ x ∈ l, 32 ≤ x ∧ x < 127

theorem feed_plain : ∀ (l : List Int) (L : List Int) (Ls : List (List Int)) (e : List Int) (o : List Int) (s : Int), Plainly l → L.length + l.length < 254 → Ls.flatten.length + L.length + l.length + 1 ≤ 1024 →
    (feedD (l ++ [10]) (pd 623 L Ls false e) o s).1 = pd 623 [] (Ls ++ [L ++ l ++ [10]]) false [10]
  | [], L, Ls, e, o, s, _, hl, hs => by
    have h := newline_pd 623 fl_623 L Ls e (by simpa using hl) (by simpa using hs)
    show ((pd 623 L Ls false e).input 10).1 = _
    rw [h, List.append_nil]
  | c :: l, L, Ls, e, o, s, hp, hl, hs => by
    have hc := hp c (by simp)
    rw [List.length_cons] at hl hs
    have h := type_pd 623 fl_623 L Ls e c hc.1 hc.2 (by omega)
    have ih := feed_plain l (L ++ [c]) Ls [c] (o ++ ((pd 623 L Ls false e).input c).1.ec) (if ((pd 623 L Ls false e).input c).2 = 0 then s else ((pd 623 L Ls false e).input c).2) (fun x hx => hp x (by simp [hx])) (by rw [List.length_append, List.length_singleton]; omega) (by rw [List.length_append, List.length_singleton]; omega)
    show (feedD (l ++ [10]) ((pd 623 L Ls false e).input c).1 _ _).1 = _
    rw [h] at ih ⊢
    rw [ih]
    have e : L ++ [c] ++ l ++ [10] = L ++ (c :: l) ++ [10] := by simp
    rw [e]

/-- Lines with their ends. -/
def ended (L : List (List Int)) : List (List Int) := L.map (· ++ [10])

theorem ended_step (L : List (List Int)) (i : Nat) (h : i < L.length) : ended (L.take (i + 1)) = ended (L.take i) ++ [L.getD i [] ++ [10]] := by
  unfold ended
  rw [List.take_add_one, List.getElem?_eq_getElem h, List.map_append, List.getD_eq_getElem?_getD, List.getElem?_eq_getElem h]
  rfl

theorem ended_len : ∀ (L : List (List Int)), (∀ l ∈ L, l.length ≤ 40) → (ended L).flatten.length ≤ 41 * L.length
  | [], _ => by simp [ended]
  | l :: L, h => by
    have h1 := h l (by simp)
    have h2 := ended_len L (fun x hx => h x (by simp [hx]))
    show ((l ++ [10]) :: ended L).flatten.length ≤ _
    simp only [List.flatten_cons, List.length_append, List.length_cons, List.length_nil]
    omega

theorem getD_drop (L : List (List Int)) (i : Nat) (h : i < L.length) : L.drop i = L.getD i [] :: L.drop (i + 1) := by
  rw [List.getD_eq_getElem?_getD, List.getElem?_eq_getElem h]
  exact List.drop_eq_getElem_cons h

theorem mem_take_getD {L : List (List Int)} {i : Nat} {l : List Int} (h : l ∈ L.take i) : ∃ j, j < i ∧ j < L.length ∧ l = L.getD j [] := by
  obtain ⟨j, hj, rfl⟩ := List.getElem_of_mem h
  rw [List.length_take] at hj
  refine ⟨j, by omega, by omega, ?_⟩
  rw [List.getElem_take, List.getD_eq_getElem?_getD, List.getElem?_eq_getElem (by omega)]
  rfl

/-- What is left of the line that is read, and of those behind. -/
def lefts (x : List Int) (m : Nat) (R : List (List Int)) : List (List Int) := if m < x.length then x.drop m :: R else R

theorem rd_left (x : List Int) (m : Nat) (R : List (List Int)) (e : List Int) (K : Nat) (hm : m < x.length) (hK : 1 ≤ K) : (pd 623 [] (lefts x m R) false e).rd (K : Int) = ((x.drop m).take K, false) ∧ (pd 623 [] (lefts x m R) false e).rdS (K : Int) = pd 623 [] (lefts x (m + min K (x.length - m)) R) false e := by
  have hl : lefts x m R = x.drop m :: R := if_pos hm
  obtain ⟨h1, h2⟩ := rd_line (pd 623 [] (lefts x m R) false e) K (by omega) fl_623.a1 (x.drop m) R hl
  have hne : (x.drop m).isEmpty = false := by
    cases hd : x.drop m with
    | nil => have := congrArg List.length hd; rw [List.length_drop] at this; simp at this; omega
    | cons a b => rfl
  refine ⟨by rw [h1, hne]; rfl, ?_⟩
  rw [h2, List.length_drop]
  by_cases hk : K < x.length - m
  · rw [if_pos (by omega), Nat.min_eq_left (by omega)]
    have : lefts x (m + K) R = (x.drop m).drop K :: R := by
      unfold lefts
      rw [if_pos (by omega), List.drop_drop]
    rw [this]
    rfl
  · rw [if_neg (by omega), Nat.min_eq_right (by omega)]
    have : lefts x (m + (x.length - m)) R = R := if_neg (by omega)
    rw [this]
    rfl

theorem rd_done (e : List Int) (K : Nat) (hK : 1 ≤ K) : (pd 623 [] [] false e).rd (K : Int) = ([], false) ∧ (pd 623 [] [] false e).rdS (K : Int) = pd 623 [] [] false e := rd_none (pd 623 [] [] false e) K (by omega) fl_623.a1 rfl

/-- Lines that came in. -/
def LArg (w : World) (ad : Option Addr) (n : Nat) (LS : List (List Int)) : Prop := n = LS.length ∧ ∀ i, i < n → ∃ g o a c, ad = some ⟨g, o, none⟩ ∧ w.cell? ⟨g, o + i, none⟩ = some (.slice a (LS.getD i []).length c) ∧ IArg .u8 w (.slice a (LS.getD i []).length c) (LS.getD i []) a c

theorem LArg.at {w wr : World} {ad : Option Addr} {n : Nat} {LS : List (List Int)} (h : LArg w ad n LS) (hs : Stay (fun _ => False) w wr) (i : Nat) (hi : i < n) : ∃ g o a c, ad = some ⟨g, o, none⟩ ∧ wr.cell? ⟨g, o + i, none⟩ = some (.slice a (LS.getD i []).length c) ∧ IArg .u8 wr (.slice a (LS.getD i []).length c) (LS.getD i []) a c := by
  obtain ⟨g, o, a, c, e, hc, hI⟩ := h.2 i hi
  exact ⟨g, o, a, c, e, keep_cell hs hc, hI.stay0 hs⟩

theorem mine_begin (w : World) : Mine w.heap.size (w.alloc (.cells #[] 5)) (.slice (some ⟨w.heap.size, 0, none⟩) 0 0) [] := ⟨(Acc.begin w).own, (Acc.begin w).wf⟩

theorem mine_free {base : Nat} {w : World} {v : Value} {l : List Int} (h : Mine base w v l) {O : Nat → Prop} (hO : ∀ k, O k → k < base) : ∃ a cap, IArg .u8 w v l a cap ∧ (l ≠ [] → ∀ ad, a = some ad → ¬ O ad.block) := by
  obtain ⟨a, c, h1, h2⟩ := owned_arg h.own h.wf
  refine ⟨a, c, h1, fun hne ad e => ?_⟩
  obtain ⟨b, o, e2, _⟩ := h1.cells hne
  have h3 := h2 b o e2
  rw [e2] at e
  cases e
  intro ho
  have h4 : b < base := hO _ ho
  omega

section
variable {At : World → Nat → (Nat → Prop) → DS → Prop}

attribute [local go_sem] eqlP_nil

end

end Go.Proofs.Ytjfhmpjpdcckhaa.L18

namespace Go.Proofs.Ytjfhmpjpdcckhaa.L18
open Go.RowKit

open L17

theorem lost_84 (d : DS) (h : d.t.fi = 84) : d.lost = d.out [7] := by
  have e : d.inp 64 = true := by show hasB d.t.fi 64 = true; rw [h]; decide
  unfold DS.lost
  rw [if_pos e]

theorem type_full (L : List Int) (Ls : List (List Int)) (e : List Int) (c : Int) (h0 : 32 ≤ c) (h1 : c < 127) (hl : 254 ≤ L.length) : (pd 623 L Ls false e).input c = (pd 623 L Ls false [7], 0) := by
  obtain ⟨b0, b1, b2, b3, b4, b5, b6, b7, b8, b9, b10, b11⟩ := isB_pl_all 623 c (cc_pl 623 c h0 h1) (by omega)
  rw [input_pd 623 L Ls e c (by omega) (by omega) b10 b11, sig_pd 623 L Ls [] c b0 b1 b2 fl_623, canon_eq]
  have tt : (pd 623 L Ls false []).t = pl 623 := rfl
  rw [tt, b9, b7, b8, b5, b6, b3]
  simp only [Bool.and_false, Bool.or_self, Bool.false_eq_true, if_false]
  have hen : (pd 623 L Ls false []).ends c = false := by
    unfold DS.ends
    rw [tt, b4]
    simp
    omega
  have hr : (pd 623 L Ls false []).room c = false := by
    unfold DS.room
    have l1 : (pd 623 L Ls false []).loc 1 = true := fl_623.a1
    have d1 : decide ((pd 623 L Ls false []).line.length < 254) = false := decide_eq_false (by show ¬ L.length < 254; omega)
    rw [l1, d1, hen]
    rfl
  unfold DS.enter
  rw [hen, if_neg (by simp)]
  unfold DS.put
  rw [hr, if_neg (by simp), lost_84 _ rfl]
  rfl

theorem newline_any (L : List Int) (Ls : List (List Int)) (e : List Int) (hl : L.length ≤ 254) : ∃ e', (pd 623 L Ls false e).input 10 = (pd 623 [] (if Ls.flatten.length + L.length + 1 ≤ 1024 then Ls ++ [L ++ [10]] else Ls) false e', 0) := by
  have b : ∀ k : Nat, k < 12 → isB (pl 623) (k : Int) 10 = false := fun k hk => by
    have : k = 0 ∨ k = 1 ∨ k = 2 ∨ k = 3 ∨ k = 4 ∨ k = 5 ∨ k = 6 ∨ k = 7 ∨ k = 8 ∨ k = 9 ∨ k = 10 ∨ k = 11 := by omega
    rcases this with rfl | rfl | rfl | rfl | rfl | rfl | rfl | rfl | rfl | rfl | rfl | rfl <;> rfl
  rw [input_pd 623 _ Ls e 10 (by decide) (by decide) (b 10 (by decide)) (b 11 (by decide)), sig_pd 623 _ Ls [] 10 (b 0 (by decide)) (b 1 (by decide)) (b 2 (by decide)) fl_623, canon_eq]
  have tt : (pd 623 L Ls false []).t = pl 623 := rfl
  have b9 : isB (pl 623) 9 10 = false := b 9 (by decide)
  have b7 : isB (pl 623) 7 10 = false := b 7 (by decide)
  have b8 : isB (pl 623) 8 10 = false := b 8 (by decide)
  have b5 : isB (pl 623) 5 10 = false := b 5 (by decide)
  have b6 : isB (pl 623) 6 10 = false := b 6 (by decide)
  have b3 : isB (pl 623) 3 10 = false := b 3 (by decide)
  rw [tt, b9, b7, b8, b5, b6, b3]
  simp only [Bool.and_false, Bool.or_self, Bool.false_eq_true, if_false]
  have hen : (pd 623 L Ls false []).ends 10 = true := rfl
  have l1 : ∀ L Ls x e, (pd 623 L Ls x e).loc 1 = true := fun _ _ _ _ => fl_623.a1
  have l2 : ∀ L Ls x e, (pd 623 L Ls x e).loc 2 = true := fun _ _ _ _ => fl_623.a2
  have hr : (pd 623 L Ls false []).room 10 = true := by
    unfold DS.room
    have d2 : decide ((pd 623 L Ls false []).line.length < 255) = true := decide_eq_true (by show L.length < 255; omega)
    rw [l1, hen, d2]
    simp
  have hput : (pd 623 L Ls false []).put 10 = pd 623 (L ++ [10]) Ls false [10] := by
    unfold DS.put
    rw [if_pos hr]
    have hlay : (pd 623 L Ls false []).lay 10 = pd 623 (L ++ [10]) Ls false [] := by unfold DS.lay; rw [if_pos (l1 _ _ _ _)]; rfl
    rw [hlay]
    have hnl : (pd 623 (L ++ [10]) Ls false []).nl 10 = pd 623 (L ++ [10]) Ls false [] := by
      unfold DS.nl
      rw [if_neg (fun k => by have := k.2.2.1; rw [show (pd 623 (L ++ [10]) Ls false []).loc 16 = false from fl_623.a16] at this; cases this)]
    rw [hnl]
    unfold DS.shw
    rw [if_pos (l2 _ _ _ _)]
    have hp : (pd 623 (L ++ [10]) Ls false []).pic 10 = [10] := by
      unfold DS.pic
      rw [if_neg (fun k => k.2.2.2 rfl), if_neg (fun k => by have := k.2; cases this)]
    rw [hp]
    rfl
  unfold DS.enter
  rw [if_pos ⟨hr, hen⟩, hput]
  unfold DS.ready
  have hc : ((pd 623 (L ++ [10]) Ls false [10]).setLine []).cnt = Ls.flatten.length := by show 0 + Ls.flatten.length = _; omega
  have hll : (pd 623 (L ++ [10]) Ls false [10]).line.length = L.length + 1 := by show (L ++ [10]).length = _; simp
  rw [hc, hll]
  by_cases hs : Ls.flatten.length + L.length + 1 ≤ 1024
  · rw [if_neg (by omega), if_pos hs]
    exact ⟨[10], rfl⟩
  · rw [if_pos (by omega), if_neg hs, lost_84 _ rfl]
    exact ⟨[10, 7], rfl⟩

/-- A discipline without Icanon. -/
def pw (R : List Int) (e : List Int) : DS := ⟨pl 0, [], [], R, false, false, e⟩

theorem raw_pw (R : List Int) (e : List Int) (c : Int) (hc : c = 10 ∨ (32 ≤ c ∧ c < 127)) : (pw R e).input c = if R.length < 1024 then (pw (R ++ [c]) [], 0) else (pw R [7], 0) := by
  have hb : isB (pl 0) 10 c = false ∧ isB (pl 0) 11 c = false := by
    rcases hc with rfl | ⟨h0, h1⟩
    · exact ⟨rfl, rfl⟩
    · obtain ⟨_, _, _, _, _, _, _, _, _, _, b10, b11⟩ := isB_pl_all 0 c (cc_pl 0 c h0 h1) (by omega)
      exact ⟨b10, b11⟩
  have hm : mapI 84 c = c := mapI_84 c (by omega)
  have hx : (pw R e).nxt = false := rfl
  unfold DS.input
  simp only
  rw [if_neg (by rw [hx]; simp)]
  have hm2 : mapI (pw R e).t.fi c = c := hm
  rw [hm2, if_neg (by omega)]
  show (pw R []).mapped c = _
  rw [mapped_eq]
  have e10 : isB (pw R []).t 10 c = false := hb.1
  have e11 : isB (pw R []).t 11 c = false := hb.2
  have i32 : (pw R []).inp 32 = false := by show hasB 84 32 = false; decide
  rw [e10, e11, i32]
  simp only [Bool.or_self, Bool.and_false, Bool.false_eq_true, if_false]
  have l0 : ∀ R e f, (pw R e).loc f = false := fun R e f => by
    show hasB 0 f = false
    unfold hasB
    have : bits .and .i64 0 f = 0 := by
      show IntKind.i64.wrap ((BitVec.ofInt 64 0 &&& BitVec.ofInt 64 f).toNat : Nat) = 0
      rw [show BitVec.ofInt 64 0 = 0#64 by decide]
      simp
      decide
    rw [this]; rfl
  unfold DS.plainIn
  rw [sig_off _ _ (l0 _ _ _), if_neg (by omega), if_pos (l0 _ _ _)]
  have hr : (pw R []).room c = decide (R.length < 1024) := by
    unfold DS.room
    rw [l0]
    rfl
  unfold DS.put
  rw [hr]
  by_cases h : R.length < 1024
  · rw [if_pos h, decide_eq_true h, if_pos rfl]
    have hlay : (pw R []).lay c = pw (R ++ [c]) [] := by unfold DS.lay; rw [if_neg (by rw [l0]; simp)]; rfl
    have hnl : (pw (R ++ [c]) []).nl c = pw (R ++ [c]) [] := by unfold DS.nl; rw [if_neg (fun k => by have := k.2.1; rw [l0] at this; cases this)]
    have hsh : (pw (R ++ [c]) []).shw c = pw (R ++ [c]) [] := by unfold DS.shw; rw [if_neg (by rw [l0]; simp)]
    rw [hlay, hnl, hsh]
  · rw [if_neg h, decide_eq_false h, if_neg (by simp), lost_84 _ rfl]
    rfl

theorem right_0 : rightB (pl 0) = true := by decide +kernel

/-- One, if it is so. -/
def o1 (x : Bool) : Nat := if x = true then 1 else 0

/-- What stands when i times, and k bytes more, came in. -/
def Lg (canon nl : Bool) (i k R : Nat) (d : DS) : Prop :=
  R ≤ 300 * i + k ∧
  if canon = true then ∃ L Ls, d = pd 623 L Ls false [] ∧ L.length ≤ 254 ∧ Ls.flatten.length ≤ 1024 ∧ Ls.length ≤ i ∧ (k ≤ 254 → k ≤ L.length) ∧ (254 < k → L.length = 254) ∧ ((255 ≤ k ∨ 1 ≤ i) → 1 ≤ R)
  else ∃ Rw, d = pw Rw [] ∧ Rw.length = min 1024 (i * (300 + o1 nl) + k)

theorem lg_start (canon nl : Bool) : Lg canon nl 0 0 0 (if canon = true then pd 623 [] [] false [] else pw [] []) := by
  refine ⟨by omega, ?_⟩
  cases canon
  · rw [if_neg (by simp)]
    exact ⟨[], by simp, by simp⟩
  · rw [if_pos rfl]
    exact ⟨[], [], by simp, by simp, by simp, by simp, fun h => by omega, fun h => by omega, fun h => by omega⟩

theorem lg_ok {canon nl : Bool} {i k R : Nat} {d : DS} (h : Lg canon nl i k R d) (e : List Int) : Ok i (d.setEc e) := by
  obtain ⟨_, h⟩ := h
  cases canon
  · rw [if_neg (by simp)] at h
    obtain ⟨Rw, rfl, hR⟩ := h
    exact ⟨right_0, by show 0 ≤ 255; omega, by show Rw.length ≤ 1279; omega, by show 0 ≤ 1024; omega, by show 0 ≤ i; omega, fun hq => Bool.noConfusion ((show hasB 0 1 = false by decide).symm.trans hq), fun _ => ⟨rfl, rfl⟩⟩
  · rw [if_pos rfl] at h
    obtain ⟨L, Ls, rfl, h1, h2, h3, _⟩ := h
    exact ok_pd 623 fl_623 right_623 L Ls false e i (by omega) h2 h3

theorem lg_line {canon nl : Bool} {i k R : Nat} {d : DS} (h : Lg canon nl i k R d) : d.line.length ≤ 254 ∧ d.cnt ≤ 1024 ∧ (canon = false → d.cnt = min 1024 (i * (300 + o1 nl) + k)) := by
  obtain ⟨_, h⟩ := h
  cases canon
  · rw [if_neg (by simp)] at h
    obtain ⟨Rw, rfl, hR⟩ := h
    refine ⟨by show 0 ≤ 254; omega, by show Rw.length + 0 ≤ 1024; omega, fun _ => by show Rw.length + 0 = _; omega⟩
  · rw [if_pos rfl] at h
    obtain ⟨L, Ls, rfl, h1, h2, h3, _⟩ := h
    exact ⟨h1, by show 0 + Ls.flatten.length ≤ 1024; omega, fun hc => by cases hc⟩

theorem lg_type {canon nl : Bool} {i k R : Nat} {d : DS} (h : Lg canon nl i k R d) (c : Int) (h0 : 97 ≤ c) (h1 : c ≤ 122) : ((d.input c).1.ec = [7] ∧ Lg canon nl i (k + 1) (R + 1) ((d.input c).1.setEc [])) ∨ (((d.input c).1.ec = [c] ∨ (d.input c).1.ec = []) ∧ Lg canon nl i (k + 1) R ((d.input c).1.setEc [])) := by
  obtain ⟨hR, h⟩ := h
  cases canon
  · rw [if_neg (by simp)] at h
    obtain ⟨Rw, rfl, hl⟩ := h
    rw [raw_pw Rw [] c (.inr ⟨by omega, by omega⟩)]
    by_cases hf : Rw.length < 1024
    · rw [if_pos hf]
      refine .inr ⟨.inr rfl, by omega, ?_⟩
      rw [if_neg (by simp)]
      exact ⟨Rw ++ [c], rfl, by rw [List.length_append, List.length_singleton]; omega⟩
    · rw [if_neg hf]
      refine .inl ⟨rfl, by omega, ?_⟩
      rw [if_neg (by simp)]
      exact ⟨Rw, rfl, by omega⟩
  · rw [if_pos rfl] at h
    obtain ⟨L, Ls, rfl, k1, k2, k3, k4, k5, k6⟩ := h
    by_cases hf : L.length < 254
    · rw [type_pd 623 fl_623 L Ls [] c (by omega) (by omega) hf]
      refine .inr ⟨.inl rfl, by omega, ?_⟩
      rw [if_pos rfl]
      exact ⟨L ++ [c], Ls, rfl, by rw [List.length_append, List.length_singleton]; omega, k2, k3, fun hk => by rw [List.length_append, List.length_singleton]; omega, fun hk => by rw [List.length_append, List.length_singleton]; omega, fun hk => by
        rcases hk with hk | hk
        · exfalso
          by_cases e : k = 254
          · have := k4 (by omega); omega
          · have := k5 (by omega); omega
        · exact k6 (.inr hk)⟩
    · rw [type_full L Ls [] c (by omega) (by omega) (by omega)]
      refine .inl ⟨rfl, by omega, ?_⟩
      rw [if_pos rfl]
      exact ⟨L, Ls, rfl, k1, k2, k3, fun hk => by omega, fun hk => by omega, fun _ => by omega⟩

theorem lg_next {canon : Bool} {i R : Nat} {d : DS} (h : Lg canon false i 300 R d) : Lg canon false (i + 1) 0 R d := by
  obtain ⟨hR, h⟩ := h
  refine ⟨by omega, ?_⟩
  cases canon
  · rw [if_neg (by simp)] at h ⊢
    obtain ⟨Rw, rfl, hl⟩ := h
    refine ⟨Rw, rfl, ?_⟩
    have : o1 false = 0 := rfl
    rw [this] at hl ⊢
    omega
  · rw [if_pos rfl] at h ⊢
    obtain ⟨L, Ls, rfl, k1, k2, k3, k4, k5, k6⟩ := h
    exact ⟨L, Ls, rfl, k1, k2, by omega, fun _ => by omega, fun hk => by omega, fun _ => k6 (.inl (by omega))⟩

theorem lg_nl {canon : Bool} {i R : Nat} {d : DS} (h : Lg canon true i 300 R d) : Lg canon true (i + 1) 0 R ((d.input 10).1.setEc []) := by
  obtain ⟨hR, h⟩ := h
  refine ⟨by omega, ?_⟩
  cases canon
  · rw [if_neg (by simp)] at h ⊢
    obtain ⟨Rw, rfl, hl⟩ := h
    have ho : o1 true = 1 := rfl
    rw [ho] at hl ⊢
    rw [raw_pw Rw [] 10 (.inl rfl)]
    by_cases hf : Rw.length < 1024
    · rw [if_pos hf]
      exact ⟨Rw ++ [10], rfl, by rw [List.length_append, List.length_singleton]; omega⟩
    · rw [if_neg hf]
      exact ⟨Rw, rfl, by omega⟩
  · rw [if_pos rfl] at h ⊢
    obtain ⟨L, Ls, rfl, k1, k2, k3, k4, k5, k6⟩ := h
    obtain ⟨e', he⟩ := newline_any L Ls [] k1
    rw [he]
    refine ⟨[], (if Ls.flatten.length + L.length + 1 ≤ 1024 then Ls ++ [L ++ [10]] else Ls), rfl, by simp, ?_, ?_, fun hk => by omega, fun hk => by omega, fun _ => k6 (.inl (by omega))⟩
    · split
      · rw [List.flatten_append, List.length_append]; simp; simp at *; omega
      · exact k2
    · split
      · rw [List.length_append, List.length_singleton]; omega
      · omega

theorem lg_rings {nl : Bool} {i R : Nat} {d : DS} (h : Lg true nl i 0 R d) (hi : 1 ≤ i) : 1 ≤ R := by
  obtain ⟨_, h⟩ := h
  rw [if_pos rfl] at h
  obtain ⟨L, Ls, _, _, _, _, _, _, k6⟩ := h
  exact k6 (.inr hi)

end Go.Proofs.Ytjfhmpjpdcckhaa.L18
