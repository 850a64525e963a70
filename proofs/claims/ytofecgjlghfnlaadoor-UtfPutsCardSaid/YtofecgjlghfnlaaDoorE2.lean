/-
  UtfFeeds walked: a decoder handed all bytes, one by one; what is appended. No conditions.
-/
import Derived.Test.YtofecgjlghfnlaaDoorE1
import Derived.Laws.AppendOwnNone
import Derived.IntWalk
namespace Go.Proofs.YtofecgjlghfnlaaDoor
open Go.RowKit

/-- A slice that holds a row of one-cell values, nil included. -/
def IsRow (w : World) (v : Value) (news : List Value) : Prop :=
  (v = .slice none 0 0 ∧ news = []) ∨ ∃ ad m c, v = .slice (some ad) m c ∧ news.length = m ∧ ∀ j u, news[j]? = some u → w.cell? (ad.add j) = some u

theorem isRow_of_owns {w : World} {base : Nat} {e : TypeId} {v : Value} {n : Nat} {xs : List Value} (h : w.ownsRow base e 1 v n xs) : IsRow w v xs := by
  have hl : xs.length = n := by simpa using h.1
  rcases h.2 with ⟨rfl, rfl⟩ | ⟨g, cap, cur, rfl, _⟩
  · exact Or.inl ⟨rfl, List.eq_nil_of_length_eq_zero hl⟩
  · exact Or.inr ⟨_, _, _, rfl, hl, h.cells (g := g) rfl⟩

/-- A row is appended to an own row: only its block may have turned. -/
theorem appL {P : Program} (S : Nat → Prop) {ops : Array Oper} {rest : List Oper} {o : Oper} {a : Act} {Q : Exit → Act → World → Prop} (hgd : o.guard = none) (s x : Operand) (t : TypeId)
    (ho : o.op = .call { callee := .builtin .append, args := #[s, x], argTypes := #[t, t] }) {w : World} {base n bytes : Nat} {e : TypeId} {z v sv : Value} {xs news : List Value} (hu : P.underlying t = some (.slice e))
    (hinfo : (P.info? e).map (fun i => (i.zero, i.size, i.bytes)) = some (some z, 1, bytes)) (hz : z.cells.size = 1) (hby : bytes ≤ 1000)
    (hown : w.ownsRow base e 1 v n xs) (hs : a.eval s = v) (hsrc : IsRow w sv news) (hx : a.eval x = sv) (h1 : ∀ u ∈ news, u.oneCell' = true) (hn : n + news.length ≤ 1000000) (hbase : base ≤ w.heap.size) (hS : ∀ k, v.ownBlock = some k → S k)
    (h : ∀ v' w', w'.ownsRow base e 1 v' (n + news.length) (xs ++ news) → Stay S w w' → wpList P ops Q rest (a.put o.dst v') w') : wpList P ops Q (o :: rest) a w := by
  obtain ⟨i, hi, hzz⟩ := Option.map_eq_some_iff.1 hinfo
  simp only [Prod.mk.injEq] at hzz
  obtain ⟨g1, g2, g3⟩ := hzz
  rcases hsrc with ⟨rfl, rfl⟩ | ⟨ad, m, c, rfl, hm, hc⟩
  · exact wpList_append_own_none hgd s x t ho base e i 1 hu hi v n xs hs hown hx (h v w (by simpa using hown) (Stay.refl _ _))
  · subst hm
    have hb : (n + news.length) * bytes ≤ 140737488355328 := Nat.le_trans (Nat.mul_le_mul hn hby) (by decide)
    exact wpList_append_own _ hgd s x t ho base e i z 1 bytes hu hi g1 g2 g3 hz (by decide) v n xs hs hown ad _ c news hx (by simp) hc h1 (by unfold maxLen; omega) hb hbase
      (fun v' w' h2 h3 _ => h v' w' h2 ((Stay.refl _ w).grown h3 fun k hk _ => hS k hk))

theorem one_runes (l : List Nat) : ∀ u ∈ l.map rv, u.oneCell' = true := by
  intro u hu
  obtain ⟨z, _, rfl⟩ := List.mem_map.1 hu
  rfl

theorem feed12 (p : List Nat) (b D : Nat) (w : World) (hb256 : b < 256) (hp : Right p) (hT : Tbl w) (hD : DecP w D p) (h0 : 0 < D) :
    Calls Tryd.prog 12 #[.pointer (some ⟨D, 0, none⟩), .int .u8 (b : Nat)] w (Fed D w.heap.size 0 [] p b w) := by
  have hlt : D < w.heap.size := World.rowIs.lt hD
  have hF := hide' (feed_any p b D w.heap.size 0 (.slice none 0 0) [] w hb256 hp hT hD h0 hlt (Nat.le_refl _) (World.ownsRow_nil _ _ _ _) (by decide))
  clear hT hD hp hlt
  go_enter Tryd.func12, Tryd.ntmps12
  go_wp2_with fail
  refine hF.out.mono ?_
  rintro e w1 ⟨t, rfl, h1, h2, h3⟩
  have HR : Hid (Fed D w.heap.size 0 [] p b w (.returned t) w1) := ⟨t, rfl, h1, h2, h3⟩
  clear h1 h2 h3
  go_wp2
  go_ret
  exact HR.out

theorem waits13 (p : List Nat) (D : Nat) (w : World) (hD : DecP w D p) :
    Calls Tryd.prog 13 #[.pointer (some ⟨D, 0, none⟩)] w fun e w' => e = .returned (.int .i64 (p.length : Nat)) ∧ w = w' := by
  have c1 : w.cell? ⟨D, 1, none⟩ = some (.int .i64 (p.length : Nat)) := World.rowIs.cell hD (i := 1) (by decide)
  clear hD
  generalize p.length = k at *
  go_enter Tryd.func13, Tryd.ntmps13
  go_wp2
  go_ret
  exact ⟨rfl, rfl⟩

theorem end15 (p : List Nat) (D : Nat) (w : World) (hp : p.length ≤ 3) (hD : DecP w D p) :
    Calls Tryd.prog 15 #[.pointer (some ⟨D, 0, none⟩)] w fun e w' => ∃ t, e = .returned t ∧ w'.ownsRow w.heap.size 21 1 t (endP p).length ((endP p).map rv) ∧ DecP w' D [] ∧ Stay (fun k => k = D) w w' := by
  have hlt : D < w.heap.size := World.rowIs.lt hD
  have hF := hide' (end_all p D w.heap.size 0 (.slice none 0 0) [] w hp hD hlt (Nat.le_refl _) (World.ownsRow_nil _ _ _ _) (by decide))
  clear hD hp hlt
  go_enter Tryd.func15, Tryd.ntmps15
  go_wp2_with fail
  refine hF.out.mono ?_
  rintro e w1 ⟨t, rfl, h1, h2, h3⟩
  have H1 := hide' h1
  have H2 := hide' h2
  have H3 := hide' h3
  clear h1 h2 h3
  go_wp2
  go_ret
  exact ⟨t, rfl, by simpa using H1.out, H2.out, H3.out.mono fun k hk h => h.resolve_right (by omega)⟩

end Go.Proofs.YtofecgjlghfnlaaDoor
