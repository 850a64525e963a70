/-
  IpcLimits walked: true of any arguments. No conditions.
-/
import Derived.Test.YtabalnjbfhngnaaE0
import Derived.Lib.AppendZerosOnto
import Derived.Laws.OwnMore
namespace Go.Proofs.Ytabalnjbfhngnaa
open Go.RowKit

theorem extract0 (x y : Value) (w : World) : (Instr.extract (.tuple #[x, y]) 0).run Try.prog w = .ok x w := rfl
theorem extract1 (x y : Value) (w : World) : (Instr.extract (.tuple #[x, y]) 1).run Try.prog w = .ok y w := rfl

attribute [local go_sem] extract0 extract1

/-- Zero bytes are appended to a full row: a new row. -/
theorem wpList_append_zeros {ops : Array Oper} {rest : List Oper} {o : Oper} {a : Act} {Q : Exit → Act → World → Prop} (hgd : o.guard = none) (s x : Operand)
    (ho : o.op = .call { callee := .builtin .append, args := #[s, x], argTypes := #[26, 3] }) {w : World} {g n k : Nat} {olds : List Value} (hl : olds.length = n) (hc : ∀ j u, olds[j]? = some u → w.cell? ⟨g, j, none⟩ = some u) (hk : 0 < k) (hn : n + k ≤ 1000000)
    (hs : a.eval s = .slice (some ⟨g, 0, none⟩) n n) (hx : a.eval x = .int .i64 (k : Nat))
    (h : ∀ c w', Stay (fun _ => False) w w' → wpList Try.prog ops Q rest (a.put o.dst (.slice (some ⟨w.heap.size, 0, none⟩) (n + k) c)) w') : wpList Try.prog ops Q (o :: rest) a w := by
  obtain ⟨i, hi, hzz⟩ := Option.map_eq_some_iff.1 info5
  simp only [Prod.mk.injEq] at hzz
  obtain ⟨hz, h1, h2⟩ := hzz
  have hold : (Builtin.firstCells i.size n (.slice (some ⟨g, 0, none⟩) n n)).run Try.prog w.drew = .ok olds.toArray w.drew :=
    run_firstCells_some w.drew i.size n _ n n olds (by rw [h1, hl, Nat.mul_one]) (fun j u hu => by rw [addr_add, Nat.zero_add]; exact hc j u hu)
  have hr := Go.Lib.run_append_grow_zeros (P := Try.prog) w 26 3 o.type 5 i (.int .u8 0) .i64 .i64 Try.underlying26 Try.underlying3 hi hz (some ⟨g, 0, none⟩) n n olds hold k hk (by rw [h1]; decide) (by omega) (by omega) (by rw [h2]; omega) (growslice_fits (by omega) (by rw [h2]; omega))
  refine wpList_plain hgd fun K hK => ?_
  unfold Oper.wp
  simp [execOp, ho, resolve, invoke, builtin, hs, hx, hr, Result.andThen]
  exact hK _ _ (h _ _ ((Stay.refl _ _).drew.alloc _))

/-- A row by its index, as bytes. -/
theorem row_list {w : World} {b n : Nat} {g : Nat → Int} (h : w.rowIs b 5 n (fun i => .int .u8 (g i))) : ∀ j u, (bys ((List.range n).map g))[j]? = some u → w.cell? ⟨b, j, none⟩ = some u := by
  intro j u hu
  have hj : j < n := by
    have h2 := (List.getElem?_eq_some_iff.1 hu).1
    simpa [bys] using h2
  rw [h.cell hj]
  simpa [bys, hj] using hu

theorem tmod2000 (x : Nat) : ((x : Nat) : Int).tmod 2000 = ((x % 2000 : Nat) : Int) := by
  rw [Int.tmod_eq_emod_of_nonneg (by omega)]; rfl

set_option maxRecDepth 100000 in
theorem limits6 (c : Int) (M R : Nat) (w : World) (hM : M < 65536) (hR : R < 256) : Calls Try.prog 6 #[.int .u8 c, .int .u16 (M : Nat), .int .u8 (R : Nat)] w (LawTrue w) := by
  have HAW := hide' awake7
  have e0 : IntKind.i64.wrap ((R : Nat) : Int) = (R : Nat) := by rw [IntKind.wrap_i64]; omega
  obtain ⟨r, hr⟩ : ∃ r, r = 1 + R := ⟨_, rfl⟩
  have e1 : IntKind.i64.wrap (1 + ((R : Nat) : Int)) = (r : Nat) := by rw [IntKind.wrap_i64]; omega
  have m0 : IntKind.i64.wrap ((M : Nat) : Int) = (M : Nat) := by rw [IntKind.wrap_i64]; omega
  have mt := tmod2000 M
  obtain ⟨mr, hmr⟩ : ∃ n, n = M % 2000 := ⟨_, rfl⟩
  rw [← hmr] at mt
  have m1 : IntKind.i64.wrap ((mr : Nat) : Int) = (mr : Nat) := by rw [IntKind.wrap_i64]; omega
  obtain ⟨k, hk⟩ : ∃ k, k = 1 + mr := ⟨_, rfl⟩
  have m2 : IntKind.i64.wrap (1 + ((mr : Nat) : Int)) = (k : Nat) := by rw [IntKind.wrap_i64]; omega
  have HK : Hid (0 < k ∧ k ≤ 2000) := ⟨by omega, by omega⟩
  have HN := hide' (new_in (w0 := w) r (Stay.refl _ w) (by omega) (by omega))
  have HN2 := hide' (fun w => new8_high 4097 w (by decide))
  have HR1 : Hid (1 ≤ r) := by show 1 ≤ r; omega
  obtain ⟨n, hn⟩ : ∃ n : Nat, n = 4096 := ⟨_, rfl⟩
  have HM : Hid ((4096 : Int) = (n : Nat) ∧ 1 * n ≤ 281474976710656 ∧ n ≤ 9223372036854775807) := ⟨by omega, by omega, by omega⟩
  have n5 : (4095 : Int) < (n : Nat) := by omega
  have HN4 := hide' hn
  clear hr hmr hk hn
  go_enter Try.func6, Try.ntmps6
  go_wp2_with fail
  refine HN.out.mono ?_
  rintro e w1 ⟨q0, rfl, hi, _, _⟩
  obtain ⟨b, hb⟩ : ∃ b, b = q0.b := ⟨_, rfl⟩
  rw [← hb] at hi
  rw [← hb]
  have HI1 := hide' hi
  clear hi hb HN e0 e1
  go_wp2_with fail
  refine (HN2.out _).mono ?_
  rintro e w2 ⟨rfl, hs⟩
  have HI2 := hide' (HI1.out.keep hs)
  clear hs HI1 HN2
  obtain ⟨B, hB⟩ : ∃ B, B = w2.heap.size := ⟨_, rfl⟩
  obtain ⟨W, hW⟩ : ∃ W, W = w2.alloc (.cells (madeCells #[.int .u8 0] (n * 1)) 5) := ⟨_, rfl⟩
  have HRW : Hid (W.rowIs B 5 n (fun _ => .int .u8 0)) := by rw [hW, hB, Nat.mul_one]; exact World.rowIs_made w2 (.int .u8 0) n 5
  have hlt : 4095 < n := by omega
  have hce := HRW.out.cell hlt
  have hfr := HRW.out.frozen 4095
  obtain ⟨g, hg⟩ : ∃ g : Nat → Int, g = fun i => if i = 4095 then c else 0 := ⟨_, rfl⟩
  have HRS : Hid ((W.setCell ⟨B, 4095, none⟩ (.int .u8 c)).rowIs B 5 n (fun i => .int .u8 (g i))) := (HRW.out.set 4095 (.int .u8 c)).congr (fun i _ => by rw [hg]; simp only; split <;> rfl)
  have HIS : Hid (RIn w (W.setCell ⟨B, 4095, none⟩ (.int .u8 c)) b r q0 []) := by
    refine (HI2.out.keep (w1 := W) (by rw [hW]; exact (Stay.refl _ _).alloc _)).beside (T := fun j => j = B) ((Stay.refl (fun j => j = B) W).setCell (p := ⟨B, 4095, none⟩) rfl _) (fun j hj => ?_)
    subst hj
    refine ⟨by rw [hB]; exact HI2.out.stay.size, fun e => ?_⟩
    have := HI2.out.at'.lt _ e
    omega
  have HNO : Hid (¬ q0.own B ∧ w.heap.size ≤ B ∧ B < W.heap.size) := by
    refine ⟨fun e => ?_, ?_, HRW.out.lt⟩
    · have := HI2.out.at'.lt _ e
      omega
    · rw [hB]; exact HI2.out.stay.size
  obtain ⟨l, hl⟩ : ∃ l, l = (List.range n).map g := ⟨_, rfl⟩
  have HLL : Hid (l.length = n) := by show l.length = n; rw [hl]; simp
  have HLC : Hid (l.getD 4095 0 = c) := by show l.getD 4095 0 = c; rw [hl]; simp [List.getD_eq_getElem?_getD, hlt, hg]
  have hlist := fun W h => row_list (w := W) (b := B) (n := n) (g := g) h
  rw [← hl] at hlist
  have HLI := hide' hlist
  have HSN := hide' (send_in 1 (some ⟨B, 0, none⟩) n n l HIS.out (.inr ⟨_, n, n, rfl, by rw [bys_len]; exact HLL.out, fun j u hu => by rw [addr_add, Nat.zero_add]; exact hlist _ HRS.out j u hu⟩) (by rw [HLL.out, HN4.out]; omega) HR1.out)
  have HW := hide' hW
  have HBB := hide' hB
  clear hlist hl hg hlt hW hB
  go_wp2_with (refine wpList_makeS _ rfl (.const (.int .i64 4096)) 26 rfl 5 (.int .u8 0) 1 1 Try.underlying26 info5 #[.int .u8 0] rfl n _ rfl HM.out.1 HM.out.2.1 HM.out.2.2 ?_; rw [← HW.out, ← HBB.out])
  refine HSN.out.mono ?_
  rintro e w3 ⟨q1, rfl, hi, hm⟩
  have HR3 := hide' (hm.1.row HRS.out HNO.out.1)
  have HI3 := hide' hi
  clear hi hm HSN HRS HRW HIS hce hfr
  have HOL : Hid (∀ j u, (bys l)[j]? = some u → w3.cell? ⟨B, j, none⟩ = some u) := HLI.out _ HR3.out
  have HOLN : Hid ((bys l).length = n) := by rw [bys_len]; exact HLL.out
  have HNK : Hid (n + k ≤ 1000000 ∧ 4096 < n + k) := by
    have h1 := HN4.out
    have h2 := HK.out
    show _ ∧ _
    omega
  go_wp2_with (at_builtin; refine wpList_append_zeros rfl _ _ rfl HOLN.out HOL.out HK.out.1 HNK.out.1 rfl rfl ?_; intro c4 w4 hs4; have HI4 := hide' (HI3.out.keep hs4); have HSL := hide' (send_long 1 (some ⟨w3.heap.size, 0, none⟩) (n + k) c4 HI4.out HNK.out.2); clear hs4)
  refine HSL.out.mono ?_
  rintro e w5 ⟨rfl, hi, _⟩
  have HT := hide' (take_in hi)
  clear hi HSL HI4 HI3 HR3 HOL HOLN
  go_wp2_with fail
  refine HT.out.mono ?_
  rintro e w6 ⟨q2, ta, tk, tc, rfl, hi, hm, hh, hap⟩
  have hbs := hh.bs
  obtain ⟨ta', tc', hsh, _, hcs⟩ := hbs
  obtain ⟨h1, hkl, h3⟩ : ta = ta' ∧ tk = l.length ∧ tc = tc' := by cases hsh; exact ⟨rfl, rfl, rfl⟩
  subst h1 h3
  obtain ⟨tb, tof, htab, hin⟩ := hcs (fun e => by
    have h1 := HLL.out
    have h2 := HN4.out
    rw [e] at h1
    simp at h1
    omega)
  subst htab
  have hcell : w6.cell? ⟨tb, tof + 4095, none⟩ = some (.int .u8 c) := by
    have h := hin 4095 (by have h1 := HLL.out; have h2 := HN4.out; omega)
    rw [HLC.out] at h
    exact h
  have k1 : ((tk : Nat) : Int) = 4096 := by have h1 := HLL.out; have h2 := HN4.out; omega
  have k2 : (4095 : Int) < (tk : Nat) := by omega
  obtain ⟨B6, hB6⟩ : ∃ B, B = w6.heap.size := ⟨_, rfl⟩
  obtain ⟨W6, hW6⟩ : ∃ W, W = w6.alloc (.cells #[.int .i64 1, .slice (some ⟨tb, tof, none⟩) tk tc] 28) := ⟨_, rfl⟩
  have HST6 : Hid (Stay (fun _ => False) w6 W6) := by rw [hW6]; exact (Stay.refl _ _).alloc _
  have HMB : Hid (MBox W6 B6 ⟨1, .slice (some ⟨tb, tof, none⟩) tk tc⟩) := by rw [hW6]; exact MBox.new ⟨1, .slice (some ⟨tb, tof, none⟩) tk tc⟩ hB6.symm
  have HCE := hide' (keep_cell HST6.out hcell)
  have HT2 := hide' (take_none (hi.keep HST6.out))
  have HW6 : Hid (B6 = w6.heap.size ∧ W6 = w6.alloc (.cells #[.int .i64 1, .slice (some ⟨tb, tof, none⟩) tk tc] 28)) := ⟨hB6, hW6⟩
  clear hi hm hh hap hcs hin hcell HT hB6 hW6 hsh hkl HST6 HLL HLC HLI HN4 HM HK HNK HNO HW HBB HR1 mt m0 m1 m2 n5
  go_upto_region 9 with fail
  obtain ⟨hB6, hW6⟩ := HW6.out
  rw [← hW6, ← hB6]
  clear hB6 hW6 HW6
  go_wp2_with fail
  refine HT2.out.mono ?_
  rintro e w7 ⟨rfl, hi, hs⟩
  have hmb := HMB.out.keep hs
  have d1 : ∀ o : Obj, (w7.alloc o).cell? ⟨B6, 1, none⟩ = some (.slice (some ⟨tb, tof, none⟩) tk tc) := fun o => (hmb.alloc o).c1
  have d2 : ∀ o : Obj, (w7.alloc o).cell? ⟨tb, tof + 4095, none⟩ = some (.int .u8 c) := fun o => keep_cell ((Stay.refl _ _).alloc o) (keep_cell hs HCE.out)
  have HS7 := hide' hi.stay
  clear hi hs hmb HMB HCE HT2
  go_wp2_with fail
  refine (HAW.out _).mono ?_
  rintro e w8 ⟨rfl, hs⟩
  have HS8 := hide' ((HS7.out.alloc _).trans hs)
  clear hs d1 d2
  go_wp2
  go_ret
  exact ⟨rfl, HS8.out⟩

end Go.Proofs.Ytabalnjbfhngnaa
