/-
  A window is asked for, and who owns a cell: walked. No conditions.
-/
import Derived.Test.YticccknocjnkpaaX5
namespace Go.Proofs.Yticccknocjnkpaa
open Go.RowKit

/-- A right window of a screen. -/
def OkP (p : Wn) : Prop := 0 ≤ p.x ∧ 0 ≤ p.y ∧ 0 < p.w ∧ 0 < p.h ∧ p.x + p.w ≤ 512 ∧ p.y + p.h ≤ 512

/-- Who owns a cell. -/
def ownerL : List Wn → Int → Int → Int
  | [], _, _ => 0
  | p :: r, x, y => if (!p.hid && inB p.r x y) = true then p.id else ownerL r x y

theorem ownerL_step {L : List Wn} {k : Nat} {p : Wn} (h : L[k]? = some p) (x y : Int) : ownerL (L.drop k) x y = if (!p.hid && inB p.r x y) = true then p.id else ownerL (L.drop (k + 1)) x y := by
  rw [show L.drop k = p :: L.drop (k + 1) by rw [← (List.getElem?_eq_some_iff.1 h).2, List.getElem_cons_drop]]
  rfl

theorem results_nb {fn : Func} {p c : Tmp} (h : fn.results = #[.cell p 78, .tmp c]) (tmps : Array Value) (w : World) (g : Nat) (r : Wn) (x : Value) (hp : tmps.getD p undef = .pointer (some ⟨g, 0, none⟩)) (hc : tmps.getD c undef = x) (hb : NBox w g r) :
    (results fn tmps).run Try.prog w = .ok (.tuple #[.agg #[.int .i64 r.id, .int .i64 r.env, .int .i64 r.x, .int .i64 r.y, .int .i64 r.w, .int .i64 r.h, .bool r.hid], x]) w := by
  have hp' : tmps[p]?.getD undef = .pointer (some ⟨g, 0, none⟩) := by simpa using hp
  have hc' : tmps[c]?.getD undef = x := by simpa using hc
  simp [results, h, hp', hc', asAddr, run_loadVar_cells w g 0 78 _ _ hb.cells Try.underlying78 rfl (by kernel_rfl)]

/-- No window. -/
def Wn.zero : Wn := ⟨0, 0, 0, 0, 0, 0, false⟩

/-- A window, and whether there is such a one. -/
def getR (L : List Wn) (id : Int) : Wn × Bool := match L[plN L id]? with | some p => (p, true) | none => (Wn.zero, false)

set_option maxHeartbeats 1000000 in
theorem get63 (q : Sm) (sw sh m : Int) (L : List Wn) (id : Int) (y : Wn × Bool) (hy : y = getR L id) (w : World) (h : SAt w q sw sh m L) :
    Calls Try.prog 63 #[.pointer (some ⟨q.b, 0, none⟩), .int .i64 id] w (Gives (.tuple #[.agg #[.int .i64 y.1.id, .int .i64 y.1.env, .int .i64 y.1.x, .int .i64 y.1.y, .int .i64 y.1.w, .int .i64 y.1.h, .bool y.1.hid], .bool y.2]) w) := by
  obtain ⟨b, v⟩ := q
  unfold getR at hy
  obtain ⟨i, hi⟩ : ∃ i, i = plN L id := ⟨_, rfl⟩
  have HI : Hid (plI L id = if i < L.length then ((i : Nat) : Int) else -1) := by show plI L id = _; rw [hi]; rfl
  rw [← hi] at hy
  have HYA := hide' hy
  obtain ⟨x, hx⟩ : ∃ x, x = plI L id := ⟨_, rfl⟩
  obtain ⟨W0, hW0⟩ : ∃ W, W = w.alloc (.cells #[.int .i64 0, .int .i64 0, .int .i64 0, .int .i64 0, .int .i64 0, .int .i64 0, .bool false] 78) := ⟨_, rfl⟩
  obtain ⟨bs, hbs⟩ : ∃ b, b = w.heap.size := ⟨_, rfl⟩
  have hst0 : Stay (fun _ => False) w W0 := by rw [hW0]; exact (Stay.refl _ _).alloc _
  have HS0 := hide' hst0
  have HBX := hide' (show NBox W0 bs Wn.zero by rw [hW0]; exact NBox.new Wn.zero hbs.symm)
  have HBS := hide' (show w.heap.size ≤ bs by omega)
  have HP := hide' (place53 ⟨b, v⟩ sw sh m L id W0 (h.keep hst0))
  have HSA := hide' (h.keep hst0)
  rw [← hx] at HP HI
  clear h hy hi hx hst0
  go_enter Try.func63, Try.ntmps63
  go_upto_region 1 with fail
  rw [← hW0, ← hbs]
  clear hW0 hbs
  go_wp2_with fail
  refine HP.out.mono ?_
  rintro _ w1 ⟨rfl, hs⟩
  have HS1 := hide' (HS0.out.trans hs)
  have hS1 := HSA.out.keep hs
  have HBX1 := hide' (HBX.out.keep hs)
  obtain ⟨z0, z1, z2, z3, z4, z5, z6, e0, e1, e2, e3, e4, e5, e6⟩ := HBX1.out
  clear hs HP HSA HS0 HBX
  by_cases hlt : i < L.length
  · have hxi : x = (i : Nat) := by rw [HI.out, if_pos hlt]
    subst hxi
    obtain ⟨p, hp⟩ : ∃ p, L[i]? = some p := ⟨_, List.getElem?_eq_getElem hlt⟩
    have hy0 := HYA.out
    rw [hp] at hy0
    have HY : Hid (y = (p, true)) := hide' hy0
    obtain ⟨a, cap, hv, hw, h0⟩ := hS1.row
    simp only at hv
    subst hv
    obtain ⟨n, hn⟩ : ∃ n, L.length = n := ⟨_, rfl⟩
    rw [hn] at hw
    obtain ⟨g, e, hb⟩ := hw.at hp
    subst e
    obtain ⟨_, _, _, _, k4, _, _, _, _, _, _, _⟩ := hS1.box
    simp only at k4
    rw [hn] at k4
    have hz0 : (0 : Int) ≤ (i : Nat) := by omega
    have hz1 : (i : Int) < (n : Nat) := by omega
    have hz3 : i < n := by omega
    obtain ⟨r0, r1, r2, r3, r4, r5, r6⟩ := hb
    clear hS1 hw h0 hlt hn HYA HI hp hy0
    go_wp2
    refine bodyPost_ret (results_nb rfl _ _ bs p _ rfl rfl (HBX1.out.put p)) rfl ⟨by rw [HY.out]; rfl, NBox.stay_put HS1.out HBS.out _ _ _ _ _ _ _⟩
  · have hxi : x = -1 := by rw [HI.out, if_neg hlt]
    subst hxi
    have hy0 := HYA.out
    rw [List.getElem?_eq_none (by omega)] at hy0
    have HY : Hid (y = (Wn.zero, false)) := hide' hy0
    clear hS1 hlt HYA HI hy0
    go_wp2
    refine bodyPost_ret (results_nb rfl _ _ bs Wn.zero _ rfl rfl (HBX1.out.put Wn.zero)) rfl ⟨by rw [HY.out]; rfl, NBox.stay_put HS1.out HBS.out _ _ _ _ _ _ _⟩

set_option maxHeartbeats 1000000 in
theorem owner19 (q : Sm) (sw sh m : Int) (L : List Wn) (x y : Int) (w : World) (h : SAt w q sw sh m L) (hok : ∀ p ∈ L, OkP p) (hx : I64 x) (hy : I64 y) :
    Calls Try.prog 19 #[.pointer (some ⟨q.b, 0, none⟩), .int .i64 x, .int .i64 y] w (Gives (.int .i64 (ownerL L x y)) w) := by
  obtain ⟨b, v⟩ := q
  have HSA := hide' h
  have HOK := hide' hok
  obtain ⟨a, cap, hv, hw, h0⟩ := h.row
  simp only at hv
  subst hv
  obtain ⟨n, hn⟩ : ∃ n, L.length = n := ⟨_, rfl⟩
  rw [hn] at hw
  have HWS := hide' hw
  have HN := hide' hn
  have hn1 : (n : Int) ≤ 256 := by have := h.n1; omega
  obtain ⟨_, _, _, _, k4, _⟩ := h.box
  simp only at k4
  rw [hn] at k4
  obtain ⟨r, hr⟩ : ∃ r, r = ownerL L x y := ⟨_, rfl⟩
  rw [← hr]
  have HR0 : Hid (r = ownerL (L.drop 0) x y) := hide' (by rw [hr]; rfl)
  have HL0 := hide' (Stay.refl (fun _ => False) w)
  have HXY := hide' (show I64 x ∧ I64 y from ⟨hx, hy⟩)
  clear h hok hw h0 hn hr hx hy
  go_enter Try.func19, Try.ntmps19
  go_wp2
  go_loopg [16] n (fun gg v16 wr => ∃ k : Nat, k ≤ n ∧ gg = n - k ∧ v16 = .int .i64 (k : Int) ∧ Hid (Stay (fun _ => False) w wr) ∧ Hid (r = ownerL (L.drop k) x y))
  case atStart => exact ⟨0, Nat.zero_le _, rfl, rfl, HL0, HR0⟩
  case round =>
    clear HL0 HR0
    obtain ⟨k, hkn, rfl, rfl, HL, HR⟩ := hrel
    by_cases hlt : k < n
    · have kn : (k : Int) < (n : Nat) := by omega
      obtain ⟨p, hp⟩ : ∃ p, L[k]? = some p := ⟨_, List.getElem?_eq_getElem (by have := HN.out; omega)⟩
      have hr := HR.out
      rw [ownerL_step hp] at hr
      have hop := HOK.out p (List.mem_of_getElem? hp)
      obtain ⟨g, e, hb⟩ := (HWS.out.keep HL.out).at hp
      subst e
      have HRI := hide' (fun W => in47 p.r x y W (by unfold OkP at hop; unfold I64 Wn.r; simp only; omega) (by unfold OkP at hop; unfold I64 Wn.r; simp only; omega) (by unfold OkP at hop; unfold I64 Wn.r; simp only; omega) (by unfold OkP at hop; unfold I64 Wn.r; simp only; omega) HXY.out.1 HXY.out.2)
      obtain ⟨bi, hbi⟩ : ∃ c, c = inB p.r x y := ⟨_, rfl⟩
      obtain ⟨hd, hhd⟩ : ∃ c, c = p.hid := ⟨_, rfl⟩
      rw [← hbi] at HRI hr
      rw [← hhd] at hr
      have HRR := hide' hr
      have HHD := hide' hhd
      unfold Wn.r at HRI
      obtain ⟨r0, r1, r2, r3, r4, r5, r6⟩ := hb
      rw [← hhd] at r6
      have hstA : Stay (fun _ => False) wr (wr.alloc (.cells #[.int .i64 p.id, .int .i64 p.env, .int .i64 p.x, .int .i64 p.y, .int .i64 p.w, .int .i64 p.h, .bool hd] 78)) := (Stay.refl _ _).alloc _
      have HLA := hide' (HL.out.trans hstA)
      clear hp hr hop hbi hhd hstA
      cases hd
      · go_wp2_with fail
        refine (HRI.out _).mono ?_
        rintro _ w1 ⟨rfl, hs⟩
        have HS1 := hide' (HLA.out.trans hs)
        have HBB := hide' ((show NBox (wr.alloc (.cells #[.int .i64 p.id, .int .i64 p.env, .int .i64 p.x, .int .i64 p.y, .int .i64 p.w, .int .i64 p.h, .bool false] 78)) wr.heap.size ⟨p.id, p.env, p.x, p.y, p.w, p.h, false⟩ from NBox.new ⟨p.id, p.env, p.x, p.y, p.w, p.h, false⟩ rfl).keep hs)
        obtain ⟨q0, _⟩ := HBB.out
        simp only at q0
        clear hs HLA HL HRI r0 r1 r2 r3 r4 r5 r6
        cases bi
        · have HNX : Hid (r = ownerL (L.drop (k + 1)) x y) := hide' HRR.out
          go_wp2
          go_roundg (n - (k + 1))
          case measure => omega
          case rel => exact ⟨k + 1, by omega, rfl, by go_num, HS1, HNX⟩
        · have HNX : Hid (r = p.id) := hide' HRR.out
          go_wp2
          go_ret
          exact ⟨by rw [HNX.out]; rfl, HS1.out⟩
      · have HNX : Hid (r = ownerL (L.drop (k + 1)) x y) := hide' HRR.out
        clear HRI HL
        go_wp2
        go_roundg (n - (k + 1))
        case measure => omega
        case rel => exact ⟨k + 1, by omega, rfl, by go_num, HLA, HNX⟩
    · have hkn' : k = n := by omega
      subst hkn'
      have HNX : Hid (r = 0) := hide' (by rw [HR.out, List.drop_of_length_le (by have := HN.out; omega)]; rfl)
      go_wp2
      go_ret
      exact ⟨by rw [HNX.out]; rfl, HL.out⟩

end Go.Proofs.Yticccknocjnkpaa
