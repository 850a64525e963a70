/-
  The document of windows: who owns a cell; is it one's own: walked. No conditions.
-/
import Derived.Test.YticccknocjnkpaaY1
namespace Go.Proofs.Yticccknocjnkpaa
open Go.RowKit

theorem inB_iff {p : Wn} (h : OkP p) (x y : Int) : inB p.r x y = true ↔ (p.x ≤ x ∧ x < p.x + p.w ∧ p.y ≤ y ∧ y < p.y + p.h) := by
  unfold OkP at h
  unfold inB Wn.r
  simp only [Bool.and_eq_true, decide_eq_true_eq]
  omega

set_option maxHeartbeats 1000000 in
theorem owner77 (a : Option Addr) (n cap : Nat) (L : List Wn) (x y : Int) (w : World) (h : Rds w a L) (hn : L.length = n) (hm : n ≤ 256) (hok : ∀ p ∈ L, OkP p) :
    Calls Try.prog 77 #[.slice a n cap, .int .i64 x, .int .i64 y] w (Gives (.int .i64 (ownerL L x y)) w) := by
  have HRD := hide' h
  have HOK := hide' hok
  have HN := hide' hn
  have hn1 : (n : Int) ≤ 256 := by omega
  obtain ⟨r, hr⟩ : ∃ r, r = ownerL L x y := ⟨_, rfl⟩
  rw [← hr]
  have HR0 : Hid (r = ownerL (L.drop 0) x y) := hide' (by rw [hr]; rfl)
  have HL0 := hide' (Stay.refl (fun _ => False) w)
  clear h hok hn hr hm
  go_enter Try.func77, Try.ntmps77
  go_wp2
  go_loopg [7] n (fun gg v7 wr => ∃ k : Nat, k ≤ n ∧ gg = n - k ∧ v7 = .int .i64 (k : Int) ∧ Hid (Stay (fun _ => False) w wr) ∧ Hid (r = ownerL (L.drop k) x y))
  case atStart => exact ⟨0, Nat.zero_le _, rfl, rfl, HL0, HR0⟩
  case round =>
    clear HL0 HR0
    obtain ⟨k, hkn, rfl, rfl, HL, HR⟩ := hrel
    by_cases hlt : k < n
    · have kn : (k : Int) < (n : Nat) := by omega
      obtain ⟨p, hp⟩ : ∃ p, L[k]? = some p := ⟨_, List.getElem?_eq_getElem (by have := HN.out; omega)⟩
      have hr := HR.out
      rw [ownerL_step hp] at hr
      have hop := HOK.out p (List.mem_of_getElem? hp)
      obtain ⟨g, e, hb⟩ := (HRD.out.keep HL.out) k p hp
      subst e
      have hob := hop
      unfold OkP at hob
      have hiff := inB_iff hop x y
      obtain ⟨hd, hhd⟩ : ∃ c, c = p.hid := ⟨_, rfl⟩
      obtain ⟨r0, r1, r2, r3, r4, r5, r6⟩ := hb
      rw [← hhd] at hr r6
      have hstA : Stay (fun _ => False) wr (wr.alloc (.cells #[.int .i64 p.x, .int .i64 p.y, .int .i64 p.w, .int .i64 p.h] 41)) := (Stay.refl _ _).alloc _
      have HLA := hide' (HL.out.trans hstA)
      have r6' := keep_cell hstA r6
      have r0' := keep_cell hstA r0
      have hw1 : IntKind.i64.wrap (p.x + p.w) = p.x + p.w := by rw [IntKind.wrap_i64]; omega
      have hw2 : IntKind.i64.wrap (p.y + p.h) = p.y + p.h := by rw [IntKind.wrap_i64]; omega
      cases hd
      · have HRH : Hid ((p.x ≤ x ∧ x < p.x + p.w ∧ p.y ≤ y ∧ y < p.y + p.h) → r = p.id) := hide' (fun h => by rw [hr, hiff.2 h]; rfl)
        have HRN : Hid (¬ (p.x ≤ x ∧ x < p.x + p.w ∧ p.y ≤ y ∧ y < p.y + p.h) → r = ownerL (L.drop (k + 1)) x y) := hide' (fun h => by
          have hf : inB p.r x y = false := by
            cases hb : inB p.r x y
            · rfl
            · exact absurd (hiff.1 hb) h
          rw [hr, hf]; rfl)
        clear hp hr hop hhd hstA hob hiff HL
        by_cases h0 : p.x ≤ x
        · have d0 : decide (p.x ≤ x) = true := decide_eq_true h0
          by_cases h1 : x < p.x + p.w
          · have d1 : decide (x < p.x + p.w) = true := decide_eq_true h1
            by_cases h2 : p.y ≤ y
            · have d2 : decide (p.y ≤ y) = true := decide_eq_true h2
              by_cases h3 : y < p.y + p.h
              · have d3 : decide (y < p.y + p.h) = true := decide_eq_true h3
                have HNX : Hid (r = p.id) := hide' (HRH.out ⟨by omega, by omega, by omega, by omega⟩)
                go_wp2
                go_ret
                exact ⟨by rw [HNX.out]; rfl, HLA.out⟩
              · have d3 : decide (y < p.y + p.h) = false := decide_eq_false h3
                have HNX : Hid (r = ownerL (L.drop (k + 1)) x y) := hide' (HRN.out (by omega))
                go_wp2
                go_roundg (n - (k + 1))
                case measure => omega
                case rel => exact ⟨k + 1, by omega, rfl, by go_num, HLA, HNX⟩
            · have d2 : decide (p.y ≤ y) = false := decide_eq_false h2
              have HNX : Hid (r = ownerL (L.drop (k + 1)) x y) := hide' (HRN.out (by omega))
              go_wp2
              go_roundg (n - (k + 1))
              case measure => omega
              case rel => exact ⟨k + 1, by omega, rfl, by go_num, HLA, HNX⟩
          · have d1 : decide (x < p.x + p.w) = false := decide_eq_false h1
            have HNX : Hid (r = ownerL (L.drop (k + 1)) x y) := hide' (HRN.out (by omega))
            go_wp2
            go_roundg (n - (k + 1))
            case measure => omega
            case rel => exact ⟨k + 1, by omega, rfl, by go_num, HLA, HNX⟩
        · have d0 : decide (p.x ≤ x) = false := decide_eq_false h0
          have HNX : Hid (r = ownerL (L.drop (k + 1)) x y) := hide' (HRN.out (by omega))
          go_wp2
          go_roundg (n - (k + 1))
          case measure => omega
          case rel => exact ⟨k + 1, by omega, rfl, by go_num, HLA, HNX⟩
      · have HNX : Hid (r = ownerL (L.drop (k + 1)) x y) := hide' hr
        clear hp hr hop hhd hstA hob hiff HL
        go_wp2
        go_roundg (n - (k + 1))
        case measure => omega
        case rel => exact ⟨k + 1, by omega, rfl, by go_num, HLA, HNX⟩
    · have hkn' : k = n := by omega
      subst hkn'
      have HNX : Hid (r = 0) := hide' (by rw [HR.out, List.drop_of_length_le (by have := HN.out; omega)]; rfl)
      go_wp2
      go_ret
      exact ⟨by rw [HNX.out]; rfl, HL.out⟩

theorem far55 (n : Int) (w : World) : Calls Try.prog 55 #[.int .i64 n] w (Gives (.bool (farB n)) w) := by
  have HS := hide' (Stay.refl (fun _ => False) w)
  unfold farB
  go_enter Try.func55, Try.ntmps55
  by_cases h1 : n < -1073741824
  · have d1 : decide (n < -1073741824) = true := decide_eq_true h1
    go_wp2
    go_ret
    exact ⟨ret_bool (by first | rfl | simp [d1]), HS.out⟩
  · have d1 : decide (n < -1073741824) = false := decide_eq_false h1
    go_wp2
    go_ret
    exact ⟨ret_bool (by first | rfl | simp [d1]), HS.out⟩

/-- Does a window own a cell, at a place in it? -/
def ownB (L : List Wn) (p : Wn) (x y : Int) : Bool := decide (0 ≤ x) && decide (x < p.w) && decide (0 ≤ y) && decide (y < p.h) && (ownerL L (p.x + x) (p.y + y) == p.id)

set_option maxHeartbeats 2000000 in
theorem own56 (a : Option Addr) (n cap : Nat) (L : List Wn) (p : Wn) (x y : Int) (w : World) (h : Rds w a L) (hn : L.length = n) (hm : n ≤ 256) (hok : ∀ p ∈ L, OkP p) (hp : OkP p) :
    Calls Try.prog 56 #[.slice a n cap, .agg #[.int .i64 p.id, .int .i64 p.env, .int .i64 p.x, .int .i64 p.y, .int .i64 p.w, .int .i64 p.h, .bool p.hid], .int .i64 x, .int .i64 y] w (Gives (.bool (ownB L p x y)) w) := by
  obtain ⟨W0, hW0⟩ : ∃ W, W = w.alloc (.cells #[.int .i64 p.id, .int .i64 p.env, .int .i64 p.x, .int .i64 p.y, .int .i64 p.w, .int .i64 p.h, .bool p.hid] 78) := ⟨_, rfl⟩
  obtain ⟨bs, hbs⟩ : ∃ b, b = w.heap.size := ⟨_, rfl⟩
  have hst0 : Stay (fun _ => False) w W0 := by rw [hW0]; exact (Stay.refl _ _).alloc _
  have hb0 : NBox W0 bs p := by rw [hW0]; exact NBox.new p hbs.symm
  have hS : (fun w' => Stay (fun _ => False) w w' ∧ NBox w' bs p) W0.drew := ⟨hst0.drew, hb0.keep (Stay.refl _ _).drew⟩
  have HOW := hide' (fun W (hs : Stay (fun _ => False) w W) => owner77 a n cap L (p.x + x) (p.y + y) W (h.keep hs) hn hm hok)
  obtain ⟨z, hz⟩ : ∃ z, z = ownB L p x y := ⟨_, rfl⟩
  rw [← hz]
  unfold ownB at hz
  obtain ⟨o, ho⟩ : ∃ o, o = ownerL L (p.x + x) (p.y + y) := ⟨_, rfl⟩
  rw [← ho] at hz HOW
  have HY := hide' hz.symm
  unfold OkP at hp
  clear hst0 hb0 h hn hm hok hz ho
  go_enter Try.func56, Try.ntmps56
  go_upto_region 1 with fail
  rw [← hW0, ← hbs]
  clear hW0 hbs
  by_cases h0 : 0 ≤ x
  · have d0 : decide (0 ≤ x) = true := decide_eq_true h0
    by_cases h1 : x < p.w
    · have d1 : decide (x < p.w) = true := decide_eq_true h1
      by_cases h2 : 0 ≤ y
      · have d2 : decide (0 ≤ y) = true := decide_eq_true h2
        by_cases h3 : y < p.h
        · have d3 : decide (y < p.h) = true := decide_eq_true h3
          have hwx : IntKind.i64.wrap (p.x + x) = p.x + x := by rw [IntKind.wrap_i64]; omega
          have hwy : IntKind.i64.wrap (p.y + y) = p.y + y := by rw [IntKind.wrap_i64]; omega
          refine wp_region_mix (fun w' => Stay (fun _ => False) w w' ∧ NBox w' bs p) [(0, true), (1, true), (2, true), (3, true), (4, true), (5, true), (6, true), (7, true), (8, true), (9, true), (10, true), (11, true), (12, true), (13, true), (14, true), (15, true), (16, true), (17, true), (18, true), (19, true), (20, true), (21, true), (22, true), (23, true), (24, true), (25, true), (26, true), (27, true), (28, true), (29, true), (30, true), (31, true), (33, true), (34, true), (32, false), (35, true), (36, true), (37, true)] (by kernel_rfl) (by kernel_rfl) (fun _ d _ _ _ h => by cases d <;> exact h) hS ?_
          refine mix_begin (fun K0 hK0 => ?_)
          refine mix_take hK0 (some 9) (.move (.tmp 2)) 3 _ (by kernel_rfl) (by kernel_rfl) (fun w' hS' => by (obtain ⟨_, m⟩ := hS'; obtain ⟨m0, m1, m2, m3, m4, m5, m6, _⟩ := m; simp only [opr]; go_simp; try with_reducible rfl)) (fun K1 hK1 => ?_)
          clear hK0 K0
          simp only [Act.put, List.setIfInBounds_toArray, List.set_cons_zero, List.set_cons_succ]
          refine mix_take hK1 (some 10) (.binOp BinOp.geq 3 (.tmp 9) (.const (Value.int IntKind.i64 0)) 3) 4 _ (by kernel_rfl) (by kernel_rfl) (fun w' hS' => by (obtain ⟨_, m⟩ := hS'; obtain ⟨m0, m1, m2, m3, m4, m5, m6, _⟩ := m; simp only [opr]; go_simp; try with_reducible rfl)) (fun K2 hK2 => ?_)
          clear hK1 K1
          simp only [Act.put, List.setIfInBounds_toArray, List.set_cons_zero, List.set_cons_succ]
          refine mix_take hK2 (some 11) (.move (.tmp 10)) 4 _ (by kernel_rfl) (by kernel_rfl) (fun w' hS' => by (obtain ⟨_, m⟩ := hS'; obtain ⟨m0, m1, m2, m3, m4, m5, m6, _⟩ := m; simp only [opr]; go_simp; try with_reducible rfl)) (fun K3 hK3 => ?_)
          clear hK2 K2
          simp only [Act.put, List.setIfInBounds_toArray, List.set_cons_zero, List.set_cons_succ]
          refine mix_take hK3 (some 12) (.move (.tmp 2)) 3 _ (by kernel_rfl) (by kernel_rfl) (fun w' hS' => by (obtain ⟨_, m⟩ := hS'; obtain ⟨m0, m1, m2, m3, m4, m5, m6, _⟩ := m; simp only [opr]; go_simp; try with_reducible rfl)) (fun K4 hK4 => ?_)
          clear hK3 K3
          simp only [Act.put, List.setIfInBounds_toArray, List.set_cons_zero, List.set_cons_succ]
          refine mix_take hK4 (some 13) (.fieldAddr 78 (.tmp 5) 2) 0 _ (by kernel_rfl) (by kernel_rfl) (fun w' hS' => by (obtain ⟨_, m⟩ := hS'; obtain ⟨m0, m1, m2, m3, m4, m5, m6, _⟩ := m; simp only [opr]; go_simp; try with_reducible rfl)) (fun K5 hK5 => ?_)
          clear hK4 K4
          simp only [Act.put, List.setIfInBounds_toArray, List.set_cons_zero, List.set_cons_succ]
          refine mix_take hK5 (some 14) (.fieldAddr 41 (.tmp 13) 2) 0 _ (by kernel_rfl) (by kernel_rfl) (fun w' hS' => by (obtain ⟨_, m⟩ := hS'; obtain ⟨m0, m1, m2, m3, m4, m5, m6, _⟩ := m; simp only [opr]; go_simp; try with_reducible rfl)) (fun K6 hK6 => ?_)
          clear hK5 K5
          simp only [Act.put, List.setIfInBounds_toArray, List.set_cons_zero, List.set_cons_succ]
          refine mix_take hK6 (some 15) (.load 3 (.tmp 14)) 3 _ (by kernel_rfl) (by kernel_rfl) (fun w' hS' => by (obtain ⟨_, m⟩ := hS'; obtain ⟨m0, m1, m2, m3, m4, m5, m6, _⟩ := m; simp only [opr]; go_simp; try with_reducible rfl)) (fun K7 hK7 => ?_)
          clear hK6 K6
          simp only [Act.put, List.setIfInBounds_toArray, List.set_cons_zero, List.set_cons_succ]
          refine mix_take hK7 (some 16) (.binOp BinOp.lss 3 (.tmp 12) (.tmp 15) 3) 4 _ (by kernel_rfl) (by kernel_rfl) (fun w' hS' => by (obtain ⟨_, m⟩ := hS'; obtain ⟨m0, m1, m2, m3, m4, m5, m6, _⟩ := m; simp only [opr]; go_simp; try with_reducible rfl)) (fun K8 hK8 => ?_)
          clear hK7 K7
          simp only [Act.put, List.setIfInBounds_toArray, List.set_cons_zero, List.set_cons_succ]
          refine mix_take hK8 (some 17) (.pick (.tmp 11) (.tmp 16) (.const (Value.bool false))) 4 _ (by kernel_rfl) (by kernel_rfl) (fun w' hS' => by (obtain ⟨_, m⟩ := hS'; obtain ⟨m0, m1, m2, m3, m4, m5, m6, _⟩ := m; simp only [opr]; go_simp; try with_reducible rfl)) (fun K9 hK9 => ?_)
          clear hK8 K8
          simp only [Act.put, List.setIfInBounds_toArray, List.set_cons_zero, List.set_cons_succ]
          refine mix_take hK9 (some 18) (.move (.tmp 17)) 4 _ (by kernel_rfl) (by kernel_rfl) (fun w' hS' => by (obtain ⟨_, m⟩ := hS'; obtain ⟨m0, m1, m2, m3, m4, m5, m6, _⟩ := m; simp only [opr]; go_simp; try with_reducible rfl)) (fun K10 hK10 => ?_)
          clear hK9 K9
          simp only [Act.put, List.setIfInBounds_toArray, List.set_cons_zero, List.set_cons_succ]
          refine mix_take hK10 (some 19) (.move (.tmp 3)) 3 _ (by kernel_rfl) (by kernel_rfl) (fun w' hS' => by (obtain ⟨_, m⟩ := hS'; obtain ⟨m0, m1, m2, m3, m4, m5, m6, _⟩ := m; simp only [opr]; go_simp; try with_reducible rfl)) (fun K11 hK11 => ?_)
          clear hK10 K10
          simp only [Act.put, List.setIfInBounds_toArray, List.set_cons_zero, List.set_cons_succ]
          refine mix_take hK11 (some 20) (.binOp BinOp.geq 3 (.tmp 19) (.const (Value.int IntKind.i64 0)) 3) 4 _ (by kernel_rfl) (by kernel_rfl) (fun w' hS' => by (obtain ⟨_, m⟩ := hS'; obtain ⟨m0, m1, m2, m3, m4, m5, m6, _⟩ := m; simp only [opr]; go_simp; try with_reducible rfl)) (fun K12 hK12 => ?_)
          clear hK11 K11
          simp only [Act.put, List.setIfInBounds_toArray, List.set_cons_zero, List.set_cons_succ]
          refine mix_take hK12 (some 21) (.pick (.tmp 18) (.tmp 20) (.const (Value.bool false))) 4 _ (by kernel_rfl) (by kernel_rfl) (fun w' hS' => by (obtain ⟨_, m⟩ := hS'; obtain ⟨m0, m1, m2, m3, m4, m5, m6, _⟩ := m; simp only [opr]; go_simp; try with_reducible rfl)) (fun K13 hK13 => ?_)
          clear hK12 K12
          simp only [Act.put, List.setIfInBounds_toArray, List.set_cons_zero, List.set_cons_succ]
          refine mix_take hK13 (some 22) (.move (.tmp 21)) 4 _ (by kernel_rfl) (by kernel_rfl) (fun w' hS' => by (obtain ⟨_, m⟩ := hS'; obtain ⟨m0, m1, m2, m3, m4, m5, m6, _⟩ := m; simp only [opr]; go_simp; try with_reducible rfl)) (fun K14 hK14 => ?_)
          clear hK13 K13
          simp only [Act.put, List.setIfInBounds_toArray, List.set_cons_zero, List.set_cons_succ]
          refine mix_take hK14 (some 23) (.move (.tmp 3)) 3 _ (by kernel_rfl) (by kernel_rfl) (fun w' hS' => by (obtain ⟨_, m⟩ := hS'; obtain ⟨m0, m1, m2, m3, m4, m5, m6, _⟩ := m; simp only [opr]; go_simp; try with_reducible rfl)) (fun K15 hK15 => ?_)
          clear hK14 K14
          simp only [Act.put, List.setIfInBounds_toArray, List.set_cons_zero, List.set_cons_succ]
          refine mix_take hK15 (some 24) (.fieldAddr 78 (.tmp 5) 2) 0 _ (by kernel_rfl) (by kernel_rfl) (fun w' hS' => by (obtain ⟨_, m⟩ := hS'; obtain ⟨m0, m1, m2, m3, m4, m5, m6, _⟩ := m; simp only [opr]; go_simp; try with_reducible rfl)) (fun K16 hK16 => ?_)
          clear hK15 K15
          simp only [Act.put, List.setIfInBounds_toArray, List.set_cons_zero, List.set_cons_succ]
          refine mix_take hK16 (some 25) (.fieldAddr 41 (.tmp 24) 3) 0 _ (by kernel_rfl) (by kernel_rfl) (fun w' hS' => by (obtain ⟨_, m⟩ := hS'; obtain ⟨m0, m1, m2, m3, m4, m5, m6, _⟩ := m; simp only [opr]; go_simp; try with_reducible rfl)) (fun K17 hK17 => ?_)
          clear hK16 K16
          simp only [Act.put, List.setIfInBounds_toArray, List.set_cons_zero, List.set_cons_succ]
          refine mix_take hK17 (some 26) (.load 3 (.tmp 25)) 3 _ (by kernel_rfl) (by kernel_rfl) (fun w' hS' => by (obtain ⟨_, m⟩ := hS'; obtain ⟨m0, m1, m2, m3, m4, m5, m6, _⟩ := m; simp only [opr]; go_simp; try with_reducible rfl)) (fun K18 hK18 => ?_)
          clear hK17 K17
          simp only [Act.put, List.setIfInBounds_toArray, List.set_cons_zero, List.set_cons_succ]
          refine mix_take hK18 (some 27) (.binOp BinOp.lss 3 (.tmp 23) (.tmp 26) 3) 4 _ (by kernel_rfl) (by kernel_rfl) (fun w' hS' => by (obtain ⟨_, m⟩ := hS'; obtain ⟨m0, m1, m2, m3, m4, m5, m6, _⟩ := m; simp only [opr]; go_simp; try with_reducible rfl)) (fun K19 hK19 => ?_)
          clear hK18 K18
          simp only [Act.put, List.setIfInBounds_toArray, List.set_cons_zero, List.set_cons_succ]
          refine mix_take hK19 (some 28) (.pick (.tmp 22) (.tmp 27) (.const (Value.bool false))) 4 _ (by kernel_rfl) (by kernel_rfl) (fun w' hS' => by (obtain ⟨_, m⟩ := hS'; obtain ⟨m0, m1, m2, m3, m4, m5, m6, _⟩ := m; simp only [opr]; go_simp; try with_reducible rfl)) (fun K20 hK20 => ?_)
          clear hK19 K19
          simp only [Act.put, List.setIfInBounds_toArray, List.set_cons_zero, List.set_cons_succ]
          refine mix_take hK20 (some 29) (.move (.tmp 28)) 4 _ (by kernel_rfl) (by kernel_rfl) (fun w' hS' => by (obtain ⟨_, m⟩ := hS'; obtain ⟨m0, m1, m2, m3, m4, m5, m6, _⟩ := m; simp only [opr]; go_simp; try with_reducible rfl)) (fun K21 hK21 => ?_)
          clear hK20 K20
          simp only [Act.put, List.setIfInBounds_toArray, List.set_cons_zero, List.set_cons_succ]
          refine mix_take hK21 (some 30) (.move (.tmp 0)) 30 _ (by kernel_rfl) (by kernel_rfl) (fun w' hS' => by (obtain ⟨_, m⟩ := hS'; obtain ⟨m0, m1, m2, m3, m4, m5, m6, _⟩ := m; simp only [opr]; go_simp; try with_reducible rfl)) (fun K22 hK22 => ?_)
          clear hK21 K21
          simp only [Act.put, List.setIfInBounds_toArray, List.set_cons_zero, List.set_cons_succ]
          refine mix_take hK22 (some 31) (.fieldAddr 78 (.tmp 5) 2) 0 _ (by kernel_rfl) (by kernel_rfl) (fun w' hS' => by (obtain ⟨_, m⟩ := hS'; obtain ⟨m0, m1, m2, m3, m4, m5, m6, _⟩ := m; simp only [opr]; go_simp; try with_reducible rfl)) (fun K23 hK23 => ?_)
          clear hK22 K22
          simp only [Act.put, List.setIfInBounds_toArray, List.set_cons_zero, List.set_cons_succ]
          refine mix_take hK23 (some 32) (.fieldAddr 41 (.tmp 31) 0) 0 _ (by kernel_rfl) (by kernel_rfl) (fun w' hS' => by (obtain ⟨_, m⟩ := hS'; obtain ⟨m0, m1, m2, m3, m4, m5, m6, _⟩ := m; simp only [opr]; go_simp; try with_reducible rfl)) (fun K24 hK24 => ?_)
          clear hK23 K23
          simp only [Act.put, List.setIfInBounds_toArray, List.set_cons_zero, List.set_cons_succ]
          refine mix_take hK24 (some 33) (.load 3 (.tmp 32)) 3 _ (by kernel_rfl) (by kernel_rfl) (fun w' hS' => by (obtain ⟨_, m⟩ := hS'; obtain ⟨m0, m1, m2, m3, m4, m5, m6, _⟩ := m; simp only [opr]; go_simp; try with_reducible rfl)) (fun K25 hK25 => ?_)
          clear hK24 K24
          simp only [Act.put, List.setIfInBounds_toArray, List.set_cons_zero, List.set_cons_succ]
          refine mix_take hK25 (some 34) (.move (.tmp 2)) 3 _ (by kernel_rfl) (by kernel_rfl) (fun w' hS' => by (obtain ⟨_, m⟩ := hS'; obtain ⟨m0, m1, m2, m3, m4, m5, m6, _⟩ := m; simp only [opr]; go_simp; try with_reducible rfl)) (fun K26 hK26 => ?_)
          clear hK25 K25
          simp only [Act.put, List.setIfInBounds_toArray, List.set_cons_zero, List.set_cons_succ]
          refine mix_take hK26 (some 35) (.binOp BinOp.add 3 (.tmp 33) (.tmp 34) 3) 3 _ (by kernel_rfl) (by kernel_rfl) (fun w' hS' => by (obtain ⟨_, m⟩ := hS'; obtain ⟨m0, m1, m2, m3, m4, m5, m6, _⟩ := m; simp only [opr]; go_simp; try with_reducible rfl)) (fun K27 hK27 => ?_)
          clear hK26 K26
          simp only [Act.put, List.setIfInBounds_toArray, List.set_cons_zero, List.set_cons_succ]
          refine mix_take hK27 (some 36) (.fieldAddr 78 (.tmp 5) 2) 0 _ (by kernel_rfl) (by kernel_rfl) (fun w' hS' => by (obtain ⟨_, m⟩ := hS'; obtain ⟨m0, m1, m2, m3, m4, m5, m6, _⟩ := m; simp only [opr]; go_simp; try with_reducible rfl)) (fun K28 hK28 => ?_)
          clear hK27 K27
          simp only [Act.put, List.setIfInBounds_toArray, List.set_cons_zero, List.set_cons_succ]
          refine mix_take hK28 (some 37) (.fieldAddr 41 (.tmp 36) 1) 0 _ (by kernel_rfl) (by kernel_rfl) (fun w' hS' => by (obtain ⟨_, m⟩ := hS'; obtain ⟨m0, m1, m2, m3, m4, m5, m6, _⟩ := m; simp only [opr]; go_simp; try with_reducible rfl)) (fun K29 hK29 => ?_)
          clear hK28 K28
          simp only [Act.put, List.setIfInBounds_toArray, List.set_cons_zero, List.set_cons_succ]
          refine mix_take hK29 (some 38) (.load 3 (.tmp 37)) 3 _ (by kernel_rfl) (by kernel_rfl) (fun w' hS' => by (obtain ⟨_, m⟩ := hS'; obtain ⟨m0, m1, m2, m3, m4, m5, m6, _⟩ := m; simp only [opr]; go_simp; try with_reducible rfl)) (fun K30 hK30 => ?_)
          clear hK29 K29
          simp only [Act.put, List.setIfInBounds_toArray, List.set_cons_zero, List.set_cons_succ]
          refine mix_take hK30 (some 39) (.move (.tmp 3)) 3 _ (by kernel_rfl) (by kernel_rfl) (fun w' hS' => by (obtain ⟨_, m⟩ := hS'; obtain ⟨m0, m1, m2, m3, m4, m5, m6, _⟩ := m; simp only [opr]; go_simp; try with_reducible rfl)) (fun K31 hK31 => ?_)
          clear hK30 K30
          simp only [Act.put, List.setIfInBounds_toArray, List.set_cons_zero, List.set_cons_succ]
          refine mix_take hK31 (some 40) (.binOp BinOp.add 3 (.tmp 38) (.tmp 39) 3) 3 _ (by kernel_rfl) (by kernel_rfl) (fun w' hS' => by (obtain ⟨_, m⟩ := hS'; obtain ⟨m0, m1, m2, m3, m4, m5, m6, _⟩ := m; simp only [opr]; go_simp; try with_reducible rfl)) (fun K32 hK32 => ?_)
          clear hK31 K31
          simp only [Act.put, List.setIfInBounds_toArray, List.set_cons_zero, List.set_cons_succ]
          refine mix_take hK32 (some 42) (.fieldAddr 78 (.tmp 5) 0) 0 _ (by kernel_rfl) (by kernel_rfl) (fun w' hS' => by (obtain ⟨_, m⟩ := hS'; obtain ⟨m0, m1, m2, m3, m4, m5, m6, _⟩ := m; simp only [opr]; go_simp; try with_reducible rfl)) (fun K33 hK33 => ?_)
          clear hK32 K32
          simp only [Act.put, List.setIfInBounds_toArray, List.set_cons_zero, List.set_cons_succ]
          refine mix_take hK33 (some 43) (.load 3 (.tmp 42)) 3 _ (by kernel_rfl) (by kernel_rfl) (fun w' hS' => by (obtain ⟨_, m⟩ := hS'; obtain ⟨m0, m1, m2, m3, m4, m5, m6, _⟩ := m; simp only [opr]; go_simp; try with_reducible rfl)) (fun K34 hK34 => ?_)
          clear hK33 K33
          simp only [Act.put, List.setIfInBounds_toArray, List.set_cons_zero, List.set_cons_succ]
          refine mix_call hK34 (some 41) 77 #[.tmp 30, .tmp 35, .tmp 40] #[30, 3, 3] 3 _ (by kernel_rfl) (by kernel_rfl) (enters Try.func77 (by kernel_rfl) (by kernel_rfl)) (by go_simp; try with_reducible rfl) (fun K35 hK35 => ?_)
          clear hK34 K34
          refine (HOW.out _ hS.1).mono ?_
          rintro e wm1 ⟨rfl, hs1⟩
          have hS1 : _ := (show (fun w' => Stay (fun _ => False) w w' ∧ NBox w' bs p) wm1 from ⟨hS.1.trans hs1, hS.2.keep hs1⟩)
          refine ⟨_, rfl, hS1, ?_⟩
          clear hs1
          simp only [Act.put, List.setIfInBounds_toArray, List.set_cons_zero, List.set_cons_succ]
          refine mix_take hK35 (some 44) (.binOp BinOp.eql 3 (.tmp 41) (.tmp 43) 3) 4 _ (by kernel_rfl) (by kernel_rfl) (fun w' hS' => by (obtain ⟨_, m⟩ := hS'; obtain ⟨m0, m1, m2, m3, m4, m5, m6, _⟩ := m; simp only [opr]; go_simp; try with_reducible rfl)) (fun K36 hK36 => ?_)
          clear hK35 K35
          simp only [Act.put, List.setIfInBounds_toArray, List.set_cons_zero, List.set_cons_succ]
          refine mix_take hK36 (some 45) (.pick (.tmp 29) (.tmp 44) (.const (Value.bool false))) 4 _ (by kernel_rfl) (by kernel_rfl) (fun w' hS' => by (obtain ⟨_, m⟩ := hS'; obtain ⟨m0, m1, m2, m3, m4, m5, m6, _⟩ := m; simp only [opr]; go_simp; try with_reducible rfl)) (fun K37 hK37 => ?_)
          clear hK36 K36
          simp only [Act.put, List.setIfInBounds_toArray, List.set_cons_zero, List.set_cons_succ]
          refine mix_take hK37 (some 8) (.assign (.tmp 45)) 4 _ (by kernel_rfl) (by kernel_rfl) (fun w' hS' => by (obtain ⟨_, m⟩ := hS'; obtain ⟨m0, m1, m2, m3, m4, m5, m6, _⟩ := m; simp only [opr]; go_simp; try with_reducible rfl)) (fun K38 hK38 => ?_)
          clear hK37 K37
          simp only [Act.put, List.setIfInBounds_toArray, List.set_cons_zero, List.set_cons_succ]
          refine hK38 _ _ (mix_nil ?_)
          clear hK38 K38
          go_wp2
          go_ret
          exact ⟨ret_bool (by rw [← HY.out]; simp [*]), hS1.1⟩
        · have d3 : decide (y < p.h) = false := decide_eq_false h3
          clear HOW
          refine wp_region_mix (fun w' => Stay (fun _ => False) w w' ∧ NBox w' bs p) [(0, true), (1, true), (2, true), (3, true), (4, true), (5, true), (6, true), (7, true), (8, true), (9, true), (10, true), (11, true), (12, true), (13, true), (14, true), (15, true), (16, true), (17, true), (18, true), (19, true), (20, true), (21, true), (22, true), (23, true), (24, true), (25, true), (26, true), (27, true), (28, true), (29, true), (30, true), (31, true), (33, true), (34, true), (32, false), (35, true), (36, true), (37, true)] (by kernel_rfl) (by kernel_rfl) (fun _ d _ _ _ h => by cases d <;> exact h) hS ?_
          refine mix_begin (fun K0 hK0 => ?_)
          refine mix_take hK0 (some 9) (.move (.tmp 2)) 3 _ (by kernel_rfl) (by kernel_rfl) (fun w' hS' => by (obtain ⟨_, m⟩ := hS'; obtain ⟨m0, m1, m2, m3, m4, m5, m6, _⟩ := m; simp only [opr]; go_simp; try with_reducible rfl)) (fun K1 hK1 => ?_)
          clear hK0 K0
          simp only [Act.put, List.setIfInBounds_toArray, List.set_cons_zero, List.set_cons_succ]
          refine mix_take hK1 (some 10) (.binOp BinOp.geq 3 (.tmp 9) (.const (Value.int IntKind.i64 0)) 3) 4 _ (by kernel_rfl) (by kernel_rfl) (fun w' hS' => by (obtain ⟨_, m⟩ := hS'; obtain ⟨m0, m1, m2, m3, m4, m5, m6, _⟩ := m; simp only [opr]; go_simp; try with_reducible rfl)) (fun K2 hK2 => ?_)
          clear hK1 K1
          simp only [Act.put, List.setIfInBounds_toArray, List.set_cons_zero, List.set_cons_succ]
          refine mix_take hK2 (some 11) (.move (.tmp 10)) 4 _ (by kernel_rfl) (by kernel_rfl) (fun w' hS' => by (obtain ⟨_, m⟩ := hS'; obtain ⟨m0, m1, m2, m3, m4, m5, m6, _⟩ := m; simp only [opr]; go_simp; try with_reducible rfl)) (fun K3 hK3 => ?_)
          clear hK2 K2
          simp only [Act.put, List.setIfInBounds_toArray, List.set_cons_zero, List.set_cons_succ]
          refine mix_take hK3 (some 12) (.move (.tmp 2)) 3 _ (by kernel_rfl) (by kernel_rfl) (fun w' hS' => by (obtain ⟨_, m⟩ := hS'; obtain ⟨m0, m1, m2, m3, m4, m5, m6, _⟩ := m; simp only [opr]; go_simp; try with_reducible rfl)) (fun K4 hK4 => ?_)
          clear hK3 K3
          simp only [Act.put, List.setIfInBounds_toArray, List.set_cons_zero, List.set_cons_succ]
          refine mix_take hK4 (some 13) (.fieldAddr 78 (.tmp 5) 2) 0 _ (by kernel_rfl) (by kernel_rfl) (fun w' hS' => by (obtain ⟨_, m⟩ := hS'; obtain ⟨m0, m1, m2, m3, m4, m5, m6, _⟩ := m; simp only [opr]; go_simp; try with_reducible rfl)) (fun K5 hK5 => ?_)
          clear hK4 K4
          simp only [Act.put, List.setIfInBounds_toArray, List.set_cons_zero, List.set_cons_succ]
          refine mix_take hK5 (some 14) (.fieldAddr 41 (.tmp 13) 2) 0 _ (by kernel_rfl) (by kernel_rfl) (fun w' hS' => by (obtain ⟨_, m⟩ := hS'; obtain ⟨m0, m1, m2, m3, m4, m5, m6, _⟩ := m; simp only [opr]; go_simp; try with_reducible rfl)) (fun K6 hK6 => ?_)
          clear hK5 K5
          simp only [Act.put, List.setIfInBounds_toArray, List.set_cons_zero, List.set_cons_succ]
          refine mix_take hK6 (some 15) (.load 3 (.tmp 14)) 3 _ (by kernel_rfl) (by kernel_rfl) (fun w' hS' => by (obtain ⟨_, m⟩ := hS'; obtain ⟨m0, m1, m2, m3, m4, m5, m6, _⟩ := m; simp only [opr]; go_simp; try with_reducible rfl)) (fun K7 hK7 => ?_)
          clear hK6 K6
          simp only [Act.put, List.setIfInBounds_toArray, List.set_cons_zero, List.set_cons_succ]
          refine mix_take hK7 (some 16) (.binOp BinOp.lss 3 (.tmp 12) (.tmp 15) 3) 4 _ (by kernel_rfl) (by kernel_rfl) (fun w' hS' => by (obtain ⟨_, m⟩ := hS'; obtain ⟨m0, m1, m2, m3, m4, m5, m6, _⟩ := m; simp only [opr]; go_simp; try with_reducible rfl)) (fun K8 hK8 => ?_)
          clear hK7 K7
          simp only [Act.put, List.setIfInBounds_toArray, List.set_cons_zero, List.set_cons_succ]
          refine mix_take hK8 (some 17) (.pick (.tmp 11) (.tmp 16) (.const (Value.bool false))) 4 _ (by kernel_rfl) (by kernel_rfl) (fun w' hS' => by (obtain ⟨_, m⟩ := hS'; obtain ⟨m0, m1, m2, m3, m4, m5, m6, _⟩ := m; simp only [opr]; go_simp; try with_reducible rfl)) (fun K9 hK9 => ?_)
          clear hK8 K8
          simp only [Act.put, List.setIfInBounds_toArray, List.set_cons_zero, List.set_cons_succ]
          refine mix_take hK9 (some 18) (.move (.tmp 17)) 4 _ (by kernel_rfl) (by kernel_rfl) (fun w' hS' => by (obtain ⟨_, m⟩ := hS'; obtain ⟨m0, m1, m2, m3, m4, m5, m6, _⟩ := m; simp only [opr]; go_simp; try with_reducible rfl)) (fun K10 hK10 => ?_)
          clear hK9 K9
          simp only [Act.put, List.setIfInBounds_toArray, List.set_cons_zero, List.set_cons_succ]
          refine mix_take hK10 (some 19) (.move (.tmp 3)) 3 _ (by kernel_rfl) (by kernel_rfl) (fun w' hS' => by (obtain ⟨_, m⟩ := hS'; obtain ⟨m0, m1, m2, m3, m4, m5, m6, _⟩ := m; simp only [opr]; go_simp; try with_reducible rfl)) (fun K11 hK11 => ?_)
          clear hK10 K10
          simp only [Act.put, List.setIfInBounds_toArray, List.set_cons_zero, List.set_cons_succ]
          refine mix_take hK11 (some 20) (.binOp BinOp.geq 3 (.tmp 19) (.const (Value.int IntKind.i64 0)) 3) 4 _ (by kernel_rfl) (by kernel_rfl) (fun w' hS' => by (obtain ⟨_, m⟩ := hS'; obtain ⟨m0, m1, m2, m3, m4, m5, m6, _⟩ := m; simp only [opr]; go_simp; try with_reducible rfl)) (fun K12 hK12 => ?_)
          clear hK11 K11
          simp only [Act.put, List.setIfInBounds_toArray, List.set_cons_zero, List.set_cons_succ]
          refine mix_take hK12 (some 21) (.pick (.tmp 18) (.tmp 20) (.const (Value.bool false))) 4 _ (by kernel_rfl) (by kernel_rfl) (fun w' hS' => by (obtain ⟨_, m⟩ := hS'; obtain ⟨m0, m1, m2, m3, m4, m5, m6, _⟩ := m; simp only [opr]; go_simp; try with_reducible rfl)) (fun K13 hK13 => ?_)
          clear hK12 K12
          simp only [Act.put, List.setIfInBounds_toArray, List.set_cons_zero, List.set_cons_succ]
          refine mix_take hK13 (some 22) (.move (.tmp 21)) 4 _ (by kernel_rfl) (by kernel_rfl) (fun w' hS' => by (obtain ⟨_, m⟩ := hS'; obtain ⟨m0, m1, m2, m3, m4, m5, m6, _⟩ := m; simp only [opr]; go_simp; try with_reducible rfl)) (fun K14 hK14 => ?_)
          clear hK13 K13
          simp only [Act.put, List.setIfInBounds_toArray, List.set_cons_zero, List.set_cons_succ]
          refine mix_take hK14 (some 23) (.move (.tmp 3)) 3 _ (by kernel_rfl) (by kernel_rfl) (fun w' hS' => by (obtain ⟨_, m⟩ := hS'; obtain ⟨m0, m1, m2, m3, m4, m5, m6, _⟩ := m; simp only [opr]; go_simp; try with_reducible rfl)) (fun K15 hK15 => ?_)
          clear hK14 K14
          simp only [Act.put, List.setIfInBounds_toArray, List.set_cons_zero, List.set_cons_succ]
          refine mix_take hK15 (some 24) (.fieldAddr 78 (.tmp 5) 2) 0 _ (by kernel_rfl) (by kernel_rfl) (fun w' hS' => by (obtain ⟨_, m⟩ := hS'; obtain ⟨m0, m1, m2, m3, m4, m5, m6, _⟩ := m; simp only [opr]; go_simp; try with_reducible rfl)) (fun K16 hK16 => ?_)
          clear hK15 K15
          simp only [Act.put, List.setIfInBounds_toArray, List.set_cons_zero, List.set_cons_succ]
          refine mix_take hK16 (some 25) (.fieldAddr 41 (.tmp 24) 3) 0 _ (by kernel_rfl) (by kernel_rfl) (fun w' hS' => by (obtain ⟨_, m⟩ := hS'; obtain ⟨m0, m1, m2, m3, m4, m5, m6, _⟩ := m; simp only [opr]; go_simp; try with_reducible rfl)) (fun K17 hK17 => ?_)
          clear hK16 K16
          simp only [Act.put, List.setIfInBounds_toArray, List.set_cons_zero, List.set_cons_succ]
          refine mix_take hK17 (some 26) (.load 3 (.tmp 25)) 3 _ (by kernel_rfl) (by kernel_rfl) (fun w' hS' => by (obtain ⟨_, m⟩ := hS'; obtain ⟨m0, m1, m2, m3, m4, m5, m6, _⟩ := m; simp only [opr]; go_simp; try with_reducible rfl)) (fun K18 hK18 => ?_)
          clear hK17 K17
          simp only [Act.put, List.setIfInBounds_toArray, List.set_cons_zero, List.set_cons_succ]
          refine mix_take hK18 (some 27) (.binOp BinOp.lss 3 (.tmp 23) (.tmp 26) 3) 4 _ (by kernel_rfl) (by kernel_rfl) (fun w' hS' => by (obtain ⟨_, m⟩ := hS'; obtain ⟨m0, m1, m2, m3, m4, m5, m6, _⟩ := m; simp only [opr]; go_simp; try with_reducible rfl)) (fun K19 hK19 => ?_)
          clear hK18 K18
          simp only [Act.put, List.setIfInBounds_toArray, List.set_cons_zero, List.set_cons_succ]
          refine mix_take hK19 (some 28) (.pick (.tmp 22) (.tmp 27) (.const (Value.bool false))) 4 _ (by kernel_rfl) (by kernel_rfl) (fun w' hS' => by (obtain ⟨_, m⟩ := hS'; obtain ⟨m0, m1, m2, m3, m4, m5, m6, _⟩ := m; simp only [opr]; go_simp; try with_reducible rfl)) (fun K20 hK20 => ?_)
          clear hK19 K19
          simp only [Act.put, List.setIfInBounds_toArray, List.set_cons_zero, List.set_cons_succ]
          refine mix_take hK20 (some 29) (.move (.tmp 28)) 4 _ (by kernel_rfl) (by kernel_rfl) (fun w' hS' => by (obtain ⟨_, m⟩ := hS'; obtain ⟨m0, m1, m2, m3, m4, m5, m6, _⟩ := m; simp only [opr]; go_simp; try with_reducible rfl)) (fun K21 hK21 => ?_)
          clear hK20 K20
          simp only [Act.put, List.setIfInBounds_toArray, List.set_cons_zero, List.set_cons_succ]
          refine mix_skip hK21 (some 30) (by kernel_rfl) (by kernel_rfl) hS (fun K22 hK22 => ?_)
          clear hK21 K21
          simp only [Act.put, List.setIfInBounds_toArray, List.set_cons_zero, List.set_cons_succ]
          refine mix_skip hK22 (some 31) (by kernel_rfl) (by kernel_rfl) hS (fun K23 hK23 => ?_)
          clear hK22 K22
          simp only [Act.put, List.setIfInBounds_toArray, List.set_cons_zero, List.set_cons_succ]
          refine mix_skip hK23 (some 32) (by kernel_rfl) (by kernel_rfl) hS (fun K24 hK24 => ?_)
          clear hK23 K23
          simp only [Act.put, List.setIfInBounds_toArray, List.set_cons_zero, List.set_cons_succ]
          refine mix_skip hK24 (some 33) (by kernel_rfl) (by kernel_rfl) hS (fun K25 hK25 => ?_)
          clear hK24 K24
          simp only [Act.put, List.setIfInBounds_toArray, List.set_cons_zero, List.set_cons_succ]
          refine mix_skip hK25 (some 34) (by kernel_rfl) (by kernel_rfl) hS (fun K26 hK26 => ?_)
          clear hK25 K25
          simp only [Act.put, List.setIfInBounds_toArray, List.set_cons_zero, List.set_cons_succ]
          refine mix_skip hK26 (some 35) (by kernel_rfl) (by kernel_rfl) hS (fun K27 hK27 => ?_)
          clear hK26 K26
          simp only [Act.put, List.setIfInBounds_toArray, List.set_cons_zero, List.set_cons_succ]
          refine mix_skip hK27 (some 36) (by kernel_rfl) (by kernel_rfl) hS (fun K28 hK28 => ?_)
          clear hK27 K27
          simp only [Act.put, List.setIfInBounds_toArray, List.set_cons_zero, List.set_cons_succ]
          refine mix_skip hK28 (some 37) (by kernel_rfl) (by kernel_rfl) hS (fun K29 hK29 => ?_)
          clear hK28 K28
          simp only [Act.put, List.setIfInBounds_toArray, List.set_cons_zero, List.set_cons_succ]
          refine mix_skip hK29 (some 38) (by kernel_rfl) (by kernel_rfl) hS (fun K30 hK30 => ?_)
          clear hK29 K29
          simp only [Act.put, List.setIfInBounds_toArray, List.set_cons_zero, List.set_cons_succ]
          refine mix_skip hK30 (some 39) (by kernel_rfl) (by kernel_rfl) hS (fun K31 hK31 => ?_)
          clear hK30 K30
          simp only [Act.put, List.setIfInBounds_toArray, List.set_cons_zero, List.set_cons_succ]
          refine mix_skip hK31 (some 40) (by kernel_rfl) (by kernel_rfl) hS (fun K32 hK32 => ?_)
          clear hK31 K31
          simp only [Act.put, List.setIfInBounds_toArray, List.set_cons_zero, List.set_cons_succ]
          refine mix_skip hK32 (some 42) (by kernel_rfl) (by kernel_rfl) hS (fun K33 hK33 => ?_)
          clear hK32 K32
          simp only [Act.put, List.setIfInBounds_toArray, List.set_cons_zero, List.set_cons_succ]
          refine mix_skip hK33 (some 43) (by kernel_rfl) (by kernel_rfl) hS (fun K34 hK34 => ?_)
          clear hK33 K33
          simp only [Act.put, List.setIfInBounds_toArray, List.set_cons_zero, List.set_cons_succ]
          refine mix_skip hK34 (some 41) (by kernel_rfl) (by kernel_rfl) hS (fun K35 hK35 => ?_)
          clear hK34 K34
          simp only [Act.put, List.setIfInBounds_toArray, List.set_cons_zero, List.set_cons_succ]
          refine mix_skip hK35 (some 44) (by kernel_rfl) (by kernel_rfl) hS (fun K36 hK36 => ?_)
          clear hK35 K35
          simp only [Act.put, List.setIfInBounds_toArray, List.set_cons_zero, List.set_cons_succ]
          refine mix_take hK36 (some 45) (.pick (.tmp 29) (.tmp 44) (.const (Value.bool false))) 4 _ (by kernel_rfl) (by kernel_rfl) (fun w' hS' => by (obtain ⟨_, m⟩ := hS'; obtain ⟨m0, m1, m2, m3, m4, m5, m6, _⟩ := m; simp only [opr]; go_simp; try with_reducible rfl)) (fun K37 hK37 => ?_)
          clear hK36 K36
          simp only [Act.put, List.setIfInBounds_toArray, List.set_cons_zero, List.set_cons_succ]
          refine mix_take hK37 (some 8) (.assign (.tmp 45)) 4 _ (by kernel_rfl) (by kernel_rfl) (fun w' hS' => by (obtain ⟨_, m⟩ := hS'; obtain ⟨m0, m1, m2, m3, m4, m5, m6, _⟩ := m; simp only [opr]; go_simp; try with_reducible rfl)) (fun K38 hK38 => ?_)
          clear hK37 K37
          simp only [Act.put, List.setIfInBounds_toArray, List.set_cons_zero, List.set_cons_succ]
          refine hK38 _ _ (mix_nil ?_)
          clear hK38 K38
          go_wp2
          go_ret
          exact ⟨ret_bool (by rw [← HY.out]; simp [*]), hS.1⟩
      · have d2 : decide (0 ≤ y) = false := decide_eq_false h2
        clear HOW
        refine wp_region_mix (fun w' => Stay (fun _ => False) w w' ∧ NBox w' bs p) [(0, true), (1, true), (2, true), (3, true), (4, true), (5, true), (6, true), (7, true), (8, true), (9, true), (10, true), (11, true), (12, true), (13, true), (14, true), (15, true), (16, true), (17, true), (18, true), (19, true), (20, true), (21, true), (22, true), (23, true), (24, true), (25, true), (26, true), (27, true), (28, true), (29, true), (30, true), (31, true), (33, true), (34, true), (32, false), (35, true), (36, true), (37, true)] (by kernel_rfl) (by kernel_rfl) (fun _ d _ _ _ h => by cases d <;> exact h) hS ?_
        refine mix_begin (fun K0 hK0 => ?_)
        refine mix_take hK0 (some 9) (.move (.tmp 2)) 3 _ (by kernel_rfl) (by kernel_rfl) (fun w' hS' => by (obtain ⟨_, m⟩ := hS'; obtain ⟨m0, m1, m2, m3, m4, m5, m6, _⟩ := m; simp only [opr]; go_simp; try with_reducible rfl)) (fun K1 hK1 => ?_)
        clear hK0 K0
        simp only [Act.put, List.setIfInBounds_toArray, List.set_cons_zero, List.set_cons_succ]
        refine mix_take hK1 (some 10) (.binOp BinOp.geq 3 (.tmp 9) (.const (Value.int IntKind.i64 0)) 3) 4 _ (by kernel_rfl) (by kernel_rfl) (fun w' hS' => by (obtain ⟨_, m⟩ := hS'; obtain ⟨m0, m1, m2, m3, m4, m5, m6, _⟩ := m; simp only [opr]; go_simp; try with_reducible rfl)) (fun K2 hK2 => ?_)
        clear hK1 K1
        simp only [Act.put, List.setIfInBounds_toArray, List.set_cons_zero, List.set_cons_succ]
        refine mix_take hK2 (some 11) (.move (.tmp 10)) 4 _ (by kernel_rfl) (by kernel_rfl) (fun w' hS' => by (obtain ⟨_, m⟩ := hS'; obtain ⟨m0, m1, m2, m3, m4, m5, m6, _⟩ := m; simp only [opr]; go_simp; try with_reducible rfl)) (fun K3 hK3 => ?_)
        clear hK2 K2
        simp only [Act.put, List.setIfInBounds_toArray, List.set_cons_zero, List.set_cons_succ]
        refine mix_take hK3 (some 12) (.move (.tmp 2)) 3 _ (by kernel_rfl) (by kernel_rfl) (fun w' hS' => by (obtain ⟨_, m⟩ := hS'; obtain ⟨m0, m1, m2, m3, m4, m5, m6, _⟩ := m; simp only [opr]; go_simp; try with_reducible rfl)) (fun K4 hK4 => ?_)
        clear hK3 K3
        simp only [Act.put, List.setIfInBounds_toArray, List.set_cons_zero, List.set_cons_succ]
        refine mix_take hK4 (some 13) (.fieldAddr 78 (.tmp 5) 2) 0 _ (by kernel_rfl) (by kernel_rfl) (fun w' hS' => by (obtain ⟨_, m⟩ := hS'; obtain ⟨m0, m1, m2, m3, m4, m5, m6, _⟩ := m; simp only [opr]; go_simp; try with_reducible rfl)) (fun K5 hK5 => ?_)
        clear hK4 K4
        simp only [Act.put, List.setIfInBounds_toArray, List.set_cons_zero, List.set_cons_succ]
        refine mix_take hK5 (some 14) (.fieldAddr 41 (.tmp 13) 2) 0 _ (by kernel_rfl) (by kernel_rfl) (fun w' hS' => by (obtain ⟨_, m⟩ := hS'; obtain ⟨m0, m1, m2, m3, m4, m5, m6, _⟩ := m; simp only [opr]; go_simp; try with_reducible rfl)) (fun K6 hK6 => ?_)
        clear hK5 K5
        simp only [Act.put, List.setIfInBounds_toArray, List.set_cons_zero, List.set_cons_succ]
        refine mix_take hK6 (some 15) (.load 3 (.tmp 14)) 3 _ (by kernel_rfl) (by kernel_rfl) (fun w' hS' => by (obtain ⟨_, m⟩ := hS'; obtain ⟨m0, m1, m2, m3, m4, m5, m6, _⟩ := m; simp only [opr]; go_simp; try with_reducible rfl)) (fun K7 hK7 => ?_)
        clear hK6 K6
        simp only [Act.put, List.setIfInBounds_toArray, List.set_cons_zero, List.set_cons_succ]
        refine mix_take hK7 (some 16) (.binOp BinOp.lss 3 (.tmp 12) (.tmp 15) 3) 4 _ (by kernel_rfl) (by kernel_rfl) (fun w' hS' => by (obtain ⟨_, m⟩ := hS'; obtain ⟨m0, m1, m2, m3, m4, m5, m6, _⟩ := m; simp only [opr]; go_simp; try with_reducible rfl)) (fun K8 hK8 => ?_)
        clear hK7 K7
        simp only [Act.put, List.setIfInBounds_toArray, List.set_cons_zero, List.set_cons_succ]
        refine mix_take hK8 (some 17) (.pick (.tmp 11) (.tmp 16) (.const (Value.bool false))) 4 _ (by kernel_rfl) (by kernel_rfl) (fun w' hS' => by (obtain ⟨_, m⟩ := hS'; obtain ⟨m0, m1, m2, m3, m4, m5, m6, _⟩ := m; simp only [opr]; go_simp; try with_reducible rfl)) (fun K9 hK9 => ?_)
        clear hK8 K8
        simp only [Act.put, List.setIfInBounds_toArray, List.set_cons_zero, List.set_cons_succ]
        refine mix_take hK9 (some 18) (.move (.tmp 17)) 4 _ (by kernel_rfl) (by kernel_rfl) (fun w' hS' => by (obtain ⟨_, m⟩ := hS'; obtain ⟨m0, m1, m2, m3, m4, m5, m6, _⟩ := m; simp only [opr]; go_simp; try with_reducible rfl)) (fun K10 hK10 => ?_)
        clear hK9 K9
        simp only [Act.put, List.setIfInBounds_toArray, List.set_cons_zero, List.set_cons_succ]
        refine mix_take hK10 (some 19) (.move (.tmp 3)) 3 _ (by kernel_rfl) (by kernel_rfl) (fun w' hS' => by (obtain ⟨_, m⟩ := hS'; obtain ⟨m0, m1, m2, m3, m4, m5, m6, _⟩ := m; simp only [opr]; go_simp; try with_reducible rfl)) (fun K11 hK11 => ?_)
        clear hK10 K10
        simp only [Act.put, List.setIfInBounds_toArray, List.set_cons_zero, List.set_cons_succ]
        refine mix_take hK11 (some 20) (.binOp BinOp.geq 3 (.tmp 19) (.const (Value.int IntKind.i64 0)) 3) 4 _ (by kernel_rfl) (by kernel_rfl) (fun w' hS' => by (obtain ⟨_, m⟩ := hS'; obtain ⟨m0, m1, m2, m3, m4, m5, m6, _⟩ := m; simp only [opr]; go_simp; try with_reducible rfl)) (fun K12 hK12 => ?_)
        clear hK11 K11
        simp only [Act.put, List.setIfInBounds_toArray, List.set_cons_zero, List.set_cons_succ]
        refine mix_take hK12 (some 21) (.pick (.tmp 18) (.tmp 20) (.const (Value.bool false))) 4 _ (by kernel_rfl) (by kernel_rfl) (fun w' hS' => by (obtain ⟨_, m⟩ := hS'; obtain ⟨m0, m1, m2, m3, m4, m5, m6, _⟩ := m; simp only [opr]; go_simp; try with_reducible rfl)) (fun K13 hK13 => ?_)
        clear hK12 K12
        simp only [Act.put, List.setIfInBounds_toArray, List.set_cons_zero, List.set_cons_succ]
        refine mix_take hK13 (some 22) (.move (.tmp 21)) 4 _ (by kernel_rfl) (by kernel_rfl) (fun w' hS' => by (obtain ⟨_, m⟩ := hS'; obtain ⟨m0, m1, m2, m3, m4, m5, m6, _⟩ := m; simp only [opr]; go_simp; try with_reducible rfl)) (fun K14 hK14 => ?_)
        clear hK13 K13
        simp only [Act.put, List.setIfInBounds_toArray, List.set_cons_zero, List.set_cons_succ]
        refine mix_skip hK14 (some 23) (by kernel_rfl) (by kernel_rfl) hS (fun K15 hK15 => ?_)
        clear hK14 K14
        simp only [Act.put, List.setIfInBounds_toArray, List.set_cons_zero, List.set_cons_succ]
        refine mix_skip hK15 (some 24) (by kernel_rfl) (by kernel_rfl) hS (fun K16 hK16 => ?_)
        clear hK15 K15
        simp only [Act.put, List.setIfInBounds_toArray, List.set_cons_zero, List.set_cons_succ]
        refine mix_skip hK16 (some 25) (by kernel_rfl) (by kernel_rfl) hS (fun K17 hK17 => ?_)
        clear hK16 K16
        simp only [Act.put, List.setIfInBounds_toArray, List.set_cons_zero, List.set_cons_succ]
        refine mix_skip hK17 (some 26) (by kernel_rfl) (by kernel_rfl) hS (fun K18 hK18 => ?_)
        clear hK17 K17
        simp only [Act.put, List.setIfInBounds_toArray, List.set_cons_zero, List.set_cons_succ]
        refine mix_skip hK18 (some 27) (by kernel_rfl) (by kernel_rfl) hS (fun K19 hK19 => ?_)
        clear hK18 K18
        simp only [Act.put, List.setIfInBounds_toArray, List.set_cons_zero, List.set_cons_succ]
        refine mix_take hK19 (some 28) (.pick (.tmp 22) (.tmp 27) (.const (Value.bool false))) 4 _ (by kernel_rfl) (by kernel_rfl) (fun w' hS' => by (obtain ⟨_, m⟩ := hS'; obtain ⟨m0, m1, m2, m3, m4, m5, m6, _⟩ := m; simp only [opr]; go_simp; try with_reducible rfl)) (fun K20 hK20 => ?_)
        clear hK19 K19
        simp only [Act.put, List.setIfInBounds_toArray, List.set_cons_zero, List.set_cons_succ]
        refine mix_take hK20 (some 29) (.move (.tmp 28)) 4 _ (by kernel_rfl) (by kernel_rfl) (fun w' hS' => by (obtain ⟨_, m⟩ := hS'; obtain ⟨m0, m1, m2, m3, m4, m5, m6, _⟩ := m; simp only [opr]; go_simp; try with_reducible rfl)) (fun K21 hK21 => ?_)
        clear hK20 K20
        simp only [Act.put, List.setIfInBounds_toArray, List.set_cons_zero, List.set_cons_succ]
        refine mix_skip hK21 (some 30) (by kernel_rfl) (by kernel_rfl) hS (fun K22 hK22 => ?_)
        clear hK21 K21
        simp only [Act.put, List.setIfInBounds_toArray, List.set_cons_zero, List.set_cons_succ]
        refine mix_skip hK22 (some 31) (by kernel_rfl) (by kernel_rfl) hS (fun K23 hK23 => ?_)
        clear hK22 K22
        simp only [Act.put, List.setIfInBounds_toArray, List.set_cons_zero, List.set_cons_succ]
        refine mix_skip hK23 (some 32) (by kernel_rfl) (by kernel_rfl) hS (fun K24 hK24 => ?_)
        clear hK23 K23
        simp only [Act.put, List.setIfInBounds_toArray, List.set_cons_zero, List.set_cons_succ]
        refine mix_skip hK24 (some 33) (by kernel_rfl) (by kernel_rfl) hS (fun K25 hK25 => ?_)
        clear hK24 K24
        simp only [Act.put, List.setIfInBounds_toArray, List.set_cons_zero, List.set_cons_succ]
        refine mix_skip hK25 (some 34) (by kernel_rfl) (by kernel_rfl) hS (fun K26 hK26 => ?_)
        clear hK25 K25
        simp only [Act.put, List.setIfInBounds_toArray, List.set_cons_zero, List.set_cons_succ]
        refine mix_skip hK26 (some 35) (by kernel_rfl) (by kernel_rfl) hS (fun K27 hK27 => ?_)
        clear hK26 K26
        simp only [Act.put, List.setIfInBounds_toArray, List.set_cons_zero, List.set_cons_succ]
        refine mix_skip hK27 (some 36) (by kernel_rfl) (by kernel_rfl) hS (fun K28 hK28 => ?_)
        clear hK27 K27
        simp only [Act.put, List.setIfInBounds_toArray, List.set_cons_zero, List.set_cons_succ]
        refine mix_skip hK28 (some 37) (by kernel_rfl) (by kernel_rfl) hS (fun K29 hK29 => ?_)
        clear hK28 K28
        simp only [Act.put, List.setIfInBounds_toArray, List.set_cons_zero, List.set_cons_succ]
        refine mix_skip hK29 (some 38) (by kernel_rfl) (by kernel_rfl) hS (fun K30 hK30 => ?_)
        clear hK29 K29
        simp only [Act.put, List.setIfInBounds_toArray, List.set_cons_zero, List.set_cons_succ]
        refine mix_skip hK30 (some 39) (by kernel_rfl) (by kernel_rfl) hS (fun K31 hK31 => ?_)
        clear hK30 K30
        simp only [Act.put, List.setIfInBounds_toArray, List.set_cons_zero, List.set_cons_succ]
        refine mix_skip hK31 (some 40) (by kernel_rfl) (by kernel_rfl) hS (fun K32 hK32 => ?_)
        clear hK31 K31
        simp only [Act.put, List.setIfInBounds_toArray, List.set_cons_zero, List.set_cons_succ]
        refine mix_skip hK32 (some 42) (by kernel_rfl) (by kernel_rfl) hS (fun K33 hK33 => ?_)
        clear hK32 K32
        simp only [Act.put, List.setIfInBounds_toArray, List.set_cons_zero, List.set_cons_succ]
        refine mix_skip hK33 (some 43) (by kernel_rfl) (by kernel_rfl) hS (fun K34 hK34 => ?_)
        clear hK33 K33
        simp only [Act.put, List.setIfInBounds_toArray, List.set_cons_zero, List.set_cons_succ]
        refine mix_skip hK34 (some 41) (by kernel_rfl) (by kernel_rfl) hS (fun K35 hK35 => ?_)
        clear hK34 K34
        simp only [Act.put, List.setIfInBounds_toArray, List.set_cons_zero, List.set_cons_succ]
        refine mix_skip hK35 (some 44) (by kernel_rfl) (by kernel_rfl) hS (fun K36 hK36 => ?_)
        clear hK35 K35
        simp only [Act.put, List.setIfInBounds_toArray, List.set_cons_zero, List.set_cons_succ]
        refine mix_take hK36 (some 45) (.pick (.tmp 29) (.tmp 44) (.const (Value.bool false))) 4 _ (by kernel_rfl) (by kernel_rfl) (fun w' hS' => by (obtain ⟨_, m⟩ := hS'; obtain ⟨m0, m1, m2, m3, m4, m5, m6, _⟩ := m; simp only [opr]; go_simp; try with_reducible rfl)) (fun K37 hK37 => ?_)
        clear hK36 K36
        simp only [Act.put, List.setIfInBounds_toArray, List.set_cons_zero, List.set_cons_succ]
        refine mix_take hK37 (some 8) (.assign (.tmp 45)) 4 _ (by kernel_rfl) (by kernel_rfl) (fun w' hS' => by (obtain ⟨_, m⟩ := hS'; obtain ⟨m0, m1, m2, m3, m4, m5, m6, _⟩ := m; simp only [opr]; go_simp; try with_reducible rfl)) (fun K38 hK38 => ?_)
        clear hK37 K37
        simp only [Act.put, List.setIfInBounds_toArray, List.set_cons_zero, List.set_cons_succ]
        refine hK38 _ _ (mix_nil ?_)
        clear hK38 K38
        go_wp2
        go_ret
        exact ⟨ret_bool (by rw [← HY.out]; simp [*]), hS.1⟩
    · have d1 : decide (x < p.w) = false := decide_eq_false h1
      clear HOW
      refine wp_region_mix (fun w' => Stay (fun _ => False) w w' ∧ NBox w' bs p) [(0, true), (1, true), (2, true), (3, true), (4, true), (5, true), (6, true), (7, true), (8, true), (9, true), (10, true), (11, true), (12, true), (13, true), (14, true), (15, true), (16, true), (17, true), (18, true), (19, true), (20, true), (21, true), (22, true), (23, true), (24, true), (25, true), (26, true), (27, true), (28, true), (29, true), (30, true), (31, true), (33, true), (34, true), (32, false), (35, true), (36, true), (37, true)] (by kernel_rfl) (by kernel_rfl) (fun _ d _ _ _ h => by cases d <;> exact h) hS ?_
      refine mix_begin (fun K0 hK0 => ?_)
      refine mix_take hK0 (some 9) (.move (.tmp 2)) 3 _ (by kernel_rfl) (by kernel_rfl) (fun w' hS' => by (obtain ⟨_, m⟩ := hS'; obtain ⟨m0, m1, m2, m3, m4, m5, m6, _⟩ := m; simp only [opr]; go_simp; try with_reducible rfl)) (fun K1 hK1 => ?_)
      clear hK0 K0
      simp only [Act.put, List.setIfInBounds_toArray, List.set_cons_zero, List.set_cons_succ]
      refine mix_take hK1 (some 10) (.binOp BinOp.geq 3 (.tmp 9) (.const (Value.int IntKind.i64 0)) 3) 4 _ (by kernel_rfl) (by kernel_rfl) (fun w' hS' => by (obtain ⟨_, m⟩ := hS'; obtain ⟨m0, m1, m2, m3, m4, m5, m6, _⟩ := m; simp only [opr]; go_simp; try with_reducible rfl)) (fun K2 hK2 => ?_)
      clear hK1 K1
      simp only [Act.put, List.setIfInBounds_toArray, List.set_cons_zero, List.set_cons_succ]
      refine mix_take hK2 (some 11) (.move (.tmp 10)) 4 _ (by kernel_rfl) (by kernel_rfl) (fun w' hS' => by (obtain ⟨_, m⟩ := hS'; obtain ⟨m0, m1, m2, m3, m4, m5, m6, _⟩ := m; simp only [opr]; go_simp; try with_reducible rfl)) (fun K3 hK3 => ?_)
      clear hK2 K2
      simp only [Act.put, List.setIfInBounds_toArray, List.set_cons_zero, List.set_cons_succ]
      refine mix_take hK3 (some 12) (.move (.tmp 2)) 3 _ (by kernel_rfl) (by kernel_rfl) (fun w' hS' => by (obtain ⟨_, m⟩ := hS'; obtain ⟨m0, m1, m2, m3, m4, m5, m6, _⟩ := m; simp only [opr]; go_simp; try with_reducible rfl)) (fun K4 hK4 => ?_)
      clear hK3 K3
      simp only [Act.put, List.setIfInBounds_toArray, List.set_cons_zero, List.set_cons_succ]
      refine mix_take hK4 (some 13) (.fieldAddr 78 (.tmp 5) 2) 0 _ (by kernel_rfl) (by kernel_rfl) (fun w' hS' => by (obtain ⟨_, m⟩ := hS'; obtain ⟨m0, m1, m2, m3, m4, m5, m6, _⟩ := m; simp only [opr]; go_simp; try with_reducible rfl)) (fun K5 hK5 => ?_)
      clear hK4 K4
      simp only [Act.put, List.setIfInBounds_toArray, List.set_cons_zero, List.set_cons_succ]
      refine mix_take hK5 (some 14) (.fieldAddr 41 (.tmp 13) 2) 0 _ (by kernel_rfl) (by kernel_rfl) (fun w' hS' => by (obtain ⟨_, m⟩ := hS'; obtain ⟨m0, m1, m2, m3, m4, m5, m6, _⟩ := m; simp only [opr]; go_simp; try with_reducible rfl)) (fun K6 hK6 => ?_)
      clear hK5 K5
      simp only [Act.put, List.setIfInBounds_toArray, List.set_cons_zero, List.set_cons_succ]
      refine mix_take hK6 (some 15) (.load 3 (.tmp 14)) 3 _ (by kernel_rfl) (by kernel_rfl) (fun w' hS' => by (obtain ⟨_, m⟩ := hS'; obtain ⟨m0, m1, m2, m3, m4, m5, m6, _⟩ := m; simp only [opr]; go_simp; try with_reducible rfl)) (fun K7 hK7 => ?_)
      clear hK6 K6
      simp only [Act.put, List.setIfInBounds_toArray, List.set_cons_zero, List.set_cons_succ]
      refine mix_take hK7 (some 16) (.binOp BinOp.lss 3 (.tmp 12) (.tmp 15) 3) 4 _ (by kernel_rfl) (by kernel_rfl) (fun w' hS' => by (obtain ⟨_, m⟩ := hS'; obtain ⟨m0, m1, m2, m3, m4, m5, m6, _⟩ := m; simp only [opr]; go_simp; try with_reducible rfl)) (fun K8 hK8 => ?_)
      clear hK7 K7
      simp only [Act.put, List.setIfInBounds_toArray, List.set_cons_zero, List.set_cons_succ]
      refine mix_take hK8 (some 17) (.pick (.tmp 11) (.tmp 16) (.const (Value.bool false))) 4 _ (by kernel_rfl) (by kernel_rfl) (fun w' hS' => by (obtain ⟨_, m⟩ := hS'; obtain ⟨m0, m1, m2, m3, m4, m5, m6, _⟩ := m; simp only [opr]; go_simp; try with_reducible rfl)) (fun K9 hK9 => ?_)
      clear hK8 K8
      simp only [Act.put, List.setIfInBounds_toArray, List.set_cons_zero, List.set_cons_succ]
      refine mix_take hK9 (some 18) (.move (.tmp 17)) 4 _ (by kernel_rfl) (by kernel_rfl) (fun w' hS' => by (obtain ⟨_, m⟩ := hS'; obtain ⟨m0, m1, m2, m3, m4, m5, m6, _⟩ := m; simp only [opr]; go_simp; try with_reducible rfl)) (fun K10 hK10 => ?_)
      clear hK9 K9
      simp only [Act.put, List.setIfInBounds_toArray, List.set_cons_zero, List.set_cons_succ]
      refine mix_skip hK10 (some 19) (by kernel_rfl) (by kernel_rfl) hS (fun K11 hK11 => ?_)
      clear hK10 K10
      simp only [Act.put, List.setIfInBounds_toArray, List.set_cons_zero, List.set_cons_succ]
      refine mix_skip hK11 (some 20) (by kernel_rfl) (by kernel_rfl) hS (fun K12 hK12 => ?_)
      clear hK11 K11
      simp only [Act.put, List.setIfInBounds_toArray, List.set_cons_zero, List.set_cons_succ]
      refine mix_take hK12 (some 21) (.pick (.tmp 18) (.tmp 20) (.const (Value.bool false))) 4 _ (by kernel_rfl) (by kernel_rfl) (fun w' hS' => by (obtain ⟨_, m⟩ := hS'; obtain ⟨m0, m1, m2, m3, m4, m5, m6, _⟩ := m; simp only [opr]; go_simp; try with_reducible rfl)) (fun K13 hK13 => ?_)
      clear hK12 K12
      simp only [Act.put, List.setIfInBounds_toArray, List.set_cons_zero, List.set_cons_succ]
      refine mix_take hK13 (some 22) (.move (.tmp 21)) 4 _ (by kernel_rfl) (by kernel_rfl) (fun w' hS' => by (obtain ⟨_, m⟩ := hS'; obtain ⟨m0, m1, m2, m3, m4, m5, m6, _⟩ := m; simp only [opr]; go_simp; try with_reducible rfl)) (fun K14 hK14 => ?_)
      clear hK13 K13
      simp only [Act.put, List.setIfInBounds_toArray, List.set_cons_zero, List.set_cons_succ]
      refine mix_skip hK14 (some 23) (by kernel_rfl) (by kernel_rfl) hS (fun K15 hK15 => ?_)
      clear hK14 K14
      simp only [Act.put, List.setIfInBounds_toArray, List.set_cons_zero, List.set_cons_succ]
      refine mix_skip hK15 (some 24) (by kernel_rfl) (by kernel_rfl) hS (fun K16 hK16 => ?_)
      clear hK15 K15
      simp only [Act.put, List.setIfInBounds_toArray, List.set_cons_zero, List.set_cons_succ]
      refine mix_skip hK16 (some 25) (by kernel_rfl) (by kernel_rfl) hS (fun K17 hK17 => ?_)
      clear hK16 K16
      simp only [Act.put, List.setIfInBounds_toArray, List.set_cons_zero, List.set_cons_succ]
      refine mix_skip hK17 (some 26) (by kernel_rfl) (by kernel_rfl) hS (fun K18 hK18 => ?_)
      clear hK17 K17
      simp only [Act.put, List.setIfInBounds_toArray, List.set_cons_zero, List.set_cons_succ]
      refine mix_skip hK18 (some 27) (by kernel_rfl) (by kernel_rfl) hS (fun K19 hK19 => ?_)
      clear hK18 K18
      simp only [Act.put, List.setIfInBounds_toArray, List.set_cons_zero, List.set_cons_succ]
      refine mix_take hK19 (some 28) (.pick (.tmp 22) (.tmp 27) (.const (Value.bool false))) 4 _ (by kernel_rfl) (by kernel_rfl) (fun w' hS' => by (obtain ⟨_, m⟩ := hS'; obtain ⟨m0, m1, m2, m3, m4, m5, m6, _⟩ := m; simp only [opr]; go_simp; try with_reducible rfl)) (fun K20 hK20 => ?_)
      clear hK19 K19
      simp only [Act.put, List.setIfInBounds_toArray, List.set_cons_zero, List.set_cons_succ]
      refine mix_take hK20 (some 29) (.move (.tmp 28)) 4 _ (by kernel_rfl) (by kernel_rfl) (fun w' hS' => by (obtain ⟨_, m⟩ := hS'; obtain ⟨m0, m1, m2, m3, m4, m5, m6, _⟩ := m; simp only [opr]; go_simp; try with_reducible rfl)) (fun K21 hK21 => ?_)
      clear hK20 K20
      simp only [Act.put, List.setIfInBounds_toArray, List.set_cons_zero, List.set_cons_succ]
      refine mix_skip hK21 (some 30) (by kernel_rfl) (by kernel_rfl) hS (fun K22 hK22 => ?_)
      clear hK21 K21
      simp only [Act.put, List.setIfInBounds_toArray, List.set_cons_zero, List.set_cons_succ]
      refine mix_skip hK22 (some 31) (by kernel_rfl) (by kernel_rfl) hS (fun K23 hK23 => ?_)
      clear hK22 K22
      simp only [Act.put, List.setIfInBounds_toArray, List.set_cons_zero, List.set_cons_succ]
      refine mix_skip hK23 (some 32) (by kernel_rfl) (by kernel_rfl) hS (fun K24 hK24 => ?_)
      clear hK23 K23
      simp only [Act.put, List.setIfInBounds_toArray, List.set_cons_zero, List.set_cons_succ]
      refine mix_skip hK24 (some 33) (by kernel_rfl) (by kernel_rfl) hS (fun K25 hK25 => ?_)
      clear hK24 K24
      simp only [Act.put, List.setIfInBounds_toArray, List.set_cons_zero, List.set_cons_succ]
      refine mix_skip hK25 (some 34) (by kernel_rfl) (by kernel_rfl) hS (fun K26 hK26 => ?_)
      clear hK25 K25
      simp only [Act.put, List.setIfInBounds_toArray, List.set_cons_zero, List.set_cons_succ]
      refine mix_skip hK26 (some 35) (by kernel_rfl) (by kernel_rfl) hS (fun K27 hK27 => ?_)
      clear hK26 K26
      simp only [Act.put, List.setIfInBounds_toArray, List.set_cons_zero, List.set_cons_succ]
      refine mix_skip hK27 (some 36) (by kernel_rfl) (by kernel_rfl) hS (fun K28 hK28 => ?_)
      clear hK27 K27
      simp only [Act.put, List.setIfInBounds_toArray, List.set_cons_zero, List.set_cons_succ]
      refine mix_skip hK28 (some 37) (by kernel_rfl) (by kernel_rfl) hS (fun K29 hK29 => ?_)
      clear hK28 K28
      simp only [Act.put, List.setIfInBounds_toArray, List.set_cons_zero, List.set_cons_succ]
      refine mix_skip hK29 (some 38) (by kernel_rfl) (by kernel_rfl) hS (fun K30 hK30 => ?_)
      clear hK29 K29
      simp only [Act.put, List.setIfInBounds_toArray, List.set_cons_zero, List.set_cons_succ]
      refine mix_skip hK30 (some 39) (by kernel_rfl) (by kernel_rfl) hS (fun K31 hK31 => ?_)
      clear hK30 K30
      simp only [Act.put, List.setIfInBounds_toArray, List.set_cons_zero, List.set_cons_succ]
      refine mix_skip hK31 (some 40) (by kernel_rfl) (by kernel_rfl) hS (fun K32 hK32 => ?_)
      clear hK31 K31
      simp only [Act.put, List.setIfInBounds_toArray, List.set_cons_zero, List.set_cons_succ]
      refine mix_skip hK32 (some 42) (by kernel_rfl) (by kernel_rfl) hS (fun K33 hK33 => ?_)
      clear hK32 K32
      simp only [Act.put, List.setIfInBounds_toArray, List.set_cons_zero, List.set_cons_succ]
      refine mix_skip hK33 (some 43) (by kernel_rfl) (by kernel_rfl) hS (fun K34 hK34 => ?_)
      clear hK33 K33
      simp only [Act.put, List.setIfInBounds_toArray, List.set_cons_zero, List.set_cons_succ]
      refine mix_skip hK34 (some 41) (by kernel_rfl) (by kernel_rfl) hS (fun K35 hK35 => ?_)
      clear hK34 K34
      simp only [Act.put, List.setIfInBounds_toArray, List.set_cons_zero, List.set_cons_succ]
      refine mix_skip hK35 (some 44) (by kernel_rfl) (by kernel_rfl) hS (fun K36 hK36 => ?_)
      clear hK35 K35
      simp only [Act.put, List.setIfInBounds_toArray, List.set_cons_zero, List.set_cons_succ]
      refine mix_take hK36 (some 45) (.pick (.tmp 29) (.tmp 44) (.const (Value.bool false))) 4 _ (by kernel_rfl) (by kernel_rfl) (fun w' hS' => by (obtain ⟨_, m⟩ := hS'; obtain ⟨m0, m1, m2, m3, m4, m5, m6, _⟩ := m; simp only [opr]; go_simp; try with_reducible rfl)) (fun K37 hK37 => ?_)
      clear hK36 K36
      simp only [Act.put, List.setIfInBounds_toArray, List.set_cons_zero, List.set_cons_succ]
      refine mix_take hK37 (some 8) (.assign (.tmp 45)) 4 _ (by kernel_rfl) (by kernel_rfl) (fun w' hS' => by (obtain ⟨_, m⟩ := hS'; obtain ⟨m0, m1, m2, m3, m4, m5, m6, _⟩ := m; simp only [opr]; go_simp; try with_reducible rfl)) (fun K38 hK38 => ?_)
      clear hK37 K37
      simp only [Act.put, List.setIfInBounds_toArray, List.set_cons_zero, List.set_cons_succ]
      refine hK38 _ _ (mix_nil ?_)
      clear hK38 K38
      go_wp2
      go_ret
      exact ⟨ret_bool (by rw [← HY.out]; simp [*]), hS.1⟩
  · have d0 : decide (0 ≤ x) = false := decide_eq_false h0
    clear HOW
    refine wp_region_mix (fun w' => Stay (fun _ => False) w w' ∧ NBox w' bs p) [(0, true), (1, true), (2, true), (3, true), (4, true), (5, true), (6, true), (7, true), (8, true), (9, true), (10, true), (11, true), (12, true), (13, true), (14, true), (15, true), (16, true), (17, true), (18, true), (19, true), (20, true), (21, true), (22, true), (23, true), (24, true), (25, true), (26, true), (27, true), (28, true), (29, true), (30, true), (31, true), (33, true), (34, true), (32, false), (35, true), (36, true), (37, true)] (by kernel_rfl) (by kernel_rfl) (fun _ d _ _ _ h => by cases d <;> exact h) hS ?_
    refine mix_begin (fun K0 hK0 => ?_)
    refine mix_take hK0 (some 9) (.move (.tmp 2)) 3 _ (by kernel_rfl) (by kernel_rfl) (fun w' hS' => by (obtain ⟨_, m⟩ := hS'; obtain ⟨m0, m1, m2, m3, m4, m5, m6, _⟩ := m; simp only [opr]; go_simp; try with_reducible rfl)) (fun K1 hK1 => ?_)
    clear hK0 K0
    simp only [Act.put, List.setIfInBounds_toArray, List.set_cons_zero, List.set_cons_succ]
    refine mix_take hK1 (some 10) (.binOp BinOp.geq 3 (.tmp 9) (.const (Value.int IntKind.i64 0)) 3) 4 _ (by kernel_rfl) (by kernel_rfl) (fun w' hS' => by (obtain ⟨_, m⟩ := hS'; obtain ⟨m0, m1, m2, m3, m4, m5, m6, _⟩ := m; simp only [opr]; go_simp; try with_reducible rfl)) (fun K2 hK2 => ?_)
    clear hK1 K1
    simp only [Act.put, List.setIfInBounds_toArray, List.set_cons_zero, List.set_cons_succ]
    refine mix_take hK2 (some 11) (.move (.tmp 10)) 4 _ (by kernel_rfl) (by kernel_rfl) (fun w' hS' => by (obtain ⟨_, m⟩ := hS'; obtain ⟨m0, m1, m2, m3, m4, m5, m6, _⟩ := m; simp only [opr]; go_simp; try with_reducible rfl)) (fun K3 hK3 => ?_)
    clear hK2 K2
    simp only [Act.put, List.setIfInBounds_toArray, List.set_cons_zero, List.set_cons_succ]
    refine mix_skip hK3 (some 12) (by kernel_rfl) (by kernel_rfl) hS (fun K4 hK4 => ?_)
    clear hK3 K3
    simp only [Act.put, List.setIfInBounds_toArray, List.set_cons_zero, List.set_cons_succ]
    refine mix_skip hK4 (some 13) (by kernel_rfl) (by kernel_rfl) hS (fun K5 hK5 => ?_)
    clear hK4 K4
    simp only [Act.put, List.setIfInBounds_toArray, List.set_cons_zero, List.set_cons_succ]
    refine mix_skip hK5 (some 14) (by kernel_rfl) (by kernel_rfl) hS (fun K6 hK6 => ?_)
    clear hK5 K5
    simp only [Act.put, List.setIfInBounds_toArray, List.set_cons_zero, List.set_cons_succ]
    refine mix_skip hK6 (some 15) (by kernel_rfl) (by kernel_rfl) hS (fun K7 hK7 => ?_)
    clear hK6 K6
    simp only [Act.put, List.setIfInBounds_toArray, List.set_cons_zero, List.set_cons_succ]
    refine mix_skip hK7 (some 16) (by kernel_rfl) (by kernel_rfl) hS (fun K8 hK8 => ?_)
    clear hK7 K7
    simp only [Act.put, List.setIfInBounds_toArray, List.set_cons_zero, List.set_cons_succ]
    refine mix_take hK8 (some 17) (.pick (.tmp 11) (.tmp 16) (.const (Value.bool false))) 4 _ (by kernel_rfl) (by kernel_rfl) (fun w' hS' => by (obtain ⟨_, m⟩ := hS'; obtain ⟨m0, m1, m2, m3, m4, m5, m6, _⟩ := m; simp only [opr]; go_simp; try with_reducible rfl)) (fun K9 hK9 => ?_)
    clear hK8 K8
    simp only [Act.put, List.setIfInBounds_toArray, List.set_cons_zero, List.set_cons_succ]
    refine mix_take hK9 (some 18) (.move (.tmp 17)) 4 _ (by kernel_rfl) (by kernel_rfl) (fun w' hS' => by (obtain ⟨_, m⟩ := hS'; obtain ⟨m0, m1, m2, m3, m4, m5, m6, _⟩ := m; simp only [opr]; go_simp; try with_reducible rfl)) (fun K10 hK10 => ?_)
    clear hK9 K9
    simp only [Act.put, List.setIfInBounds_toArray, List.set_cons_zero, List.set_cons_succ]
    refine mix_skip hK10 (some 19) (by kernel_rfl) (by kernel_rfl) hS (fun K11 hK11 => ?_)
    clear hK10 K10
    simp only [Act.put, List.setIfInBounds_toArray, List.set_cons_zero, List.set_cons_succ]
    refine mix_skip hK11 (some 20) (by kernel_rfl) (by kernel_rfl) hS (fun K12 hK12 => ?_)
    clear hK11 K11
    simp only [Act.put, List.setIfInBounds_toArray, List.set_cons_zero, List.set_cons_succ]
    refine mix_take hK12 (some 21) (.pick (.tmp 18) (.tmp 20) (.const (Value.bool false))) 4 _ (by kernel_rfl) (by kernel_rfl) (fun w' hS' => by (obtain ⟨_, m⟩ := hS'; obtain ⟨m0, m1, m2, m3, m4, m5, m6, _⟩ := m; simp only [opr]; go_simp; try with_reducible rfl)) (fun K13 hK13 => ?_)
    clear hK12 K12
    simp only [Act.put, List.setIfInBounds_toArray, List.set_cons_zero, List.set_cons_succ]
    refine mix_take hK13 (some 22) (.move (.tmp 21)) 4 _ (by kernel_rfl) (by kernel_rfl) (fun w' hS' => by (obtain ⟨_, m⟩ := hS'; obtain ⟨m0, m1, m2, m3, m4, m5, m6, _⟩ := m; simp only [opr]; go_simp; try with_reducible rfl)) (fun K14 hK14 => ?_)
    clear hK13 K13
    simp only [Act.put, List.setIfInBounds_toArray, List.set_cons_zero, List.set_cons_succ]
    refine mix_skip hK14 (some 23) (by kernel_rfl) (by kernel_rfl) hS (fun K15 hK15 => ?_)
    clear hK14 K14
    simp only [Act.put, List.setIfInBounds_toArray, List.set_cons_zero, List.set_cons_succ]
    refine mix_skip hK15 (some 24) (by kernel_rfl) (by kernel_rfl) hS (fun K16 hK16 => ?_)
    clear hK15 K15
    simp only [Act.put, List.setIfInBounds_toArray, List.set_cons_zero, List.set_cons_succ]
    refine mix_skip hK16 (some 25) (by kernel_rfl) (by kernel_rfl) hS (fun K17 hK17 => ?_)
    clear hK16 K16
    simp only [Act.put, List.setIfInBounds_toArray, List.set_cons_zero, List.set_cons_succ]
    refine mix_skip hK17 (some 26) (by kernel_rfl) (by kernel_rfl) hS (fun K18 hK18 => ?_)
    clear hK17 K17
    simp only [Act.put, List.setIfInBounds_toArray, List.set_cons_zero, List.set_cons_succ]
    refine mix_skip hK18 (some 27) (by kernel_rfl) (by kernel_rfl) hS (fun K19 hK19 => ?_)
    clear hK18 K18
    simp only [Act.put, List.setIfInBounds_toArray, List.set_cons_zero, List.set_cons_succ]
    refine mix_take hK19 (some 28) (.pick (.tmp 22) (.tmp 27) (.const (Value.bool false))) 4 _ (by kernel_rfl) (by kernel_rfl) (fun w' hS' => by (obtain ⟨_, m⟩ := hS'; obtain ⟨m0, m1, m2, m3, m4, m5, m6, _⟩ := m; simp only [opr]; go_simp; try with_reducible rfl)) (fun K20 hK20 => ?_)
    clear hK19 K19
    simp only [Act.put, List.setIfInBounds_toArray, List.set_cons_zero, List.set_cons_succ]
    refine mix_take hK20 (some 29) (.move (.tmp 28)) 4 _ (by kernel_rfl) (by kernel_rfl) (fun w' hS' => by (obtain ⟨_, m⟩ := hS'; obtain ⟨m0, m1, m2, m3, m4, m5, m6, _⟩ := m; simp only [opr]; go_simp; try with_reducible rfl)) (fun K21 hK21 => ?_)
    clear hK20 K20
    simp only [Act.put, List.setIfInBounds_toArray, List.set_cons_zero, List.set_cons_succ]
    refine mix_skip hK21 (some 30) (by kernel_rfl) (by kernel_rfl) hS (fun K22 hK22 => ?_)
    clear hK21 K21
    simp only [Act.put, List.setIfInBounds_toArray, List.set_cons_zero, List.set_cons_succ]
    refine mix_skip hK22 (some 31) (by kernel_rfl) (by kernel_rfl) hS (fun K23 hK23 => ?_)
    clear hK22 K22
    simp only [Act.put, List.setIfInBounds_toArray, List.set_cons_zero, List.set_cons_succ]
    refine mix_skip hK23 (some 32) (by kernel_rfl) (by kernel_rfl) hS (fun K24 hK24 => ?_)
    clear hK23 K23
    simp only [Act.put, List.setIfInBounds_toArray, List.set_cons_zero, List.set_cons_succ]
    refine mix_skip hK24 (some 33) (by kernel_rfl) (by kernel_rfl) hS (fun K25 hK25 => ?_)
    clear hK24 K24
    simp only [Act.put, List.setIfInBounds_toArray, List.set_cons_zero, List.set_cons_succ]
    refine mix_skip hK25 (some 34) (by kernel_rfl) (by kernel_rfl) hS (fun K26 hK26 => ?_)
    clear hK25 K25
    simp only [Act.put, List.setIfInBounds_toArray, List.set_cons_zero, List.set_cons_succ]
    refine mix_skip hK26 (some 35) (by kernel_rfl) (by kernel_rfl) hS (fun K27 hK27 => ?_)
    clear hK26 K26
    simp only [Act.put, List.setIfInBounds_toArray, List.set_cons_zero, List.set_cons_succ]
    refine mix_skip hK27 (some 36) (by kernel_rfl) (by kernel_rfl) hS (fun K28 hK28 => ?_)
    clear hK27 K27
    simp only [Act.put, List.setIfInBounds_toArray, List.set_cons_zero, List.set_cons_succ]
    refine mix_skip hK28 (some 37) (by kernel_rfl) (by kernel_rfl) hS (fun K29 hK29 => ?_)
    clear hK28 K28
    simp only [Act.put, List.setIfInBounds_toArray, List.set_cons_zero, List.set_cons_succ]
    refine mix_skip hK29 (some 38) (by kernel_rfl) (by kernel_rfl) hS (fun K30 hK30 => ?_)
    clear hK29 K29
    simp only [Act.put, List.setIfInBounds_toArray, List.set_cons_zero, List.set_cons_succ]
    refine mix_skip hK30 (some 39) (by kernel_rfl) (by kernel_rfl) hS (fun K31 hK31 => ?_)
    clear hK30 K30
    simp only [Act.put, List.setIfInBounds_toArray, List.set_cons_zero, List.set_cons_succ]
    refine mix_skip hK31 (some 40) (by kernel_rfl) (by kernel_rfl) hS (fun K32 hK32 => ?_)
    clear hK31 K31
    simp only [Act.put, List.setIfInBounds_toArray, List.set_cons_zero, List.set_cons_succ]
    refine mix_skip hK32 (some 42) (by kernel_rfl) (by kernel_rfl) hS (fun K33 hK33 => ?_)
    clear hK32 K32
    simp only [Act.put, List.setIfInBounds_toArray, List.set_cons_zero, List.set_cons_succ]
    refine mix_skip hK33 (some 43) (by kernel_rfl) (by kernel_rfl) hS (fun K34 hK34 => ?_)
    clear hK33 K33
    simp only [Act.put, List.setIfInBounds_toArray, List.set_cons_zero, List.set_cons_succ]
    refine mix_skip hK34 (some 41) (by kernel_rfl) (by kernel_rfl) hS (fun K35 hK35 => ?_)
    clear hK34 K34
    simp only [Act.put, List.setIfInBounds_toArray, List.set_cons_zero, List.set_cons_succ]
    refine mix_skip hK35 (some 44) (by kernel_rfl) (by kernel_rfl) hS (fun K36 hK36 => ?_)
    clear hK35 K35
    simp only [Act.put, List.setIfInBounds_toArray, List.set_cons_zero, List.set_cons_succ]
    refine mix_take hK36 (some 45) (.pick (.tmp 29) (.tmp 44) (.const (Value.bool false))) 4 _ (by kernel_rfl) (by kernel_rfl) (fun w' hS' => by (obtain ⟨_, m⟩ := hS'; obtain ⟨m0, m1, m2, m3, m4, m5, m6, _⟩ := m; simp only [opr]; go_simp; try with_reducible rfl)) (fun K37 hK37 => ?_)
    clear hK36 K36
    simp only [Act.put, List.setIfInBounds_toArray, List.set_cons_zero, List.set_cons_succ]
    refine mix_take hK37 (some 8) (.assign (.tmp 45)) 4 _ (by kernel_rfl) (by kernel_rfl) (fun w' hS' => by (obtain ⟨_, m⟩ := hS'; obtain ⟨m0, m1, m2, m3, m4, m5, m6, _⟩ := m; simp only [opr]; go_simp; try with_reducible rfl)) (fun K38 hK38 => ?_)
    clear hK37 K37
    simp only [Act.put, List.setIfInBounds_toArray, List.set_cons_zero, List.set_cons_succ]
    refine hK38 _ _ (mix_nil ?_)
    clear hK38 K38
    go_wp2
    go_ret
    exact ⟨ret_bool (by rw [← HY.out]; simp [*]), hS.1⟩

end Go.Proofs.Yticccknocjnkpaa
