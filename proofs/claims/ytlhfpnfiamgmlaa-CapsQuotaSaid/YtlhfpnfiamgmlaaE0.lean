/-
  The document's Objects: walked. No conditions.
-/
import Derived.Test.YtlhfpnfiamgmlaaD2
namespace Go.Proofs.Ytlhfpnfiamgmlaa
open Go.RowKit

theorem info3 : (Try.prog.info? 3).map (fun i => (i.zero, i.size, i.bytes)) = some (some (.int .i64 0), 1, 8) := by kernel_rfl

/-- Is there one? -/
def orN (p : Nat → Bool) : Nat → Bool
  | 0 => false
  | n + 1 => orN p n || p n

theorem orN_iff (p : Nat → Bool) : ∀ n, orN p n = true ↔ ∃ i, i < n ∧ p i = true
  | 0 => ⟨fun h => (by cases h), fun ⟨_, h, _⟩ => absurd h (Nat.not_lt_zero _)⟩
  | n + 1 => by
    show (orN p n || p n) = true ↔ _
    rw [Bool.or_eq_true, orN_iff p n]
    constructor
    · rintro (⟨i, hi, h⟩ | h)
      · exact ⟨i, by omega, h⟩
      · exact ⟨n, by omega, h⟩
    · rintro ⟨i, hi, h⟩
      by_cases hin : i = n
      · subst hin; exact .inr h
      · exact .inl ⟨i, by omega, h⟩

/-- Does a slot tell of a number? -/
def isObj (f : Nat → Sl) (env kind v : Int) (i : Nat) : Bool := decide (0 ≤ env) && ((f i).env == env) && ((f i).kind == kind) && ((f i).obj == v) && hasB (f i).rights 1

/-- The numbers below one that are told. -/
def objs (f : Nat → Sl) (n : Nat) (env kind : Int) : Nat → List Int
  | 0 => []
  | v + 1 => if orN (isObj f env kind (v : Nat)) n = true then objs f n env kind v ++ [(v : Int)] else objs f n env kind v

theorem objs_len (f : Nat → Sl) (n : Nat) (env kind : Int) : ∀ v, (objs f n env kind v).length ≤ v
  | 0 => Nat.le_refl _
  | v + 1 => by
    have := objs_len f n env kind v
    show (if _ then _ else _ : List Int).length ≤ _
    split
    · rw [List.length_append]; show _ + 1 ≤ _; omega
    · omega

/-- A row of numbers of its own. -/
def OOut (L : List Int) (w : World) (E : Ending) (w' : World) : Prop := ∃ v, E = .returned v ∧ Stay (fun _ => False) w w' ∧ w'.ownsRow w.heap.size 3 1 v L.length (L.map (.int .i64 ·))

set_option maxHeartbeats 2000000 in
theorem objects27 (g n cap : Nat) (f : Nat → Sl) (env kind : Int) (w : World) (hr : Rd w g n f) (hg : g < w.heap.size) (hn : n ≤ 4096) : Calls Try.prog 27 #[.slice (some ⟨g, 0, none⟩) n cap, .int .i64 env, .int .i64 kind] w (OOut (objs f n env kind 1000) w) := by
  have HR := hide' hr
  have HG := hide' hg
  have hnz : (n : Int) ≤ 4096 := by omega
  have HS0 : Hid (Stay (fun k => w.heap.size ≤ k) w w ∧ Rd w g n f ∧ w.ownsRow w.heap.size 3 1 (.slice none 0 0) (objs f n env kind 0).length ((objs f n env kind 0).map (.int .i64 ·))) := ⟨Stay.refl _ _, hr, rfl, .inl ⟨rfl, rfl⟩⟩
  clear hr hg hn
  go_enter Try.func27, Try.ntmps27
  go_wp2
  go_loopg [7, 8] 1000 (fun gg v7 v8 wr => ∃ (j : Nat) (u : Value), j ≤ 1000 ∧ gg = 1000 - j ∧ v8 = .int .i64 (j : Int) ∧ u = v7 ∧ Hid (Stay (fun k => w.heap.size ≤ k) w wr ∧ Rd wr g n f ∧ wr.ownsRow w.heap.size 3 1 u (objs f n env kind j).length ((objs f n env kind j).map (.int .i64 ·))))
  case atStart => exact ⟨0, _, by decide, rfl, rfl, rfl, HS0⟩
  case round =>
    clear HS0
    obtain ⟨j, u, hj, rfl, rfl, hu, HS⟩ := hrel
    subst hu
    by_cases hjl : j < 1000
    · have jn : (j : Int) < 1000 := by omega
      obtain ⟨P, hP⟩ : ∃ P, P = isObj f env kind (j : Nat) := ⟨_, rfl⟩
      have HPE := hide' hP
      clear hP
      go_wp2
      go_loopg [9, 10] n (fun gg v9 v10 wr => ∃ k : Nat, k ≤ n ∧ gg = n - k ∧ v9 = .bool (orN P k) ∧ v10 = .int .i64 (k : Int) ∧ Hid (Stay (fun k => w.heap.size ≤ k) w wr ∧ Rd wr g n f ∧ wr.ownsRow w.heap.size 3 1 u (objs f n env kind j).length ((objs f n env kind j).map (.int .i64 ·))))
      case atStart => exact ⟨0, Nat.zero_le _, rfl, rfl, rfl, HS⟩
      case round =>
        clear HS
        obtain ⟨k, hk, rfl, rfl, rfl, HN⟩ := hrel
        obtain ⟨o, ho⟩ : ∃ o, o = orN P k := ⟨_, rfl⟩
        rw [← ho]
        have HOR := hide' ho.symm
        clear ho
        by_cases hlt : k < n
        · have kn : (k : Int) < (n : Nat) := by omega
          obtain ⟨_, r1, r2, r3, r4, _⟩ := HN.out.2.1 k hlt
          obtain ⟨p, hp⟩ : ∃ p, p = f k := ⟨_, rfl⟩
          rw [← hp] at r1 r2 r3 r4
          have HP := hide' hp
          clear hp
          cases o
          · by_cases h1 : 0 ≤ env
            · obtain ⟨b1, hb1⟩ : ∃ b, b = (p.env == env) := ⟨_, rfl⟩
              have hb1' := hb1.symm
              have HB1 := hide' hb1
              clear hb1
              cases b1
              · have HPK : Hid (P k = false) := by show P k = false; rw [HPE.out]; unfold isObj; rw [← HP.out]; rw [decide_eq_true h1, ← HB1.out]; rfl
                go_wp2
                have HK : Hid (orN P (k + 1) = false) := by show (orN P k || P k) = false; rw [HOR.out, HPK.out]; rfl
                go_roundg (n - (k + 1))
                case measure => omega
                case rel => exact ⟨k + 1, by omega, rfl, by rw [HK.out], by go_num, HN⟩
              · obtain ⟨b2, hb2⟩ : ∃ b, b = (p.kind == kind) := ⟨_, rfl⟩
                have hb2' := hb2.symm
                have HB2 := hide' hb2
                clear hb2
                cases b2
                · have HPK : Hid (P k = false) := by show P k = false; rw [HPE.out]; unfold isObj; rw [← HP.out]; rw [decide_eq_true h1, ← HB1.out, ← HB2.out]; rfl
                  go_wp2
                  have HK : Hid (orN P (k + 1) = false) := by show (orN P k || P k) = false; rw [HOR.out, HPK.out]; rfl
                  go_roundg (n - (k + 1))
                  case measure => omega
                  case rel => exact ⟨k + 1, by omega, rfl, by rw [HK.out], by go_num, HN⟩
                · obtain ⟨b3, hb3⟩ : ∃ b, b = (p.obj == (j : Nat)) := ⟨_, rfl⟩
                  have hb3' := hb3.symm
                  have HB3 := hide' hb3
                  clear hb3
                  cases b3
                  · have HPK : Hid (P k = false) := by show P k = false; rw [HPE.out]; unfold isObj; rw [← HP.out]; rw [decide_eq_true h1, ← HB1.out, ← HB2.out, ← HB3.out]; rfl
                    go_wp2
                    have HK : Hid (orN P (k + 1) = false) := by show (orN P k || P k) = false; rw [HOR.out, HPK.out]; rfl
                    go_roundg (n - (k + 1))
                    case measure => omega
                    case rel => exact ⟨k + 1, by omega, rfl, by rw [HK.out], by go_num, HN⟩
                  · obtain ⟨hb, hhb⟩ : ∃ b, b = hasB p.rights 1 := ⟨_, rfl⟩
                    have HPK : Hid (P k = hb) := by
                      show P k = hb
                      rw [HPE.out]
                      unfold isObj
                      rw [← HP.out, decide_eq_true h1, ← HB1.out, ← HB2.out, ← HB3.out, hhb]
                      rfl
                    have HHA := hide' (fun w => has33 p.rights 1 w)
                    rw [← hhb] at HHA
                    clear hhb
                    go_wp2_with fail
                    refine (HHA.out _).mono ?_
                    rintro _ w4 ⟨rfl, hs⟩
                    have HN4 : Hid (Stay (fun k => w.heap.size ≤ k) w w4 ∧ Rd w4 g n f ∧ w4.ownsRow w.heap.size 3 1 u (objs f n env kind j).length ((objs f n env kind j).map (.int .i64 ·))) := ⟨HN.out.1.trans (hs.mono (T := fun k => w.heap.size ≤ k) (fun _ _ h => h.elim)), HN.out.2.1.keep hs, hs.owns HN.out.2.2 (fun _ _ h => h)⟩
                    clear hs HN HHA
                    have HN := HN4
                    clear HN4
                    have HK : Hid (orN P (k + 1) = hb) := by show (orN P k || P k) = hb; rw [HOR.out, HPK.out]; exact Bool.false_or hb
                    clear HPK
                    go_wp2
                    go_roundg (n - (k + 1))
                    case measure => omega
                    case rel => exact ⟨k + 1, by omega, rfl, by rw [HK.out], by go_num, HN⟩
            · have d1 : decide (0 ≤ env) = false := decide_eq_false h1
              have HPK : Hid (P k = false) := by show P k = false; rw [HPE.out]; unfold isObj; rw [← HP.out]; rw [d1]; rfl
              go_wp2
              have HK : Hid (orN P (k + 1) = false) := by show (orN P k || P k) = false; rw [HOR.out, HPK.out]; rfl
              go_roundg (n - (k + 1))
              case measure => omega
              case rel => exact ⟨k + 1, by omega, rfl, by rw [HK.out], by go_num, HN⟩
          · have HK : Hid (orN P (k + 1) = true) := by show (orN P k || P k) = true; rw [HOR.out]; rfl
            go_wp2
            go_roundg (n - (k + 1))
            case measure => omega
            case rel => exact ⟨k + 1, by omega, rfl, by rw [HK.out], by go_num, HN⟩
        · have hkn : k = n := by omega
          subst hkn
          have hjs : objs f k env kind (j + 1) = if o = true then objs f k env kind j ++ [(j : Int)] else objs f k env kind j := by
            show (if orN (isObj f env kind (j : Nat)) k = true then _ else _) = _
            rw [← HPE.out, HOR.out]
          have HJS := hide' hjs
          have hlen := objs_len f k env kind j
          obtain ⟨ln, hln⟩ : ∃ l, l = (objs f k env kind j).length := ⟨_, rfl⟩
          have HNM : Hid (ln + 1 ≤ 1000000) := by show ln + 1 ≤ 1000000; omega
          have HLN := hide' hln
          clear hjs hlen hln
          cases o
          · have HS5 : Hid (Stay (fun k => w.heap.size ≤ k) w wr ∧ Rd wr g k f ∧ wr.ownsRow w.heap.size 3 1 u (objs f k env kind (j + 1)).length ((objs f k env kind (j + 1)).map (.int .i64 ·))) := by
              refine ⟨HN.out.1, HN.out.2.1, ?_⟩
              rw [HJS.out]
              exact HN.out.2.2
            clear HN
            go_wp2
            go_roundg (1000 - (j + 1))
            case measure => omega
            case rel => exact ⟨j + 1, _, by omega, rfl, by go_num, rfl, HS5⟩
          · have hst : Stay (fun _ => False) wr (wr.alloc (.cells #[.int .i64 (j : Nat)] 3)) := (Stay.refl _ _).alloc _
            have HST := hide' (HN.out.1.trans (hst.mono (fun _ _ h => h.elim)))
            have HRD := hide' (HN.out.2.1.keep hst)
            have HO : Hid ((wr.alloc (.cells #[.int .i64 (j : Nat)] 3)).ownsRow w.heap.size 3 1 u ln ((objs f k env kind j).map (.int .i64 ·))) := by
              have := hst.owns HN.out.2.2 (fun _ _ h => h)
              rwa [← HLN.out] at this
            have HSRC := hide' (isRowS_new wr #[.int .i64 (j : Nat)] 3 1 1 rfl)
            have HON : Hid (∀ u ∈ [Value.int .i64 (j : Nat)], u.oneCell' = true) := by
              intro u hu
              simp only [List.mem_cons, List.not_mem_nil, or_false] at hu
              subst hu
              rfl
            have HBS : Hid (w.heap.size ≤ (wr.alloc (.cells #[.int .i64 (j : Nat)] 3)).heap.size) := HST.out.size
            clear hst HN
            go_wp2_with (at_builtin; go_must (refine appS rfl _ _ 53 rfl Try.underlying53 info3 rfl (by decide) (by decide) HO.out rfl HSRC.out rfl HON.out HNM.out HBS.out ?_; intro v5 W5 ho hst hb; have HS5 : Hid (Stay (fun k => w.heap.size ≤ k) w W5 ∧ Rd W5 g k f ∧ W5.ownsRow w.heap.size 3 1 v5 (objs f k env kind (j + 1)).length ((objs f k env kind (j + 1)).map (.int .i64 ·))) := ⟨HST.out.trans (hst.mono (fun j _ e => (HO.out.lt j e).1)), HRD.out.stay hst (fun e => by have := (HO.out.lt g e).1; have := HG.out; omega), by rw [HJS.out, if_pos rfl, List.length_append, List.map_append, ← HLN.out]; exact ho⟩; clear ho hst hb HO HST HSRC HRD))
            go_roundg (1000 - (j + 1))
            case measure => omega
            case rel => exact ⟨j + 1, _, by omega, rfl, by go_num, rfl, HS5⟩
    · have hjn : j = 1000 := by omega
      subst hjn
      go_wp2
      go_ret
      exact ⟨_, rfl, HS.out.1.mono (fun j hj h => by omega), HS.out.2.2⟩

end Go.Proofs.Ytlhfpnfiamgmlaa
